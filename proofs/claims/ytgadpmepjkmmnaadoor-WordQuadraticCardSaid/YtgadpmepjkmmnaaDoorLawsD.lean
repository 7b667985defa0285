/- The symbol's laws: the walk. -/
import Derived.Test.YtgadpmepjkmmnaaDoorAwake
import Derived.Test.YtgadpmepjkmmnaaDoorGauss
import Derived.Test.YtgadpmepjkmmnaaDoorLawsB
set_option linter.unusedVariables false
set_option linter.unusedSimpArgs false
namespace Go.Proofs.YtgadpmepjkmmnaaDoor
open Go.RowKit

/-! ### The symbol's laws -/

theorem jz_mul {a b n : Int} (hn : n % 2 = 1) (n0 : 0 ≤ n) (a0 : 0 ≤ a) (b0 : 0 ≤ b) : jacZ (a * b % n) n = jacZ a n * jacZ b n := by
  unfold jacZ
  rw [Int.toNat_emod (Int.mul_nonneg a0 b0) n0, Int.toNat_mul a0 b0]
  exact jac_mul _ _ _ (by omega)

theorem jz_zero_iff {a n : Int} (hn : n % 2 = 1) (n0 : 0 ≤ n) (a0 : 0 ≤ a) : jacZ a n = 0 ↔ Int.gcd a n ≠ 1 := by
  unfold jacZ
  rw [jac_zero_iff _ _ (by omega)]
  obtain ⟨x, rfl⟩ := Int.eq_ofNat_of_zero_le a0
  obtain ⟨y, rfl⟩ := Int.eq_ofNat_of_zero_le n0
  exact Iff.rfl

theorem jz_bounds {a n : Int} (hn : n % 2 = 1) (n0 : 0 ≤ n) : -1 ≤ jacZ a n ∧ jacZ a n ≤ 1 := jac_bounds _ _ (by omega)

/-- No odd number from 3 on whose square is at most n divides n, as far as was tried. -/
def Tried (n d : Int) : Prop := ∀ e : Int, e % 2 = 1 → 3 ≤ e → e < d → n % e ≠ 0

theorem euler_law {a n d : Int} (hn : n % 2 = 1) (n3 : 3 ≤ n) (a0 : 0 ≤ a) (a1 : a < n) (ht : Tried n d) (hd : n < d * d) (d0 : 3 ≤ d) :
    a ^ ((n - 1) / 2).toNat % n = jacZ a n % n := by
  by_cases hz : a = 0
  · subst hz
    rw [jz_zero, if_neg (by omega), show ((n - 1) / 2).toNat = (((n - 1) / 2).toNat - 1) + 1 by omega, Int.pow_succ, Int.mul_zero]
  · obtain ⟨x, rfl⟩ := Int.eq_ofNat_of_zero_le a0
    obtain ⟨y, rfl⟩ := Int.eq_ofNat_of_zero_le (show 0 ≤ n by omega)
    have hp : ∀ z, 1 ≤ z → z < y → Nat.Coprime y z := by
      refine fun z z0 z1 => prime_of_trial (by omega) ?_ z z0 z1
      intro e e2 e3 ee h0
      have hlt : (e : Int) < d := by
        by_cases h : (e : Int) < d
        · exact h
        · exfalso
          have h1 : d * d ≤ (e : Int) * e := Int.mul_le_mul (by omega) (by omega) (by omega) (by omega)
          have h2 : ((e * e : Nat) : Int) ≤ y := by omega
          rw [Int.natCast_mul] at h2
          omega
      refine ht e (by omega) (by omega) hlt ?_
      rw [← Int.natCast_emod, h0]; rfl
    have h := euler (n := y) (a := x) (by omega) hp (by omega) (by omega)
    have e1 : (((y : Int) - 1) / 2).toNat = (y - 1) / 2 := by omega
    rw [e1]
    exact Int.emod_eq_emod_iff_emod_sub_eq_zero.2 (Int.emod_eq_zero_of_dvd h)

theorem square_small {d n : Int} (d0 : 3 ≤ d) (h : d * d ≤ n) (hn : n ≤ 65536) : d ≤ 256 := by
  by_cases hd : d ≤ 256
  · exact hd
  · have : 257 * 257 ≤ d * d := Int.mul_le_mul (by omega) (by omega) (by omega) (by omega)
    omega

theorem tried_next {n d : Int} (hn : n % 2 = 1) (d2 : d % 2 = 1) (d0 : 3 ≤ d) (h : Tried n d) (hd : n % d ≠ 0) : Tried n (d + 2) := by
  intro e e2 e3 el
  by_cases h1 : e < d
  · exact h e e2 e3 h1
  · have : e = d := by omega
    rw [this]; exact hd

theorem one_mul_one {x y : Int} (x0 : -1 ≤ x) (x1 : x ≤ 1) (y0 : -1 ≤ y) (y1 : y ≤ 1) : -1 ≤ x * y ∧ x * y ≤ 1 := by
  have hx : x = -1 ∨ x = 0 ∨ x = 1 := by omega
  rcases hx with rfl | rfl | rfl <;> omega

set_option maxRecDepth 100000 in
set_option maxHeartbeats 2000000 in
theorem wordQuadratic_walk (a b n : Int) (w : World) (hT : Tab w) :
    Calls Tryd.prog 12 #[.int .i64 a, .int .i64 b, .int .i64 n] w (Ret (.bool true) w) := by
  have HAW := Lib.hid (awake_any w hT)
  by_cases h0 : n < 1
  · go_enter Tryd.func12, Tryd.ntmps12
    go_wp2_with fail
    refine (HAW.out).mono ?_
    rintro e w' ⟨rfl, n0, rfl⟩
    go_wp2_with fail
    go_ret
    exact ⟨rfl, _, rfl⟩
  · have g0 : 1 ≤ n := by omega
    clear h0
    by_cases h1 : 2305843009213693952 ≤ n
    · go_enter Tryd.func12, Tryd.ntmps12
      go_wp2_with fail
      refine (HAW.out).mono ?_
      rintro e w' ⟨rfl, n0, rfl⟩
      go_wp2_with fail
      go_ret
      exact ⟨rfl, _, rfl⟩
    · have g1 : n < 2305843009213693952 := by omega
      clear h1
      by_cases h2 : n % 2 = 0
      · have t1 : (n % 2 == 0) = true := by simp [h2]
        clear h2
        go_enter Tryd.func12, Tryd.ntmps12
        go_wp2_with fail
        refine (HAW.out).mono ?_
        rintro e w' ⟨rfl, n0, rfl⟩
        go_wp2_with fail
        go_ret
        exact ⟨rfl, _, rfl⟩
      · have g2 : n % 2 = 1 := by omega
        have t1 : (n % 2 == 0) = false := by simp [g2]
        have G2 := Lib.hid g2
        clear h2 g2
        by_cases h3 : a < 0
        · go_enter Tryd.func12, Tryd.ntmps12
          go_wp2_with fail
          refine (HAW.out).mono ?_
          rintro e w' ⟨rfl, n0, rfl⟩
          go_wp2_with fail
          go_ret
          exact ⟨rfl, _, rfl⟩
        · have g3 : 0 ≤ a := by omega
          clear h3
          by_cases h4 : n ≤ a
          · go_enter Tryd.func12, Tryd.ntmps12
            go_wp2_with fail
            refine (HAW.out).mono ?_
            rintro e w' ⟨rfl, n0, rfl⟩
            go_wp2_with fail
            go_ret
            exact ⟨rfl, _, rfl⟩
          · have g4 : a < n := by omega
            clear h4
            by_cases h5 : b < 0
            · go_enter Tryd.func12, Tryd.ntmps12
              go_wp2_with fail
              refine (HAW.out).mono ?_
              rintro e w' ⟨rfl, n0, rfl⟩
              go_wp2_with fail
              go_ret
              exact ⟨rfl, _, rfl⟩
            · have g5 : 0 ≤ b := by omega
              clear h5
              by_cases h6 : n ≤ b
              · go_enter Tryd.func12, Tryd.ntmps12
                go_wp2_with fail
                refine (HAW.out).mono ?_
                rintro e w' ⟨rfl, n0, rfl⟩
                go_wp2_with fail
                go_ret
                exact ⟨rfl, _, rfl⟩
              · have g6 : b < n := by omega
                clear h6
                have HJA : Hid (∀ k, Calls Tryd.prog 30 #[.int .i64 a, .int .i64 n] (w.drewN k) (Ret (.tuple #[.int .i64 (jacZ a n), .int .i64 0]) (w.drewN k))) := Lib.hid fun k => jacobi_ok a n _ (fun j hj => hT j hj) g0 g1 G2.out g3 g4
                have HJB : Hid (∀ k, Calls Tryd.prog 30 #[.int .i64 b, .int .i64 n] (w.drewN k) (Ret (.tuple #[.int .i64 (jacZ b n), .int .i64 0]) (w.drewN k))) := Lib.hid fun k => jacobi_ok b n _ (fun j hj => hT j hj) g0 g1 G2.out g5 g6
                have HM1 := Lib.hid fun w => mul_ok a b n w (fault_zero g0 g1 g3 g4 g5 g6)
                have HM2 := Lib.hid fun w => mul_ok a a n w (fault_zero g0 g1 g3 g4 g3 g4)
                obtain ⟨ab0, ab1⟩ := res_bounds (a * b) n g0
                obtain ⟨aa0, aa1⟩ := res_bounds (a * a) n g0
                have hz : ∀ k, Calls Tryd.prog 30 #[.int .i64 (a * b % n), .int .i64 n] (w.drewN k) (Ret (.tuple #[.int .i64 (jacZ (a * b % n) n), .int .i64 0]) (w.drewN k)) := fun k => jacobi_ok _ n _ (fun j hj => hT j hj) g0 g1 G2.out ab0 ab1
                have hs : ∀ k, Calls Tryd.prog 30 #[.int .i64 (a * a % n), .int .i64 n] (w.drewN k) (Ret (.tuple #[.int .i64 (jacZ (a * a % n) n), .int .i64 0]) (w.drewN k)) := fun k => jacobi_ok _ n _ (fun j hj => hT j hj) g0 g1 G2.out aa0 aa1
                rw [jz_mul G2.out (by omega) g3 g5] at hz
                rw [jz_mul G2.out (by omega) g3 g3] at hs
                have hgc := fun w => gcd_any a n w (by omega) (by omega) (by omega) (by omega)
                rw [gcdR_small a n g0 g1] at hgc
                have hzi := jz_zero_iff (a := a) G2.out (by omega) g3
                have HEU := Lib.hid fun d n3 ht hd d0 => @euler_law a n d G2.out n3 g3 g4 ht hd d0
                obtain ⟨x0, x1⟩ := jz_bounds (a := a) G2.out (show 0 ≤ n by omega)
                obtain ⟨y0, y1⟩ := jz_bounds (a := b) G2.out (show 0 ≤ n by omega)
                generalize jacZ a n = x at *
                generalize jacZ b n = y at *
                obtain ⟨xy0, xy1⟩ := one_mul_one x0 x1 y0 y1
                obtain ⟨xx0, xx1⟩ := one_mul_one x0 x1 x0 x1
                have HZ := Lib.hid hz; have HS := Lib.hid hs; have HGC := Lib.hid hgc
                clear hz hs hgc hT
                have hcase : ((x == 0) = true ∧ ((Int.gcd a n : Int) != 1) = true) ∨ ((x == 0) = false ∧ ((Int.gcd a n : Int) != 1) = false) := by
                  by_cases hx : x = 0
                  · have := hzi.1 hx
                    exact Or.inl ⟨by simp [hx], by rw [bne_iff_ne]; omega⟩
                  · have h9 : Int.gcd a n = 1 := by
                      by_cases h9 : Int.gcd a n = 1
                      · exact h9
                      · exact absurd (hzi.2 h9) hx
                    exact Or.inr ⟨by simp [hx], by rw [h9]; rfl⟩
                clear hzi
                generalize (Int.gcd a n : Int) = g at *
                generalize a * b % n = ab at *
                generalize a * a % n = aa at *
                have HPW := Lib.hid fun w e0 e1 => pow_ok a ((n - 1) / 2) n w g0 g1 g3 g4 e0 e1
                have HRD := Lib.hid fun w => reduce_ok x n w g0 g1 (by omega) (by omega)
                rcases hcase with ⟨t2, t3⟩ | ⟨t2, t3⟩
                all_goals
                  by_cases hn3 : n < 3
                  · go_enter Tryd.func12, Tryd.ntmps12
                    go_wp2_with fail
                    refine (HAW.out).mono ?_
                    rintro e w' ⟨rfl, n0, rfl⟩
                    go_wp2_with fail
                    refine (HJA.out _).mono ?_
                    rintro e w' ⟨rfl, n1, rfl⟩
                    go_wp2_with fail
                    refine (HJB.out _).mono ?_
                    rintro e w' ⟨rfl, n2, rfl⟩
                    go_wp2_with fail
                    refine (HM1.out _).mono ?_
                    rintro e w' ⟨rfl, n3, rfl⟩
                    go_wp2_with fail
                    refine (HM2.out _).mono ?_
                    rintro e w' ⟨rfl, n4, rfl⟩
                    go_wp2_with fail
                    refine (HZ.out _).mono ?_
                    rintro e w' ⟨rfl, n5, rfl⟩
                    go_wp2_with fail
                    refine (HS.out _).mono ?_
                    rintro e w' ⟨rfl, n6, rfl⟩
                    go_wp2_with fail
                    refine (HGC.out _).mono ?_
                    rintro e w' ⟨rfl, n7, rfl⟩
                    go_wp2_with fail
                    go_ret
                    exact ⟨rfl, _, rfl⟩
                  · by_cases hn4 : 65536 < n
                    · go_enter Tryd.func12, Tryd.ntmps12
                      go_wp2_with fail
                      refine (HAW.out).mono ?_
                      rintro e w' ⟨rfl, n0, rfl⟩
                      go_wp2_with fail
                      refine (HJA.out _).mono ?_
                      rintro e w' ⟨rfl, n1, rfl⟩
                      go_wp2_with fail
                      refine (HJB.out _).mono ?_
                      rintro e w' ⟨rfl, n2, rfl⟩
                      go_wp2_with fail
                      refine (HM1.out _).mono ?_
                      rintro e w' ⟨rfl, n3, rfl⟩
                      go_wp2_with fail
                      refine (HM2.out _).mono ?_
                      rintro e w' ⟨rfl, n4, rfl⟩
                      go_wp2_with fail
                      refine (HZ.out _).mono ?_
                      rintro e w' ⟨rfl, n5, rfl⟩
                      go_wp2_with fail
                      refine (HS.out _).mono ?_
                      rintro e w' ⟨rfl, n6, rfl⟩
                      go_wp2_with fail
                      refine (HGC.out _).mono ?_
                      rintro e w' ⟨rfl, n7, rfl⟩
                      go_wp2_with fail
                      go_ret
                      exact ⟨rfl, _, rfl⟩
                    · go_enter Tryd.func12, Tryd.ntmps12
                      go_wp2_with fail
                      refine (HAW.out).mono ?_
                      rintro e w' ⟨rfl, n0, rfl⟩
                      go_wp2_with fail
                      refine (HJA.out _).mono ?_
                      rintro e w' ⟨rfl, n1, rfl⟩
                      go_wp2_with fail
                      refine (HJB.out _).mono ?_
                      rintro e w' ⟨rfl, n2, rfl⟩
                      go_wp2_with fail
                      refine (HM1.out _).mono ?_
                      rintro e w' ⟨rfl, n3, rfl⟩
                      go_wp2_with fail
                      refine (HM2.out _).mono ?_
                      rintro e w' ⟨rfl, n4, rfl⟩
                      go_wp2_with fail
                      refine (HZ.out _).mono ?_
                      rintro e w' ⟨rfl, n5, rfl⟩
                      go_wp2_with fail
                      refine (HS.out _).mono ?_
                      rintro e w' ⟨rfl, n6, rfl⟩
                      go_wp2_with fail
                      refine (HGC.out _).mono ?_
                      rintro e w' ⟨rfl, n7, rfl⟩
                      go_wp2_with fail
                      go_loopw [17] (fun sd wr => ∃ d : Int, sd = .int .i64 d ∧ 3 ≤ d ∧ d ≤ 258 ∧ Hid (d % 2 = 1) ∧ Hid (Tried n d) ∧ ∃ j, wr = w.drewN j) (fun sd _ => (300 - intOf sd).toNat)
                      case atStart => exact ⟨3, rfl, by omega, by omega, Lib.hid (by decide), Lib.hid (fun e _ h1 h2 => by omega), _, rfl⟩
                      case round =>
                        obtain ⟨d, rfl, d0, d1, d2, ht, j, rfl⟩ := hrel
                        have dd0 : 0 ≤ d * d := Int.mul_nonneg (by omega) (by omega)
                        have dd1 : d * d ≤ 258 * 258 := Int.mul_le_mul d1 d1 (by omega) (by omega)
                        by_cases hd : d * d ≤ n
                        · have d3 := square_small d0 hd (by omega)
                          by_cases hm : n % d = 0
                          · have t4 : (n % d == 0) = true := by simp [hm]
                            clear hm
                            go_wp2_with fail
                            go_ret
                            exact ⟨rfl, _, rfl⟩
                          · have t4 : (n % d == 0) = false := by simp [hm]
                            have HT := Lib.hid (tried_next G2.out d2.out d0 ht.out hm)
                            have H2 : Hid ((d + 2) % 2 = 1) := Lib.hid (by have := d2.out; omega)
                            clear hm
                            go_wp2_with fail
                            exact ⟨⟨d + 2, rfl, by omega, by omega, H2, HT, _, rfl⟩, by simp [intOf]; omega⟩
                        · have hpw := fun w => HPW.out w (by omega) (by omega)
                          rw [HEU.out d (by omega) ht.out (by omega) d0] at hpw
                          obtain ⟨xr0, xr1⟩ := res_bounds x n g0
                          have HRD' := Lib.hid HRD.out
                          clear HRD
                          have HPW' := Lib.hid hpw
                          clear hpw
                          generalize x % n = r at *
                          go_wp2_with fail
                          refine (HPW'.out _).mono ?_
                          rintro e w' ⟨rfl, n8, rfl⟩
                          go_wp2_with fail
                          refine (HRD'.out _).mono ?_
                          rintro e w' ⟨rfl, n9, rfl⟩
                          go_wp2_with fail
                          go_ret
                          exact ⟨rfl, _, rfl⟩

end Go.Proofs.YtgadpmepjkmmnaaDoor
