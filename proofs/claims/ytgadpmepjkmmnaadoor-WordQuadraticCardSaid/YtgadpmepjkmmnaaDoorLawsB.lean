/- The laws of residues: the walks. -/
import Derived.Test.YtgadpmepjkmmnaaDoorAwake
set_option linter.unusedVariables false
set_option linter.unusedSimpArgs false
namespace Go.Proofs.YtgadpmepjkmmnaaDoor
open Go.RowKit

theorem mul_add_law (x y z m : Int) : x * ((y + z) % m) % m = (x * y % m + x * z % m) % m := by
  rw [mul_mod_right, Int.mul_add, Int.add_emod]
theorem sub_back (y z m : Int) (h0 : 0 ≤ y) (h1 : y < m) : ((y + z) % m - z) % m = y := by
  rw [Int.emod_sub_emod, Int.add_sub_cancel, Int.emod_eq_of_lt h0 h1]
theorem mul_swap (x y z m : Int) : x * y % m * z % m = x * z % m * y % m := by
  rw [mul_mod_left, mul_mod_left, Int.mul_right_comm]
theorem mul_one_law (x m : Int) (h0 : 0 ≤ x) (h1 : x < m) : x * (1 % m) % m = x := by
  rw [mul_mod_right, Int.mul_one, Int.emod_eq_of_lt h0 h1]
theorem add_none (x m : Int) (h0 : 0 ≤ x) (h1 : x < m) : (x + 0) % m = x := by
  rw [Int.add_zero, Int.emod_eq_of_lt h0 h1]

theorem res_bounds (x m : Int) (h1 : 1 ≤ m) : 0 ≤ x % m ∧ x % m < m := ⟨Int.emod_nonneg _ (by omega), Int.emod_lt_of_pos _ (by omega)⟩

set_option maxRecDepth 100000 in
set_option maxHeartbeats 1000000 in
theorem wordRing_walk (a b c m : Int) (w : World) (hT : Tab w) (a0 : -9223372036854775808 ≤ a) (a1 : a ≤ 9223372036854775807) (b0 : -9223372036854775808 ≤ b) (b1 : b ≤ 9223372036854775807) (c0 : -9223372036854775808 ≤ c) (c1 : c ≤ 9223372036854775807) :
    Calls Tryd.prog 9 #[.int .i64 a, .int .i64 b, .int .i64 c, .int .i64 m] w (Ret (.bool true) w) := by
  have HAW := Lib.hid (awake_any w hT)
  by_cases hm : m < 1
  · go_enter Tryd.func9, Tryd.ntmps9
    go_wp2_with fail
    refine (HAW.out).mono ?_
    rintro e w' ⟨rfl, n0, rfl⟩
    go_wp2_with fail
    go_ret
    exact ⟨rfl, _, rfl⟩
  · have h1 : 1 ≤ m := by omega
    clear hm
    by_cases hm2 : 2305843009213693952 ≤ m
    · go_enter Tryd.func9, Tryd.ntmps9
      go_wp2_with fail
      refine (HAW.out).mono ?_
      rintro e w' ⟨rfl, n0, rfl⟩
      go_wp2_with fail
      go_ret
      exact ⟨rfl, _, rfl⟩
    · have h2 : m < 2305843009213693952 := by omega
      clear hm2
      have HX := Lib.hid fun w => reduce_ok a m w h1 h2 a0 a1
      have HY := Lib.hid fun w => reduce_ok b m w h1 h2 b0 b1
      have HZ := Lib.hid fun w => reduce_ok c m w h1 h2 c0 c1
      obtain ⟨x0, x1⟩ := res_bounds a m h1
      obtain ⟨y0, y1⟩ := res_bounds b m h1
      obtain ⟨z0, z1⟩ := res_bounds c m h1
      generalize a % m = x at *
      generalize b % m = y at *
      generalize c % m = z at *
      have hxy := fun w => mul_ok x y m w (fault_zero h1 h2 x0 x1 y0 y1)
      have hyx := fun w => mul_ok y x m w (fault_zero h1 h2 y0 y1 x0 x1)
      have hxz := fun w => mul_ok x z m w (fault_zero h1 h2 x0 x1 z0 z1)
      have hyz := fun w => add_ok y z m w (fault_zero h1 h2 y0 y1 z0 z1)
      obtain ⟨p0, p1⟩ := res_bounds (x * y) m h1
      obtain ⟨q0, q1⟩ := res_bounds (x * z) m h1
      obtain ⟨s0, s1⟩ := res_bounds (y + z) m h1
      obtain ⟨o0, o1⟩ := power_one m h1
      have hl := fun w => mul_ok x ((y + z) % m) m w (fault_zero h1 h2 x0 x1 s0 s1)
      have hr := fun w => add_ok (x * y % m) (x * z % m) m w (fault_zero h1 h2 p0 p1 q0 q1)
      have hb := fun w => sub_ok ((y + z) % m) z m w (fault_zero h1 h2 s0 s1 z0 z1)
      have hp := fun w => mul_ok (x * y % m) z m w (fault_zero h1 h2 p0 p1 z0 z1)
      have hq := fun w => mul_ok (x * z % m) y m w (fault_zero h1 h2 q0 q1 y0 y1)
      have ho := fun w => mul_ok x (1 % m) m w (fault_zero h1 h2 x0 x1 o0 o1)
      have hn := fun w => add_ok x 0 m w (fault_zero h1 h2 x0 x1 (by omega) (by omega))
      rw [Int.mul_comm y x] at hyx
      rw [mul_add_law] at hl
      rw [sub_back y z m y0 y1] at hb
      rw [mul_swap] at hp
      rw [mul_one_law x m x0 x1] at ho
      rw [add_none x m x0 x1] at hn
      generalize (x * y % m + x * z % m) % m = left at *
      generalize x * z % m * y % m = pq at *
      generalize x * y % m = xy at *
      generalize x * z % m = xz at *
      generalize (y + z) % m = yz at *
      have HXY := Lib.hid hxy; have HYX := Lib.hid hyx; have HXZ := Lib.hid hxz; have HYZ := Lib.hid hyz
      have HL := Lib.hid hl; have HR := Lib.hid hr; have HB := Lib.hid hb; have HP := Lib.hid hp; have HQ := Lib.hid hq; have HO := Lib.hid ho; have HN := Lib.hid hn
      clear hxy hyx hxz hyz hl hr hb hp hq ho hn
      go_enter Tryd.func9, Tryd.ntmps9
      go_wp2_with fail
      refine (HAW.out).mono ?_
      rintro e w' ⟨rfl, n0, rfl⟩
      go_wp2_with fail
      refine (HX.out _).mono ?_
      rintro e w' ⟨rfl, n1, rfl⟩
      go_wp2_with fail
      refine (HY.out _).mono ?_
      rintro e w' ⟨rfl, n2, rfl⟩
      go_wp2_with fail
      refine (HZ.out _).mono ?_
      rintro e w' ⟨rfl, n3, rfl⟩
      go_wp2_with fail
      refine (HXY.out _).mono ?_
      rintro e w' ⟨rfl, n4, rfl⟩
      go_wp2_with fail
      refine (HYX.out _).mono ?_
      rintro e w' ⟨rfl, n5, rfl⟩
      go_wp2_with fail
      refine (HXZ.out _).mono ?_
      rintro e w' ⟨rfl, n6, rfl⟩
      go_wp2_with fail
      refine (HYZ.out _).mono ?_
      rintro e w' ⟨rfl, n7, rfl⟩
      go_wp2_with fail
      refine (HL.out _).mono ?_
      rintro e w' ⟨rfl, n8, rfl⟩
      go_wp2_with fail
      refine (HR.out _).mono ?_
      rintro e w' ⟨rfl, n9, rfl⟩
      go_wp2_with fail
      refine (HB.out _).mono ?_
      rintro e w' ⟨rfl, n10, rfl⟩
      go_wp2_with fail
      refine (HP.out _).mono ?_
      rintro e w' ⟨rfl, n11, rfl⟩
      go_wp2_with fail
      refine (HQ.out _).mono ?_
      rintro e w' ⟨rfl, n12, rfl⟩
      go_wp2_with fail
      refine (HO.out _).mono ?_
      rintro e w' ⟨rfl, n13, rfl⟩
      go_wp2_with fail
      refine (HN.out _).mono ?_
      rintro e w' ⟨rfl, n14, rfl⟩
      go_wp2_with fail
      go_ret
      exact ⟨rfl, _, rfl⟩

theorem pow_sum (a m : Int) (e f : Int) (he : 0 ≤ e) (hf : 0 ≤ f) : a ^ e.toNat % m * (a ^ f.toNat % m) % m = a ^ (e + f).toNat % m := by
  rw [← Int.mul_emod, ← Int.pow_add, show e.toNat + f.toNat = (e + f).toNat by omega]
theorem mul_pow_law (a b m : Int) (k : Nat) : a ^ k % m * (b ^ k % m) % m = (a * b % m) ^ k % m := by
  rw [← Int.mul_emod, pow_mod, Int.mul_pow]
theorem pow_pow (a m : Int) (e g : Int) (he : 0 ≤ e) (hg : 0 ≤ g) : (a ^ e.toNat % m) ^ g.toNat % m = a ^ (e * g).toNat % m := by
  rw [pow_mod, ← Int.pow_mul, Int.toNat_mul he hg]

set_option maxRecDepth 100000 in
set_option maxHeartbeats 1000000 in
theorem wordExponents_walk (a b m e f : Int) (w : World) (hT : Tab w) (e0 : 0 ≤ e) (e1 : e ≤ 4294967295) (f0 : 0 ≤ f) (f1 : f ≤ 4294967295) :
    Calls Tryd.prog 10 #[.int .i64 a, .int .i64 b, .int .i64 m, .int .u32 e, .int .u32 f] w (Ret (.bool true) w) := by
  have HAW := Lib.hid (awake_any w hT)
  by_cases h0 : m < 1
  · go_enter Tryd.func10, Tryd.ntmps10
    go_wp2_with fail
    refine (HAW.out).mono ?_
    rintro e w' ⟨rfl, n0, rfl⟩
    go_wp2_with fail
    go_ret
    exact ⟨rfl, _, rfl⟩
  · have g0 : 1 ≤ m := by omega
    clear h0
    by_cases h1 : 2305843009213693952 ≤ m
    · go_enter Tryd.func10, Tryd.ntmps10
      go_wp2_with fail
      refine (HAW.out).mono ?_
      rintro e w' ⟨rfl, n0, rfl⟩
      go_wp2_with fail
      go_ret
      exact ⟨rfl, _, rfl⟩
    · have g1 : m < 2305843009213693952 := by omega
      clear h1
      by_cases h2 : a < 0
      · go_enter Tryd.func10, Tryd.ntmps10
        go_wp2_with fail
        refine (HAW.out).mono ?_
        rintro e w' ⟨rfl, n0, rfl⟩
        go_wp2_with fail
        go_ret
        exact ⟨rfl, _, rfl⟩
      · have g2 : 0 ≤ a := by omega
        clear h2
        by_cases h3 : m ≤ a
        · go_enter Tryd.func10, Tryd.ntmps10
          go_wp2_with fail
          refine (HAW.out).mono ?_
          rintro e w' ⟨rfl, n0, rfl⟩
          go_wp2_with fail
          go_ret
          exact ⟨rfl, _, rfl⟩
        · have g3 : a < m := by omega
          clear h3
          by_cases h4 : b < 0
          · go_enter Tryd.func10, Tryd.ntmps10
            go_wp2_with fail
            refine (HAW.out).mono ?_
            rintro e w' ⟨rfl, n0, rfl⟩
            go_wp2_with fail
            go_ret
            exact ⟨rfl, _, rfl⟩
          · have g4 : 0 ≤ b := by omega
            clear h4
            by_cases h5 : m ≤ b
            · go_enter Tryd.func10, Tryd.ntmps10
              go_wp2_with fail
              refine (HAW.out).mono ?_
              rintro e w' ⟨rfl, n0, rfl⟩
              go_wp2_with fail
              go_ret
              exact ⟨rfl, _, rfl⟩
            · have g5 : b < m := by omega
              clear h5
              have k0 : 0 ≤ f % 1000 := by omega
              have k1 : f % 1000 ≤ 999 := by omega
              have hpx := fun w => pow_ok a e m w g0 g1 g2 g3 e0 (by omega)
              have hpy := fun w => pow_ok a f m w g0 g1 g2 g3 f0 (by omega)
              have hps := fun w => pow_ok a (e + f) m w g0 g1 g2 g3 (by omega) (by omega)
              obtain ⟨x0, x1⟩ := res_bounds (a ^ e.toNat) m g0
              obtain ⟨y0, y1⟩ := res_bounds (a ^ f.toNat) m g0
              have hxy := fun w => mul_ok (a ^ e.toNat % m) (a ^ f.toNat % m) m w (fault_zero g0 g1 x0 x1 y0 y1)
              rw [pow_sum a m e f e0 f0] at hxy
              have hpz := fun w => pow_ok b e m w g0 g1 g4 g5 e0 (by omega)
              have hab := fun w => mul_ok a b m w (fault_zero g0 g1 g2 g3 g4 g5)
              obtain ⟨z0, z1⟩ := res_bounds (b ^ e.toNat) m g0
              obtain ⟨ab0, ab1⟩ := res_bounds (a * b) m g0
              have hxz := fun w => mul_ok (a ^ e.toNat % m) (b ^ e.toNat % m) m w (fault_zero g0 g1 x0 x1 z0 z1)
              rw [mul_pow_law] at hxz
              have hpp := fun w => pow_ok (a * b % m) e m w g0 g1 ab0 ab1 e0 (by omega)
              have hpt := fun w => pow_ok (a ^ e.toNat % m) (f % 1000) m w g0 g1 x0 x1 k0 (by omega)
              rw [pow_pow a m e (f % 1000) e0 k0] at hpt
              have kk0 : 0 ≤ e * (f % 1000) := Int.mul_nonneg e0 k0
              have kk1 : e * (f % 1000) ≤ 4294967295 * 999 := Int.mul_le_mul e1 k1 k0 (by omega)
              have hpu := fun w => pow_ok a (e * (f % 1000)) m w g0 g1 g2 g3 kk0 (by omega)
              generalize a ^ (e + f).toNat % m = s at *
              generalize (a * b % m) ^ e.toNat % m = p at *
              generalize a ^ (e * (f % 1000)).toNat % m = t at *
              generalize a ^ e.toNat % m = x at *
              generalize a ^ f.toNat % m = y at *
              generalize b ^ e.toNat % m = z at *
              generalize a * b % m = ab at *
              have HPX := Lib.hid hpx
              have HPY := Lib.hid hpy
              have HPS := Lib.hid hps
              have HXY := Lib.hid hxy
              have HPZ := Lib.hid hpz
              have HAB := Lib.hid hab
              have HXZ := Lib.hid hxz
              have HPP := Lib.hid hpp
              have HPT := Lib.hid hpt
              have HPU := Lib.hid hpu
              clear hpx hpy hps hxy hpz hab hxz hpp hpt hpu
              go_enter Tryd.func10, Tryd.ntmps10
              go_wp2_with fail
              refine (HAW.out).mono ?_
              rintro e w' ⟨rfl, n0, rfl⟩
              go_wp2_with fail
              refine (HPX.out _).mono ?_
              rintro e w' ⟨rfl, n1, rfl⟩
              go_wp2_with fail
              refine (HPY.out _).mono ?_
              rintro e w' ⟨rfl, n2, rfl⟩
              go_wp2_with fail
              refine (HPS.out _).mono ?_
              rintro e w' ⟨rfl, n3, rfl⟩
              go_wp2_with fail
              refine (HXY.out _).mono ?_
              rintro e w' ⟨rfl, n4, rfl⟩
              go_wp2_with fail
              refine (HPZ.out _).mono ?_
              rintro e w' ⟨rfl, n5, rfl⟩
              go_wp2_with fail
              refine (HAB.out _).mono ?_
              rintro e w' ⟨rfl, n6, rfl⟩
              go_wp2_with fail
              refine (HXZ.out _).mono ?_
              rintro e w' ⟨rfl, n7, rfl⟩
              go_wp2_with fail
              refine (HPP.out _).mono ?_
              rintro e w' ⟨rfl, n8, rfl⟩
              go_wp2_with fail
              refine (HPT.out _).mono ?_
              rintro e w' ⟨rfl, n9, rfl⟩
              go_wp2_with fail
              refine (HPU.out _).mono ?_
              rintro e w' ⟨rfl, n10, rfl⟩
              go_wp2_with fail
              go_ret
              exact ⟨rfl, _, rfl⟩

end Go.Proofs.YtgadpmepjkmmnaaDoor
