/- PrimeOrders: the walk. -/
import Derived.Test.YtomkmkjkeihodaaDoorP18
import Derived.Test.YtomkmkjkeihodaaDoorPmB
set_option linter.unusedVariables false
set_option linter.unusedSimpArgs false
namespace Go.Proofs.YtomkmkjkeihodaaDoor
open Go.RowKit

theorem wmul_any (a b m : Nat) (w : World) (h0 : 0 < m) (hm : m < 2305843009213693952) (ha : a < m) (hb : b < m) :
    Calls Tryd.prog 27 #[.int .i64 ((a : Nat) : Int), .int .i64 ((b : Nat) : Int), .int .i64 ((m : Nat) : Int)] w (RetB (.tuple #[.int .i64 ((a * b % m : Nat) : Int), .int .i64 0]) w) := by
  have h := Wd.mul_ok ((a : Nat) : Int) ((b : Nat) : Int) ((m : Nat) : Int) w (Wd.fault_zero (by omega) (by omega) (by omega) (by omega) (by omega) (by omega))
  have e : ((a : Nat) : Int) * ((b : Nat) : Int) % ((m : Nat) : Int) = ((a * b % m : Nat) : Int) := by simp
  rw [e] at h
  exact h.mono fun e w' hr => RetB.of_ret hr
theorem is_2003 : isB 2003 = true := by decide +kernel
theorem next_2003 {k p : Nat} (hk : k < 2000) (h : NextIs k p) : p ≤ 2003 := by
  rcases Nat.lt_or_ge 2003 p with h1 | h1
  · have := h.2.2 2003 (by omega) h1
    rw [is_2003] at this; cases this
  · exact h1
/-- The order that the loop finds. -/
theorem order_end {p s o x : Nat} {l : List Nat} (hp : Pr p) (hpb : p ≤ 1048576) (hf : facS (p - 1) = some l) (h1 : 1 ≤ s) (hs : s < p) (ho : 1 ≤ o) (hop : o ≤ p) (hx : x = s ^ o % p) (hm : ∀ d, 0 < d → d < o → s ^ d % p ≠ 1) (hend : ¬ (x ≠ 1 ∧ o < p)) : decide (o = p - 1) = primB s p l := by
  have hnd : ¬ p ∣ s := fun hd => by have := Nat.le_of_dvd (by omega) hd; omega
  have hfe := fermat hp hnd
  have h2 := hp.1
  have hop2 : o ≤ p - 1 := by
    rcases Nat.lt_or_ge (p - 1) o with h | h
    · exact absurd hfe (hm (p - 1) (by omega) h)
    · exact h
  have hpo := prim_order hp hpb hf h1 hs
  rw [Bool.eq_iff_iff, hpo, decide_eq_true_iff]
  constructor
  · rintro rfl; exact hm
  · intro h
    rcases Nat.lt_or_ge o (p - 1) with h3 | h3
    · exact absurd (by
        have hx1 : x = 1 := by
          rcases Decidable.em (x = 1) with h | h
          · exact h
          · exact absurd ⟨h, by omega⟩ hend
        rw [← hx, hx1]) (h o (by omega) h3)
    · omega
theorem order_lt {p s o : Nat} (hp : Pr p) (h1 : 1 ≤ s) (hs : s < p) (hm : ∀ d, 0 < d → d < o → s ^ d % p ≠ 1) : o < p := by
  have hnd : ¬ p ∣ s := fun hd => by have := Nat.le_of_dvd (by omega) hd; omega
  have h2 := hp.1
  rcases Nat.lt_or_ge (p - 1) o with h | h
  · exact absurd (fermat hp hnd) (hm (p - 1) (by omega) h)
  · omega
theorem root_eq {p r y : Nat} {l : List Nat} (hr : RootIs p l r) (h1 : 1 ≤ y) (hy : y ≤ r) : primB y p l = decide (y = r) := by
  rcases Nat.lt_or_ge y r with h | h
  · rw [hr.2.2.2 y h1 h]; simp; omega
  · obtain rfl : y = r := by omega
    rw [hr.2.2.1]; simp
theorem pow_next {p s o x : Nat} (hx : x = s ^ o % p) : x * s % p = s ^ (o + 1) % p := by
  rw [hx, Nat.pow_succ, Nat.mod_mul_mod]
set_option maxHeartbeats 4000000 in
set_option maxRecDepth 100000 in
theorem orders_walk (n : Nat) (w : World) (hn : n ≤ 65535) (hT : Tabs w) : Calls Tryd.prog 9 #[.int .u16 ((n : Nat) : Int)] w (RetB (.bool true) w) := by
  have HT := hid hT
  clear hT
  obtain ⟨k, hk⟩ : ∃ k, k = n % 2000 := ⟨_, rfl⟩
  have hk1 : k < 2000 := by rw [hk]; exact Nat.mod_lt _ (by decide)
  have tk : Int.tmod ((n : Nat) : Int) 2000 = ((k : Nat) : Int) := by rw [hk]; rfl
  have tk2 : ((n : Nat) : Int) % 2000 = ((k : Nat) : Int) := by omega
  clear hk
  go_enter Tryd.func9, Tryd.ntmps9
  go_wp2_with fail
  refine (awake_any w HT.out).mono ?_
  rintro e V1 ⟨rfl, WW⟩
  have HT1 := hid (HT.out.below WW (Nat.le_refl _))
  go_wp2_with fail
  refine (next_any k V1 (by omega) HT1.out).mono ?_
  rintro e V2 ⟨p, rfl, hp, hpb, hb⟩
  have HT2 := hid (HT1.out.below hb (Nat.le_refl _))
  replace WW := WW.trans (hb.mono WW.size)
  have hp3 := next_2003 hk1 hp
  have hpB := hp.2.1
  have hp2 := isB_two hpB
  obtain ⟨l, R, hf, hR1, hR2, hR3⟩ := root_ex (by omega) hpB
  have HP := hid (pr_of_isB (by omega) hpB)
  have hc := rootE_any p R l V2 hp2 hpb hpB HT2.out hf (fun q hq => by
    obtain ⟨_, q1, q2, _⟩ := (facS_spec hf (by omega) (by omega)).2.1 q hq
    omega) hR1 hR2 hR3
  have HC := hid hc
  have HF := hid hf
  clear hb hp hpb hpB hf hR3 hc
  go_wp2_with fail
  refine HC.out.mono ?_
  clear HC
  rintro e V3 ⟨r, rfl, hr, hb⟩
  replace WW := WW.trans (hb.mono WW.size)
  have hr1 := hr.1
  have hr2 := hr.2.1
  have HR := hid hr
  clear hb hr hR1 hR2 HT HT1 HT2
  have l5 : decide (((p : Nat) : Int) < 2) = false := by simp; omega
  have l6 : decide (((p : Nat) : Int) > 4100) = false := by simp; omega
  have l7 : decide (((r : Nat) : Int) < 1) = false := by simp; omega
  have l8 : decide (p ≤ r) = false := by simp; omega
  go_wp2_with fail
  clear l5 l6 l7 l8
  go_loopw [7] (fun s wr => ∃ y : Nat, 1 ≤ y ∧ y ≤ r + 1 ∧ s = .int .i64 ((y : Nat) : Int) ∧ Below V3.heap.size V3 wr) (fun s _ => r + 1 - (intOf s).toNat)
  case atStart => exact ⟨1, by omega, by omega, by go_num, Below.refl _ _⟩
  case round =>
    obtain ⟨y, hy1, hy2, rfl, WY⟩ := hrel
    rename World => wo
    by_cases hyr : y ≤ r
    · have l5 : decide (((y : Nat) : Int) ≤ ((r : Nat) : Int)) = true := by simp; omega
      have HRE := hid (root_eq HR.out hy1 hyr)
      go_wp2_with fail
      clear l5
      go_loopw [8, 9] (fun o x wz => ∃ a b : Nat, 1 ≤ a ∧ a ≤ p ∧ o = .int .i64 ((a : Nat) : Int) ∧ x = .int .i64 ((b : Nat) : Int) ∧ b < p ∧ Hid (b = y ^ a % p) ∧ Hid (∀ d, 0 < d → d < a → y ^ d % p ≠ 1) ∧ Below wo.heap.size wo wz) (fun o _ _ => p + 1 - (intOf o).toNat)
      case atStart => exact ⟨1, y, by omega, by omega, by go_num, rfl, by omega, (show _ = _ by rw [Nat.pow_one, Nat.mod_eq_of_lt (by omega)]), (show ∀ d, _ → _ → _ from fun d d1 d2 => absurd d2 (by omega)), Below.refl _ _⟩
      case round =>
        obtain ⟨a, b, ha1, ha2, rfl, rfl, hb1, HB, HM, WZ⟩ := hrel
        by_cases hgo : b ≠ 1 ∧ a < p
        · obtain ⟨hb2, hap⟩ := hgo
          have l6 : (((b : Nat) : Int) != 1) = true := by simp; omega
          have l7 : decide (((a : Nat) : Int) < ((p : Nat) : Int)) = true := by simp; omega
          obtain ⟨c, hc⟩ : ∃ c, c = b * y % p := ⟨_, rfl⟩
          have hc1 : c < p := by rw [hc]; exact Nat.mod_lt _ (by omega)
          have HC := hid (wmul_any b y p wr (by omega) (by omega) hb1 (by omega))
          rw [← hc] at HC
          have HC2 : Hid (c = y ^ (a + 1) % p) := (show _ = _ by rw [hc]; exact pow_next HB.out)
          have HM2 : Hid (∀ d, 0 < d → d < a + 1 → y ^ d % p ≠ 1) := (show ∀ d, _ → _ → _ from fun d d1 d2 => by
            rcases Nat.lt_or_ge d a with h | h
            · exact HM.out d d1 h
            · obtain rfl : d = a := by omega
              rw [← HB.out]; exact hb2)
          clear hb2 hc
          go_wp2_with fail
          refine HC.out.mono ?_
          clear HC
          rintro e V4 ⟨rfl, hb⟩
          replace WZ := WZ.trans (hb.mono WZ.size)
          clear hb
          go_wp2_with fail
          go_roundw
          case rel => exact ⟨a + 1, c, by omega, by omega, by go_num, rfl, hc1, HC2, HM2, WZ⟩
          case measure => simp [intOf] <;> omega
        · have HO := hid (order_end HP.out (by omega) HF.out hy1 (by omega) ha1 ha2 HB.out HM.out hgo)
          have hap : a < p := order_lt HP.out hy1 (by omega) HM.out
          have l8 : (((a : Nat) : Int) == ((p : Nat) : Int) - 1) = decide (a = p - 1) := by rw [Bool.eq_iff_iff]; simp; omega
          have l9 : (((y : Nat) : Int) == ((r : Nat) : Int)) = decide (y = r) := by rw [Bool.eq_iff_iff]; simp; omega
          rw [HO.out, HRE.out] at l8
          clear HO HRE HM HB
          have l6 : (((b : Nat) : Int) != 1) = false := by simp; omega
          clear hgo
          go_wp2_with fail
          go_roundw
          case rel => exact ⟨y + 1, by omega, by omega, by go_num, WY.trans (WZ.mono WY.size)⟩
          case measure => simp [intOf] <;> omega
    · have l5 : decide (((y : Nat) : Int) ≤ ((r : Nat) : Int)) = false := by simp; omega
      go_wp2_with fail
      go_ret
      exact ⟨rfl, WW.trans (WY.mono WW.size)⟩
end Go.Proofs.YtomkmkjkeihodaaDoor
