/- NaturalShifts: the walk, part P. -/
import Derived.Test.YtlhfaaghfhiaoaaEq
import Derived.Deep.RegionHeld3
set_option linter.unusedVariables false
set_option linter.unusedSimpArgs false
namespace Go.Proofs.Ytlhfaaghfhiaoaa
open Go.RowKit

/-- A piece of code that ends in one frame, whatever its ways. -/
theorem wp_land {P : Program} {c : Code} {Q : Exit → Act → World → Prop} {a : Act} {w : World} {AA : Act} (R : World → Prop)
    (hreg : c.wp P (fun e a1 w1 => e = Exit.normal ∧ a1 = AA ∧ R w1) a w) (himp : ∀ w1, R w1 → Q Exit.normal AA w1) : c.wp P Q a w :=
  Code.wp_mono (fun e a1 w1 h => by obtain ⟨rfl, rfl, hR⟩ := h; exact himp w1 hR) hreg
theorem shN_up_down (a k : Nat) : shN (shN a (k : Int)) (-(k : Int)) = a := by
  rw [shN_nat, shN_neg, Nat.mul_div_cancel _ (Nat.pow_pos (by omega))]
theorem bitN_shift (a k i : Nat) : bitN (a / 2 ^ k) i = bitN a (i + k) := by
  unfold bitN
  rw [Nat.div_div_eq_div_mul, ← Nat.pow_add, Nat.add_comm k i]
theorem bl_pow (k : Nat) : bl (2 ^ k) = k + 1 := bl_unique (Nat.le_refl _) (by rw [Nat.pow_succ]; have := Nat.pow_pos (n := k) (show 0 < 2 by omega); omega)
theorem shiftS_nat {a k : Nat} (hk : k ≤ 10000) : shiftS a (k : Int) = if nw (a * 2 ^ k) ≤ 64 then (a * 2 ^ k, 0) else (0, 9) := by
  unfold shiftS
  rw [if_neg (by omega), shN_nat]
theorem shiftS_neg {a k : Nat} (hk : k ≤ 10000) (ha : nw a ≤ 64) : shiftS a (-(k : Int)) = (a / 2 ^ k, 0) := by
  unfold shiftS
  rw [if_neg (by omega), shN_neg, if_pos (Nat.le_trans (nw_mono (Nat.div_le_self _ _)) ha)]
theorem bl_div (a k : Nat) : ((bl (a / 2 ^ k) : Nat) : Int) = max 0 ((bl a : Int) - (k : Int)) := by
  by_cases h : a = 0
  · subst h; rw [Nat.zero_div, bl_zero]; omega
  · have := bl_shN a (-(k : Int)) h
    rw [shN_neg] at this
    rw [this]; omega
theorem bl_mul (a k : Nat) (h : a ≠ 0) : bl (a * 2 ^ k) = bl a + k := by
  have := bl_shN a (k : Int) h
  rw [shN_nat] at this
  omega

end Go.Proofs.Ytlhfaaghfhiaoaa
