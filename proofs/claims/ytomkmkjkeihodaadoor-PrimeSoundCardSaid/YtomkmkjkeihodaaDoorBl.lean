/- The number of bits, bits, and shifts, in plain arithmetic. -/
import Derived.Test.YtomkmkjkeihodaaDoorDiv
set_option linter.unusedVariables false
set_option linter.unusedSimpArgs false
namespace Go.Proofs.YtomkmkjkeihodaaDoor
open Go.RowKit

/-- The least n such that a is less than 2^n. -/
def bl (a : Nat) : Nat := if a = 0 then 0 else Nat.log2 a + 1
theorem bl_zero : bl 0 = 0 := rfl
theorem lt_bl (a : Nat) : a < 2 ^ bl a := by
  unfold bl; split
  · rename_i h; subst h; simp
  · exact Nat.lt_log2_self
theorem le_bl {a : Nat} (h : a ≠ 0) : 0 < bl a ∧ 2 ^ (bl a - 1) ≤ a := by
  unfold bl; rw [if_neg h]
  exact ⟨by omega, Nat.log2_self_le h⟩
theorem bl_unique {a k : Nat} (h1 : 2 ^ k ≤ a) (h2 : a < 2 ^ (k + 1)) : bl a = k + 1 := by
  have h0 : a ≠ 0 := by have := Nat.pow_pos (n := k) (show 0 < 2 by omega); omega
  unfold bl
  rw [if_neg h0, (Nat.log2_eq_iff h0).2 ⟨h1, h2⟩]
theorem bl_le {a k : Nat} (h : a < 2 ^ k) : bl a ≤ k := by
  by_cases h0 : a = 0
  · subst h0; simp [bl_zero]
  · obtain ⟨h1, h2⟩ := le_bl h0
    have := (Nat.pow_lt_pow_iff_right (by omega : 1 < 2)).1 (Nat.lt_of_le_of_lt h2 h)
    omega
theorem bl_pos {a : Nat} (h : a ≠ 0) : 0 < bl a := (le_bl h).1
theorem bl_le_nw (a : Nat) : bl a ≤ 32 * nw a := bl_le (lt_nw a)
theorem nw_le_bl {a n : Nat} (h : bl a ≤ 32 * n) : nw a ≤ n := nw_le (Nat.lt_of_lt_of_le (lt_bl a) (Nat.pow_le_pow_right (by omega) h))
theorem bl_nw {a : Nat} : nw a ≤ 64 ↔ bl a ≤ 2048 :=
  ⟨fun h => by have := bl_le_nw a; omega, fun h => nw_le_bl (by omega)⟩
theorem bl_top {a : Nat} (h : a ≠ 0) : bl a = 32 * (nw a - 1) + Lib.bitLen (dig a (nw a - 1)) := by
  have hp := nw_pos h
  have ht := dig_top h
  obtain ⟨p1, p2, p3, p4⟩ := bitLen_word (dig a (nw a - 1)) (by omega) (dig_lt _ _)
  have e := top_one (nw a) a hp (lt_nw a)
  have e2 := Nat.div_add_mod a (2 ^ (32 * (nw a - 1)))
  have hl := Nat.mod_lt a (pw_pos (nw a - 1))
  rw [e] at e2
  generalize dig a (nw a - 1) = t at *
  generalize Lib.bitLen t = L at *
  generalize nw a - 1 = m at *
  have h1 : 2 ^ (32 * m + (L - 1)) ≤ a := by
    rw [Nat.pow_add]
    have := Nat.mul_le_mul_left (2 ^ (32 * m)) p3
    omega
  have h2 : a < 2 ^ (32 * m + (L - 1) + 1) := by
    rw [show 32 * m + (L - 1) + 1 = 32 * m + L by omega, Nat.pow_add]
    have := Nat.mul_le_mul_left (2 ^ (32 * m)) (show t + 1 ≤ 2 ^ L from p4)
    rw [Nat.mul_add, Nat.mul_one] at this
    omega
  rw [bl_unique h1 h2]
  omega

/-- A bit. -/
def bitN (a i : Nat) : Bool := decide (a / 2 ^ i % 2 = 1)
theorem bitN_dig (a i : Nat) : dig a (i / 32) / 2 ^ (i % 32) % 2 = a / 2 ^ i % 2 := by
  unfold dig
  have e : i = 32 * (i / 32) + i % 32 := by omega
  have h32 : i % 32 < 32 := Nat.mod_lt _ (by omega)
  have e2 : a / 2 ^ i = a / 2 ^ (32 * (i / 32)) / 2 ^ (i % 32) := by rw [Nat.div_div_eq_div_mul, ← Nat.pow_add, ← e]
  rw [e2]
  generalize a / 2 ^ (32 * (i / 32)) = x
  generalize i % 32 = r at *
  have : 4294967296 = 2 ^ r * (2 ^ (31 - r) * 2) := by
    rw [← Nat.mul_assoc, ← Nat.pow_add, show r + (31 - r) = 31 by omega]
  rw [this, Nat.mod_mul_right_div_self, Nat.mod_mul_left_mod]
theorem bitN_above {a i : Nat} (h : bl a ≤ i) : bitN a i = false := by
  unfold bitN
  rw [Nat.div_eq_of_lt (Nat.lt_of_lt_of_le (lt_bl a) (Nat.pow_le_pow_right (by omega) h))]
  rfl
theorem bitN_top {a : Nat} (h : a ≠ 0) : bitN a (bl a - 1) = true := by
  obtain ⟨h1, h2⟩ := le_bl h
  have h3 := lt_bl a
  obtain ⟨k, hk⟩ : ∃ k, bl a = k + 1 := ⟨bl a - 1, by omega⟩
  rw [hk] at h2 h3 ⊢
  rw [show k + 1 - 1 = k by omega] at *
  unfold bitN
  have : a / 2 ^ k = 1 := by
    rw [Nat.pow_succ] at h3
    have l1 := Nat.div_pos h2 (Nat.pow_pos (n := k) (show 0 < 2 by omega))
    have l2 : a / 2 ^ k < 2 := by rw [Nat.div_lt_iff_lt_mul (Nat.pow_pos (by omega)), Nat.mul_comm]; exact h3
    omega
  rw [this]; rfl

/-- How many bits a shifted number has. -/
theorem bl_shN (a : Nat) (x : Int) (h : a ≠ 0) : (bl (shN a x) : Int) = max 0 ((bl a : Int) + x) := by
  obtain ⟨h1, h2⟩ := le_bl h
  have h3 := lt_bl a
  obtain ⟨k, hk⟩ : ∃ k, bl a = k + 1 := ⟨bl a - 1, by omega⟩
  rw [hk] at h2 h3
  rw [show k + 1 - 1 = k by omega] at h2
  unfold shN
  split
  · rename_i hx
    obtain ⟨y, rfl⟩ := Int.eq_ofNat_of_zero_le hx
    rw [Int.toNat_natCast]
    rw [bl_unique (k := k + y) (by rw [Nat.pow_add]; exact Nat.mul_le_mul_right _ h2) (by rw [show k + y + 1 = k + 1 + y by omega, Nat.pow_add]; exact Nat.mul_lt_mul_of_pos_right h3 (Nat.pow_pos (by omega)))]
    omega
  · rename_i hx
    obtain ⟨y, hy⟩ := Int.eq_ofNat_of_zero_le (show 0 ≤ -x by omega)
    rw [hy, Int.toNat_natCast]
    by_cases hl : k < y
    · rw [Nat.div_eq_of_lt (Nat.lt_of_lt_of_le h3 (Nat.pow_le_pow_right (by omega) (by omega))), bl_zero]
      omega
    · obtain ⟨z, rfl⟩ : ∃ z, k = y + z := ⟨k - y, by omega⟩
      have hp : 0 < 2 ^ y := Nat.pow_pos (by omega)
      rw [bl_unique (k := z) (by rw [Nat.le_div_iff_mul_le hp, Nat.mul_comm, ← Nat.pow_add]; exact h2) (by rw [Nat.div_lt_iff_lt_mul hp, Nat.mul_comm, ← Nat.pow_add, show y + (z + 1) = y + z + 1 by omega]; exact h3)]
      omega
theorem shN_zero (x : Int) : shN 0 x = 0 := by unfold shN; split <;> simp

/-- What a shift returns. -/
def shiftS (a : Nat) (x : Int) : Nat × Int := if x < -10000 ∨ 10000 < x then (0, 2) else if nw (shN a x) ≤ 64 then (shN a x, 0) else (0, 9)
theorem shiftS_range {a : Nat} {x : Int} (h : x < -10000 ∨ 10000 < x) : shiftS a x = (0, 2) := by unfold shiftS; rw [if_pos h]
theorem shiftS_none {a : Nat} {x : Int} (h : ¬ (x < -10000 ∨ 10000 < x)) (h2 : a = 0 ∨ (bl a : Int) + x ≤ 0) : shiftS a x = (0, 0) := by
  unfold shiftS
  have e : shN a x = 0 := by
    rcases h2 with rfl | h2
    · exact shN_zero x
    · by_cases h0 : a = 0
      · rw [h0]; exact shN_zero x
      · have := bl_shN a x h0
        have e2 : bl (shN a x) = 0 := by omega
        exact Decidable.byContradiction fun h3 => by have := bl_pos h3; omega
  rw [if_neg h, e, if_pos (by simp [nw_zero])]
theorem shiftS_big {a : Nat} {x : Int} (h : ¬ (x < -10000 ∨ 10000 < x)) (h0 : a ≠ 0) (h2 : 2048 < (bl a : Int) + x) : shiftS a x = (0, 9) := by
  unfold shiftS
  have := bl_shN a x h0
  rw [if_neg h, if_neg (fun c => by have := bl_nw.1 c; omega)]
theorem shiftS_ok {a : Nat} {x : Int} (h : ¬ (x < -10000 ∨ 10000 < x)) (h0 : a ≠ 0) (h2 : (bl a : Int) + x ≤ 2048) : shiftS a x = (shN a x, 0) := by
  unfold shiftS
  have := bl_shN a x h0
  rw [if_neg h, if_pos (bl_nw.2 (by omega))]

end Go.Proofs.YtomkmkjkeihodaaDoor
