/- The reference of layer 4: value. -/
import Derived.Test.YtohiimpjcgcaiaaRd4
set_option linter.unusedVariables false
set_option linter.unusedSimpArgs false
namespace Go.Proofs.Ytohiimpjcgcaiaa
open Go.RowKit

/-- The value of a character in base b, and whether it is a digit. -/
def valC (b c : Nat) : Nat × Bool := if 48 ≤ c ∧ c ≤ 57 then (c - 48, true) else if b = 16 ∧ (97 ≤ c ∧ c ≤ 102) then (c - 87, true) else (0, false)
theorem rvalue_any (c b : Nat) (w : World) (hc : c ≤ 255) (hb : b ≤ 256) :
    Calls Try.prog 28 #[.int .u8 ((c : Nat) : Int), .int .u64 ((b : Nat) : Int)] w (Ex (.tuple #[.int .u64 (((valC b c).1 : Nat) : Int), .bool (valC b c).2]) w) := by
  by_cases h1 : 48 ≤ c ∧ c ≤ 57
  · obtain ⟨d, rfl⟩ : ∃ d, c = d + 48 := ⟨c - 48, by omega⟩
    have l1 : decide ((((d + 48 : Nat)) : Int) ≥ 48) = true := by simp; omega
    have l2 : decide ((((d + 48 : Nat)) : Int) ≤ 57) = true := by simp; omega
    have e : Hid (valC b (d + 48) = (d, true)) := (show valC b (d + 48) = (d, true) by unfold valC; rw [if_pos h1]; simp)
    rw [e.out]
    go_enter Try.func28, Try.ntmps28
    go_wp2_with fail
    exact bodyPost_ret (v := .tuple #[.int .u64 ((d : Nat) : Int), .bool true]) (by simp [results, Try.results28, go_sem]) rfl ⟨rfl, rfl⟩
  · have l2 : (decide (((c : Nat) : Int) ≥ 48) && decide (((c : Nat) : Int) ≤ 57)) = false := by simp; omega
    by_cases hb16 : b = 16
    · subst hb16
      by_cases h3 : 97 ≤ c ∧ c ≤ 102
      · obtain ⟨d, rfl⟩ : ∃ d, c = d + 97 := ⟨c - 97, by omega⟩
        have l3 : decide ((((d + 97 : Nat)) : Int) ≥ 48) = true := by simp; omega
        have l4 : decide ((((d + 97 : Nat)) : Int) ≤ 57) = false := by simp; omega
        have l5 : decide ((((d + 97 : Nat)) : Int) ≥ 97) = true := by simp; omega
        have l6 : decide ((((d + 97 : Nat)) : Int) ≤ 102) = true := by simp; omega
        have e : Hid (valC 16 (d + 97) = ((d + 10), true)) := (show valC 16 (d + 97) = ((d + 10), true) by unfold valC; rw [if_neg (by omega), if_pos ⟨rfl, h3⟩]; congr 1)
        rw [e.out]
        go_enter Try.func28, Try.ntmps28
        go_wp2_with fail
        exact bodyPost_ret (v := .tuple #[.int .u64 (((d + 10) : Nat) : Int), .bool true]) (by simp [results, Try.results28, go_sem]) rfl ⟨rfl, rfl⟩
      · have e : Hid (valC 16 c = (0, false)) := (show valC 16 c = (0, false) by unfold valC; rw [if_neg h1, if_neg (by omega)])
        rw [e.out]
        by_cases g1 : 48 ≤ c
        · have l3 : decide (((c : Nat) : Int) ≥ 48) = true := by simp; omega
          have l4 : decide (((c : Nat) : Int) ≤ 57) = false := by simp; omega
          by_cases g2 : 97 ≤ c
          · have l5 : decide (((c : Nat) : Int) ≥ 97) = true := by simp; omega
            have l6 : decide (((c : Nat) : Int) ≤ 102) = false := by simp; omega
            go_enter Try.func28, Try.ntmps28
            go_wp2_with fail
            exact bodyPost_ret (v := .tuple #[.int .u64 0, .bool false]) (by simp [results, Try.results28, go_sem]) rfl ⟨rfl, rfl⟩
          · have l5 : decide (((c : Nat) : Int) ≥ 97) = false := by simp; omega
            go_enter Try.func28, Try.ntmps28
            go_wp2_with fail
            exact bodyPost_ret (v := .tuple #[.int .u64 0, .bool false]) (by simp [results, Try.results28, go_sem]) rfl ⟨rfl, rfl⟩
        · have l3 : decide (((c : Nat) : Int) ≥ 48) = false := by simp; omega
          have l5 : decide (((c : Nat) : Int) ≥ 97) = false := by simp; omega
          go_enter Try.func28, Try.ntmps28
          go_wp2_with fail
          exact bodyPost_ret (v := .tuple #[.int .u64 0, .bool false]) (by simp [results, Try.results28, go_sem]) rfl ⟨rfl, rfl⟩
    · have e : Hid (valC b c = (0, false)) := (show valC b c = (0, false) by unfold valC; rw [if_neg h1, if_neg (by omega)])
      rw [e.out]
      have lb : (((b : Nat) : Int) == 16) = false := by simp; omega
      by_cases g1 : 48 ≤ c
      · have l3 : decide (((c : Nat) : Int) ≥ 48) = true := by simp; omega
        have l4 : decide (((c : Nat) : Int) ≤ 57) = false := by simp; omega
        go_enter Try.func28, Try.ntmps28
        go_wp2_with fail
        exact bodyPost_ret (v := .tuple #[.int .u64 0, .bool false]) (by simp [results, Try.results28, go_sem]) rfl ⟨rfl, rfl⟩
      · have l3 : decide (((c : Nat) : Int) ≥ 48) = false := by simp; omega
        go_enter Try.func28, Try.ntmps28
        go_wp2_with fail
        exact bodyPost_ret (v := .tuple #[.int .u64 0, .bool false]) (by simp [results, Try.results28, go_sem]) rfl ⟨rfl, rfl⟩
end Go.Proofs.Ytohiimpjcgcaiaa
