/- The small functions of package natform: power and digit. -/
import Derived.Test.YtohiimpjcgcaiaaTop3
set_option linter.unusedVariables false
set_option linter.unusedSimpArgs false
namespace Go.Proofs.Ytohiimpjcgcaiaa
open Go.RowKit

theorem pow_bd {b k : Nat} (hb : b ≤ 256) (hk : k ≤ 7) : b ^ k ≤ 72057594037927936 :=
  Nat.le_trans (Nat.pow_le_pow_left hb k) (Nat.le_trans (Nat.pow_le_pow_right (by omega) hk) (by decide))

theorem power_any (b n : Nat) (w : World) (hb : b ≤ 256) (hn : n ≤ 7) :
    Calls Try.prog 36 #[.int .i64 ((b : Nat) : Int), .int .i64 ((n : Nat) : Int)] w (Ex (.int .i64 ((b ^ n : Nat) : Int)) w) := by
  go_enter Try.func36, Try.ntmps36
  go_wp2_with fail
  go_loopw [5, 7] (fun x i wr => ∃ (k p : Nat), k ≤ n ∧ Hid (p = b ^ k) ∧ x = .int .i64 ((p : Nat) : Int) ∧ i = .int .i64 ((k : Nat) : Int) ∧ wr = w) (fun x i wr => ((n : Int) - intOf i).toNat)
  case atStart => exact ⟨0, 1, Nat.zero_le _, (show 1 = b ^ 0 from rfl), by go_num, by go_num, rfl⟩
  case round =>
    obtain ⟨k, p, hk, HP, rfl, rfl, rfl⟩ := hrel
    by_cases h : k < n
    · have h1 : p ≤ 72057594037927936 := by rw [HP.out]; exact pow_bd hb (by omega)
      obtain ⟨q, hq⟩ : ∃ q, q = p * b := ⟨_, rfl⟩
      have HQ : Hid (q = b ^ (k + 1)) := (show q = b ^ (k + 1) by rw [hq, HP.out, Nat.pow_succ])
      have h2 : q ≤ 72057594037927936 := by rw [HQ.out]; exact pow_bd hb (by omega)
      have h3 : ((p : Nat) : Int) * ((b : Nat) : Int) = ((q : Nat) : Int) := by rw [hq, Int.natCast_mul]
      have l1 : decide (((k : Nat) : Int) < ((n : Nat) : Int)) = true := by simpa using h
      clear hq
      go_wp2_with fail
      go_roundw
      case rel => exact ⟨k + 1, q, by omega, HQ, by go_num, by go_num, trivial⟩
      case measure => simp [intOf] <;> omega
    · obtain rfl : k = n := by omega
      have l1 : decide (((k : Nat) : Int) < ((k : Nat) : Int)) = false := by simp
      go_wp2_with fail
      go_ret
      exact ⟨ret_int (by rw [HP.out]), rfl⟩

/-- The value of a character; 16 where it is none. -/
def digC (c : Nat) : Nat := if 48 ≤ c ∧ c ≤ 57 then c - 48 else if 97 ≤ c ∧ c ≤ 102 then c - 87 else 16
theorem digit_any (c : Nat) (w : World) (hc : c ≤ 255) :
    Calls Try.prog 34 #[.int .u8 ((c : Nat) : Int)] w (Ex (.int .u8 ((digC c : Nat) : Int)) w) := by
  by_cases h1 : 48 ≤ c
  · by_cases h2 : c ≤ 57
    · obtain ⟨d, rfl⟩ : ∃ d, c = d + 48 := ⟨c - 48, by omega⟩
      have e : Hid (digC (d + 48) = d) := (show digC (d + 48) = d by unfold digC; rw [if_pos ⟨h1, h2⟩]; omega)
      rw [e.out]
      have l1 : decide ((48 : Int) ≤ (((d + 48 : Nat)) : Int)) = true := by simp; omega
      have l2 : decide ((((d + 48 : Nat)) : Int) ≤ 57) = true := by simp; omega
      go_enter Try.func34, Try.ntmps34
      go_wp2_with fail
      go_ret
      exact ⟨ret_int (by omega), rfl⟩
    · by_cases h3 : 97 ≤ c
      · by_cases h4 : c ≤ 102
        · obtain ⟨d, rfl⟩ : ∃ d, c = d + 97 := ⟨c - 97, by omega⟩
          have e : Hid (digC (d + 97) = d + 10) := (show digC (d + 97) = d + 10 by unfold digC; rw [if_neg (by omega), if_pos ⟨h3, h4⟩]; omega)
          rw [e.out]
          have l1 : decide ((48 : Int) ≤ (((d + 97 : Nat)) : Int)) = true := by simp; omega
          have l2 : decide ((((d + 97 : Nat)) : Int) ≤ 57) = false := by simp; omega
          have l3 : decide ((97 : Int) ≤ (((d + 97 : Nat)) : Int)) = true := by simp; omega
          have l4 : decide ((((d + 97 : Nat)) : Int) ≤ 102) = true := by simp; omega
          go_enter Try.func34, Try.ntmps34
          go_wp2_with fail
          go_ret
          exact ⟨ret_int (by omega), rfl⟩
        · have e : Hid (digC c = 16) := (show digC c = 16 by unfold digC; rw [if_neg (by omega), if_neg (by omega)])
          rw [e.out]
          have l1 : decide ((48 : Int) ≤ ((c : Nat) : Int)) = true := by simp; omega
          have l2 : decide (((c : Nat) : Int) ≤ 57) = false := by simp; omega
          have l3 : decide ((97 : Int) ≤ ((c : Nat) : Int)) = true := by simp; omega
          have l4 : decide (((c : Nat) : Int) ≤ 102) = false := by simp; omega
          go_enter Try.func34, Try.ntmps34
          go_wp2_with fail
          go_ret
          exact ⟨rfl, rfl⟩
      · have e : Hid (digC c = 16) := (show digC c = 16 by unfold digC; rw [if_neg (by omega), if_neg (by omega)])
        rw [e.out]
        have l1 : decide ((48 : Int) ≤ ((c : Nat) : Int)) = true := by simp; omega
        have l2 : decide (((c : Nat) : Int) ≤ 57) = false := by simp; omega
        have l3 : decide ((97 : Int) ≤ ((c : Nat) : Int)) = false := by simp; omega
        go_enter Try.func34, Try.ntmps34
        go_wp2_with fail
        go_ret
        exact ⟨rfl, rfl⟩
  · have e : Hid (digC c = 16) := (show digC c = 16 by unfold digC; rw [if_neg (by omega), if_neg (by omega)])
    rw [e.out]
    have l1 : decide ((48 : Int) ≤ ((c : Nat) : Int)) = false := by simp; omega
    have l3 : decide ((97 : Int) ≤ ((c : Nat) : Int)) = false := by simp; omega
    go_enter Try.func34, Try.ntmps34
    go_wp2_with fail
    go_ret
    exact ⟨rfl, rfl⟩
end Go.Proofs.Ytohiimpjcgcaiaa
