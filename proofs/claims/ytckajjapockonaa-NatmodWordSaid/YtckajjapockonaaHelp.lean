/- slices.Equal. -/
import Derived.Test.YtckajjapockonaaTop2
set_option linter.unusedVariables false
set_option linter.unusedSimpArgs false
namespace Go.Proofs.Ytckajjapockonaa
open Go.RowKit

/-- Two slices of words with the same words. -/
def sameB (n a m b : Nat) : Bool := decide (n = m ∧ a = b)
theorem sameB_yes (n a : Nat) : sameB n a n a = true := by unfold sameB; simp
theorem sameB_no {n a m b : Nat} (h : ¬ (n = m ∧ a = b)) : sameB n a m b = false := by unfold sameB; simpa using h

theorem equal_any (A B' : Option Addr) (n m c d a b B : Nat) (w : World) (hA : Num w B A n a) (hB : Num w B B' m b) (hn : n ≤ 9223372036854775807) (hm : m ≤ 9223372036854775807) :
    Calls Try.prog 40 #[.slice A n c, .slice B' m d] w (Ret (.bool (sameB n a m b)) w) := by
  by_cases hnm : n = m
  · subst hnm
    have HA := hid hA
    have HB := hid hB
    clear hA hB
    obtain ⟨t, ht⟩ : ∃ t, t = sameB n a n b := ⟨_, rfl⟩
    rw [← ht]
    have HT := hid ht
    clear ht
    go_enter Try.func40, Try.ntmps40
    go_wp2_with fail
    go_loopw [13] (fun i wr => ∃ k j : Nat, k ≤ n ∧ i = .int .i64 k ∧ a % 2 ^ (32 * k) = b % 2 ^ (32 * k) ∧ wr = w.drewN j) (fun i _ => n - (intOf i).toNat)
    case atStart => exact ⟨0, 0, by omega, rfl, by simp [Nat.mod_one], rfl⟩
    case round =>
      obtain ⟨k, j, hk, rfl, hI, rfl⟩ := hrel
      have HI := hid hI
      clear hI
      by_cases hlt : k < n
      · obtain ⟨ad, rfl, ha1, ha2⟩ := HA.out.at_ hlt
        obtain ⟨bd, rfl, hb1, hb2⟩ := HB.out.at_ hlt
        have l1 : (k : Int) < (n : Int) := by omega
        by_cases hd : dig a k = dig b k
        · have h0 : (((dig a k : Nat) : Int) != ((dig b k : Nat) : Int)) = false := by simp [hd]
          have HD := hid hd
          clear hd
          go_wp2_with fail
          go_quiet (fail)
          go_wp2_with fail
          go_roundw
          case rel => exact ⟨k + 1, _, by omega, by go_num, by rw [mod_pw_succ, mod_pw_succ, HI.out, HD.out], rfl⟩
          case measure => simp [intOf]; omega
        · have h0 : (((dig a k : Nat) : Int) != ((dig b k : Nat) : Int)) = true := by rw [bne_iff_ne]; omega
          have HD := hid hd
          clear hd
          go_wp2_with fail
          go_quiet (fail)
          go_wp2_with fail
          go_ret
          rw [HT.out, sameB_no (fun h => HD.out (by rw [h.2]))]
          exact ⟨rfl, _, World.drewN_drewN _ _ _⟩
      · go_wp2_with fail
        go_ret
        have hI := HI.out
        obtain rfl : k = n := by omega
        rw [Nat.mod_eq_of_lt HA.out.lt, Nat.mod_eq_of_lt HB.out.lt] at hI
        rw [HT.out, hI, sameB_yes]
        exact ⟨rfl, _, rfl⟩
  · rw [sameB_no (fun h => hnm h.1)]
    have h0 : ((n : Int) != (m : Int)) = true := by rw [bne_iff_ne]; omega
    clear hnm hA hB
    go_enter Try.func40, Try.ntmps40
    go_wp2_with fail
    go_ret
    exact ⟨rfl, 0, rfl⟩
end Go.Proofs.Ytckajjapockonaa
