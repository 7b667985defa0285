/- The reference of layer 4: Same; the law's great is in Rd3. -/
import Derived.Test.YtohiimpjcgcaiaaRp
import Derived.Deep.QuietTactic
import Derived.BigQuiet
set_option linter.unusedVariables false
set_option linter.unusedSimpArgs false
namespace Go.Proofs.Ytohiimpjcgcaiaa
open Go Go.RowKit

/-- Are two rows of words equal? -/
def sameB (n a m b : Nat) : Bool := decide (n = m ∧ a = b)
theorem sameB_yes {n a m b : Nat} (h1 : n = m) (h2 : a = b) : sameB n a m b = true := decide_eq_true ⟨h1, h2⟩
theorem sameB_no {n a m b : Nat} (h : ¬ (n = m ∧ a = b)) : sameB n a m b = false := decide_eq_false h
set_option maxHeartbeats 4000000 in
set_option maxRecDepth 100000 in
theorem same_any (A B' : Option Addr) (n m c d a b : Nat) (w : World) (hA : Num w w.heap.size A n a) (hB : Num w w.heap.size B' m b) (hn : n ≤ 9223372036854775807) (hm : m ≤ 9223372036854775807) :
    Calls Try.prog 18 #[.agg #[.slice A n c], .agg #[.slice B' m d]] w (RetB (.bool (sameB n a m b)) w) := by
  obtain ⟨b0, b1, bw⟩ := boxes2 w (.slice A n c) (.slice B' m d)
  have HA := hid hA
  have HB := hid hB
  clear hA hB
  by_cases hnm : n = m
  · subst hnm
    go_enter Try.func18, Try.ntmps18
    go_wp2_with fail
    generalize hV : ((w.alloc (.cells #[.slice A n c] 24)).alloc (.cells #[.slice B' n d] 24)) = V0 at b0 b1 bw ⊢
    clear hV
    have k0 := b0.cell0
    have k1 := b1.cell0
    have z0 := b0.lt
    have z1 := b1.lt
    go_wp2_with fail
    clear k0 k1 z0 z1
    go_loopw [5] (fun i wr => ∃ k : Nat, k ≤ n ∧ i = .int .i64 ((k : Nat) : Int) ∧ Blk wr w.heap.size 24 #[.slice A n c] ∧ Blk wr (w.heap.size + 1) 24 #[.slice B' n d] ∧ Below w.heap.size w wr ∧ Hid (∀ j, j < k → dig a j = dig b j)) (fun i wr => n - (intOf i).toNat)
    case atStart => exact ⟨0, Nat.zero_le _, by go_num, b0, b1, bw, (show ∀ j, j < 0 → dig a j = dig b j from fun j h => absurd h (by omega))⟩
    case round =>
      clear b0 b1 bw
      obtain ⟨k, hk, rfl, b0, b1, WW, HD⟩ := hrel
      have k0 := b0.cell0
      have k1 := b1.cell0
      have z0 := b0.lt
      have z1 := b1.lt
      by_cases hkn : k < n
      · obtain ⟨ad, rfl, h1, hac⟩ := (HA.out.below WW).at_ hkn
        obtain ⟨bd, rfl, h2, hbc⟩ := (HB.out.below WW).at_ hkn
        obtain ⟨x, hx⟩ : ∃ x, x = dig a k := ⟨_, rfl⟩
        obtain ⟨y, hy⟩ : ∃ y, y = dig b k := ⟨_, rfl⟩
        rw [← hx] at hac
        rw [← hy] at hbc
        have HX := hid hx
        have HY := hid hy
        have hxl : x ≤ 4294967295 := by have := dig_lt a k; omega
        have hyl : y ≤ 4294967295 := by have := dig_lt b k; omega
        clear hx hy
        by_cases hxy : x = y
        · have l5 : (((x : Nat) : Int) != ((y : Nat) : Int)) = false := by simp; omega
          have HXY := hid hxy
          clear hxy
          go_wp2_with fail
          go_quiet (fail)
          go_wp2_with fail
          go_roundw
          case rel => exact ⟨k + 1, by omega, by go_num, b0, b1, below_drewN WW _, (show ∀ j, j < k + 1 → dig a j = dig b j by
            intro j hj
            rcases Nat.lt_or_ge j k with h | h
            · exact HD.out j h
            · obtain rfl : j = k := by omega
              rw [← HX.out, ← HY.out, HXY.out])⟩
          case measure => simp [intOf] <;> omega
        · have l5 : (((x : Nat) : Int) != ((y : Nat) : Int)) = true := by simp; omega
          have HS : Hid (sameB n a n b = false) := sameB_no (fun h => hxy (by rw [HX.out, HY.out, h.2]))
          clear hxy
          go_wp2_with fail
          go_quiet (fail)
          go_wp2_with fail
          exact bodyPost_ret (v := .bool false) (by simp [results, Try.results18, go_sem]) rfl (by rw [HS.out]; exact ⟨rfl, below_drewN WW _⟩)
      · obtain rfl : k = n := by omega
        have HS : Hid (sameB k a k b = true) := sameB_yes rfl (dig_ext HA.out.lt HB.out.lt HD.out)
        go_wp2_with fail
        exact bodyPost_ret (v := .bool true) (by simp [results, Try.results18, go_sem]) rfl (by rw [HS.out]; exact ⟨rfl, WW⟩)
  · have l5 : (((n : Nat) : Int) != ((m : Nat) : Int)) = true := by simp; omega
    have HS : Hid (sameB n a m b = false) := sameB_no (fun h => hnm h.1)
    go_enter Try.func18, Try.ntmps18
    go_wp2_with fail
    generalize hV : ((w.alloc (.cells #[.slice A n c] 24)).alloc (.cells #[.slice B' m d] 24)) = V0 at b0 b1 bw ⊢
    clear hV
    have k0 := b0.cell0
    have k1 := b1.cell0
    have z0 := b0.lt
    have z1 := b1.lt
    go_wp2_with fail
    exact bodyPost_ret (v := .bool false) (by simp [results, Try.results18, go_sem]) rfl (by rw [HS.out]; exact ⟨rfl, bw⟩)
end Go.Proofs.Ytohiimpjcgcaiaa
