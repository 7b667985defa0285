/- sum and difference of words. -/
import Derived.Test.YtomkmkjkeihodaaDoorNum
import Derived.Deep.RegionWith
import Derived.Laws.NewBlocks
set_option linter.unusedVariables false
set_option linter.unusedSimpArgs false
namespace Go.Proofs.YtomkmkjkeihodaaDoor
open Go.RowKit

/-- The call returns a new slice of words whose number is a. -/
def RetOwn (base a : Nat) (w : World) (e : Ending) (w' : World) : Prop := ∃ A n c, e = .returned (.slice A n c) ∧ Own w' base A n c a ∧ Below w.heap.size w w'

/-- After k words of the sum. -/
def SumAt (w wr : World) (N a b k cc : Nat) : Prop := ∃ s, s < 2 ^ (32 * k) ∧ s + cc * 2 ^ (32 * k) = a % 2 ^ (32 * k) + b % 2 ^ (32 * k) ∧ Row wr w.heap.size N s ∧ Below w.heap.size w wr

theorem SumAt.step {w wr : World} {N a b k cc r q : Nat} (h : SumAt w wr N a b k cc) (hk : k < N) (hr : r = (dig a k + dig b k + cc) % 4294967296) (hq : q = (dig a k + dig b k + cc) / 4294967296) :
    SumAt w (wr.setCell ⟨w.heap.size, k, none⟩ (.int .u32 (r : Int))) N a b (k + 1) q := by
  obtain ⟨s, h1, h2, h3, h4⟩ := h
  have hr' : r < 4294967296 := by omega
  have e : put s k r = s + r * 2 ^ (32 * k) := put_top h1
  refine ⟨put s k r, by rw [e]; exact lt_succ_of h1 hr', ?_, h3.set_ hk hr', h4.setCell (Nat.le_refl _) _⟩
  rw [e, hr, hq]
  exact sum_step a b k s cc h2

theorem SumAt.whole {w wr : World} {N a b k cc n m : Nat} (h : SumAt w wr N a b k cc) (hk : N ≤ k) (hk' : k ≤ N) (ha : a < 2 ^ (32 * n)) (hb : b < 2 ^ (32 * m)) (hN : N = max n m + 1) (hm : N ≤ maxLen) :
    Own wr w.heap.size (some ⟨w.heap.size, 0, none⟩) N N (a + b) := by
  obtain ⟨s, h1, h2, h3, h4⟩ := h
  obtain rfl : k = N := by omega
  have l1 : a < 2 ^ (32 * max n m) := Nat.lt_of_lt_of_le ha (pw_le (by omega))
  have l2 : b < 2 ^ (32 * max n m) := Nat.lt_of_lt_of_le hb (pw_le (by omega))
  have l3 : 2 ^ (32 * k) = 2 ^ (32 * max n m) * 4294967296 := by rw [hN, pw_succ]
  have e : a + b < 2 ^ (32 * k) := by omega
  rw [Nat.mod_eq_of_lt (by omega), Nat.mod_eq_of_lt (by omega)] at h2
  have hc : cc = 0 := by
    rcases Nat.eq_zero_or_pos cc with h | h
    · exact h
    · have := Nat.mul_le_mul_right (2 ^ (32 * k)) h
      omega
  subst hc
  rw [Nat.zero_mul, Nat.add_zero] at h2
  rw [← h2]
  exact h3.own (Nat.le_refl _) hm

/-- After k words of the difference. -/
def DiffAt (w wr : World) (N a b k cc : Nat) : Prop := ∃ s, s < 2 ^ (32 * k) ∧ s + b % 2 ^ (32 * k) = a % 2 ^ (32 * k) + cc * 2 ^ (32 * k) ∧ Row wr w.heap.size N s ∧ Below w.heap.size w wr

theorem DiffAt.step {w wr : World} {N a b k cc r q : Nat} (h : DiffAt w wr N a b k cc) (hk : k < N) (hr' : r < 4294967296) (hr : r + dig b k + cc = dig a k + q * 4294967296) :
    DiffAt w (wr.setCell ⟨w.heap.size, k, none⟩ (.int .u32 (r : Int))) N a b (k + 1) q := by
  obtain ⟨s, h1, h2, h3, h4⟩ := h
  have e : put s k r = s + r * 2 ^ (32 * k) := put_top h1
  refine ⟨put s k r, by rw [e]; exact lt_succ_of h1 hr', ?_, h3.set_ hk hr', h4.setCell (Nat.le_refl _) _⟩
  rw [e]
  exact diff_step a b k s cc 0 0 h2 r q hr

theorem DiffAt.drew {w wr : World} {N a b k cc : Nat} (h : DiffAt w wr N a b k cc) : DiffAt w wr.drew N a b k cc := by
  obtain ⟨s, h1, h2, h3, h4⟩ := h
  exact ⟨s, h1, h2, h3, h4.drew⟩

theorem DiffAt.whole {w wr : World} {N a b k cc : Nat} (h : DiffAt w wr N a b k cc) (hk : N ≤ k) (hk' : k ≤ N) (ha : a < 2 ^ (32 * N)) (hb : b ≤ a) (hcc : cc ≤ 1) (hm : N ≤ maxLen) :
    Own wr w.heap.size (some ⟨w.heap.size, 0, none⟩) N N (a - b) := by
  obtain ⟨s, h1, h2, h3, h4⟩ := h
  obtain rfl : k = N := by omega
  rw [Nat.mod_eq_of_lt ha, Nat.mod_eq_of_lt (by omega)] at h2
  have hc : cc = 0 := by
    rcases Nat.eq_zero_or_pos cc with h | h
    · exact h
    · have := Nat.mul_le_mul_right (2 ^ (32 * k)) h
      omega
  subst hc
  rw [Nat.zero_mul, Nat.add_zero] at h2
  rw [show a - b = s by omega]
  exact h3.own (Nat.le_refl _) hm

theorem sub_word (x y c : Nat) (hx : x ≤ 4294967295) (hy : y ≤ 4294967295) (hc : c ≤ 1) : ∃ r q : Nat, r ≤ 4294967295 ∧ q ≤ 1 ∧ Hid (r + y + c = x + q * 4294967296) := by
  by_cases h : y + c ≤ x
  · exact ⟨x - (y + c), 0, by omega, by omega, show _ = _ by omega⟩
  · exact ⟨x + 4294967296 - (y + c), 1, by omega, by omega, show _ = _ by omega⟩

theorem difference_any (A B' : Option Addr) (n m c d a b B : Nat) (w : World) (hA : Num w B A n a) (hB : Num w B B' m b) (hBw : B ≤ w.heap.size) (hn : n ≤ 100000) (hm : m ≤ 100000) (hle : b ≤ a) :
    Calls Tryd.prog 108 #[.slice A n c, .slice B' m d] w (RetOwn w.heap.size (a - b) w) := by
  have hmk := make_words n (by omega)
  have h0 : DiffAt w (w.alloc (.cells (words n 0) 48)) n a b 0 0 := ⟨0, by simp, by simp [Nat.mod_one], Row.new _ _, (Below.refl _ _).alloc (Nat.le_refl _) _⟩
  have H0 := hid h0
  clear h0
  go_enter Tryd.func108, Tryd.ntmps108
  go_wp2
  go_loopw [6, 13] (fun cy i wr => ∃ k cc : Nat, k ≤ n ∧ cc ≤ 1 ∧ i = .int .i64 k ∧ cy = .int .u32 cc ∧ DiffAt w wr n a b k cc) (fun _ i _ => n - (intOf i).toNat)
  case atStart => exact ⟨0, 0, by omega, by omega, rfl, rfl, H0.out⟩
  case round =>
    obtain ⟨k, cc, hk, hcc, rfl, rfl, hS⟩ := hrel
    have HS := hid hS
    by_cases hlt : k < n
    · obtain ⟨s, h1, h2, h3, h4⟩ := hS
      have hcell := h3.cell hlt
      have hfr := h3.frozen k
      have HB := hid (hB.below (h4.mono hBw))
      obtain ⟨ad, rfl, hab, hac⟩ := (hA.below (h4.mono hBw)).at_ hlt
      have d1 := dig_lt a k
      have d2 := dig_lt b k
      obtain ⟨r, q, hr1, hq1, hr⟩ := sub_word (dig a k) (dig b k) cc (by omega) (by omega) hcc
      clear h1 h2 h3 h4
      go_wp2_with fail
      go_region_with (first
        | (go_at_call 50; refine (word_nat B' m d b B k _ HB.out.drew (by omega)).mono ?_; rintro e w' ⟨rfl, rfl⟩)
        | (go_at_call 114; refine (sub32_nat (dig a k) (dig b k) cc r q _ (by omega) (by omega) hcc hr1 hq1 hr).mono ?_; rintro e w' ⟨rfl, rfl⟩))
      all_goals
        go_wp2_with fail
        go_roundw
        case rel => exact ⟨k + 1, q, by omega, hq1, by go_num, rfl, (HS.out.step hlt (by omega) hr.out).drew⟩
        case measure => simp [intOf]; omega
    · go_wp2
      go_ret
      exact ⟨_, _, _, rfl, HS.out.whole (by omega) hk hA.lt hle hcc (by unfold maxLen; omega), by
        obtain ⟨s, h1, h2, h3, h4⟩ := HS.out
        exact h4⟩

end Go.Proofs.YtomkmkjkeihodaaDoor
