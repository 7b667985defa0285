/- great: whether one of some numbers has more than 100 words. -/
import Derived.Test.YtlhfaaghfhiaoaaHelp
set_option linter.unusedVariables false
set_option linter.unusedSimpArgs false
namespace Go.Proofs.Ytlhfaaghfhiaoaa
open Go.RowKit

theorem great1_any (A : Option Addr) (n c : Nat) (w : World) (hn : n ≤ 9223372036854775807) : Calls Try.prog 42 #[.agg #[.slice A n c]] w (RetB (.bool (decide (100 < n))) w) := by
  by_cases h : 100 < n
  · have h1 : decide (100 < (n : Int)) = true := by simp; omega
    rw [decide_eq_true h]
    clear h
    go_enter Try.func42, Try.ntmps42
    go_wp2_with fail
    go_ret
    exact ⟨rfl, (Below.refl _ _).alloc (Nat.le_refl _) _⟩
  · have h1 : decide (100 < (n : Int)) = false := by simp; omega
    rw [decide_eq_false h]
    clear h
    go_enter Try.func42, Try.ntmps42
    go_wp2_with fail
    go_ret
    exact ⟨rfl, (Below.refl _ _).alloc (Nat.le_refl _) _⟩

/-- What a slice of numbers holds. -/
def Nats (w : World) (B g k : Nat) (A : Nat → Option Addr) (N C : Nat → Nat) : Prop := g < B ∧ ∀ i, i < k → w.cell? ⟨g, i, none⟩ = some (.slice (A i) (N i) (C i)) ∧ N i ≤ 9223372036854775807
theorem Nats.below {w w' : World} {B g k : Nat} {A : Nat → Option Addr} {N C : Nat → Nat} (h : Nats w B g k A N C) (hb : Below B w w') : Nats w' B g k A N C :=
  ⟨h.1, fun i hi => ⟨(hb.cell (p := ⟨g, i, none⟩) h.1).trans (h.2 i hi).1, (h.2 i hi).2⟩⟩

def greatB (k : Nat) (N : Nat → Nat) : Bool := (List.range k).any fun i => decide (100 < N i)
theorem greatB_yes {k i : Nat} {N : Nat → Nat} (hi : i < k) (h : 100 < N i) : greatB k N = true := by
  unfold greatB; rw [List.any_eq_true]; exact ⟨i, List.mem_range.2 hi, by simpa using h⟩
theorem greatB_no {k : Nat} {N : Nat → Nat} (h : ∀ i, i < k → ¬ 100 < N i) : greatB k N = false := by
  unfold greatB; rw [List.any_eq_false]; intro i hi; simpa using h i (List.mem_range.1 hi)

/-- The call returns an index that is negative exactly if there is none. -/
def RetIdx (b : Bool) (w : World) (e : Ending) (w' : World) : Prop := ∃ z : Int, e = .returned (.int .i64 z) ∧ decide (0 ≤ z) = b ∧ Below w.heap.size w w'

theorem index_any (g k cp : Nat) (A : Nat → Option Addr) (N C : Nat → Nat) (w : World) (hN : Nats w w.heap.size g k A N C) (hk : k ≤ 100) :
    Calls Try.prog 60 #[.slice (some ⟨g, 0, none⟩) k cp, .func (.func 42) #[] #[]] w (RetIdx (greatB k N) w) := by
  have HN := hid hN
  clear hN
  go_enter Try.func60, Try.ntmps60
  go_wp2_with fail
  go_loopw [8] (fun i wr => ∃ j : Nat, j ≤ k ∧ i = .int .i64 j ∧ (∀ i, i < j → ¬ 100 < N i) ∧ Below w.heap.size w wr) (fun i _ => k - (intOf i).toNat)
  case atStart => exact ⟨0, by omega, rfl, fun i hi => by omega, Below.refl _ _⟩
  case round =>
    obtain ⟨j, hj, rfl, hI, hb⟩ := hrel
    have HI := hid hI
    have HB := hid hb
    clear hI hb
    by_cases hlt : j < k
    · obtain ⟨g1, g2⟩ := (HN.out.below HB.out).2 j hlt
      by_cases h : 100 < N j
      · have HF := hid (greatB_yes hlt h)
        have hr := great1_any (A j) (N j) (C j) wr g2
        rw [decide_eq_true h] at hr
        have HR := hid hr
        clear hr h
        go_wp2_with fail
        refine HR.out.mono ?_
        rintro e w1 ⟨rfl, hb⟩
        have HB1 := hid (HB.out.trans (hb.mono HB.out.size))
        clear hb
        go_wp2_with fail
        go_ret
        exact ⟨_, rfl, by rw [HF.out]; simp, HB1.out⟩
      · have HF := hid h
        have hr := great1_any (A j) (N j) (C j) wr g2
        rw [decide_eq_false h] at hr
        have HR := hid hr
        clear hr h
        go_wp2_with fail
        refine HR.out.mono ?_
        rintro e w1 ⟨rfl, hb⟩
        have HB1 := hid (HB.out.trans (hb.mono HB.out.size))
        clear hb
        go_wp2_with fail
        go_roundw
        case rel => exact ⟨j + 1, by omega, by go_num, fun i hi => by
          by_cases e : i = j
          · subst e; exact HF.out
          · exact HI.out i (by omega), HB1.out⟩
        case measure => simp [intOf]; omega
    · have HF : Hid (greatB k N = false) := greatB_no fun i hi => HI.out i (by omega)
      go_wp2_with fail
      go_ret
      exact ⟨_, rfl, by rw [HF.out]; simp, HB.out⟩

theorem contains_any (g k cp : Nat) (A : Nat → Option Addr) (N C : Nat → Nat) (w : World) (hN : Nats w w.heap.size g k A N C) (hk : k ≤ 100) :
    Calls Try.prog 41 #[.slice (some ⟨g, 0, none⟩) k cp, .func (.func 42) #[] #[]] w (RetB (.bool (greatB k N)) w) := by
  have H := hid (index_any g k cp A N C w hN hk)
  clear hN
  go_enter Try.func41, Try.ntmps41
  go_wp2_with fail
  refine H.out.mono ?_
  rintro e w1 ⟨z, rfl, hz, hb⟩
  have HZ := hid hz
  have HB := hid hb
  clear hz hb
  go_wp2_with fail
  go_ret
  rw [← HZ.out]
  exact ⟨rfl, HB.out⟩

theorem great_any (g k cp : Nat) (A : Nat → Option Addr) (N C : Nat → Nat) (w : World) (hN : Nats w w.heap.size g k A N C) (hk : k ≤ 100) :
    Calls Try.prog 12 #[.slice (some ⟨g, 0, none⟩) k cp] w (RetB (.bool (greatB k N)) w) := by
  have H := hid (contains_any g k cp A N C w hN hk)
  clear hN
  go_enter Try.func12, Try.ntmps12
  go_wp2_with fail
  refine H.out.mono ?_
  rintro e w1 ⟨rfl, hb⟩
  have HB := hid hb
  clear hb
  go_wp2_with fail
  go_ret
  exact ⟨rfl, HB.out⟩

end Go.Proofs.Ytlhfaaghfhiaoaa
