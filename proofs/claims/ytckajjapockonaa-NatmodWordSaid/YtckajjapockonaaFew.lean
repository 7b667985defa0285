/- slices.ContainsFunc with the law's closures. -/
import Derived.Test.YtckajjapockonaaRf2
set_option linter.unusedVariables false
set_option linter.unusedSimpArgs false
namespace Go.Proofs.Ytckajjapockonaa
open Go.RowKit

/-- What a slice of numbers holds. -/
def Nats (w : World) (B g k : Nat) (A : Nat → Option Addr) (N C : Nat → Nat) : Prop := g < B ∧ ∀ i, i < k → w.cell? ⟨g, i, none⟩ = some (.slice (A i) (N i) (C i)) ∧ N i ≤ 9223372036854775807
theorem Nats.below {w w' : World} {B g k : Nat} {A : Nat → Option Addr} {N C : Nat → Nat} (h : Nats w B g k A N C) (hb : Below B w w') : Nats w' B g k A N C :=
  ⟨h.1, fun i hi => ⟨(hb.cell (p := ⟨g, i, none⟩) h.1).trans (h.2 i hi).1, (h.2 i hi).2⟩⟩
def anyB (k : Nat) (p : Nat → Bool) : Bool := (List.range k).any p
theorem anyB_yes {k i : Nat} {p : Nat → Bool} (hi : i < k) (h : p i = true) : anyB k p = true := by
  unfold anyB; rw [List.any_eq_true]; exact ⟨i, List.mem_range.2 hi, h⟩
theorem anyB_no {k : Nat} {p : Nat → Bool} (h : ∀ i, i < k → p i = false) : anyB k p = false := by
  unfold anyB; rw [List.any_eq_false]; intro i hi; simpa using h i (List.mem_range.1 hi)
/-- The call returns an index that is negative exactly if there is none. -/
def RetIdx (b : Bool) (w : World) (e : Ending) (w' : World) : Prop := ∃ z : Int, e = .returned (.int .i64 z) ∧ decide (0 ≤ z) = b ∧ Below w.heap.size w w'

theorem index_48 (p : Nat → Bool) (g k cp : Nat) (b : Nat) (A : Nat → Option Addr) (N C : Nat → Nat) (w : World) (hN : Nats w w.heap.size g k A N C) (hk : k ≤ 100)
    (hf : ∀ i, i < k → ∀ wr, Below w.heap.size w wr → Calls Try.prog 48 #[.agg #[.slice (A i) (N i) (C i)], .pointer (some ⟨b, 0, none⟩)] wr (RetB (.bool (p i)) wr)) :
    Calls Try.prog 81 #[.slice (some ⟨g, 0, none⟩) k cp, .func (.func 48) #[] #[.pointer (some ⟨b, 0, none⟩)]] w (RetIdx (anyB k p) w) := by
  have HN := hid hN
  have HFF := hid hf
  clear hN hf
  go_enter Try.func81, Try.ntmps81
  go_wp2_with fail
  go_loopw [8] (fun i wr => ∃ j : Nat, j ≤ k ∧ i = .int .i64 j ∧ (∀ i, i < j → p i = false) ∧ Below w.heap.size w wr) (fun i _ => k - (intOf i).toNat)
  case atStart => exact ⟨0, by omega, rfl, fun i hi => by omega, Below.refl _ _⟩
  case round =>
    obtain ⟨j, hj, rfl, hI, hb⟩ := hrel
    have HI := hid hI
    have HB := hid hb
    clear hI hb
    by_cases hlt : j < k
    · obtain ⟨g1, g2⟩ := (HN.out.below HB.out).2 j hlt
      have hr := HFF.out j hlt wr HB.out
      cases hp : p j
      · rw [hp] at hr
        have HR := hid hr
        have HP := hid hp
        clear hr hp
        go_wp2_with fail
        refine HR.out.mono ?_
        rintro e w1 ⟨rfl, hb⟩
        have HB1 := hid (HB.out.trans (hb.mono HB.out.size))
        clear hb
        go_wp2_with fail
        go_roundw
        case rel => exact ⟨j + 1, by omega, by go_num, fun i hi => by
          by_cases e : i = j
          · subst e; exact HP.out
          · exact HI.out i (by omega), HB1.out⟩
        case measure => simp [intOf] <;> omega
      · rw [hp] at hr
        have HR := hid hr
        have HF := hid (anyB_yes hlt hp)
        clear hr hp
        go_wp2_with fail
        refine HR.out.mono ?_
        rintro e w1 ⟨rfl, hb⟩
        have HB1 := hid (HB.out.trans (hb.mono HB.out.size))
        clear hb
        go_wp2_with fail
        go_ret
        exact ⟨_, rfl, by rw [HF.out]; simp, HB1.out⟩
    · have HF : Hid (anyB k p = false) := anyB_no fun i hi => HI.out i (by omega)
      go_wp2_with fail
      go_ret
      exact ⟨_, rfl, by rw [HF.out]; simp, HB.out⟩
theorem contains_48 (p : Nat → Bool) (g k cp : Nat) (b : Nat) (A : Nat → Option Addr) (N C : Nat → Nat) (w : World) (hN : Nats w w.heap.size g k A N C) (hk : k ≤ 100)
    (hf : ∀ i, i < k → ∀ wr, Below w.heap.size w wr → Calls Try.prog 48 #[.agg #[.slice (A i) (N i) (C i)], .pointer (some ⟨b, 0, none⟩)] wr (RetB (.bool (p i)) wr)) :
    Calls Try.prog 47 #[.slice (some ⟨g, 0, none⟩) k cp, .func (.func 48) #[] #[.pointer (some ⟨b, 0, none⟩)]] w (RetB (.bool (anyB k p)) w) := by
  have H := hid (index_48 p g k cp b A N C w hN hk hf)
  clear hN hf
  go_enter Try.func47, Try.ntmps47
  go_wp2_with fail
  refine H.out.mono ?_
  rintro e w1 ⟨z, rfl, hz, hb⟩
  have HZ := hid hz
  have HB := hid hb
  clear hz hb
  go_wp2_with fail
  go_ret
  rw [← HZ.out]
  exact ⟨rfl, HB.out⟩

theorem index_53 (p : Nat → Bool) (g k cp : Nat)  (A : Nat → Option Addr) (N C : Nat → Nat) (w : World) (hN : Nats w w.heap.size g k A N C) (hk : k ≤ 100)
    (hf : ∀ i, i < k → ∀ wr, Below w.heap.size w wr → Calls Try.prog 53 #[.agg #[.slice (A i) (N i) (C i)]] wr (RetB (.bool (p i)) wr)) :
    Calls Try.prog 81 #[.slice (some ⟨g, 0, none⟩) k cp, .func (.func 53) #[] #[]] w (RetIdx (anyB k p) w) := by
  have HN := hid hN
  have HFF := hid hf
  clear hN hf
  go_enter Try.func81, Try.ntmps81
  go_wp2_with fail
  go_loopw [8] (fun i wr => ∃ j : Nat, j ≤ k ∧ i = .int .i64 j ∧ (∀ i, i < j → p i = false) ∧ Below w.heap.size w wr) (fun i _ => k - (intOf i).toNat)
  case atStart => exact ⟨0, by omega, rfl, fun i hi => by omega, Below.refl _ _⟩
  case round =>
    obtain ⟨j, hj, rfl, hI, hb⟩ := hrel
    have HI := hid hI
    have HB := hid hb
    clear hI hb
    by_cases hlt : j < k
    · obtain ⟨g1, g2⟩ := (HN.out.below HB.out).2 j hlt
      have hr := HFF.out j hlt wr HB.out
      cases hp : p j
      · rw [hp] at hr
        have HR := hid hr
        have HP := hid hp
        clear hr hp
        go_wp2_with fail
        refine HR.out.mono ?_
        rintro e w1 ⟨rfl, hb⟩
        have HB1 := hid (HB.out.trans (hb.mono HB.out.size))
        clear hb
        go_wp2_with fail
        go_roundw
        case rel => exact ⟨j + 1, by omega, by go_num, fun i hi => by
          by_cases e : i = j
          · subst e; exact HP.out
          · exact HI.out i (by omega), HB1.out⟩
        case measure => simp [intOf] <;> omega
      · rw [hp] at hr
        have HR := hid hr
        have HF := hid (anyB_yes hlt hp)
        clear hr hp
        go_wp2_with fail
        refine HR.out.mono ?_
        rintro e w1 ⟨rfl, hb⟩
        have HB1 := hid (HB.out.trans (hb.mono HB.out.size))
        clear hb
        go_wp2_with fail
        go_ret
        exact ⟨_, rfl, by rw [HF.out]; simp, HB1.out⟩
    · have HF : Hid (anyB k p = false) := anyB_no fun i hi => HI.out i (by omega)
      go_wp2_with fail
      go_ret
      exact ⟨_, rfl, by rw [HF.out]; simp, HB.out⟩
theorem contains_53 (p : Nat → Bool) (g k cp : Nat)  (A : Nat → Option Addr) (N C : Nat → Nat) (w : World) (hN : Nats w w.heap.size g k A N C) (hk : k ≤ 100)
    (hf : ∀ i, i < k → ∀ wr, Below w.heap.size w wr → Calls Try.prog 53 #[.agg #[.slice (A i) (N i) (C i)]] wr (RetB (.bool (p i)) wr)) :
    Calls Try.prog 47 #[.slice (some ⟨g, 0, none⟩) k cp, .func (.func 53) #[] #[]] w (RetB (.bool (anyB k p)) w) := by
  have H := hid (index_53 p g k cp  A N C w hN hk hf)
  clear hN hf
  go_enter Try.func47, Try.ntmps47
  go_wp2_with fail
  refine H.out.mono ?_
  rintro e w1 ⟨z, rfl, hz, hb⟩
  have HZ := hid hz
  have HB := hid hb
  clear hz hb
  go_wp2_with fail
  go_ret
  rw [← HZ.out]
  exact ⟨rfl, HB.out⟩

theorem index_54 (p : Nat → Bool) (g k cp : Nat) (b : Nat) (A : Nat → Option Addr) (N C : Nat → Nat) (w : World) (hN : Nats w w.heap.size g k A N C) (hk : k ≤ 100)
    (hf : ∀ i, i < k → ∀ wr, Below w.heap.size w wr → Calls Try.prog 54 #[.agg #[.slice (A i) (N i) (C i)], .pointer (some ⟨b, 0, none⟩)] wr (RetB (.bool (p i)) wr)) :
    Calls Try.prog 81 #[.slice (some ⟨g, 0, none⟩) k cp, .func (.func 54) #[] #[.pointer (some ⟨b, 0, none⟩)]] w (RetIdx (anyB k p) w) := by
  have HN := hid hN
  have HFF := hid hf
  clear hN hf
  go_enter Try.func81, Try.ntmps81
  go_wp2_with fail
  go_loopw [8] (fun i wr => ∃ j : Nat, j ≤ k ∧ i = .int .i64 j ∧ (∀ i, i < j → p i = false) ∧ Below w.heap.size w wr) (fun i _ => k - (intOf i).toNat)
  case atStart => exact ⟨0, by omega, rfl, fun i hi => by omega, Below.refl _ _⟩
  case round =>
    obtain ⟨j, hj, rfl, hI, hb⟩ := hrel
    have HI := hid hI
    have HB := hid hb
    clear hI hb
    by_cases hlt : j < k
    · obtain ⟨g1, g2⟩ := (HN.out.below HB.out).2 j hlt
      have hr := HFF.out j hlt wr HB.out
      cases hp : p j
      · rw [hp] at hr
        have HR := hid hr
        have HP := hid hp
        clear hr hp
        go_wp2_with fail
        refine HR.out.mono ?_
        rintro e w1 ⟨rfl, hb⟩
        have HB1 := hid (HB.out.trans (hb.mono HB.out.size))
        clear hb
        go_wp2_with fail
        go_roundw
        case rel => exact ⟨j + 1, by omega, by go_num, fun i hi => by
          by_cases e : i = j
          · subst e; exact HP.out
          · exact HI.out i (by omega), HB1.out⟩
        case measure => simp [intOf] <;> omega
      · rw [hp] at hr
        have HR := hid hr
        have HF := hid (anyB_yes hlt hp)
        clear hr hp
        go_wp2_with fail
        refine HR.out.mono ?_
        rintro e w1 ⟨rfl, hb⟩
        have HB1 := hid (HB.out.trans (hb.mono HB.out.size))
        clear hb
        go_wp2_with fail
        go_ret
        exact ⟨_, rfl, by rw [HF.out]; simp, HB1.out⟩
    · have HF : Hid (anyB k p = false) := anyB_no fun i hi => HI.out i (by omega)
      go_wp2_with fail
      go_ret
      exact ⟨_, rfl, by rw [HF.out]; simp, HB.out⟩
theorem contains_54 (p : Nat → Bool) (g k cp : Nat) (b : Nat) (A : Nat → Option Addr) (N C : Nat → Nat) (w : World) (hN : Nats w w.heap.size g k A N C) (hk : k ≤ 100)
    (hf : ∀ i, i < k → ∀ wr, Below w.heap.size w wr → Calls Try.prog 54 #[.agg #[.slice (A i) (N i) (C i)], .pointer (some ⟨b, 0, none⟩)] wr (RetB (.bool (p i)) wr)) :
    Calls Try.prog 47 #[.slice (some ⟨g, 0, none⟩) k cp, .func (.func 54) #[] #[.pointer (some ⟨b, 0, none⟩)]] w (RetB (.bool (anyB k p)) w) := by
  have H := hid (index_54 p g k cp b A N C w hN hk hf)
  clear hN hf
  go_enter Try.func47, Try.ntmps47
  go_wp2_with fail
  refine H.out.mono ?_
  rintro e w1 ⟨z, rfl, hz, hb⟩
  have HZ := hid hz
  have HB := hid hb
  clear hz hb
  go_wp2_with fail
  go_ret
  rw [← HZ.out]
  exact ⟨rfl, HB.out⟩

end Go.Proofs.Ytckajjapockonaa
