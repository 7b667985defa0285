/- What the walks of the statements carry: boxes that hold numbers; the statements' slices of numbers. -/
import Derived.Test.YtomkmkjkeihodaaDoorApp
set_option linter.unusedVariables false
set_option linter.unusedSimpArgs false
namespace Go.Proofs.YtomkmkjkeihodaaDoor
open Go.RowKit

/-- Block g is a variable that holds the slice A of n words, which reads as a. -/
def Box (V : World) (g : Nat) (A : Option Addr) (n c a : Nat) : Prop := Blk V g 37 #[.slice A n c] ∧ Num V V.heap.size A n a
section
variable {V V' : World} {g n c a : Nat} {A : Option Addr}
theorem Box.below (h : Box V g A n c a) (hb : Below V.heap.size V V') : Box V' g A n c a := ⟨h.1.below hb h.1.lt, (h.2.below hb).more hb.size⟩
theorem Box.cell (h : Box V g A n c a) : V.cell? ⟨g, 0, none⟩ = some (.slice A n c) := h.1.cell0
theorem Box.lt (h : Box V g A n c a) : g < V.heap.size := h.1.lt
theorem Box.num (h : Box V g A n c a) : Num V V.heap.size A n a := h.2
/-- A new variable that holds a slice that is there. -/
theorem Box.mk (hb : Blk V' g 37 #[.slice A n c]) (hN : Num V V.heap.size A n a) (h : Below V.heap.size V V') : Box V' g A n c a := ⟨hb, (hN.below h).more h.size⟩
theorem NatV.open_ {base : Nat} {v : Value} (h : NatV V base v a) : ∃ A c, v = .agg #[.slice A (nw a) c] ∧ Num V V.heap.size A (nw a) a := by
  obtain ⟨A, c, e, ho⟩ := h
  exact ⟨A, c, e, ho.num⟩
end

/-! The exported functions once more, at values that are known to be valid. -/
theorem okB_nw {a : Nat} (h : nw a ≤ 64) : okB (nw a) a = true := okB_yes.2 ⟨rfl, h⟩
theorem limS_ok {a : Nat} (h : nw a ≤ 64) : limS a = (a, 0) := by unfold limS; rw [if_pos h]
theorem limS_big {a : Nat} (h : ¬ nw a ≤ 64) : limS a = (0, 9) := by unfold limS; rw [if_neg h]
theorem sameB_num (a b : Nat) : sameB (nw a) a (nw b) b = decide (a = b) := by
  by_cases h : a = b
  · subst h; rw [sameB_yes]; simp
  · rw [sameB_no (fun c => h c.2)]; simpa using h

end Go.Proofs.YtomkmkjkeihodaaDoor
