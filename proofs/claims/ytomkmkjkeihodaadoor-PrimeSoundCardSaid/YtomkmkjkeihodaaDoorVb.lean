/- Variables that hold numbers which no store into a variable touches. -/
import Derived.Test.YtomkmkjkeihodaaDoorPhase
import Derived.Test.YtomkmkjkeihodaaDoorTop3
set_option linter.unusedVariables false
set_option linter.unusedSimpArgs false
namespace Go.Proofs.YtomkmkjkeihodaaDoor
open Go.RowKit

/-- A slice of words that no store into a variable touches: an argument's, or the call's own. -/
def Val (B0 : Nat) (wr : World) (A : Option Addr) (n c a : Nat) : Prop := Num wr B0 A n a ∨ Own wr B0 A n c a
section
variable {wr w' : World} {A : Option Addr} {B0 n c a : Nat}
theorem Val.num (h : Val B0 wr A n c a) (hs : B0 ≤ wr.heap.size) : Num wr wr.heap.size A n a := by
  rcases h with h | h
  · exact h.more hs
  · exact h.num
theorem Val.below (h : Val B0 wr A n c a) (hb : Below wr.heap.size wr w') (hs : B0 ≤ wr.heap.size) : Val B0 w' A n c a := by
  rcases h with h | h
  · exact .inl (h.below (hb.mono hs))
  · exact .inr (h.below hb (Nat.le_refl _))
theorem Val.box (h : Val B0 wr A n c a) {p : Addr} {cs : Array Value} (hp : Blk wr p.block 37 cs) (hg : B0 ≤ p.block) (u : Value) : Val B0 (wr.setCell p u) A n c a := by
  rcases h with h | h
  · exact .inl (h.setCell hg u)
  · exact .inr (h.box hp (by decide) u)
end
/-- The number that a variable holds. -/
noncomputable def numAt (w : World) (g : Nat) : Nat := by
  classical
  exact if h : ∃ a A n c, w.cell? ⟨g, 0, none⟩ = some (.slice A n c) ∧ Num w w.heap.size A n a then Classical.choose h else 0
theorem numAt_eq {w : World} {g n c a : Nat} {A : Option Addr} (h1 : w.cell? ⟨g, 0, none⟩ = some (.slice A n c)) (h2 : Num w w.heap.size A n a) : numAt w g = a := by
  classical
  unfold numAt
  have h : ∃ a A n c, w.cell? ⟨g, 0, none⟩ = some (.slice A n c) ∧ Num w w.heap.size A n a := ⟨a, A, n, c, h1, h2⟩
  rw [dif_pos h]
  obtain ⟨A', n', c', h3, h4⟩ := Classical.choose_spec h
  rw [h1] at h3
  injection h3 with h3
  injection h3 with e1 e2 e3
  subst e1 e2
  refine dig_ext h4.lt h2.lt (fun i hi => ?_)
  obtain ⟨ad, e, _, hc⟩ := h4.at_ hi
  obtain ⟨ad', e', _, hc'⟩ := h2.at_ hi
  rw [e] at e'
  injection e' with e'
  subst e'
  rw [hc] at hc'
  injection hc' with hc'
  injection hc' with _ hc'
  omega

/-- Block g, not older than the call, is a variable that holds the slice A of n words, an argument's or the call's own, which reads as a. -/
def VB (B : Nat) (V : World) (g : Nat) (A : Option Addr) (n c a : Nat) : Prop := Blk V g 37 #[.slice A n c] ∧ Val B V A n c a ∧ B ≤ g
section
variable {B : Nat} {V V' : World} {g n c a : Nat} {A : Option Addr}
theorem VB.below (h : VB B V g A n c a) (hb : Below V.heap.size V V') : VB B V' g A n c a := ⟨h.1.below hb h.1.lt, h.2.1.below hb (Nat.le_trans h.2.2 (Nat.le_of_lt h.1.lt)), h.2.2⟩
theorem VB.cell (h : VB B V g A n c a) : V.cell? ⟨g, 0, none⟩ = some (.slice A n c) := h.1.cell0
theorem VB.lt (h : VB B V g A n c a) : g < V.heap.size := h.1.lt
theorem VB.num (h : VB B V g A n c a) : Num V V.heap.size A n a := h.2.1.num (Nat.le_trans h.2.2 (Nat.le_of_lt h.1.lt))
theorem VB.mk (hb : Blk V' g 37 #[.slice A n c]) (hv : Val B V A n c a) (h : Below V.heap.size V V') (hs : B ≤ V.heap.size) (hg : B ≤ g) : VB B V' g A n c a := ⟨hb, hv.below h hs, hg⟩
theorem VB.drew (h : VB B V g A n c a) : VB B V.drew g A n c a := h
theorem VB.far (h : VB B V g A n c a) {p : Addr} {cs : Array Value} (hp : Blk V p.block 37 cs) (hg : B ≤ p.block) (hne : g ≠ p.block) (u : Value) : VB B (V.setCell p u) g A n c a := ⟨h.1.far hne u, h.2.1.box hp hg u, h.2.2⟩
theorem VB.set_ (h : VB B V g A n c a) {A' : Option Addr} {n' c' a' : Nat} (hv : Val B V A' n' c' a') : VB B (V.setCell ⟨g, 0, none⟩ (.slice A' n' c')) g A' n' c' a' :=
  ⟨h.1.set_ 0 _, hv.box (p := ⟨g, 0, none⟩) h.1 h.2.2 _, h.2.2⟩
theorem VB.alloc (h : VB B V g A n c a) (o : Obj) : VB B (V.alloc o) g A n c a := h.below ((Below.refl _ _).alloc (Nat.le_refl _) o)
end

/-- A slice of words that no store into a variable touches, once the call runs. -/
def VL (B : Nat) (V : World) (A : Option Addr) (n c a : Nat) : Prop := Val B V A n c a ∧ B ≤ V.heap.size
section
variable {B : Nat} {V V' : World} {g n c a : Nat} {A : Option Addr}
theorem VL.num (h : VL B V A n c a) : Num V V.heap.size A n a := h.1.num h.2
theorem VL.below (h : VL B V A n c a) {b : Nat} (hb : Below b V V') (hs : V.heap.size ≤ b) : VL B V' A n c a := ⟨h.1.below (hb.mono hs) h.2, Nat.le_trans h.2 (hb.mono hs).size⟩
theorem VL.drew (h : VL B V A n c a) : VL B V.drew A n c a := h
theorem VL.box (h : VL B V A n c a) {p : Addr} {cs : Array Value} (hp : Blk V p.block 37 cs) (hg : B ≤ p.block) (u : Value) : VL B (V.setCell p u) A n c a := ⟨h.1.box hp hg u, by simpa [World.setCell] using h.2⟩
end

end Go.Proofs.YtomkmkjkeihodaaDoor
