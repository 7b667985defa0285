/- Certificates in memory of the call's own. -/
import Derived.Test.YtomkmkjkeihodaaDoorP15
import Derived.Maps.AppendAt
import Derived.OneCell
set_option linter.unusedVariables false
set_option linter.unusedSimpArgs false
namespace Go.Proofs.YtomkmkjkeihodaaDoor
open Go.RowKit

theorem add_zero0 (g i : Nat) : (⟨g, 0, none⟩ : Addr).add i = ⟨g, i, none⟩ := by rw [add_at, Nat.zero_add]
/-- A slice that reads as the n words of a, in blocks of S. -/
def NumS (w : World) (S : Nat → Prop) (A : Option Addr) (n a : Nat) : Prop :=
  a < 2 ^ (32 * n) ∧ (0 < n → ∃ ad, A = some ad ∧ S ad.block ∧ ∀ i, i < n → w.cell? (ad.add i) = some (.int .u32 ((dig a i : Nat) : Int)))
/-- The three cells of a certificate read as the tree, in blocks of S. -/
inductive CVS (w : World) (S : Nat → Prop) : Value → Value → Value → CT → Prop
  | mk {A A' P : Option Addr} {n c a m d b k e : Nat} {ps : List CT} (X Y Z : Nat → Value) (hN : NumS w S A n a) (hR : NumS w S A' m b) (hn : n ≤ 9223372036854775807) (hm : m ≤ 9223372036854775807) (hk : ps.length = k) (hk2 : k ≤ 9223372036854775807)
    (hP : ∀ i, i < k → ∃ ad, P = some ad ∧ S ad.block ∧ w.cell? (ad.add (i * 3)) = some (X i) ∧ w.cell? ⟨(ad.add (i * 3)).block, (ad.add (i * 3)).off + 1, none⟩ = some (Y i) ∧ w.cell? ⟨(ad.add (i * 3)).block, (ad.add (i * 3)).off + 2, none⟩ = some (Z i)) (hT : ∀ i (h : i < ps.length), CVS w S (X i) (Y i) (Z i) ps[i]) : CVS w S (.slice A n c) (.slice A' m d) (.slice P k e) (.node n a m b ps)
section
variable {w w' : World} {S S' : Nat → Prop} {x y z v : Value} {t : CT} {base n c a : Nat} {A : Option Addr} {ps : List CT}
theorem NumS.num (h : NumS w S A n a) (hS : ∀ b, S b → b < w.heap.size) : Num w w.heap.size A n a :=
  ⟨h.1, fun hn => by obtain ⟨ad, e, h1, h2⟩ := h.2 hn; exact ⟨ad, e, hS _ h1, h2⟩⟩
theorem NumS.keep (h : NumS w S A n a) (hk : ∀ b, S b → w'.heap[b]? = w.heap[b]? ∧ S' b) : NumS w' S' A n a :=
  ⟨h.1, fun hn => by
    obtain ⟨ad, e, h1, h2⟩ := h.2 hn
    exact ⟨ad, e, (hk _ h1).2, fun i hi => (World.cell?_of_block (by rw [add_block]; exact (hk _ h1).1)).trans (h2 i hi)⟩⟩
theorem CVS.cv (h : CVS w S x y z t) (hS : ∀ b, S b → b < w.heap.size) : CV w w.heap.size x y z t := by
  induction h with
  | mk X Y Z hN hR hn hm hk hk2 hP hT ih =>
    refine CV.mk X Y Z (hN.num hS) (hR.num hS) hn hm hk hk2 (fun i hi => ?_) (fun i h => ih i h)
    obtain ⟨ad, e, h1, h2, h3, h4⟩ := hP i hi
    exact ⟨ad, e, hS _ h1, h2, h3, h4⟩
theorem CVS.keep (h : CVS w S x y z t) (hk : ∀ b, S b → w'.heap[b]? = w.heap[b]? ∧ S' b) : CVS w' S' x y z t := by
  induction h with
  | mk X Y Z hN hR hn hm hk1 hk2 hP hT ih =>
    refine CVS.mk X Y Z (hN.keep hk) (hR.keep hk) hn hm hk1 hk2 (fun i hi => ?_) (fun i h => ih i h)
    obtain ⟨ad, e, h1, h2, h3, h4⟩ := hP i hi
    exact ⟨ad, e, (hk _ h1).2, (World.cell?_of_block (by rw [add_block]; exact (hk _ h1).1)).trans h2, (World.cell?_of_block (by show _ = w.heap[(ad.add (i * 3)).block]?; rw [add_block]; exact (hk _ h1).1)).trans h3, (World.cell?_of_block (by show _ = w.heap[(ad.add (i * 3)).block]?; rw [add_block]; exact (hk _ h1).1)).trans h4⟩
theorem CVS.slc (h : CVS w S x y z t) : ∃ A n c A' m d P k e, x = .slice A n c ∧ y = .slice A' m d ∧ z = .slice P k e := by
  cases h; exact ⟨_, _, _, _, _, _, _, _, _, rfl, rfl, rfl⟩
theorem Own.nums (h : Own w base A n c a) : NumS w (fun b => base ≤ b ∧ b < w.heap.size) A n a :=
  ⟨h.1, fun hn => by
    obtain ⟨g, cs, e, h1, hb, hc⟩ := h.2.2.2 hn
    exact ⟨_, e, ⟨h1, hb.lt⟩, fun i hi => by rw [add_at, Nat.zero_add, hb.cell]; exact hc i hi⟩⟩
def flat : List (Value × Value × Value) → List Value
  | [] => []
  | t :: l => t.1 :: t.2.1 :: t.2.2 :: flat l
theorem flat_app : ∀ (l m : List (Value × Value × Value)), flat (l ++ m) = flat l ++ flat m
  | [], m => rfl
  | t :: l, m => by rw [List.cons_append, flat, flat, flat_app l m]; rfl
theorem flat_len : ∀ (l : List (Value × Value × Value)), (flat l).length = l.length * 3
  | [] => rfl
  | t :: l => by rw [flat]; simp [flat_len l]; omega
theorem flat_at : ∀ (l : List (Value × Value × Value)) (i : Nat) (h : i < l.length), (flat l)[i * 3]? = some l[i].1 ∧ (flat l)[i * 3 + 1]? = some l[i].2.1 ∧ (flat l)[i * 3 + 2]? = some l[i].2.2
  | t :: l, 0, _ => ⟨rfl, rfl, rfl⟩
  | t :: l, i + 1, h => by
    obtain ⟨h1, h2, h3⟩ := flat_at l i (by simpa using h)
    rw [flat, show (i + 1) * 3 = i * 3 + 1 + 1 + 1 by omega]
    simp only [List.getElem?_cons_succ, List.getElem_cons_succ]
    exact ⟨h1, h2, h3⟩
/-- v is a slice of certificates, in memory of the call's own from block base on. -/
def OC (w : World) (base : Nat) (v : Value) (ps : List CT) : Prop :=
  ∃ T : List (Value × Value × Value), T.length = ps.length ∧ w.ownsRow base 40 3 v T.length (flat T) ∧
    ∀ i (h : i < T.length) (h' : i < ps.length), CVS w (fun b => base ≤ b ∧ b < w.heap.size ∧ some b ≠ v.ownBlock) T[i].1 T[i].2.1 T[i].2.2 ps[i]
theorem OC.nil (w : World) (base : Nat) : OC w base (.slice none 0 0) [] := ⟨[], rfl, World.ownsRow_nil _ _ _ _, fun i h _ => absurd h (by simp)⟩
theorem OC.kept (h : OC w base v ps) {row : Option Nat} (hg : w.grownBy w' row) (hr : ∀ g, row = some g → g < base) : OC w' base v ps := by
  obtain ⟨T, h1, h2, h3⟩ := h
  refine ⟨T, h1, h2.kept hg ?_, fun i hi hi' => (h3 i hi hi').keep fun b hb => ⟨hg.block b hb.2.1 (fun e => ?_), hb.1, Nat.lt_of_lt_of_le hb.2.1 hg.size, hb.2.2⟩⟩
  · cases hv : v.ownBlock with
    | none => exact .inl rfl
    | some k =>
      refine .inr fun e => ?_
      have h4 := (h2.lt k hv).1
      have h5 := hr k e.symm
      omega
  · have h5 := hr b e.symm
    have := hb.1
    omega
theorem grown_of {B : Nat} (hb : Below B w w') (hB : w.heap.size ≤ B) : w.grownBy w' none := ⟨hb.os, hb.tape, hb.output, hb.size, fun j hj _ => hb.block j (by omega)⟩
theorem OC.below (h : OC w base v ps) {B : Nat} (hb : Below B w w') (hB : w.heap.size ≤ B) : OC w' base v ps := h.kept (grown_of hb hB) (fun g e => by cases e)
theorem OC.slc (h : OC w base v ps) : ∃ P e, v = .slice P ps.length e ∧ ps.length ≤ 9223372036854775807 := by
  obtain ⟨T, h1, h2, h3⟩ := h
  rw [← h1]
  rcases h2.2 with ⟨e, h4⟩ | ⟨g, cap, cur, e, _, _, h5, h6, _⟩
  · exact ⟨none, 0, by rw [e, h4], by omega⟩
  · exact ⟨_, cap, e, by unfold maxLen at h6; omega⟩
/-- A certificate of one's own: number, root, and the row of parts. -/
theorem OC.cvs {A A' : Option Addr} {m d b : Nat} (h : OC w base v ps) {B : Nat} (hB : B ≤ base) (hN : NumS w (fun g => B ≤ g ∧ g < w.heap.size) A n a) (hR : NumS w (fun g => B ≤ g ∧ g < w.heap.size) A' m b) (hn : n ≤ 9223372036854775807) (hm : m ≤ 9223372036854775807) :
    CVS w (fun g => B ≤ g ∧ g < w.heap.size) (.slice A n c) (.slice A' m d) v (.node n a m b ps) := by
  obtain ⟨P, e, hv, hl⟩ := h.slc
  obtain ⟨T, h1, h2, h3⟩ := h
  subst hv
  refine CVS.mk (fun i => (T.getD i (.bool true, .bool true, .bool true)).1) (fun i => (T.getD i (.bool true, .bool true, .bool true)).2.1) (fun i => (T.getD i (.bool true, .bool true, .bool true)).2.2) hN hR hn hm rfl hl (fun i hi => ?_) (fun i hi => ?_)
  · have hi2 : i < T.length := by rw [h1]; exact hi
    rcases h2.2 with ⟨_, h4⟩ | ⟨g, cap, cur, e', hb, hg, _⟩
    · omega
    · injection e' with e1 e2 e3
      obtain ⟨f0, f1, f2⟩ := flat_at T i hi2
      have q := h2.cells (g := g) (by rw [e1]; rfl)
      have q0 := q _ _ f0
      have q1 := q _ _ f1
      have q2 := q _ _ f2
      rw [add_zero0] at q0 q1 q2
      refine ⟨⟨g, 0, none⟩, e1, ⟨Nat.le_trans hB hb, (Array.getElem?_eq_some_iff.1 hg).1⟩, ?_, ?_, ?_⟩
      · rw [add_zero0, q0, List.getD_eq_getElem?_getD, List.getElem?_eq_getElem hi2]; rfl
      · rw [add_zero0, q1, List.getD_eq_getElem?_getD, List.getElem?_eq_getElem hi2]; rfl
      · rw [add_zero0, q2, List.getD_eq_getElem?_getD, List.getElem?_eq_getElem hi2]; rfl
  · have hi2 : i < T.length := by rw [h1]; exact hi
    have h4 := (h3 i hi2 hi).keep (w' := w) (S' := fun g => B ≤ g ∧ g < w.heap.size) fun b hb => ⟨rfl, Nat.le_trans hB hb.1, hb.2.1⟩
    show CVS _ _ (T.getD i _).1 (T.getD i _).2.1 (T.getD i _).2.2 _
    rw [List.getD_eq_getElem?_getD, List.getElem?_eq_getElem hi2]
    exact h4
end
set_option maxRecDepth 100000 in
theorem info40 : (Tryd.prog.info? 40).map (fun i => (i.zero, i.size, i.bytes)) = some (some (.agg #[.slice none 0 0, .slice none 0 0, .slice none 0 0]), 3, 72) := by kernel_rfl
set_option maxRecDepth 100000 in
theorem wp_appc {ops : Array Oper} {rest : List Oper} {o : Oper} {a : Act} {Q : Exit → Act → World → Prop} (hgd : o.guard = none) (s x : Operand)
    (ho : o.op = .call { callee := .builtin .append, args := #[s, x], argTypes := #[38, 38] }) (base : Nat) (V : World) (v : Value) (ps : List CT) (X Y Z : Value) (t : CT) (hs : a.eval s = v) (hO : OC V base v ps) {gx : Nat}
    (hx : a.eval x = .slice (some ⟨gx, 0, none⟩) 1 1) (hgx : gx = V.heap.size) (hk : ps.length ≤ 1000000) (hb : base ≤ V.heap.size) (hT : CVS V (fun b => base ≤ b ∧ b < V.heap.size ∧ some b ≠ v.ownBlock) X Y Z t)
    (h : ∀ v' w', OC w' base v' (ps ++ [t]) → V.grownBy w' v.ownBlock → wpList Tryd.prog ops Q rest (a.put o.dst v') w') :
    wpList Tryd.prog ops Q (o :: rest) a (V.alloc (.cells #[X, Y, Z] 40)) := by
  subst hgx
  obtain ⟨i0, hi0, hz0, hz1, hz2⟩ := info_parts info40
  obtain ⟨T, h1, h2, h3⟩ := hO
  obtain ⟨A1, n1, c1, A2, n2, c2, A3, n3, c3, e1, e2, e3⟩ := hT.slc
  refine wpList_append_own_at _ hgd s x 38 ho base 40 i0 (.agg #[.slice none 0 0, .slice none 0 0, .slice none 0 0]) 3 72 Tryd.underlying38 hi0 hz0 hz1 hz2 rfl (by decide) v T.length (flat T) hs (h2.alloc _) ⟨V.heap.size, 0, none⟩ 1 1 [X, Y, Z] hx rfl ?_ ?_ (by unfold maxLen; omega) (by omega) (by simp; omega) ?_
  · intro j u hu
    have hB := Blk.new V 40 #[X, Y, Z]
    rw [add_zero0]
    match j, hu with
    | 0, hu => injection hu with hu; subst hu; exact (hB.cell 0).trans rfl
    | 1, hu => injection hu with hu; subst hu; exact (hB.cell 1).trans rfl
    | 2, hu => injection hu with hu; subst hu; exact (hB.cell 2).trans rfl
    | j + 3, hu => cases hu
  · intro u hu
    subst e1 e2 e3
    simp only [List.mem_cons, List.not_mem_nil, or_false] at hu
    rcases hu with rfl | rfl | rfl <;> rfl
  intro v' w' hown hg _ hblk
  have hgV : V.grownBy w' v.ownBlock := by
    refine ⟨hg.os, hg.tape, hg.output, Nat.le_trans (by simp) hg.size, fun k hk hne => ?_⟩
    exact (hg.block k (by simp; omega) hne).trans (Below.heap_alloc V _ k hk)
  have hS : ∀ b, (base ≤ b ∧ b < V.heap.size ∧ some b ≠ v.ownBlock) → w'.heap[b]? = V.heap[b]? ∧ (base ≤ b ∧ b < w'.heap.size ∧ some b ≠ v'.ownBlock) := by
    rintro b ⟨b1, b2, b3⟩
    refine ⟨hgV.block b b2 b3, b1, Nat.lt_of_lt_of_le b2 hgV.size, ?_⟩
    rcases hblk with e | e
    · rw [e]; exact b3
    · rw [e]
      intro h
      injection h with h
      simp at h
      omega
  refine h v' w' ⟨T ++ [(X, Y, Z)], by simp [h1], ?_, fun i hi hi' => ?_⟩ hgV
  · rw [flat_app, List.length_append]; exact hown
  · by_cases hl : i < T.length
    · have h4 := (h3 i hl (by omega)).keep hS
      rw [List.getElem_append_left hl, List.getElem_append_left (by omega)]
      exact h4
    · obtain rfl : i = T.length := by simp at hi; omega
      have h4 := hT.keep hS
      rw [List.getElem_append_right (by omega), List.getElem_append_right (by omega)]
      simpa [h1] using h4
end Go.Proofs.YtomkmkjkeihodaaDoor
