/- Memory; rows of bytes. -/
import Derived.Test.YtenmdfhdiepfcaaDoorRows
import Derived.Test.YtenmdfhdiepfcaaDoorSha
import Derived.WalkKit
import Derived.Below
import Derived.Laws.OwnMore
import Derived.Laws.Rows
import Derived.Laws.Tables
import Derived.Laws.CopyOwn
import Derived.Deep.AppendLies
import Derived.Deep.Draws
import Derived.Deep.OwnRows
import Derived.Deep.WholeRow
import Derived.Maps.AppendAt
import Derived.OneCell
import Derived.WalkSmall
import Derived.WalkSpells
import Derived.WalkLawsBesides
import Derived.Deep.QuietTactic
import Derived.BigQuiet
import Derived.Outline
import Derived.RangeFuncNested
import Derived.RangeFuncBound
import Derived.RangeFuncCalls
import Derived.RangeFuncLeaves
import Derived.Shelf.Abstract
import Derived.OwnWalkIn
import Derived.TacticsInMore
import Derived.LoopNIn
import Derived.LoopIn
import Derived.Laws.BitsAllLaws
import Derived.Laws.ShiftsVarLaws
set_option linter.unusedVariables false
set_option linter.unusedSimpArgs false
namespace Go.Proofs.YtenmdfhdiepfcaaDoor
open Go Go.RowKit

theorem hid {p : Prop} (h : p) : Hid p := h

theorem below_drewN {B : Nat} {a w : World} (h : Below B a w) (n : Nat) : Below B a (w.drewN n) := ⟨h.os, h.tape, h.output, h.size, h.block⟩

theorem block_of_add (a : Addr) (n : Nat) : (a.add n).block = a.block := by unfold Addr.add; split <;> rfl
theorem add_of_add (a : Addr) (i j : Nat) : (a.add i).add j = a.add (i + j) := by
  unfold Addr.add
  by_cases hi : i = 0 <;> by_cases hj : j = 0 <;> simp [hi, hj, Nat.add_assoc]
theorem add_at (g o i : Nat) : (⟨g, o, none⟩ : Addr).add i = ⟨g, o + i, none⟩ := by unfold Addr.add; split <;> simp_all

/-- Block g is just the cells cs of element type t, none of them frozen. -/
def Blk (w : World) (g : Nat) (t : TypeId) (cs : Array Value) : Prop := w.heap[g]? = some (.cells cs t (0, 0))

section
variable {w w' : World} {g : Nat} {t : TypeId} {cs : Array Value}
theorem Blk.lt (h : Blk w g t cs) : g < w.heap.size := by
  rcases Nat.lt_or_ge g w.heap.size with hlt | hge
  · exact hlt
  · unfold Blk at h; rw [Array.getElem?_eq_none hge] at h; cases h
theorem Blk.cell (h : Blk w g t cs) (i : Nat) : w.cell? ⟨g, i, none⟩ = cs[i]? := cell_of_row w g i cs t (0, 0) h
theorem Blk.frozen (h : Blk w g t cs) (i : Nat) : w.frozen? ⟨g, i, none⟩ = false := by
  unfold Blk at h
  simp [World.frozen?, h]
theorem Blk.new (w : World) (t : TypeId) (cs : Array Value) : Blk (w.alloc (.cells cs t)) w.heap.size t cs := heap_alloc_new w _
theorem Blk.drewN (h : Blk w g t cs) (n : Nat) : Blk (w.drewN n) g t cs := h
theorem Blk.alloc (h : Blk w g t cs) (o : Obj) : Blk (w.alloc o) g t cs := (Below.heap_alloc w o g h.lt).trans h
theorem Blk.set_ (h : Blk w g t cs) (i : Nat) (u : Value) : Blk (w.setCell ⟨g, i, none⟩ u) g t (cs.setIfInBounds i u) := by
  unfold Blk at h ⊢
  simp [World.setCell, Array.getElem?_modify, h]
theorem Blk.far (h : Blk w g t cs) {p : Addr} (hp : g ≠ p.block) (u : Value) : Blk (w.setCell p u) g t cs := (Below.heap_setCell w p u g hp).trans h
theorem Blk.below {B : Nat} (h : Blk w g t cs) (hb : Below B w w') (hg : g < B) : Blk w' g t cs := (hb.block g hg).trans h
theorem Blk.grown {row : Option Nat} (h : Blk w g t cs) (hb : w.grownBy w' row) (hg : some g ≠ row) : Blk w' g t cs := (hb.block g h.lt hg).trans h
end

def byt (d : Nat) : Value := .int .u8 ((d : Nat) : Int)
/-- v is a slice of the bytes l, in memory of the call's own, from block base on (or nil). -/
def OB (w : World) (base : Nat) (v : Value) (l : List Nat) : Prop := w.ownsRow base 5 1 v l.length (l.map byt)

section
variable {w w' : World} {base b : Nat} {v : Value} {l : List Nat}
theorem OB.nil (w : World) (base : Nat) : OB w base (.slice none 0 0) [] := World.ownsRow_nil _ _ _ _
theorem OB.below (h : OB w base v l) {b : Nat} (hb : Below b w w') (hs : w.heap.size ≤ b) : OB w' base v l :=
  World.ownsRow.kept (row := none) h ⟨hb.os, hb.tape, hb.output, hb.size, fun j hj _ => hb.block j (by omega)⟩ (by cases v.ownBlock <;> simp)
theorem OB.alloc (h : OB w base v l) (o : Obj) : OB (w.alloc o) base v l := World.ownsRow.alloc h o
theorem OB.drew (h : OB w base v l) : OB w.drew base v l := h
theorem OB.blk (h : OB w base v l) : (v = .slice none 0 0 ∧ l = []) ∨
    ∃ g c cur, v = .slice (some ⟨g, 0, none⟩) l.length c ∧ base ≤ g ∧ Blk w g 5 cur ∧ l.length ≤ c ∧ c ≤ maxLen ∧ cur.size = c ∧ cur.toList.take l.length = l.map byt := by
  rcases h.2 with ⟨h1, h2⟩ | ⟨g, c, cur, h1, h2, h3, h4, h5, h6, h7⟩
  · exact .inl ⟨h1, List.length_eq_zero_iff.1 h2⟩
  · exact .inr ⟨g, c, cur, h1, h2, h3, h4, h5, by omega, by simpa using h7⟩
theorem OB.slc (h : OB w base v l) : ∃ A c, v = .slice A l.length c := by
  rcases h.blk with ⟨h1, h2⟩ | ⟨g, c, cur, h1, _⟩
  · exact ⟨none, 0, by rw [h1, h2]; rfl⟩
  · exact ⟨_, c, h1⟩
theorem OB.cell {A : Option Addr} {n c : Nat} (h : OB w base (.slice A n c) l) {i : Nat} (hi : i < l.length) :
    ∃ g, A = some ⟨g, 0, none⟩ ∧ base ≤ g ∧ w.cell? ⟨g, i, none⟩ = some (byt l[i]) ∧ w.frozen? ⟨g, i, none⟩ = false := by
  rcases h.blk with ⟨h1, h2⟩ | ⟨g, c', cur, h1, h2, h3, h4, h5, h6, h7⟩
  · subst h2; exact absurd hi (by simp)
  · injection h1 with e1 e2 e3
    refine ⟨g, e1, h2, ?_, h3.frozen i⟩
    rw [h3.cell i]
    have e : (l.map byt)[i]? = some (byt l[i]) := by rw [List.getElem?_map, List.getElem?_eq_getElem hi]; rfl
    rw [← h7, List.getElem?_take, if_pos hi, Array.getElem?_toList] at e
    exact e
/-- A store into a block of another type leaves it. -/
theorem OB.box (h : OB w base v l) {p : Addr} {t : TypeId} {cs : Array Value} (hp : Blk w p.block t cs) (ht : t ≠ 5) (u : Value) : OB (w.setCell p u) base v l := by
  refine ownsRow_setCell_other h (fun e => ?_) u
  rcases h.blk with ⟨h1, h2⟩ | ⟨g, c', cur, h1, h2, h3, _⟩
  · rw [h1] at e; cases e
  · rw [h1] at e
    injection e with e
    have e' : g = p.block := e
    subst e'
    unfold Blk at h3 hp
    rw [h3] at hp
    injection hp with hp
    injection hp with _ hp
    exact ht hp.symm
theorem OB.weak (h : OB w base v l) (hb : b ≤ base) : OB w b v l := by
  refine ⟨h.1, ?_⟩
  rcases h.2 with h1 | ⟨g, c, cur, h1, h2, h3⟩
  · exact .inl h1
  · exact .inr ⟨g, c, cur, h1, by omega, h3⟩
theorem OB.row (h : OB w base v l) : ∀ k, v.ownBlock = some k → base ≤ k ∧ k < w.heap.size := World.ownsRow.lt h
/-- What does not lie in the row stays. -/
theorem OB.apart (h : OB w base v l) {g : Nat} {t : TypeId} {cs : Array Value} (hp : Blk w g t cs) (ht : t ≠ 5) : some g ≠ v.ownBlock := by
  intro e
  rcases h.blk with ⟨h1, h2⟩ | ⟨g', c', cur, h1, h2, h3, _⟩
  · rw [h1] at e; cases e
  · rw [h1] at e
    injection e with e
    have e' : g = g' := e
    subst e'
    unfold Blk at h3 hp
    rw [h3] at hp
    injection hp with hp
    injection hp with _ hp
    exact ht hp.symm
theorem OB.gblk (h : OB w base v l) (hg : w.grownBy w' v.ownBlock) {g : Nat} {t : TypeId} {cs : Array Value} (hp : Blk w g t cs) (ht : t ≠ 5) : Blk w' g t cs := hp.grown hg (h.apart hp ht)
theorem OB.gbelow (h : OB w base v l) (hg : w.grownBy w' v.ownBlock) {B : Nat} {w0 : World} (hB : B ≤ base) (hs : B ≤ w.heap.size) (hb : Below B w0 w) : Below B w0 w' :=
  hb.grown hg hs (fun k e => Nat.le_trans hB (h.row k e).1)
end

theorem info5 : (Tryd.prog.info? 5).map (fun i => (i.zero, i.size, i.bytes)) = some (some (.int .u8 0), 1, 1) := by kernel_rfl
theorem byt_one (l : List Nat) : ∀ u ∈ l.map byt, u.oneCell' = true := by
  intro u hu
  obtain ⟨d, _, rfl⟩ := List.mem_map.1 hu
  rfl

theorem wp_appb {ops : Array Oper} {rest : List Oper} {o : Oper} {a : Act} {Q : Exit → Act → World → Prop} (hgd : o.guard = none) (s x : Operand)
    (ho : o.op = .call { callee := .builtin .append, args := #[s, x], argTypes := #[22, 22] }) (base : Nat) (V : World) (v : Value) (l : List Nat) (y : Nat) (hs : a.eval s = v) (hO : OB V base v l)
    (hx : a.eval x = .slice (some ⟨V.heap.size, 0, none⟩) 1 1) (hk : l.length ≤ 1000000) (hb : base ≤ V.heap.size)
    (h : ∀ v' w', OB w' base v' (l ++ [y]) → V.grownBy w' v.ownBlock → wpList Tryd.prog ops Q rest (a.put o.dst v') w') :
    wpList Tryd.prog ops Q (o :: rest) a (V.alloc (.cells #[.int .u8 ((y : Nat) : Int)] 5)) := by
  obtain ⟨i0, hi0, hz0, hz1, hz2⟩ := info_parts info5
  refine wpList_append_own_at _ hgd s x 22 ho base 5 i0 (.int .u8 0) 1 1 Tryd.underlying22 hi0 hz0 hz1 hz2 rfl (by decide) v l.length (l.map byt) hs (hO.alloc _) ⟨V.heap.size, 0, none⟩ 1 1 [byt y] hx rfl ?_ (byt_one [y]) (by unfold maxLen; omega) (by omega) (by simp; omega) ?_
  · intro j u hu
    have hB := Blk.new V 5 #[byt y]
    cases j with
    | zero => injection hu with hu; subst hu; exact (hB.cell 0).trans rfl
    | succ j => cases hu
  intro v' w' hown hg _ _
  refine h v' w' ?_ ?_
  · unfold OB; simpa using hown
  · refine ⟨hg.os, hg.tape, hg.output, Nat.le_trans (by simp) hg.size, fun k hk hne => ?_⟩
    exact (hg.block k (by simp; omega) hne).trans (Below.heap_alloc V _ k hk)

/-- The last byte away. -/
theorem OB.pop {w : World} {base : Nat} {A : Option Addr} {n c y : Nat} {l : List Nat} (h : OB w base (.slice A n c) (l ++ [y])) : OB w base (.slice A l.length c) l := by
  rcases h.blk with ⟨h1, h2⟩ | ⟨g, c', cur, h1, _⟩
  · exact absurd h2 (by simp)
  · injection h1 with e1 e2 e3
    subst e1 e2 e3
    unfold OB at h ⊢
    rw [List.map_append, List.length_append] at h
    exact ownsRow_pop (n := l.length) (size := 1) (last := [byt y]) (by simp) (by simpa using h)

theorem OB.cap {w : World} {base n c : Nat} {A : Option Addr} {l : List Nat} (h : OB w base (.slice A n c) l) : l.length ≤ c ∧ c ≤ 9223372036854775807 := by
  rcases h.blk with ⟨h1, h2⟩ | ⟨g, c', cur, h1, h2, h3, h4, h5, _⟩
  · subst h2; injection h1 with _ _ h1; subst h1; exact ⟨Nat.zero_le _, Nat.zero_le _⟩
  · injection h1 with _ _ h1; subst h1; unfold maxLen at h5; exact ⟨h4, by omega⟩
theorem OB.len_bd {w : World} {base n c : Nat} {A : Option Addr} {l : List Nat} (h : OB w base (.slice A n c) l) (hn : l.length = n) : n ≤ 9223372036854775807 := by
  rcases h.blk with ⟨h1, h2⟩ | ⟨g, c', cur, h1, h2, h3, h4, h5, _⟩
  · subst h2; rw [← hn]; exact Nat.zero_le _
  · unfold maxLen at h5; omega
theorem made_bytes (n : Nat) : madeCells #[Value.int .u8 0] n = ((List.replicate n 0).map byt).toArray := by
  apply Array.ext'
  rw [toList_madeCells_one, List.map_replicate]
  rfl
theorem make_bytes (n : Nat) (h : n ≤ 1000000) (w : World) :
    (Instr.makeSlice 22 (.int .i64 (n : Int)) (.int .i64 (n : Int))).run Tryd.prog w = .ok (.slice (some ⟨w.heap.size, 0, none⟩) n n) (w.alloc (.cells ((List.replicate n 0).map byt).toArray 5)) := by
  rw [← made_bytes]
  exact run_make_row' (P := Tryd.prog) 22 5 (.int .u8 0) 1 Tryd.underlying22 info5 rfl .i64 .i64 n (by omega) (by omega) w
theorem splice_bytes (L : List Nat) (off : Nat) : splice ((List.replicate (off + L.length) 0).map byt) off (L.map byt) = (List.replicate off 0 ++ L).map byt := by
  unfold splice
  rw [List.length_map, List.map_append, ← List.map_take, List.take_replicate, Nat.min_eq_left (by omega), List.drop_eq_nil_of_le (by simp), List.append_nil]
theorem OB.made {w : World} {base g n : Nat} {l : List Nat} (hb : base ≤ g) (hn : l.length = n) (hm : n ≤ 1000000) (h : w.heap[g]? = some (.cells (l.map byt).toArray 5 (0, 0))) : OB w base (.slice (some ⟨g, 0, none⟩) n n) l := by
  subst hn
  exact ⟨by simp, .inr ⟨g, l.length, _, rfl, hb, h, Nat.le_refl _, by unfold maxLen; omega, by simp, by rw [Nat.mul_one, List.take_of_length_le (by simp)]⟩⟩
theorem rep_bytes (s : Nat) : Array.replicate s (byt 0) = ((List.replicate s 0).map byt).toArray := by
  apply Array.ext'
  rw [List.map_replicate]
  simp
theorem OB.src {w : World} {base n c : Nat} {A : Option Addr} {l : List Nat} (h : OB w base (.slice A n c) l) (h0 : 0 < l.length) : ∃ ad, A = some ad ∧ ∀ j v, (l.map byt)[j]? = some v → w.cell? (ad.add j) = some v := by
  obtain ⟨g, e, _⟩ := h.cell h0
  refine ⟨⟨g, 0, none⟩, e, fun j v hv => ?_⟩
  have hj : j < l.length := by
    rcases Nat.lt_or_ge j l.length with h1 | h1
    · exact h1
    · rw [List.getElem?_eq_none (by simpa using h1)] at hv; cases hv
  obtain ⟨g', e', _, hc, _⟩ := h.cell hj
  rw [e] at e'
  injection e' with e'
  injection e' with e'
  subst e'
  rw [add_at, Nat.zero_add, hc, ← hv, List.getElem?_map, List.getElem?_eq_getElem hj]
  rfl
def BN (w : World) (B : Nat) (A : Option Addr) (l : List Nat) : Prop := ∀ i (h : i < l.length), ∃ ad, A = some ad ∧ ad.block < B ∧ w.cell? (ad.add i) = some (byt l[i]) ∧ l[i] ≤ 255
theorem BN.below {w w' : World} {B : Nat} {A : Option Addr} {l : List Nat} (h : BN w B A l) (hb : Below B w w') : BN w' B A l := by
  intro i hi
  obtain ⟨ad, e, h1, h2, h3⟩ := h i hi
  exact ⟨ad, e, h1, (hb.cell (p := ad.add i) (by show (ad.add i).block < B; unfold Addr.add; split <;> exact h1)).trans h2, h3⟩
/-- The number with these digits in base b, the highest one first. -/
def vb (b : Nat) (l : List Nat) : Nat := l.foldl (fun v d => v * b + d) 0
end Go.Proofs.YtenmdfhdiepfcaaDoor
