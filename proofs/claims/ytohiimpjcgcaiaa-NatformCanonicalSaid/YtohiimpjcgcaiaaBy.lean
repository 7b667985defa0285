/- Rows of bytes that the call owns: append of one byte, the last one away, slices.Reverse. -/
import Derived.Test.YtohiimpjcgcaiaaExt
import Derived.Maps.AppendAt
import Derived.OneCell
import Derived.WalkSmall
import Derived.Shelf.SlicesE.Reverse
set_option linter.unusedVariables false
set_option linter.unusedSimpArgs false
namespace Go.Proofs.Ytohiimpjcgcaiaa
open Go.RowKit

def byt (d : Nat) : Value := .int .u8 ((d : Nat) : Int)
/-- v is a slice of the bytes l, in memory of the call's own, from block base on (or nil). -/
def OB (w : World) (base : Nat) (v : Value) (l : List Nat) : Prop := w.ownsRow base 5 1 v l.length (l.map byt)

section
variable {w w' : World} {base b : Nat} {v : Value} {l : List Nat}
theorem OB.nil (w : World) (base : Nat) : OB w base (.slice none 0 0) [] := World.ownsRow_nil _ _ _ _
theorem OB.below (h : OB w base v l) {b : Nat} (hb : Below b w w') (hs : w.heap.size ≤ b) : OB w' base v l :=
  World.ownsRow.kept (row := none) h ⟨hb.os, hb.tape, hb.output, hb.size, fun j hj _ => hb.block j (by omega)⟩ (by cases v.ownBlock <;> simp)
theorem OB.alloc (h : OB w base v l) (o : Obj) : OB (w.alloc o) base v l := World.ownsRow.alloc h o
theorem OB.drew (h : OB w base v l) : OB w.drew base v l := h
theorem OB.blk (h : OB w base v l) : (v = .slice none 0 0 ∧ l = []) ∨
    ∃ g c cur, v = .slice (some ⟨g, 0, none⟩) l.length c ∧ base ≤ g ∧ Blk w g 5 cur ∧ l.length ≤ c ∧ c ≤ maxLen ∧ cur.size = c ∧ cur.toList.take l.length = l.map byt := by
  rcases h.2 with ⟨h1, h2⟩ | ⟨g, c, cur, h1, h2, h3, h4, h5, h6, h7⟩
  · exact .inl ⟨h1, List.length_eq_zero_iff.1 h2⟩
  · exact .inr ⟨g, c, cur, h1, h2, h3, h4, h5, by omega, by simpa using h7⟩
theorem OB.slc (h : OB w base v l) : ∃ A c, v = .slice A l.length c := by
  rcases h.blk with ⟨h1, h2⟩ | ⟨g, c, cur, h1, _⟩
  · exact ⟨none, 0, by rw [h1, h2]; rfl⟩
  · exact ⟨_, c, h1⟩
theorem OB.cell {A : Option Addr} {n c : Nat} (h : OB w base (.slice A n c) l) {i : Nat} (hi : i < l.length) :
    ∃ g, A = some ⟨g, 0, none⟩ ∧ base ≤ g ∧ w.cell? ⟨g, i, none⟩ = some (byt l[i]) ∧ w.frozen? ⟨g, i, none⟩ = false := by
  rcases h.blk with ⟨h1, h2⟩ | ⟨g, c', cur, h1, h2, h3, h4, h5, h6, h7⟩
  · subst h2; exact absurd hi (by simp)
  · injection h1 with e1 e2 e3
    refine ⟨g, e1, h2, ?_, h3.frozen i⟩
    rw [h3.cell i]
    have e : (l.map byt)[i]? = some (byt l[i]) := by rw [List.getElem?_map, List.getElem?_eq_getElem hi]; rfl
    rw [← h7, List.getElem?_take, if_pos hi, Array.getElem?_toList] at e
    exact e
/-- A store into a block of another type leaves it. -/
theorem OB.box (h : OB w base v l) {p : Addr} {t : TypeId} {cs : Array Value} (hp : Blk w p.block t cs) (ht : t ≠ 5) (u : Value) : OB (w.setCell p u) base v l := by
  refine ownsRow_setCell_other h (fun e => ?_) u
  rcases h.blk with ⟨h1, h2⟩ | ⟨g, c', cur, h1, h2, h3, _⟩
  · rw [h1] at e; cases e
  · rw [h1] at e
    injection e with e
    have e' : g = p.block := e
    subst e'
    unfold Blk at h3 hp
    rw [h3] at hp
    injection hp with hp
    injection hp with _ hp
    exact ht hp.symm
theorem OB.weak (h : OB w base v l) (hb : b ≤ base) : OB w b v l := by
  refine ⟨h.1, ?_⟩
  rcases h.2 with h1 | ⟨g, c, cur, h1, h2, h3⟩
  · exact .inl h1
  · exact .inr ⟨g, c, cur, h1, by omega, h3⟩
theorem OB.row (h : OB w base v l) : ∀ k, v.ownBlock = some k → base ≤ k ∧ k < w.heap.size := World.ownsRow.lt h
/-- What does not lie in the row stays. -/
theorem OB.apart (h : OB w base v l) {g : Nat} {t : TypeId} {cs : Array Value} (hp : Blk w g t cs) (ht : t ≠ 5) : some g ≠ v.ownBlock := by
  intro e
  rcases h.blk with ⟨h1, h2⟩ | ⟨g', c', cur, h1, h2, h3, _⟩
  · rw [h1] at e; cases e
  · rw [h1] at e
    injection e with e
    have e' : g = g' := e
    subst e'
    unfold Blk at h3 hp
    rw [h3] at hp
    injection hp with hp
    injection hp with _ hp
    exact ht hp.symm
theorem OB.gblk (h : OB w base v l) (hg : w.grownBy w' v.ownBlock) {g : Nat} {t : TypeId} {cs : Array Value} (hp : Blk w g t cs) (ht : t ≠ 5) : Blk w' g t cs := hp.grown hg (h.apart hp ht)
theorem OB.gown (h : OB w base v l) (hg : w.grownBy w' v.ownBlock) {A : Option Addr} {n c a : Nat} (ho : Own w b A n c a) : Own w' b A n c a :=
  ⟨ho.1, ho.2.1, ho.2.2.1, fun hn => by
    obtain ⟨g, cs, e, h1, h2, h3⟩ := ho.2.2.2 hn
    exact ⟨g, cs, e, h1, h.gblk hg h2 (by decide), h3⟩⟩
theorem OB.gnum (h : OB w base v l) (hg : w.grownBy w' v.ownBlock) {A : Option Addr} {B n a : Nat} (hB : B ≤ base) (hs : B ≤ w.heap.size) (hn : Num w B A n a) : Num w' B A n a :=
  hn.keep fun p hp => World.cell?_of_block (hg.block p.block (by omega) (fun e => by have := (h.row _ e.symm).1; omega))
theorem OB.gvb (h : OB w base v l) (hg : w.grownBy w' v.ownBlock) {A : Option Addr} {B g n c a : Nat} (hB : B ≤ base) (hv : VB B w g A n c a) : VB B w' g A n c a := by
  refine ⟨h.gblk hg hv.1 (by decide), ?_, hv.2.2⟩
  rcases hv.2.1 with h1 | h1
  · exact .inl (h.gnum hg hB (Nat.le_trans hv.2.2 (Nat.le_of_lt hv.1.lt)) h1)
  · exact .inr (h.gown hg h1)
theorem OB.gbelow (h : OB w base v l) (hg : w.grownBy w' v.ownBlock) {B : Nat} {w0 : World} (hB : B ≤ base) (hs : B ≤ w.heap.size) (hb : Below B w0 w) : Below B w0 w' :=
  hb.grown hg hs (fun k e => Nat.le_trans hB (h.row k e).1)
end

theorem info5 : (Try.prog.info? 5).map (fun i => (i.zero, i.size, i.bytes)) = some (some (.int .u8 0), 1, 1) := by kernel_rfl
theorem byt_one (l : List Nat) : ∀ u ∈ l.map byt, u.oneCell' = true := by
  intro u hu
  obtain ⟨d, _, rfl⟩ := List.mem_map.1 hu
  rfl

theorem wp_appb {ops : Array Oper} {rest : List Oper} {o : Oper} {a : Act} {Q : Exit → Act → World → Prop} (hgd : o.guard = none) (s x : Operand)
    (ho : o.op = .call { callee := .builtin .append, args := #[s, x], argTypes := #[37, 37] }) (base : Nat) (V : World) (v : Value) (l : List Nat) (y : Nat) (hs : a.eval s = v) (hO : OB V base v l)
    (hx : a.eval x = .slice (some ⟨V.heap.size, 0, none⟩) 1 1) (hk : l.length ≤ 1000000) (hb : base ≤ V.heap.size)
    (h : ∀ v' w', OB w' base v' (l ++ [y]) → V.grownBy w' v.ownBlock → wpList Try.prog ops Q rest (a.put o.dst v') w') :
    wpList Try.prog ops Q (o :: rest) a (V.alloc (.cells #[.int .u8 ((y : Nat) : Int)] 5)) := by
  obtain ⟨i0, hi0, hz0, hz1, hz2⟩ := info_parts info5
  refine wpList_append_own_at _ hgd s x 37 ho base 5 i0 (.int .u8 0) 1 1 Try.underlying37 hi0 hz0 hz1 hz2 rfl (by decide) v l.length (l.map byt) hs (hO.alloc _) ⟨V.heap.size, 0, none⟩ 1 1 [byt y] hx rfl ?_ (byt_one [y]) (by unfold maxLen; omega) (by omega) (by simp; omega) ?_
  · intro j u hu
    have hB := Blk.new V 5 #[byt y]
    cases j with
    | zero => injection hu with hu; subst hu; exact (hB.cell 0).trans rfl
    | succ j => cases hu
  intro v' w' hown hg _ _
  refine h v' w' ?_ ?_
  · unfold OB; simpa using hown
  · refine ⟨hg.os, hg.tape, hg.output, Nat.le_trans (by simp) hg.size, fun k hk hne => ?_⟩
    exact (hg.block k (by simp; omega) hne).trans (Below.heap_alloc V _ k hk)

/-- The last byte away. -/
theorem OB.pop {w : World} {base : Nat} {A : Option Addr} {n c y : Nat} {l : List Nat} (h : OB w base (.slice A n c) (l ++ [y])) : OB w base (.slice A l.length c) l := by
  rcases h.blk with ⟨h1, h2⟩ | ⟨g, c', cur, h1, _⟩
  · exact absurd h2 (by simp)
  · injection h1 with e1 e2 e3
    subst e1 e2 e3
    unfold OB at h ⊢
    rw [List.map_append, List.length_append] at h
    exact ownsRow_pop (n := l.length) (size := 1) (last := [byt y]) (by simp) (by simpa using h)

def revRen : Go.Shelf.Ren := ⟨fun | 35 => 39 | n => n, fun | 22 => 37 | 23 => 5 | 0 => 0 | 3 => 3 | 4 => 4 | n => n, fun | n => n⟩
theorem revLay : SlLaysE.n35 Try.prog revRen := {
  mixed := by kernel_rfl
  f35 := ⟨Try.f39.name, by decide, Try.func39.trans (congrArg some (by kernel_rfl))⟩
  t0 := Try.underlying0
  a0 := Try.isAgg0
  z0 := Try.sizeOf0
  v0 := Try.zeroValue0
  t3 := Try.underlying3
  a3 := Try.isAgg3
  z3 := Try.sizeOf3
  v3 := Try.zeroValue3
  t4 := Try.underlying4
  a4 := Try.isAgg4
  z4 := Try.sizeOf4
  v4 := Try.zeroValue4
  t22 := Try.underlying37
  a22 := Try.isAgg37
  z22 := Try.sizeOf37
  v22 := Try.zeroValue37
  a23 := Try.isAgg5
  z23 := Try.sizeOf5 }
theorem rev_any (V : World) (base : Nat) (v : Value) (l : List Nat) (hO : OB V base v l) :
    Calls Try.prog 39 #[v] V fun e w' => e = .returned (.tuple #[]) ∧ OB w' base v l.reverse ∧ V.grownBy w' v.ownBlock := by
  rcases hO.blk with ⟨h1, h2⟩ | ⟨g, c, cur, h1, h2, h3, h4, h5, h6, h7⟩
  · subst h2
    rw [h1]
    have h := AnyE.slices_Reverse_empty revLay none 0 V
    refine h.mono ?_
    rintro e w' ⟨rfl, rfl⟩
    exact ⟨rfl, OB.nil _ _, rfl, rfl, rfl, Nat.le_refl _, fun _ _ _ => rfl⟩
  · have hH : Go.Sort.Holds byt V g 0 l.toArray := by
      intro j hj
      have hj' : j < l.length := by simpa using hj
      rw [h1] at hO
      obtain ⟨g', e, _, hc, hf⟩ := hO.cell hj'
      injection e with e
      injection e with e
      subst e
      rw [Nat.zero_add, getElem!_pos l.toArray j hj]
      exact ⟨hc, hf⟩
    have h := AnyE.slices_Reverse revLay byt (fun _ => rfl) g 0 c l V hH (by unfold maxLen at h5; omega)
    rw [h1]
    refine h.mono ?_
    rintro e w' ⟨rfl, k, rfl⟩
    have hb : Blk (Go.Sort.putRow byt (Go.Sort.ahead V k) g 0 l.reverse.toArray) g 5 (Go.Sort.putCells byt 0 l.reverse.toArray cur) := by
      unfold Blk Go.Sort.putRow Go.Sort.mapBlock Go.Sort.ahead
      show (V.heap.modify g _)[g]? = _
      rw [Array.getElem?_modify, if_pos rfl]
      unfold Blk at h3
      rw [h3]
      rfl
    refine ⟨rfl, ⟨by simp, .inr ⟨g, c, _, by simp, h2, hb, by simpa using h4, h5, by simp [Go.Sort.putCells, h6], ?_⟩⟩, rfl, rfl, rfl, ?_, fun j hj hne => ?_⟩
    · apply List.ext_getElem?
      intro j
      rw [List.length_reverse, Nat.mul_one, List.getElem?_take]
      by_cases hj : j < l.length
      · rw [if_pos hj, Array.getElem?_toList, Go.Sort.putCells, Array.getElem?_mapIdx, Array.getElem?_eq_getElem (by omega), Option.map_some, if_pos ⟨by omega, by simpa using hj⟩, List.getElem?_map]
        have hj2 : j < l.reverse.toArray.size := by simpa using hj
        rw [Nat.sub_zero, getElem!_pos l.reverse.toArray j hj2, List.getElem?_eq_getElem (by simpa using hj)]
        simp
      · rw [if_neg hj, List.getElem?_eq_none (by simp; omega)]
    · show V.heap.size ≤ (V.heap.modify g _).size
      simp
    · have hne' : g ≠ j := fun e => hne (by rw [← e]; rfl)
      show (V.heap.modify g _)[j]? = _
      rw [Array.getElem?_modify, if_neg hne']
end Go.Proofs.Ytohiimpjcgcaiaa
