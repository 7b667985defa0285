/- append of one word. -/
import Derived.Test.YtomkmkjkeihodaaDoorLaw
import Derived.Laws.AppendOwnNone
set_option linter.unusedVariables false
set_option linter.unusedSimpArgs false
namespace Go.Proofs.YtomkmkjkeihodaaDoor
open Go.RowKit

theorem num_blk {w : World} {g n a B : Nat} (h : Blk w g 48 (words n a)) (ha : a < 2 ^ (32 * n)) (hB : g < B) : Num w B (some ⟨g, 0, none⟩) n a := Row.num ⟨ha, h⟩ hB
theorem wp_app1 {ops : Array Oper} {rest : List Oper} {o : Oper} {a : Act} {Q : Exit → Act → World → Prop} (hgd : o.guard = none) (s x : Operand)
    (ho : o.op = .call { callee := .builtin .append, args := #[s, x], argTypes := #[35, 35] }) (base : Nat) (V : World) (v : Value) (k S y : Nat) (hs : a.eval s = v) (hO : OwnsV V base v k S)
    (hx : a.eval x = .slice (some ⟨V.heap.size, 0, none⟩) 1 1) (hy : y ≤ 4294967295) (hk : k ≤ 1000000) (hb : base ≤ V.heap.size)
    (h : ∀ A c w', OwnsV w' base (.slice (some A) (k + 1) c) (k + 1) (y * 2 ^ (32 * k) + S) → Below base V w' → A.block < w'.heap.size → k + 1 ≤ c → wpList Tryd.prog ops Q rest (a.put o.dst (.slice (some A) (k + 1) c)) w') :
    wpList Tryd.prog ops Q (o :: rest) a (V.alloc (.cells #[.int .u32 ((y : Nat) : Int)] 48)) := by
  obtain ⟨i0, hi0, hz0, hz1, hz2⟩ := info_parts info48
  have hy2 : y < 2 ^ (32 * 1) := by show y < 4294967296; omega
  have hw : words 1 y = #[.int .u32 ((y : Nat) : Int)] := by
    show #[Value.int .u32 ((dig y 0 : Nat) : Int)] = _
    rw [show dig y 0 = y by unfold dig; rw [show 2 ^ (32 * 0) = 1 from rfl]; omega]
  have hN : Num (V.alloc (.cells #[.int .u32 ((y : Nat) : Int)] 48)) (V.heap.size + 1) (some ⟨V.heap.size, 0, none⟩) 1 y := by
    rw [← hw]; exact num_blk (Blk.new V 48 (words 1 y)) hy2 (by omega)
  refine wpList_append_own_at _ hgd s x 35 ho base 48 i0 (.int .u32 0) 1 4 Tryd.underlying35 hi0 hz0 hz1 hz2 rfl (by decide) v k (words k S).toList hs (hO.alloc _).2 ⟨V.heap.size, 0, none⟩ 1 1 (words 1 y).toList hx (words_len 1 y) hN.news (words_oneCell 1 y) (by unfold maxLen; omega) (by omega) (by simp; omega) ?_
  intro v' w' hown hg hnil _
  have h1 := OwnsV.app (k := k) (m := 1) hO.1 hy2 hown
  have hb1 : Below base V w' := ((Below.refl _ _).alloc hb _).grown hg (by simp; omega) (fun j hj => (hO.2.lt j hj).1)
  obtain ⟨A, c, rfl, hO2⟩ := h1.own
  cases A with
  | none => exact absurd (hO2.2.2.2 (by omega)) (by rintro ⟨g, cs, e, _⟩; cases e)
  | some A =>
    obtain ⟨g, cs, e, h2, h3, h4⟩ := hO2.2.2.2 (by omega)
    injection e with e
    subst e
    exact h _ _ _ h1 hb1 h3.lt hO2.2.1
theorem OwnsV.num {w : World} {base k s c B : Nat} {A : Option Addr} (h : OwnsV w base (.slice A k c) k s) (hB : w.heap.size ≤ B) : Num w B A k s := by
  obtain ⟨A', c', e, ho⟩ := h.own
  injection e with e1 e2 e3
  subst e1
  exact ho.num.more hB
end Go.Proofs.YtomkmkjkeihodaaDoor
