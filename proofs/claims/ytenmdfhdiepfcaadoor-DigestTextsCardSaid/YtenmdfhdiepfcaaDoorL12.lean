/- Digests compared by '==' . -/
import Derived.Test.YtenmdfhdiepfcaaDoorL11
import Derived.ChangeKeysEq
set_option linter.unusedVariables false
set_option linter.unusedSimpArgs false
namespace Go.Proofs.YtenmdfhdiepfcaaDoor
open Go Go.RowKit
theorem part5 (cs : Array Value) (i x : Nat) (w : World) (h : cs[i]? = some (.int .u8 ((x : Nat) : Int))) : (part 5 cs i).run Tryd.prog w = .ok (.int .u8 ((x : Nat) : Int)) w := by
  simp [part, go_sem, Tryd.sizeOf5, Tryd.isAgg5, h]
theorem eq5 (d : Nat) (x y : Nat) (w : World) : (Op.equalIn (d + 1) 5 (.int .u8 ((x : Nat) : Int)) (.int .u8 ((y : Nat) : Int))).run Tryd.prog w = .ok (decide (x = y)) w := by
  rw [run_equalIn_int w d 5 .u8 .u8 _ _ Tryd.underlying5]
  congr 1
  by_cases h : x = y
  · subst h; simp
  · rw [decide_eq_false h]; simp; omega
theorem items25 (a b : List Nat) (w : World) (ha : a.length = 32) (hb : b.length = 32) : ∀ (is : List Nat), (∀ i ∈ is, i < 32) → (Op.eqItems 9999 5 1 (brow a) (brow b) is).run Tryd.prog w = .ok (is.all fun i => decide (a.getD i 0 = b.getD i 0)) w := by
  intro is
  induction is with
  | nil => intro _; simp [Op.eqItems]
  | cons i is ih =>
    intro h
    have hi := h i (by simp)
    have e1 := part5 (brow a) i _ w (brow_at (l := a) (i := i) (by omega))
    have e2 := part5 (brow b) i _ w (brow_at (l := b) (i := i) (by omega))
    have e3 := eq5 9998 (a.getD i 0) (b.getD i 0) w
    simp only [Op.eqItems, Sem.run_bind, Nat.mul_one, e1, e2, Result.andThen_ok, e3, List.all_cons]
    cases hd : decide (a.getD i 0 = b.getD i 0)
    · simp
    · simpa using ih (fun j hj => h j (by simp [hj]))
theorem eq25 (a b : List Nat) (w : World) (ha : a.length = 32) (hb : b.length = 32) : (Op.equalIn 10000 25 (.agg (brow a)) (.agg (brow b))).run Tryd.prog w = .ok (decide (a = b)) w := by
  obtain ⟨i0, hi0, _⟩ := info_parts info5
  have hc : Tryd.prog.cellsOf 5 = 1 := by kernel_rfl
  rw [run_equalIn_array w 9999 (brow a) (brow b) Tryd.underlying25 hi0, hc, items25 a b w ha hb _ (fun i hi => by simpa using hi)]
  congr 1
  by_cases h : a = b
  · subst h; simp
  · rw [decide_eq_false h]
    rw [Bool.eq_false_iff]
    intro hall
    refine h (List.ext_getElem (by omega) (fun i h1 h2 => ?_))
    have := List.all_eq_true.1 hall i (by simp; omega)
    simpa [h1, h2] using this
theorem yields_hash {ops : Array Oper} {S : World → Prop} {op : Oper} {a : Act} (g : Nat) (cs : Array Value) (hw : Region.wanted op (yielded ops a.tmps) = true) (x : Operand) (ho : op.op = .load 25 x) (hx : a.eval x = .pointer (some ⟨g, 0, none⟩))
    (hS : ∀ w, S w → Blk w g 25 cs) (hz : cs.size = 32) : YieldsIf Tryd.prog ops S op (.agg cs) a :=
  .inl ⟨hw, fun w h => by
    unfold execOp
    simp only [ho, hx, Instr.loadAt, Instr.sureAddr, Sem.run_bind, Sem.run_pure, Result.andThen_ok, run_loadVar_row w g 25 25 cs (0, 0) _ (hS w h) Tryd.underlying25 rfl (by rw [hz]; kernel_rfl)]⟩
end Go.Proofs.YtenmdfhdiepfcaaDoor
