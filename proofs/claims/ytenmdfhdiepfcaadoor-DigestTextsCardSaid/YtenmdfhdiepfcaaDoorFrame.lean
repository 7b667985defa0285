/- What every statement's row asks: the two tables, arguments opened and shut. -/
import Derived.Test.YtenmdfhdiepfcaaDoorCards
import Derived.Test.YtenmdfhdiepfcaaDoorTie
import Derived.Test.YtenmdfhdiepfcaaDoorL12
import Derived.ChangeSlices
import Derived.ChangeMaps5
import Derived.Lib.LaidU8
import Derived.WalkKit
import Derived.ProofKit
import Derived.OpenShut
import Derived.WideKeyArgs
import Derived.ChangeSlices
import Derived.ChangeSame
import Derived.ChangeMaps5
import Derived.Deep.DeepHandedRow
import Derived.Lib.LaidTab
import Derived.LaidSub
set_option linter.unusedVariables false
set_option linter.unusedSimpArgs false
namespace Go.Proofs.YtenmdfhdiepfcaaDoor
open Go.ChangeShapes Go.WideShapes Go.ChangeAt Go.RowKit

theorem own : ownKnob Tryd.prog.godebug = none := by kernel_rfl
theorem laidOut : laidOutB Tryd.prog = true := by kernel_rfl
theorem gStart : Tryd.prog.globalNamed "specie/digest.start" = some 0 := by kernel_rfl
theorem gStartType : (Tryd.prog.globals[0]?).map (·.type) = some 60 := by kernel_rfl
theorem cells60 : Tryd.prog.cellsOf 60 = 8 := by kernel_rfl
theorem cells51 : Tryd.prog.cellsOf 51 = 1 := by kernel_rfl
theorem cells5 : Tryd.prog.cellsOf 5 = 1 := by kernel_rfl
theorem cells25 : Tryd.prog.cellsOf 25 = 32 := by kernel_rfl
theorem gCon : Tryd.prog.globalNamed "specie/digest.constants" = some 1 := by kernel_rfl
theorem gConType : (Tryd.prog.globals[1]?).map (·.type) = some 82 := by kernel_rfl
theorem cells82 : Tryd.prog.cellsOf 82 = 64 := by kernel_rfl
theorem read3 : Tryd.prog.readableRec 3 = true := by kernel_rfl
theorem read5 : Tryd.prog.readableRec 5 = true := by kernel_rfl
theorem read51 : Tryd.prog.readableRec 51 = true := by kernel_rfl
theorem read35 : Tryd.prog.readableRec 35 = true := by kernel_rfl
theorem read25 : Tryd.prog.readableRec 25 = true := by kernel_rfl
theorem read22 : Tryd.prog.readableRec 22 = true := by kernel_rfl
theorem read9 : Tryd.prog.readableRec 9 = true := by kernel_rfl
theorem size_types : 52 ≤ Tryd.prog.types.size := by decide +kernel
def startZ : List Int := start.map Int.ofNat
theorem startZ_at : ∀ j, j < 8 → startZ.getD j 0 = ((start.getD j 0 : Nat) : Int) := by decide +kernel
def conZ : List Int := consts.map Int.ofNat
theorem conZ_at : ∀ j, j < 64 → conZ.getD j 0 = ((consts.getD j 0 : Nat) : Int) := by decide +kernel

/-- What the rows' list gives: the tables' cells hold their numbers. -/
theorem tabs_of {W : World} (h : laidMetH Tryd.prog Rows.digestSumsRow.laid W) : Tabs W := by
  have ht : Lib.TabIs Tryd.prog W "specie/digest.start" .u32 startZ := Lib.tabIs_of_head (rest := [("specie/digest.constants", Rows.laid_specie_digest_constants)]) gStart gStartType Tryd.underlying60 Tryd.underlying51 cells51 cells60 h
  have h2 : laidMet Tryd.prog [("specie/digest.constants", Rows.laid_specie_digest_constants)] W := laidMet.filter (fun x => x.1 == "specie/digest.constants") h
  have hw : Lib.TabIs Tryd.prog W "specie/digest.constants" .u32 conZ := Lib.tabIs_of_head (rest := []) gCon gConType Tryd.underlying82 Tryd.underlying51 cells51 cells82 h2
  have hk : TabK W := fun j hj => by
    have := hw.cell gCon j hj
    rw [conZ_at j hj] at this
    exact this
  refine ⟨hk, fun j hj => ?_, ?_⟩
  · have := ht.cell gStart j hj
    rw [startZ_at j hj] at this
    exact this
  · have h0 := hk 0 (by omega)
    rcases Nat.lt_or_ge 1 W.heap.size with h1 | h1
    · exact h1
    · simp [World.cell?, Array.getElem?_eq_none h1] at h0

def layTab (l : List Value) : Obj → Obj
  | .cells _ t frozen => .cells l.toArray t frozen
  | o => o
/-- A world for the witness: the settled one, the tables holding what their initialisers lay. -/
noncomputable def laidWorld (os : Os) : World :=
  { World.holding Tryd.prog os ⟨#[], #[], []⟩ with heap := ((World.holding Tryd.prog os ⟨#[], #[], []⟩).heap.modify 1 (layTab (conZ.map fun z => Value.int .u32 z))).modify 0 (layTab (startZ.map fun z => Value.int .u32 z)) }

section
variable {H : Type} {enc : TypeId × Value → H} {W W' : World}
theorem trodAll_keeps {sp : Nat → Bool} : ∀ (ts : List TypeId) (vs : List Value) (ds : List (DataW H)) (ps : List MemPlace), (∀ t ∈ ts, t = 3 ∨ t = 5 ∨ t = 51 ∨ t = 35 ∨ t = 25 ∨ t = 22 ∨ t = 9) →
    DataW.TrodAll enc Tryd.prog W 0 (fun _ => true) true ts vs ds ps → (∀ p ∈ ps, W.sameAt W' p) → (∀ p ∈ ps, sp p.block = true) → DataW.TrodAll enc Tryd.prog W' 0 sp true ts vs ds ps
  | [], [], [], ps, _, h, _, _ => h
  | [], [], _ :: _, _, _, h, _, _ => h.elim
  | [], _ :: _, _, _, _, h, _, _ => h.elim
  | _ :: _, [], _, _, _, h, _, _ => h.elim
  | _ :: _, _ :: _, [], _, _, h, _, _ => h.elim
  | t :: ts, v :: vs, d :: ds, ps, ht, h, h1, h2 => by
    obtain ⟨p, q, hp, hq, rfl⟩ := h
    have hr : Tryd.prog.readableRec t = true ∧ t < Tryd.prog.types.size := by
      rcases ht t (by simp) with rfl | rfl | rfl | rfl | rfl | rfl | rfl
      · exact ⟨read3, Nat.lt_of_lt_of_le (by decide) size_types⟩
      · exact ⟨read5, Nat.lt_of_lt_of_le (by decide) size_types⟩
      · exact ⟨read51, Nat.lt_of_lt_of_le (by decide) size_types⟩
      · exact ⟨read35, Nat.lt_of_lt_of_le (by decide) size_types⟩
      · exact ⟨read25, Nat.lt_of_lt_of_le (by decide) size_types⟩
      · exact ⟨read22, Nat.lt_of_lt_of_le (by decide) size_types⟩
      · exact ⟨read9, Nat.lt_of_lt_of_le (by decide) size_types⟩
    exact ⟨p, q, WideElems.Trod_stays laidOut hr.1 hr.2 hp (fun x hx => h1 x (by simp [hx])) (fun x hx => h2 x (by simp [hx])),
      trodAll_keeps ts vs ds q (fun x hx => ht x (by simp [hx])) hq (fun x hx => h1 x (by simp [hx])) (fun x hx => h2 x (by simp [hx])), rfl⟩

theorem open_hash {sp : Nat → Bool} {v : Value} {d : DataW H} {p : List MemPlace} (h : DataW.Trod enc Tryd.prog W 0 sp true 25 v d p) : ∃ l : List Nat, v = hv l ∧ l.length = 32 ∧ ∀ x ∈ l, x < 256 := by
  classical
  obtain ⟨fuel, hf⟩ := h
  cases fuel with
  | zero => simp [DataW.trod] at hf
  | succ fuel =>
    simp only [DataW.trod, Tryd.underlying25] at hf
    split at hf
    · rename_i hlen
      obtain ⟨xs, hm, hx⟩ := Option.map_eq_some_iff.1 hf
      have hz : v.cells.toList.length = 32 := by simpa [cells25] using hlen
      have hv1 : v = .agg v.cells := by
        cases v <;> simp_all [Value.cells]
      have hat : ∀ i, i < 32 → ∃ n : Nat, v.cells.toList[i]? = some (byt n) ∧ n < 256 := by
        intro i hi
        obtain ⟨b, hb, hf2⟩ := Lib.mapM_at hm i i (by simp [hi])
        rw [cells5] at hf2
        obtain ⟨n, hc, _, hw⟩ := DataW.trod_int Tryd.underlying5 hf2
        have h2 : v.cells.toList[i]? = some (.int .u8 n) := by
          have := congrArg (·[0]?) hc
          simpa [List.getElem?_take, List.getElem?_drop] using this
        have hb8 := bounds_u8 hw
        exact ⟨n.toNat, by rw [h2]; unfold byt; congr 2; omega, by omega⟩
      obtain ⟨f, hf3⟩ : ∃ f : Nat → Nat, ∀ i, i < 32 → v.cells.toList[i]? = some (byt (f i)) ∧ f i < 256 :=
        ⟨fun i => if h : ∃ n : Nat, v.cells.toList[i]? = some (byt n) ∧ n < 256 then Classical.choose h else 0, fun i hi => by
          simp only [dif_pos (hat i hi)]
          exact Classical.choose_spec (hat i hi)⟩
      refine ⟨(List.range 32).map f, ?_, by simp, ?_⟩
      · rw [hv1]
        unfold hv brow
        congr 1
        apply Array.ext'
        apply List.ext_getElem?
        intro i
        rcases Nat.lt_or_ge i 32 with hi | hi
        · simp only [List.map_map, List.getElem?_map, List.getElem?_range hi, Option.map_some, Function.comp]
          exact (hf3 i hi).1
        · rw [List.getElem?_eq_none (by omega), List.getElem?_eq_none (by simp; omega)]
      · intro x hx
        obtain ⟨i, hi, rfl⟩ := List.mem_map.1 hx
        exact (hf3 i (by simpa using hi)).2
    · cases hf
/-- The row's last step: the statement returned true, and what was there is as it was. -/
theorem post_true {f : Func} {s : ChangeSpec} {args : Array Value} {ds gs : List (DataW H)} {before : List MemPlace}
    (hW : DataW.Whole enc Tryd.prog f.params.toList s.vars false W args.toList ds gs before) (hv : s.vars = []) (hr : f.resultTypes = #[4])
    (hfn : (s.fn H (ds ++ gs)).results = [.lit (.bool true)] ∧ (s.fn H (ds ++ gs)).args = ds ∧ (s.fn H (ds ++ gs)).vars = [])
    (ht : ∀ t ∈ f.params.toList, t = 3 ∨ t = 5 ∨ t = 51 ∨ t = 35 ∨ t = 25 ∨ t = 22 ∨ t = 9) (hb : Below W.heap.size W W') : s.post enc Tryd.prog f false true false false W args (.bool true) W' := by
  have hlt : ∀ p ∈ before, p.block < W.heap.size := fun p hp => hW.lt p hp
  have hW2 := hW
  obtain ⟨p, q, hA, hV, hpq, _⟩ := hW2
  rw [hv] at hV
  have hgq : gs = [] ∧ q = [] := by
    cases gs with
    | nil => exact ⟨rfl, hV⟩
    | cons _ _ => exact hV.elim
  obtain ⟨rfl, rfl⟩ := hgq
  rw [List.append_nil] at hpq
  subst hpq
  refine ⟨ds, [], before, [], before, [], hW, ?_, ?_, ?_, World.keptBut_mono (fun p hp => ⟨hp, .inr (.inl hp)⟩) (hb.frame (· ∈ before)), fun h => by cases h⟩
  · rw [hr, hfn.1]
    exact ⟨[], [], shut_bool Tryd.underlying4 true, rfl, rfl⟩
  · rw [hfn.2.1]
    exact trodAll_keeps _ _ _ _ ht hA (fun p hp => hb.same (hlt p hp)) (fun p hp => by simpa using hlt p hp)
  · rw [hv, hfn.2.2]
    rfl
end
end Go.Proofs.YtenmdfhdiepfcaaDoor
