/- What every statement's row asks: the two tables, arguments opened and shut. -/
import Derived.Test.YtomkmkjkeihodaaDoorCards
import Derived.Test.YtomkmkjkeihodaaDoorTie
import Derived.Test.YtomkmkjkeihodaaDoorPA
import Derived.WalkKit
import Derived.ProofKit
import Derived.OpenShut
import Derived.WideKeyArgs
import Derived.ChangeSlices
import Derived.ChangeSame
import Derived.ChangeMaps5
import Derived.Deep.DeepHandedRow
import Derived.Lib.LaidTab
import Derived.LaidSub
set_option linter.unusedVariables false
set_option linter.unusedSimpArgs false
namespace Go.Proofs.YtomkmkjkeihodaaDoor
open Go.ChangeShapes Go.WideShapes Go.ChangeAt Go.RowKit

theorem own : ownKnob Tryd.prog.godebug = none := by kernel_rfl
theorem laidOut : laidOutB Tryd.prog = true := by kernel_rfl
theorem gTab : Tryd.prog.globalNamed "math/bits.deBruijn64tab" = some 1 := by kernel_rfl
theorem gTabType : (Tryd.prog.globals[1]?).map (·.type) = some 87 := by kernel_rfl
theorem cells87 : Tryd.prog.cellsOf 87 = 64 := by kernel_rfl
theorem cells5 : Tryd.prog.cellsOf 5 = 1 := by kernel_rfl
theorem gWit : Tryd.prog.globalNamed "specie/prime.witnesses" = some 0 := by kernel_rfl
theorem gWitType : (Tryd.prog.globals[0]?).map (·.type) = some 61 := by kernel_rfl
theorem cells61 : Tryd.prog.cellsOf 61 = 12 := by kernel_rfl
theorem cells3 : Tryd.prog.cellsOf 3 = 1 := by kernel_rfl
theorem read3 : Tryd.prog.readableRec 3 = true := by kernel_rfl
theorem read5 : Tryd.prog.readableRec 5 = true := by kernel_rfl
theorem read48 : Tryd.prog.readableRec 48 = true := by kernel_rfl
theorem read51 : Tryd.prog.readableRec 51 = true := by kernel_rfl
theorem read40 : Tryd.prog.readableRec 40 = true := by kernel_rfl
theorem size_types : 52 ≤ Tryd.prog.types.size := by decide +kernel
def tabZ : List Int := Lib.deBruijn64tab.map Int.ofNat
theorem tabZ_at : ∀ j, j < 64 → tabZ.getD j 0 = ((Lib.deBruijn64tab.getD j 0 : Nat) : Int) := by decide +kernel
def witZ : List Int := wits.map Int.ofNat
theorem witZ_at : ∀ j, j < 12 → witZ.getD j 0 = ((wits.getD j 0 : Nat) : Int) := by decide +kernel

/-- What the rows' list gives: the tables' cells hold their numbers. -/
theorem tabs_of {W : World} (h : laidMetH Tryd.prog Rows.primeTestsRow.laid W) : Tabs W := by
  have ht : Lib.TabIs Tryd.prog W "math/bits.deBruijn64tab" .u8 tabZ := Lib.tabIs_of_head (rest := [("specie/prime.witnesses", Rows.laid_specie_prime_witnesses)]) gTab gTabType Tryd.underlying87 Tryd.underlying5 cells5 cells87 h
  have h2 : laidMet Tryd.prog [("specie/prime.witnesses", Rows.laid_specie_prime_witnesses)] W := laidMet.filter (fun x => x.1 == "specie/prime.witnesses") h
  have hw : Lib.TabIs Tryd.prog W "specie/prime.witnesses" .i64 witZ := Lib.tabIs_of_head (rest := []) gWit gWitType Tryd.underlying61 Tryd.underlying3 cells3 cells61 h2
  refine ⟨fun j hj => ?_, fun j hj => ?_⟩
  · have := ht.cell gTab j hj
    rw [tabZ_at j hj] at this
    exact this
  · have := hw.cell gWit j hj
    rw [witZ_at j hj] at this
    exact this

def layTab (l : List Value) : Obj → Obj
  | .cells _ t frozen => .cells l.toArray t frozen
  | o => o
/-- A world for the witness: the settled one, the tables holding what their initialisers lay. -/
noncomputable def laidWorld (os : Os) : World :=
  { World.holding Tryd.prog os ⟨#[], #[], []⟩ with heap := ((World.holding Tryd.prog os ⟨#[], #[], []⟩).heap.modify 1 (layTab (tabZ.map fun z => Value.int .u8 z))).modify 0 (layTab (witZ.map fun z => Value.int .i64 z)) }

section
variable {H : Type} {enc : TypeId × Value → H} {W W' : World}
theorem trodAll_keeps {sp : Nat → Bool} : ∀ (ts : List TypeId) (vs : List Value) (ds : List (DataW H)) (ps : List MemPlace), (∀ t ∈ ts, t = 3 ∨ t = 5 ∨ t = 48 ∨ t = 51 ∨ t = 40) →
    DataW.TrodAll enc Tryd.prog W 0 (fun _ => true) true ts vs ds ps → (∀ p ∈ ps, W.sameAt W' p) → (∀ p ∈ ps, sp p.block = true) → DataW.TrodAll enc Tryd.prog W' 0 sp true ts vs ds ps
  | [], [], [], ps, _, h, _, _ => h
  | [], [], _ :: _, _, _, h, _, _ => h.elim
  | [], _ :: _, _, _, _, h, _, _ => h.elim
  | _ :: _, [], _, _, _, h, _, _ => h.elim
  | _ :: _, _ :: _, [], _, _, h, _, _ => h.elim
  | t :: ts, v :: vs, d :: ds, ps, ht, h, h1, h2 => by
    obtain ⟨p, q, hp, hq, rfl⟩ := h
    have hr : Tryd.prog.readableRec t = true ∧ t < Tryd.prog.types.size := by
      rcases ht t (by simp) with rfl | rfl | rfl | rfl | rfl
      · exact ⟨read3, Nat.lt_of_lt_of_le (by decide) size_types⟩
      · exact ⟨read5, Nat.lt_of_lt_of_le (by decide) size_types⟩
      · exact ⟨read48, Nat.lt_of_lt_of_le (by decide) size_types⟩
      · exact ⟨read51, Nat.lt_of_lt_of_le (by decide) size_types⟩
      · exact ⟨read40, Nat.lt_of_lt_of_le (by decide) size_types⟩
    exact ⟨p, q, WideElems.Trod_stays laidOut hr.1 hr.2 hp (fun x hx => h1 x (by simp [hx])) (fun x hx => h2 x (by simp [hx])),
      trodAll_keeps ts vs ds q (fun x hx => ht x (by simp [hx])) hq (fun x hx => h1 x (by simp [hx])) (fun x hx => h2 x (by simp [hx])), rfl⟩

/-- The row's last step: the statement returned true, and what was there is as it was. -/
theorem post_true {f : Func} {s : ChangeSpec} {args : Array Value} {ds gs : List (DataW H)} {before : List MemPlace}
    (hW : DataW.Whole enc Tryd.prog f.params.toList s.vars false W args.toList ds gs before) (hv : s.vars = []) (hr : f.resultTypes = #[4])
    (hfn : (s.fn H (ds ++ gs)).results = [.lit (.bool true)] ∧ (s.fn H (ds ++ gs)).args = ds ∧ (s.fn H (ds ++ gs)).vars = [])
    (ht : ∀ t ∈ f.params.toList, t = 3 ∨ t = 5 ∨ t = 48 ∨ t = 51 ∨ t = 40) (hb : Below W.heap.size W W') : s.post enc Tryd.prog f false true false false W args (.bool true) W' := by
  have hlt : ∀ p ∈ before, p.block < W.heap.size := fun p hp => hW.lt p hp
  have hW2 := hW
  obtain ⟨p, q, hA, hV, hpq, _⟩ := hW2
  rw [hv] at hV
  have hgq : gs = [] ∧ q = [] := by
    cases gs with
    | nil => exact ⟨rfl, hV⟩
    | cons _ _ => exact hV.elim
  obtain ⟨rfl, rfl⟩ := hgq
  rw [List.append_nil] at hpq
  subst hpq
  refine ⟨ds, [], before, [], before, [], hW, ?_, ?_, ?_, World.keptBut_mono (fun p hp => ⟨hp, .inr (.inl hp)⟩) (hb.frame (· ∈ before)), fun h => by cases h⟩
  · rw [hr, hfn.1]
    exact ⟨[], [], shut_bool Tryd.underlying4 true, rfl, rfl⟩
  · rw [hfn.2.1]
    exact trodAll_keeps _ _ _ _ ht hA (fun p hp => hb.same (hlt p hp)) (fun p hp => by simpa using hlt p hp)
  · rw [hv, hfn.2.2]
    rfl
end
end Go.Proofs.YtomkmkjkeihodaaDoor
