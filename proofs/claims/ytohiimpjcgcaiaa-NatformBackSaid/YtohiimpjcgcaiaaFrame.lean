/- What every statement's row asks: arguments opened and shut. -/
import Derived.Test.YtohiimpjcgcaiaaMem
import Derived.WalkKit
import Derived.ProofKit
import Derived.OpenShut
import Derived.WideKeyArgs
import Derived.ChangeSlices
import Derived.ChangeSame
import Derived.ChangeMaps5
import Derived.Test.YtohiimpjcgcaiaaLBytes
set_option linter.unusedVariables false
set_option linter.unusedSimpArgs false
namespace Go.Proofs.Ytohiimpjcgcaiaa
open Go.ChangeShapes Go.WideShapes Go.ChangeAt Go.RowKit

theorem own : ownKnob Try.prog.godebug = none := by kernel_rfl
theorem laidOut : laidOutB Try.prog = true := by kernel_rfl
theorem read24 : Try.prog.readableRec 24 = true := by kernel_rfl
theorem read3 : Try.prog.readableRec 3 = true := by kernel_rfl
theorem read5 : Try.prog.readableRec 5 = true := by kernel_rfl
theorem read9 : Try.prog.readableRec 9 = true := by kernel_rfl
theorem read37 : Try.prog.readableRec 37 = true := by kernel_rfl
theorem size_types : 55 < Try.prog.types.size := by decide +kernel
theorem cells49 : Try.prog.cellsOf 49 = 1 := by kernel_rfl
theorem cells5 : Try.prog.cellsOf 5 = 1 := by kernel_rfl
theorem cells22 : Try.prog.cellsOf 22 = 1 := by kernel_rfl
theorem cells24 : Try.prog.cellsOf 24 = 1 := by kernel_rfl

section
variable {H : Type} {enc : TypeId × Value → H} {W W' : World}
theorem trodAll_keeps {sp : Nat → Bool} : ∀ (ts : List TypeId) (vs : List Value) (ds : List (DataW H)) (ps : List MemPlace), (∀ t ∈ ts, t = 24 ∨ t = 3 ∨ t = 5 ∨ t = 9 ∨ t = 37) →
    DataW.TrodAll enc Try.prog W 0 (fun _ => true) true ts vs ds ps → (∀ p ∈ ps, W.sameAt W' p) → (∀ p ∈ ps, sp p.block = true) → DataW.TrodAll enc Try.prog W' 0 sp true ts vs ds ps
  | [], [], [], ps, _, h, _, _ => h
  | [], [], _ :: _, _, _, h, _, _ => h.elim
  | [], _ :: _, _, _, _, h, _, _ => h.elim
  | _ :: _, [], _, _, _, h, _, _ => h.elim
  | _ :: _, _ :: _, [], _, _, h, _, _ => h.elim
  | t :: ts, v :: vs, d :: ds, ps, ht, h, h1, h2 => by
    obtain ⟨p, q, hp, hq, rfl⟩ := h
    have hr : Try.prog.readableRec t = true ∧ t < Try.prog.types.size := by
      rcases ht t (by simp) with rfl | rfl | rfl | rfl | rfl
      · exact ⟨read24, Nat.lt_trans (by decide) size_types⟩
      · exact ⟨read3, Nat.lt_trans (by decide) size_types⟩
      · exact ⟨read5, Nat.lt_trans (by decide) size_types⟩
      · exact ⟨read9, Nat.lt_trans (by decide) size_types⟩
      · exact ⟨read37, Nat.lt_trans (by decide) size_types⟩
    exact ⟨p, q, WideElems.Trod_stays laidOut hr.1 hr.2 hp (fun x hx => h1 x (by simp [hx])) (fun x hx => h2 x (by simp [hx])),
      trodAll_keeps ts vs ds q (fun x hx => ht x (by simp [hx])) hq (fun x hx => h1 x (by simp [hx])) (fun x hx => h2 x (by simp [hx])), rfl⟩

/-- The row's last step: the statement returned true, and what was there is as it was. -/
theorem post_true {f : Func} {s : ChangeSpec} {args : Array Value} {ds gs : List (DataW H)} {before : List MemPlace}
    (hW : DataW.Whole enc Try.prog f.params.toList s.vars false W args.toList ds gs before) (hv : s.vars = []) (hr : f.resultTypes = #[4])
    (hfn : (s.fn H (ds ++ gs)).results = [.lit (.bool true)] ∧ (s.fn H (ds ++ gs)).args = ds ∧ (s.fn H (ds ++ gs)).vars = [])
    (ht : ∀ t ∈ f.params.toList, t = 24 ∨ t = 3 ∨ t = 5 ∨ t = 9 ∨ t = 37) (hb : Below W.heap.size W W') : s.post enc Try.prog f false true false false W args (.bool true) W' := by
  have hlt : ∀ p ∈ before, p.block < W.heap.size := fun p hp => hW.lt p hp
  have hW2 := hW
  obtain ⟨p, q, hA, hV, hpq, _⟩ := hW2
  rw [hv] at hV
  have hgq : gs = [] ∧ q = [] := by
    cases gs with
    | nil => exact ⟨rfl, hV⟩
    | cons _ _ => exact hV.elim
  obtain ⟨rfl, rfl⟩ := hgq
  rw [List.append_nil] at hpq
  subst hpq
  refine ⟨ds, [], before, [], before, [], hW, ?_, ?_, ?_, World.keptBut_mono (fun p hp => ⟨hp, .inr (.inl hp)⟩) (hb.frame (· ∈ before)), fun h => by cases h⟩
  · rw [hr, hfn.1]
    exact ⟨[], [], shut_bool Try.underlying4 true, rfl, rfl⟩
  · rw [hfn.2.1]
    exact trodAll_keeps _ _ _ _ ht hA (fun p hp => hb.same (hlt p hp)) (fun p hp => by simpa using hlt p hp)
  · rw [hv, hfn.2.2]
    rfl
end

/-- Every list of words has a number. -/
theorem exists_num (f : Nat → Nat) (hf : ∀ i, f i < 4294967296) : ∀ n, ∃ a, a < 2 ^ (32 * n) ∧ ∀ i, i < n → dig a i = f i
  | 0 => ⟨0, by simp, fun i hi => by omega⟩
  | n + 1 => by
    obtain ⟨a, h1, h2⟩ := exists_num f hf n
    have e : put a n (f n) = a + f n * 2 ^ (32 * n) := put_top h1
    refine ⟨put a n (f n), by rw [e]; exact lt_succ_of h1 (hf n), fun i hi => ?_⟩
    rw [dig_put _ _ _ _ (hf n)]
    by_cases h : i = n
    · rw [if_pos h, h]
    · rw [if_neg h]; exact h2 i (by omega)

/-- An argument of type Nat. -/
theorem open_nat {H : Type} {enc : TypeId × Value → H} {W : World} {base b : Nat} {v : Value} {d : DataW H} {p : List MemPlace} (hv : Value.okWide Try.prog W .any base 24 v)
    (h : DataW.Trod enc Try.prog W b (fun _ => true) true 24 v d p) : ∃ A n c a, v = .agg #[.slice A n c] ∧ Num W W.heap.size A n a ∧ n ≤ 9223372036854775807 := by
  obtain ⟨cs, rfl, hsz⟩ := okWide_struct Try.underlying24 hv
  rw [cells24] at hsz
  obtain ⟨c0, rfl⟩ : ∃ c0, cs = #[c0] := by
    obtain ⟨l⟩ := cs
    match l, hsz with
    | [c0], _ => exact ⟨c0, rfl⟩
  obtain ⟨fuel, hf⟩ := h
  obtain ⟨y0, n, hx, _, h0⟩ := trod_struct1 Try.underlying24 hf
  have h1 : DataW.trod enc Try.prog W b (fun _ => true) true n 22 [c0] = some y0 := by simpa [Value.cells, cells22] using h0
  rcases open_ints Try.underlying22 Try.underlying49 cells49 h1 with ⟨e, _⟩ | ⟨ad, len, cap, zs, e, hb, hl, hm, hz, _, hc, hw⟩
  · injection e with e
    subst e
    exact ⟨none, 0, 0, 0, rfl, Num.nil _ _ _, by omega⟩
  · injection e with e
    subst e
    unfold maxLen at hm
    rw [if_pos rfl] at hz
    have hbd : ∀ i, (zs.getD i 0).toNat < 4294967296 ∧ 0 ≤ zs.getD i 0 := by
      intro i
      by_cases hi : i < zs.length
      · have hin : zs.getD i 0 ∈ zs := by
          have e : zs.getD i 0 = zs[i] := by simp [List.getD, hi]
          rw [e]; exact List.getElem_mem hi
        have hq := hw _ hin
        generalize zs.getD i 0 = q at hq ⊢
        simp [Lit.wf, IntKind.min, IntKind.max, IntKind.signed, IntKind.bits] at hq
        omega
      · have e : zs.getD i 0 = 0 := by simp [List.getD, hi]
        rw [e]; exact ⟨by decide, by decide⟩
    obtain ⟨a, ha, hd⟩ := exists_num (fun i => (zs.getD i 0).toNat) (fun i => (hbd i).1) len
    refine ⟨some ad, len, cap, a, rfl, ⟨ha, fun h0 => ⟨ad, rfl, ?_, fun i hi => ?_⟩⟩, by omega⟩
    · have := World.block_lt_of_cell? W _ (hc 0 (by omega))
      rwa [block_of_add] at this
    · rw [hc i (by omega), hd i hi, Int.toNat_of_nonneg (hbd i).2]

/-- An argument of bytes. -/
theorem open_bytes {H : Type} {enc : TypeId × Value → H} {W : World} {base b : Nat} {v : Value} {d : DataW H} {p : List MemPlace} (hv : Value.okWide Try.prog W .any base 37 v)
    (h : DataW.Trod enc Try.prog W b (fun _ => true) true 37 v d p) : ∃ A n c l, v = .slice A n c ∧ BN W W.heap.size A l ∧ l.length = n ∧ n ≤ c ∧ c ≤ 9223372036854775807 := by
  obtain ⟨a0, n0, c0, rfl⟩ := okWide_slice Try.underlying37 hv
  obtain ⟨fuel, hf⟩ := h
  rcases open_ints Try.underlying37 Try.underlying5 cells5 hf with ⟨e, _⟩ | ⟨ad, len, cap, zs, e, hb, hl, hm, hz, _, hc, hw⟩
  · simp only [Value.cells, List.cons.injEq, Value.slice.injEq, and_true] at e
    obtain ⟨rfl, rfl, rfl⟩ := e
    exact ⟨none, 0, 0, [], rfl, fun i hi => absurd hi (by simp), rfl, by omega, by omega⟩
  · simp only [Value.cells, List.cons.injEq, Value.slice.injEq, and_true] at e
    obtain ⟨e1, rfl, rfl⟩ := e
    unfold maxLen at hm
    rw [if_pos rfl] at hz
    have hbd : ∀ q ∈ zs, 0 ≤ q ∧ q ≤ 255 := by
      intro q hq
      have hq := hw _ hq
      simp [Lit.wf, IntKind.min, IntKind.max, IntKind.signed, IntKind.bits] at hq
      omega
    refine ⟨_, n0, c0, (zs.take n0).map Int.toNat, rfl, fun i hi => ?_, by simp; omega, hl, by omega⟩
    have hin : i < n0 := by simp at hi; omega
    have hiz : i < zs.length := by omega
    have e2 : ((zs.take n0).map Int.toNat)[i] = zs[i].toNat := by simp
    have e3 : zs.getD i 0 = zs[i] := by simp [List.getD, hiz]
    have hq := hbd _ (List.getElem_mem hiz)
    have hcell := hc i hiz
    refine ⟨ad, e1, ?_, ?_, by rw [e2]; omega⟩
    · have := World.block_lt_of_cell? W _ hcell
      rwa [block_of_add] at this
    · rw [hcell, e2, e3]
      unfold byt
      rw [Int.toNat_of_nonneg hq.1]

end Go.Proofs.Ytohiimpjcgcaiaa
