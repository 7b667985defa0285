/- An argument of type api.Cert is a finite tree. -/
import Derived.Test.YtomkmkjkeihodaaDoorFrame
import Derived.Test.YtomkmkjkeihodaaDoorPB
import Derived.Test.YtomkmkjkeihodaaDoorP9
import Derived.Deep.Slices
set_option linter.unusedVariables false
set_option linter.unusedSimpArgs false
namespace Go.Proofs.YtomkmkjkeihodaaDoor
open Go.ChangeShapes Go.WideShapes Go.ChangeAt Go.RowKit
theorem cells48 : Tryd.prog.cellsOf 48 = 1 := by kernel_rfl
theorem cells35 : Tryd.prog.cellsOf 35 = 1 := by kernel_rfl
theorem cells37 : Tryd.prog.cellsOf 37 = 1 := by kernel_rfl
theorem cells38 : Tryd.prog.cellsOf 38 = 1 := by kernel_rfl
theorem cells40 : Tryd.prog.cellsOf 40 = 3 := by kernel_rfl

/-- Every list of words has a number. -/
theorem exists_num (f : Nat → Nat) (hf : ∀ i, f i < 4294967296) : ∀ n, ∃ a, a < 2 ^ (32 * n) ∧ ∀ i, i < n → dig a i = f i
  | 0 => ⟨0, by simp, fun i hi => by omega⟩
  | n + 1 => by
    obtain ⟨a, h1, h2⟩ := exists_num f hf n
    have e : put a n (f n) = a + f n * 2 ^ (32 * n) := put_top h1
    refine ⟨put a n (f n), by rw [e]; exact lt_succ_of h1 (hf n), fun i hi => ?_⟩
    rw [dig_put _ _ _ _ (hf n)]
    by_cases h : i = n
    · rw [if_pos h, h]
    · rw [if_neg h]; exact h2 i (by omega)


section
variable {H : Type} {enc : TypeId × Value → H} {W : World} {b : Nat}
theorem open_num {fuel : Nat} {X : Value} {x : DataW H × List MemPlace} (h : DataW.trod enc Tryd.prog W b (fun _ => true) true fuel 37 [X] = some x) : ∃ A n c a, X = .slice A n c ∧ Num W W.heap.size A n a ∧ n ≤ 9223372036854775807 := by
  obtain ⟨y0, n, hx, _, h0⟩ := trod_struct1 Tryd.underlying37 h
  have h1 : DataW.trod enc Tryd.prog W b (fun _ => true) true n 35 [X] = some y0 := by simpa [Value.cells, cells35] using h0
  rcases open_ints Tryd.underlying35 Tryd.underlying48 cells48 h1 with ⟨e, _⟩ | ⟨ad, len, cap, zs, e, hb, hl, hm, hz, _, hc, hw⟩
  · injection e with e
    subst e
    exact ⟨none, 0, 0, 0, rfl, Num.nil _ _ _, by omega⟩
  · injection e with e
    subst e
    unfold maxLen at hm
    rw [if_pos rfl] at hz
    have hbd : ∀ i, (zs.getD i 0).toNat < 4294967296 ∧ 0 ≤ zs.getD i 0 := by
      intro i
      by_cases hi : i < zs.length
      · have hin : zs.getD i 0 ∈ zs := by
          have e : zs.getD i 0 = zs[i] := by simp [List.getD, hi]
          rw [e]; exact List.getElem_mem hi
        have hq := hw _ hin
        generalize zs.getD i 0 = q at hq ⊢
        simp [Lit.wf, IntKind.min, IntKind.max, IntKind.signed, IntKind.bits] at hq
        omega
      · have e : zs.getD i 0 = 0 := by simp [List.getD, hi]
        rw [e]; exact ⟨by decide, by decide⟩
    obtain ⟨a, ha, hd⟩ := exists_num (fun i => (zs.getD i 0).toNat) (fun i => (hbd i).1) len
    refine ⟨some ad, len, cap, a, rfl, ⟨ha, fun h0 => ⟨ad, rfl, ?_, fun i hi => ?_⟩⟩, by omega⟩
    · have := World.block_lt_of_cell? W _ (hc 0 (by omega))
      rwa [block_of_add] at this
    · rw [hc i (by omega), hd i hi, Int.toNat_of_nonneg (hbd i).2]
instance : Inhabited CT := ⟨.node 0 0 0 0 []⟩
def CertOf (W : World) (cs : List Value) : Prop := ∃ X Y Z t, cs = [X, Y, Z] ∧ CV W W.heap.size X Y Z t ∧ ∀ P k e, Z = .slice P k e → k ≤ e ∧ e ≤ 9223372036854775807
set_option maxRecDepth 100000 in
theorem open_certs : ∀ (s fuel : Nat) (hs : fuel ≤ s) (cs : List Value) (x : DataW H × List MemPlace), DataW.trod enc Tryd.prog W b (fun _ => true) true fuel 40 cs = some x → CertOf W cs
  | 0, fuel, hs, cs, x, h => by
    obtain rfl : fuel = 0 := by omega
    simp [DataW.trod] at h
  | s + 1, fuel, hs, cs, x, h => by
    obtain ⟨xs, n, rfl, _, hlen, hxl, hf⟩ := DataW.trod_struct Tryd.underlying40 h
    rw [cells40] at hlen
    match cs, hlen, xs, hxl with
    | [X, Y, Z], _, [y0, y1, y2], _ =>
      have g0 := hf 0 _ rfl
      have g1 := hf 1 _ rfl
      have g2 := hf 2 _ rfl
      simp [cells37, cells38] at g0 g1 g2
      obtain ⟨A, nn, c, a, rfl, hA, hn⟩ := open_num g0
      obtain ⟨A', m, d, b', rfl, hR, hm⟩ := open_num g1
      rcases DataW.trod_slice Tryd.underlying38 g2 with ⟨e, _⟩ | ⟨ad, len, cap, elems, rest, q, rfl, e, _, hb, hl, hmx, hel, hex, _, _⟩
      · injection e with e
        subst e
        exact ⟨_, _, _, .node nn a m b' [], rfl, .mk (fun _ => .int .i64 0) (fun _ => .int .i64 0) (fun _ => .int .i64 0) hA hR hn hm rfl (by omega) (fun i hi => absurd hi (by omega)) (fun i hi => absurd hi (by simp)), fun P k e h => by injection h with h1 h2 h3; omega⟩
      · injection e with e
        subst e
        unfold maxLen at hmx
        rw [cells40] at hex
        have each : ∀ i, i < len → ∃ r : Value × Value × Value × CT, W.cell? (ad.add (i * 3)) = some r.1 ∧ W.cell? ⟨(ad.add (i * 3)).block, (ad.add (i * 3)).off + 1, none⟩ = some r.2.1 ∧ W.cell? ⟨(ad.add (i * 3)).block, (ad.add (i * 3)).off + 2, none⟩ = some r.2.2.1 ∧ CV W W.heap.size r.1 r.2.1 r.2.2.1 r.2.2.2 := by
          intro i hi
          have h1 := hex i hi
          rw [List.getElem?_eq_getElem (by omega)] at h1
          obtain ⟨cs', h2, h3⟩ := Option.bind_eq_some_iff.1 h1
          obtain ⟨X', Y', Z', t', rfl, hcv, _⟩ := open_certs s q (by omega) cs' _ h3
          obtain ⟨_, _, hcell⟩ := World.cells?_some h2
          exact ⟨(X', Y', Z', t'), hcell 0 (by omega), hcell 1 (by omega), hcell 2 (by omega), hcv⟩
        obtain ⟨r, hr⟩ := Go.Deep.choose_lt each
        refine ⟨_, _, _, .node nn a m b' ((List.range len).map fun i => (r i).2.2.2), rfl, .mk (fun i => (r i).1) (fun i => (r i).2.1) (fun i => (r i).2.2.1) hA hR hn hm (by simp) (by omega) (fun i hi => ?_) (fun i hi => ?_), fun P k e h => by injection h with h1 h2 h3; omega⟩
        · obtain ⟨c0, c1, c2, _⟩ := hr i hi
          have hlt := World.block_lt_of_cell? W _ c0
          rw [add_block] at hlt
          exact ⟨ad, rfl, hlt, c0, c1, c2⟩
        · have hi' : i < len := by simpa using hi
          have := (hr i hi').2.2.2
          simpa using this
set_option maxRecDepth 100000 in
theorem open_cert {base : Nat} {v : Value} {d : DataW H} {p : List MemPlace} (hv : Value.okWide Tryd.prog W .any base 40 v) (h : DataW.Trod enc Tryd.prog W b (fun _ => true) true 40 v d p) :
    ∃ X Y Z t, v = .agg #[X, Y, Z] ∧ CV W W.heap.size X Y Z t ∧ ∀ P k e, Z = .slice P k e → k ≤ e ∧ e ≤ 9223372036854775807 := by
  obtain ⟨cs, rfl, hsz⟩ := okWide_struct Tryd.underlying40 hv
  obtain ⟨fuel, hf⟩ := h
  obtain ⟨X, Y, Z, t, e, h1, h2⟩ := open_certs fuel fuel (Nat.le_refl _) _ _ hf
  refine ⟨X, Y, Z, t, ?_, h1, h2⟩
  have e' : cs.toList = [X, Y, Z] := e
  have : cs = #[X, Y, Z] := by rw [← Array.toArray_toList (xs := cs), e']
  rw [this]
end
end Go.Proofs.YtomkmkjkeihodaaDoor
