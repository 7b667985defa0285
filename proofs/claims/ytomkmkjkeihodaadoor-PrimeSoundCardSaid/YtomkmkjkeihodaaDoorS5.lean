/- PrimeSound: parts, rows. -/
import Derived.Test.YtomkmkjkeihodaaDoorS3
import Derived.Test.YtomkmkjkeihodaaDoorPmB
set_option linter.unusedVariables false
set_option linter.unusedSimpArgs false
namespace Go.Proofs.YtomkmkjkeihodaaDoor
open Go.RowKit

theorem add_add2 (ad : Addr) (a j : Nat) : (ad.add a).add j = ad.add (a + j) := by
  unfold Addr.add
  by_cases ha : a = 0
  · subst ha; simp
  · by_cases hj : j = 0
    · subst hj; simp [ha]
    · have : a + j ≠ 0 := by omega
      simp [ha, hj, this, Nat.add_assoc]
theorem add_one_at (ad : Addr) (i r : Nat) (hr : 0 < r) : (⟨(ad.add i).block, (ad.add i).off + r, none⟩ : Addr) = ad.add (i + r) := by
  unfold Addr.add
  have h : i + r ≠ 0 := by omega
  by_cases hi : i = 0
  · subst hi
    have h2 : r ≠ 0 := by omega
    simp [h2]
  · simp [hi, h, Nat.add_assoc]
def trp (X Y Z : Nat → Value) (l : List Nat) : List (Value × Value × Value) := l.map fun i => (X i, Y i, Z i)
theorem trp_app (X Y Z : Nat → Value) (l m : List Nat) : flat (trp X Y Z (l ++ m)) = flat (trp X Y Z l) ++ flat (trp X Y Z m) := by
  unfold trp
  rw [List.map_append, flat_app]
theorem trp_len (X Y Z : Nat → Value) (l : List Nat) : (flat (trp X Y Z l)).length = l.length * 3 := by
  rw [flat_len]; unfold trp; rw [List.length_map]
theorem trp_get (X Y Z : Nat → Value) (l : List Nat) (i : Nat) (h : i < (trp X Y Z l).length) (h' : i < l.length) : (trp X Y Z l)[i] = (X l[i], Y l[i], Z l[i]) := by simp [trp]
/-- What stands at a place of a flat list. -/
theorem flat_get (T : List (Value × Value × Value)) (j : Nat) (u : Value) (h : (flat T)[j]? = some u) : ∃ (i r : Nat) (hi : i < T.length), j = i * 3 + r ∧ ((r = 0 ∧ u = T[i].1) ∨ (r = 1 ∧ u = T[i].2.1) ∨ (r = 2 ∧ u = T[i].2.2)) := by
  have hj : j < T.length * 3 := by
    rw [← flat_len]
    exact (List.getElem?_eq_some_iff.1 h).1
  have hi : j / 3 < T.length := by omega
  obtain ⟨f0, f1, f2⟩ := flat_at T (j / 3) hi
  obtain h3 | h3 | h3 : j % 3 = 0 ∨ j % 3 = 1 ∨ j % 3 = 2 := by omega
  · have e : j = j / 3 * 3 := by omega
    refine ⟨j / 3, 0, hi, by omega, .inl ⟨rfl, ?_⟩⟩
    rw [e, f0] at h; exact (Option.some.inj h).symm
  · have e : j = j / 3 * 3 + 1 := by omega
    refine ⟨j / 3, 1, hi, by omega, .inr (.inl ⟨rfl, ?_⟩)⟩
    rw [e, f1] at h; exact (Option.some.inj h).symm
  · have e : j = j / 3 * 3 + 2 := by omega
    refine ⟨j / 3, 2, hi, by omega, .inr (.inr ⟨rfl, ?_⟩)⟩
    rw [e, f2] at h; exact (Option.some.inj h).symm
/-- A stretch of the parts as a row. -/
theorem row_parts {w V : World} {ad p : Addr} {k s l : Nat} {X Y Z : Nat → Value} {ps : List CT} (hk : ps.length = k) (had : ad.block < w.heap.size)
    (hP : ∀ i, i < k → ∃ ad', some ad = some ad' ∧ ad'.block < w.heap.size ∧ w.cell? (ad'.add (i * 3)) = some (X i) ∧ w.cell? ⟨(ad'.add (i * 3)).block, (ad'.add (i * 3)).off + 1, none⟩ = some (Y i) ∧ w.cell? ⟨(ad'.add (i * 3)).block, (ad'.add (i * 3)).off + 2, none⟩ = some (Z i))
    (hT : ∀ i (h : i < ps.length), CV w w.heap.size (X i) (Y i) (Z i) ps[i]) (WW : Below w.heap.size w V) (hs : s + l ≤ k) (hpb : p.block = ad.block) (hp : ∀ j, j < l * 3 → p.add j = ad.add (s * 3 + j)) : RowAt V V.heap.size p (flat (trp X Y Z (List.range' s l))) := by
  refine ⟨by rw [hpb]; exact Nat.lt_of_lt_of_le had WW.size, fun j u hu => ?_, fun u hu => ?_⟩
  · obtain ⟨i, r, hi, rfl, hc⟩ := flat_get _ _ _ hu
    have hil : i < l := by simpa [trp] using hi
    have hT2 : (trp X Y Z (List.range' s l))[i] = (X (s + i), Y (s + i), Z (s + i)) := by simp [trp]
    rw [hT2] at hc
    obtain ⟨ad', e, hb, c0, c1, c2⟩ := hP (s + i) (by omega)
    obtain rfl := Option.some.inj e
    have hr3 : r < 3 := by omega
    rw [hp _ (by omega)]
    have hlt : ∀ q, (ad.add q).block < w.heap.size := fun q => by rw [add_block]; exact hb
    rw [WW.cell (hlt _)]
    rcases hc with ⟨rfl, rfl⟩ | ⟨rfl, rfl⟩ | ⟨rfl, rfl⟩
    · rw [show s * 3 + (i * 3 + 0) = (s + i) * 3 by omega]; exact c0
    · rw [add_one_at _ _ _ (by decide)] at c1
      rw [show s * 3 + (i * 3 + 1) = (s + i) * 3 + 1 by omega]; exact c1
    · rw [add_one_at _ _ _ (by decide)] at c2
      rw [show s * 3 + (i * 3 + 2) = (s + i) * 3 + 2 by omega]; exact c2
  · obtain ⟨j, hj⟩ := List.getElem?_of_mem hu
    obtain ⟨i, r, hi, rfl, hc⟩ := flat_get _ _ _ hj
    have hil : i < l := by simpa [trp] using hi
    have hT2 : (trp X Y Z (List.range' s l))[i] = (X (s + i), Y (s + i), Z (s + i)) := by simp [trp]
    rw [hT2] at hc
    obtain ⟨A1, n1, c1, A2, n2, c2, A3, n3, c3, e1, e2, e3⟩ := (hT (s + i) (by omega)).slc
    rcases hc with ⟨rfl, rfl⟩ | ⟨rfl, rfl⟩ | ⟨rfl, rfl⟩
    · show (X (s + i)).oneCell' = true; rw [e1]; rfl
    · show (Y (s + i)).oneCell' = true; rw [e2]; rfl
    · show (Z (s + i)).oneCell' = true; rw [e3]; rfl
/-- A row in one new block. -/
def RowN (W : World) (B U : Nat) (PR : Option Addr) (xs : List Value) : Prop := U ≤ W.heap.size ∧ ∀ (j : Nat) u, xs[j]? = some u → ∃ g, PR = some ⟨g, 0, none⟩ ∧ B ≤ g ∧ g < U ∧ W.cell? ⟨g, j, none⟩ = some u
theorem RowN.of {W : World} {B n c : Nat} {PR : Option Addr} {xs : List Value} (h : W.ownsRow B 40 3 (.slice PR n c) n xs) : RowN W B W.heap.size PR xs := by
  refine ⟨Nat.le_refl _, fun j u hu => ?_⟩
  rcases h.2 with ⟨h1, h2⟩ | ⟨g, c', cur, h1, h3, h4, _⟩
  · have := h.1
    rw [h2] at this
    have : xs = [] := List.eq_nil_of_length_eq_zero (by omega)
    rw [this] at hu
    cases hu
  · injection h1 with h1
    subst h1
    have hc := h.cells (g := g) rfl j u hu
    rw [add_zero0] at hc
    exact ⟨g, rfl, h3, World.block_lt_of_cell? W _ hc, hc⟩
theorem RowN.below {W W' : World} {B U : Nat} {PR : Option Addr} {xs : List Value} (h : RowN W B U PR xs) (hb : Below W.heap.size W W') : RowN W' B U PR xs := ⟨Nat.le_trans h.1 hb.size, fun j u hu => by
  obtain ⟨g, e, h1, h2, h3⟩ := h.2 j u hu
  exact ⟨g, e, h1, h2, (hb.cell (p := ⟨g, j, none⟩) (Nat.lt_of_lt_of_le h2 h.1)).trans h3⟩⟩
theorem RowN.far {W : World} {B U : Nat} {PR : Option Addr} {xs : List Value} {p : Addr} (h : RowN W B U PR xs) (hp : p.block < B ∨ U ≤ p.block) (v : Value) : RowN (W.setCell p v) B U PR xs := ⟨by have := h.1; simpa using this, fun j u hu => by
  obtain ⟨g, e, h1, h2, h3⟩ := h.2 j u hu
  refine ⟨g, e, h1, h2, ?_⟩
  rw [World.cell?_setCell_other]
  · exact h3
  · intro e; rw [e] at hp; simp at hp; omega⟩
theorem sizes_len : ∀ ps : List CT, ps.length ≤ sizes ps
  | [] => Nat.zero_le _
  | p :: ps => by rw [sizes]; have := p.size_pos; have := sizes_len ps; simp; omega
theorem ver_len {n a m b : Nat} {ps : List CT} (h : verB (.node n a m b ps) = true) : ps.length ≤ 1000 := by
  have h1 := (verB_out h).1
  rw [CT.size] at h1
  have := sizes_len ps
  omega
theorem idx_get {k k1 i : Nat} (hk : k1 < k) (h : i < (List.range' 0 k1 ++ List.range' (k1 + 1) (k - (k1 + 1))).length) : (List.range' 0 k1 ++ List.range' (k1 + 1) (k - (k1 + 1)))[i] = if i < k1 then i else i + 1 := by
  rw [List.getElem_append]
  by_cases hi : i < k1
  · rw [dif_pos (by simpa using hi), if_pos hi]; simp
  · rw [dif_neg (by simpa using hi), if_neg hi]; simp; omega
theorem del_get {ps : List CT} {k1 i : Nat} (hk : k1 < ps.length) (h : i < (ps.take k1 ++ ps.drop (k1 + 1)).length) : ∃ (j : Nat) (hj : j < ps.length), (j = if i < k1 then i else i + 1) ∧ (ps.take k1 ++ ps.drop (k1 + 1))[i] = ps[j] := by
  simp at h
  by_cases hi : i < k1
  · exact ⟨i, by omega, by rw [if_pos hi], by rw [List.getElem_append_left (by simp; omega)]; simp⟩
  · refine ⟨i + 1, by omega, by rw [if_neg hi], ?_⟩
    rw [List.getElem_append_right (by simp; omega)]
    simp only [List.getElem_drop, List.length_take]
    congr 1
    omega
/-- The certificate without one of its parts. -/
theorem cv_other {w W : World} {A A' PR : Option Addr} {n c a m d b k k1 cr B U : Nat} {X Y Z : Nat → Value} {ps : List CT} (WW : Below w.heap.size w W) (hk : ps.length = k) (hk2 : k ≤ 9223372036854775807) (hk1 : k1 < k) (hN : Num W W.heap.size A n a) (hR : Num W W.heap.size A' m b) (hn : n ≤ 9223372036854775807) (hm : m ≤ 9223372036854775807)
    (hT : ∀ i (h : i < ps.length), CV w w.heap.size (X i) (Y i) (Z i) ps[i]) (hrow : RowN W B U PR (flat (trp X Y Z (List.range' 0 k1)) ++ flat (trp X Y Z (List.range' (k1 + 1) (k - (k1 + 1)))))) :
    CV W W.heap.size (.slice A n c) (.slice A' m d) (.slice PR (k1 + (k - (k1 + 1))) cr) (.node n a m b (ps.take k1 ++ ps.drop (k1 + 1))) := by
  have hU := hrow.1
  replace hrow := hrow.2
  rw [← trp_app] at hrow
  have hl : (List.range' 0 k1 ++ List.range' (k1 + 1) (k - (k1 + 1))).length = k1 + (k - (k1 + 1)) := by simp
  refine .mk (fun i => X (if i < k1 then i else i + 1)) (fun i => Y (if i < k1 then i else i + 1)) (fun i => Z (if i < k1 then i else i + 1)) hN hR hn hm (by simp; omega) (by omega) (fun i hi => ?_) (fun i hi => ?_)
  · have hi' : i < (trp X Y Z (List.range' 0 k1 ++ List.range' (k1 + 1) (k - (k1 + 1)))).length := by unfold trp; rw [List.length_map, hl]; exact hi
    have e : (trp X Y Z (List.range' 0 k1 ++ List.range' (k1 + 1) (k - (k1 + 1))))[i] = (X (if i < k1 then i else i + 1), Y (if i < k1 then i else i + 1), Z (if i < k1 then i else i + 1)) := by
      rw [trp_get X Y Z _ i hi' (by rw [hl]; exact hi), idx_get hk1 (by rw [hl]; exact hi)]
    obtain ⟨f0, f1, f2⟩ := flat_at _ i hi'
    rw [e] at f0 f1 f2
    obtain ⟨g, e0, _, g2, c0⟩ := hrow _ _ f0
    obtain ⟨g', e1, _, _, c1⟩ := hrow _ _ f1
    obtain ⟨g'', e2, _, _, c2⟩ := hrow _ _ f2
    rw [e0] at e1 e2
    injection e1 with e1
    injection e1 with e1
    injection e2 with e2
    injection e2 with e2
    subst e1 e2
    refine ⟨⟨g, 0, none⟩, e0, by show g < _; omega, ?_, ?_, ?_⟩
    · rw [add_zero0]; exact c0
    · rw [add_zero0]; exact c1
    · rw [add_zero0]; exact c2
  · obtain ⟨j, hj, ej, e⟩ := del_get (by omega) hi
    rw [e, ← ej]
    exact (hT j hj).to WW WW.size
theorem cv_one {w W : World} {A A' P D : Option Addr} {n c a m d b k ex d1 : Nat} {ps : List CT} (h : CV w w.heap.size (.slice A n c) (.slice A' m d) (.slice P k ex) (.node n a m b ps)) (WW : Below w.heap.size w W) (hR : Num W W.heap.size D (nw 1) 1) :
    CV W W.heap.size (.slice A n c) (.slice D (nw 1) d1) (.slice P k ex) (.node n a (nw 1) 1 ps) := by
  cases h.to WW WW.size with
  | mk X Y Z hN _ hn hm hk hk2 hP hT => exact .mk X Y Z hN hR hn (by decide) hk hk2 hP hT
end Go.Proofs.YtomkmkjkeihodaaDoor
