/- Texts and digests: there and back, plain. -/
import Derived.Test.YtenmdfhdiepfcaaDoorLTx4
set_option linter.unusedVariables false
set_option linter.unusedSimpArgs false
namespace Go.Proofs.YtenmdfhdiepfcaaDoor
open Go Go.RowKit
theorem pairs_range (f : Nat → Nat) : ∀ n, (List.range n).flatMap (fun i => [f (2 * i), f (2 * i + 1)]) = (List.range (2 * n)).map f := by
  intro n
  induction n with
  | zero => rfl
  | succ n ih =>
    rw [List.range_succ, List.flatMap_append, ih, show 2 * (n + 1) = 2 * n + 1 + 1 from by omega, List.range_succ, List.range_succ]
    simp
theorem hexL_map (g : Nat → Nat) (n : Nat) : hexL ((List.range n).map g) = (List.range n).flatMap (fun i => [sym (g i / 16), sym (g i % 16)]) := by
  unfold hexL
  rw [List.flatMap_map]
/-- A text that is that of a digest is what the digest is written as. -/
theorem hex_back (s : ByteArray) (h : okT s) : strN (hexL (pk s 64)) = s := by
  have hl : s.data.toList.length = 64 := by simpa using h.1
  have h1 : hexL (pk s 64) = (List.range 64).map (tx s) := by
    rw [← pairs_range (tx s) 32]
    unfold pk
    rw [hexL_map]
    have e : ∀ i ∈ List.range 32, [sym (pb s 64 i / 16), sym (pb s 64 i % 16)] = [tx s (2 * i), tx s (2 * i + 1)] := by
      intro i hi
      have hi := List.mem_range.1 hi
      have a0 := h.2 (2 * i) (by omega)
      have a1 := h.2 (2 * i + 1) (by omega)
      have b0 := dgt_hi (tx s (2 * i))
      have b1 := dgt_hi (tx s (2 * i + 1))
      have c0 := sym_dgt ⟨tx s (2 * i), tx_lt s _⟩ a0
      have c1 := sym_dgt ⟨tx s (2 * i + 1), tx_lt s _⟩ a1
      unfold pb
      rw [if_pos (by omega), show ((dgt (tx s (2 * i))).toNat * 16 + (dgt (tx s (2 * i + 1))).toNat) / 16 = (dgt (tx s (2 * i))).toNat by omega, show ((dgt (tx s (2 * i))).toNat * 16 + (dgt (tx s (2 * i + 1))).toNat) % 16 = (dgt (tx s (2 * i + 1))).toNat by omega]
      exact congr (congrArg List.cons c0) (congrArg (fun x => [x]) c1)
    rw [List.flatMap_def, List.flatMap_def, List.map_congr_left e]
  have h2 : (List.range 64).map (tx s) = s.data.toList.map UInt8.toNat := by
    apply List.ext_getElem
    · simpa using h.1.symm
    · intro i h1 h2
      simp only [List.getElem_map, List.getElem_range]
      unfold tx
      rw [List.getD_eq_getElem?_getD, List.getElem?_eq_getElem h2]
      simp
  rw [h1, h2]
  apply ByteArray.ext
  apply Array.ext'
  unfold strN
  rw [strOfNums_data, List.map_map, List.map_map]
  conv => rhs; rw [← List.map_id s.data.toList]
  apply List.map_congr_left
  intro c _
  simp
theorem tx_str (l : List Nat) (h : ∀ x ∈ l, x < 256) (k : Nat) : tx (strN l) k = l.getD k 0 := by
  unfold tx strN
  rw [strOfNums_data, List.map_map, List.map_map, List.getD_eq_getElem?_getD, List.getElem?_map, List.getD_eq_getElem?_getD]
  cases e : l[k]? with
  | none => rfl
  | some x =>
    have := h x (List.mem_of_getElem? e)
    simp
    omega
theorem hexL_at (a : List Nat) (i : Nat) (h : i < a.length) : (hexL a).getD (2 * i) 0 = sym (a.getD i 0 / 16) ∧ (hexL a).getD (2 * i + 1) 0 = sym (a.getD i 0 % 16) := by
  induction a generalizing i with
  | nil => simp at h
  | cons x a ih =>
    cases i with
    | zero => simp [hexL]
    | succ i =>
      have := ih i (by simpa using h)
      rw [show 2 * (i + 1) = 2 * i + 1 + 1 from by omega]
      simpa [hexL, List.flatMap_cons] using this
theorem hex_ok (a : List Nat) (ha : a.length = 32) (h8 : ∀ x ∈ a, x < 256) : okT (strN (hexL a)) ∧ pk (strN (hexL a)) 64 = a := by
  have lt_get : ∀ i, a.getD i 0 < 256 := fun i => by
    rw [List.getD_eq_getElem?_getD]
    cases e : a[i]? with
    | none => simp
    | some v => exact h8 v (List.mem_of_getElem? e)
  have hd : ∀ i, i < 32 → dgt (tx (strN (hexL a)) (2 * i)) = ((a.getD i 0 / 16 : Nat) : Int) ∧ dgt (tx (strN (hexL a)) (2 * i + 1)) = ((a.getD i 0 % 16 : Nat) : Int) := by
    intro i hi
    have h2 := hexL_at a i (by omega)
    have hx := lt_get i
    rw [tx_str _ (hexL_lt h8), tx_str _ (hexL_lt h8), h2.1, h2.2]
    exact ⟨dgt_sym ⟨a.getD i 0 / 16, by omega⟩, dgt_sym ⟨a.getD i 0 % 16, by omega⟩⟩
  refine ⟨⟨?_, fun j hj => ?_⟩, ?_⟩
  · have : (strN (hexL a)).size = (hexL a).length := by
      show (strOfNums _).size = _
      rw [strOfNums_size]; simp
    rw [this, hexL_len, ha]
  · rcases Nat.mod_two_eq_zero_or_one j with h | h
    · rw [show j = 2 * (j / 2) by omega, (hd (j / 2) (by omega)).1]; omega
    · rw [show j = 2 * (j / 2) + 1 by omega, (hd (j / 2) (by omega)).2]; omega
  · apply List.ext_getElem
    · rw [pk_len, ha]
    · intro i h1 h2
      have hi : i < 32 := by rw [pk_len] at h1; exact h1
      have e := hd i hi
      simp only [pk, List.getElem_map, List.getElem_range]
      unfold pb
      rw [if_pos (by omega), e.1, e.2, List.getD_eq_getElem?_getD, List.getElem?_eq_getElem h2]
      simp
      omega
end Go.Proofs.YtenmdfhdiepfcaaDoor
