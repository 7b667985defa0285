/- Plain: every number has one string. -/
import Derived.Test.YtohiimpjcgcaiaaLBack
set_option linter.unusedVariables false
set_option linter.unusedSimpArgs false
namespace Go.Proofs.Ytohiimpjcgcaiaa
open Go Go.RowKit

theorem strN_strL (s : ByteArray) : strN (strL s) = s := by
  unfold strN strL strOfNums
  rw [List.map_map, List.map_map]
  have e : ∀ l : List UInt8, l.map ((fun n : Int => UInt8.ofNat n.toNat) ∘ (fun d : Nat => ((d : Nat) : Int)) ∘ UInt8.toNat) = l := by
    intro l
    conv => rhs; rw [← List.map_id l]
    exact List.map_congr_left fun x _ => by simp [Function.comp]
  have h := e s.data.toList
  have h2 : (⟨(s.data.toList.map ((fun n : Int => UInt8.ofNat n.toNat) ∘ (fun d : Nat => ((d : Nat) : Int)) ∘ UInt8.toNat)).toArray⟩ : ByteArray) = s := by rw [h]
  exact h2
theorem dgs_cons (b a k : Nat) : dgs b a (k + 1) = a % b :: dgs b (a / b) k := by
  unfold dgs
  rw [List.range_succ_eq_map, List.map_cons, List.map_map]
  congr 1
  · simp
  · refine List.map_congr_left fun i _ => ?_
    simp only [Function.comp, Nat.succ_eq_add_one]
    rw [Nat.pow_succ, Nat.mul_comm, ← Nat.div_div_eq_div_mul]
theorem dgs_vb {b : Nat} (hb : 0 < b) : ∀ (E : List Nat), (∀ x ∈ E, x < b) → dgs b (vb b E.reverse) E.length = E
  | [], _ => rfl
  | y :: E, h => by
    have hy := h y (by simp)
    have hv : vb b (y :: E).reverse = vb b E.reverse * b + y := by rw [List.reverse_cons, vb_append]; simp [vb]
    rw [List.length_cons, dgs_cons, hv, Nat.mul_add_mod_self_right, Nat.mod_eq_of_lt hy, Nat.mul_comm, Nat.mul_add_div hb, Nat.div_eq_of_lt hy, Nat.add_zero, dgs_vb hb E (fun x hx => h x (by simp [hx]))]
theorem sym_digC {c : Nat} (h : digC c < 16) : sym (digC c) = c := by
  unfold digC at h ⊢
  split
  · unfold sym; rw [if_pos (by omega)]; omega
  · rename_i h1
    rw [if_neg h1] at h
    split
    · unfold sym; rw [if_neg (by omega)]; omega
    · rename_i h2; rw [if_neg h2] at h; omega
theorem limS_zero {x v : Nat} (h : limS x = (v, 0)) : x = v ∧ nw v ≤ 64 := by
  unfold limS at h
  split at h
  · injection h with h1 h2; subst h1; exact ⟨rfl, by assumption⟩
  · injection h with h1 h2; cases h2
theorem rd_inv {b v : Nat} {L : List Nat} (hb : 10 ≤ b) (hb2 : b ≤ 16) (h : rdS b L = (v, 0)) : textN b v = L ∧ nw v ≤ 64 := by
  unfold rdS at h
  split at h
  · injection h with _ h; cases h
  split at h
  · injection h with _ h; cases h
  rename_i hform
  split at h
  · rename_i hall
    obtain ⟨hv, h64⟩ := limS_zero h
    refine ⟨?_, h64⟩
    have hdig : ∀ c ∈ L, digC c < b := fun c hc => of_decide_eq_true (List.all_eq_true.1 hall c hc)
    have hD : ∀ x ∈ (L.map digC).reverse, x < b := by
      intro x hx
      obtain ⟨c, hc, rfl⟩ := List.mem_map.1 (List.mem_reverse.1 hx)
      exact hdig c hc
    have hmap : (L.map digC).map sym = L := by
      rw [List.map_map]
      conv => rhs; rw [← List.map_id L]
      exact List.map_congr_left fun c hc => sym_digC (Nat.lt_of_lt_of_le (hdig c hc) hb2)
    have hdv := dgs_vb (b := b) (by omega) (L.map digC).reverse hD
    rw [List.reverse_reverse, List.length_reverse, List.length_map, hv] at hdv
    match L, hform, hdig, hmap, hdv, hv with
    | [], hform, _, _, _, _ => exact absurd (.inl rfl) hform
    | c :: L', hform, hdig, hmap, hdv, hv =>
      by_cases hc0 : c = 48
      · have hl : L' = [] := by
          cases L' with
          | nil => rfl
          | cons x xs => exact absurd (.inr ⟨by rw [hc0]; rfl, by simp⟩) hform
        subst hl hc0
        have : v = 0 := by rw [← hv]; simp [vb, digC]
        subst this
        rfl
      · have hd0 : digC c ≠ 0 := by
          intro h0
          have h1 := sym_digC (c := c) (by omega)
          rw [h0] at h1
          exact hc0 h1.symm
        have hlen : ndg b v = L'.length + 1 := by
          refine ndg_eq (by omega) ?_ (fun _ => ?_)
          · rw [← hv]
            have := vb_bd (b := b) (ys := (c :: L').map digC) (fun y hy => hD y (List.mem_reverse.2 hy))
            simpa using this
          · rw [← hv, List.map_cons, vb_cons, List.length_map, Nat.add_sub_cancel]
            exact Nat.le_trans (Nat.le_mul_of_pos_left _ (by omega)) (Nat.le_add_right _ _)
        have hv0 : ¬ v = 0 := by
          intro h0
          rw [h0, ndg_zero (by omega)] at hlen
          omega
        unfold textN
        rw [if_neg hv0, hlen]
        rw [List.length_cons] at hdv
        rw [hdv, List.reverse_reverse, hmap]
  · injection h with _ h; cases h
theorem text_back {b v : Nat} {s : ByteArray} (hb : 10 ≤ b) (hb2 : b ≤ 16) (h : rdS b (strL s) = (v, 0)) : strN (textS b (nw v) v) = s := by
  obtain ⟨h1, h2⟩ := rd_inv hb hb2 h
  unfold textS
  rw [if_pos (okB_nw h2), h1, strN_strL]
theorem len_lt {a b : Nat} {s t : ByteArray} (h1 : rdS 10 (strL s) = (a, 0)) (h2 : rdS 10 (strL t) = (b, 0)) (h : s.size < t.size) : a < b := by
  have e1 := (rd_inv (by decide) (by decide) h1).1
  have e2 := (rd_inv (by decide) (by decide) h2).1
  have l1 := strL_len s
  have l2 := strL_len t
  rw [← e1] at l1
  rw [← e2] at l2
  have hp : 0 < s.size := by
    rw [← l1]
    by_cases h0 : a = 0
    · unfold textN; rw [if_pos h0]; simp
    · rw [textN_len h0]; exact ndg_pos (by decide) h0
  by_cases hb0 : b = 0
  · rw [hb0] at l2
    unfold textN at l2
    rw [if_pos rfl] at l2
    simp at l2
    omega
  · rw [textN_len hb0] at l2
    by_cases ha0 : a = 0
    · omega
    · rw [textN_len ha0] at l1
      have h3 := (ndg_top (b := 10) (a := a) (by decide)).1
      have h4 := (ndg_top (b := 10) (a := b) (by decide)).2 (by omega)
      have h5 : 10 ^ ndg 10 a ≤ 10 ^ (ndg 10 b - 1) := Nat.pow_le_pow_right (by decide) (by omega)
      exact Nat.lt_of_lt_of_le h3 (Nat.le_trans h5 h4)
end Go.Proofs.Ytohiimpjcgcaiaa
