/- Plain: every form is read as its number. -/
import Derived.Test.YtohiimpjcgcaiaaLBytes
set_option linter.unusedVariables false
set_option linter.unusedSimpArgs false
namespace Go.Proofs.Ytohiimpjcgcaiaa
open Go Go.RowKit

theorem strL_strN {l : List Nat} (h : ∀ x ∈ l, x ≤ 255) : strL (strN l) = l := by
  unfold strL strN
  rw [strOfNums_data, List.map_map, List.map_map]
  conv => rhs; rw [← List.map_id l]
  refine List.map_congr_left fun x hx => ?_
  have := h x hx
  simp only [Function.comp, Int.toNat_natCast, UInt8.toNat_ofNat', id]
  omega
theorem vb_cons (b x : Nat) (l : List Nat) : vb b (x :: l) = x * b ^ l.length + vb b l := by
  have := vb_append b [x] l
  simpa [vb] using this
theorem vb_dgs (b a : Nat) : ∀ k, vb b (dgs b a k).reverse = a % b ^ k
  | 0 => by simp [dgs, vb, Nat.mod_one]
  | k + 1 => by
    rw [dgs_succ, List.reverse_append, List.reverse_singleton, List.singleton_append, vb_cons, vb_dgs b a k, List.length_reverse, dgs_len, Nat.pow_succ, Nat.mod_mul, Nat.mul_comm, Nat.add_comm]
theorem vb_all {b a : Nat} (hb : 2 ≤ b) : vb b (dgs b a (ndg b a)).reverse = a := by
  rw [vb_dgs, Nat.mod_eq_of_lt (ndg_top hb).1]
theorem vb_zeros (b k : Nat) (l : List Nat) : vb b (List.replicate k 0 ++ l) = vb b l := by
  rw [vb_append]
  have h : ∀ k, vb b (List.replicate k 0) = 0 := fun k => by
    induction k with
    | zero => rfl
    | succ k ih => rw [List.replicate_succ, vb_cons, ih]; simp
  rw [h]; simp
theorem digC_sym {d : Nat} (h : d < 16) : digC (sym d) = d := by
  unfold sym
  split
  · unfold digC; rw [if_pos (by omega)]; omega
  · unfold digC; rw [if_neg (by omega), if_pos (by omega)]; omega
theorem ndg_bd {b a : Nat} (hb : 10 ≤ b) (h : nw a ≤ 64) : ndg b a ≤ 1000 := by
  rcases Nat.lt_or_ge 1000 (ndg b a) with h1 | h1
  · exfalso
    have h2 := (ndg_top (b := b) (a := a) (by omega)).2 (by omega)
    obtain ⟨j, hj⟩ : ∃ j, j = ndg b a - 1 := ⟨_, rfl⟩
    rw [← hj] at h2
    have h4 : 2 ^ (3 * j) ≤ b ^ j := by rw [Nat.pow_mul]; exact Nat.pow_le_pow_left (by omega) _
    have h5 : 2 ^ (32 * nw a) ≤ 2 ^ (3 * j) := Nat.pow_le_pow_right (by decide) (by omega)
    exact Nat.lt_irrefl _ (Nat.lt_of_lt_of_le (lt_nw a) (Nat.le_trans h5 (Nat.le_trans h4 h2)))
  · exact h1
theorem top_dig {b a : Nat} (hb : 2 ≤ b) (h : ¬ a = 0) : a / b ^ (ndg b a - 1) % b ≠ 0 := by
  have h0 := ndg_pos hb h
  intro hz
  have h1 := (ndg_top (b := b) (a := a) hb)
  have e : ndg b a = (ndg b a - 1) + 1 := by omega
  have h2 := h1.1
  rw [e] at h2
  have := top_zero h2 hz hb
  have := h1.2 h0
  omega
theorem sym_zero {d : Nat} (h : d < 16) (h0 : d ≠ 0) : sym d ≠ 48 := by unfold sym; split <;> omega
theorem mem_dgs {b a k x : Nat} (hb : 0 < b) (h : x ∈ dgs b a k) : x < b := by
  unfold dgs at h
  obtain ⟨i, _, rfl⟩ := List.mem_map.1 h
  exact Nat.mod_lt _ hb
theorem textN_len {b a : Nat} (h : ¬ a = 0) : (textN b a).length = ndg b a := by unfold textN; rw [if_neg h]; simp [dgs_len]
theorem textN_le {b a x : Nat} (hb : 0 < b) (hb2 : b ≤ 16) (h : x ∈ textN b a) : x ≤ 255 := by
  unfold textN at h
  split at h
  · simp at h; omega
  · obtain ⟨d, hd, rfl⟩ := List.mem_map.1 h
    have := mem_dgs hb (List.mem_reverse.1 hd)
    exact sym_le d (by omega)
theorem textN_digs {b a : Nat} (hb : 0 < b) (hb2 : b ≤ 16) : (textN b a).map digC = if a = 0 then [0] else (dgs b a (ndg b a)).reverse := by
  unfold textN
  split
  · rfl
  · rw [List.map_map]
    conv => rhs; rw [← List.map_id (dgs b a (ndg b a)).reverse]
    refine List.map_congr_left fun d hd => ?_
    have := mem_dgs hb (List.mem_reverse.1 hd)
    exact digC_sym (by omega)
theorem rd_text {b a : Nat} (hb : 10 ≤ b) (hb2 : b ≤ 16) (ha : nw a ≤ 64) : rdS b (textN b a) = (a, 0) := by
  have hd := textN_digs (a := a) (show 0 < b by omega) hb2
  have hlen : (textN b a).length ≤ 1000 := by
    by_cases h : a = 0
    · unfold textN; rw [if_pos h]; simp
    · rw [textN_len h]; exact ndg_bd hb ha
  have hv : vb b ((textN b a).map digC) = a := by
    rw [hd]
    split
    · rename_i h; rw [h]; simp [vb]
    · exact vb_all (by omega)
  unfold rdS
  rw [if_neg (by omega), if_neg, if_pos, hv, limS_ok ha]
  · rw [List.all_eq_true]
    intro c hc
    have h1 : digC c ∈ (textN b a).map digC := List.mem_map.2 ⟨c, hc, rfl⟩
    rw [hd] at h1
    refine decide_eq_true ?_
    split at h1
    · simp at h1; omega
    · exact mem_dgs (by omega) (List.mem_reverse.1 h1)
  · by_cases h : a = 0
    · unfold textN; rw [if_pos h]; simp
    · have h0 := ndg_pos (b := b) (by omega) h
      have hl := textN_len (b := b) h
      rintro (h1 | ⟨h1, h2⟩)
      · rw [h1] at hl; simp at hl; omega
      · have e : (textN b a)[0]? = some (sym (a / b ^ (ndg b a - 1) % b)) := by
          unfold textN
          rw [if_neg h, List.getElem?_map, List.getElem?_reverse (by rw [dgs_len]; exact h0), dgs_len, Nat.sub_zero, List.getElem?_eq_getElem (by rw [dgs_len]; omega), dgs_at]; rfl
        rw [e] at h1
        injection h1 with h1
        exact sym_zero (Nat.lt_of_lt_of_le (Nat.mod_lt _ (by omega)) hb2) (top_dig (by omega) h) h1
theorem ndg256 {a : Nat} : ndg 256 a ≤ 4 * nw a := by
  refine ndg_le (by decide) ?_
  have h := lt_nw a
  have e : 2 ^ (32 * nw a) = 256 ^ (4 * nw a) := by rw [show (256 : Nat) = 2 ^ 8 from rfl, ← Nat.pow_mul]; congr 1; omega
  rw [← e]; exact h
theorem bts_ok {a m : Nat} (ha : nw a ≤ 64) (hm : m ≤ 255) : bytesS (nw a) a (((4 * nw a + m : Nat)) : Int) = (bytesL (4 * nw a + m) a, 0) := by
  have h1 := ndg256 (a := a)
  unfold bytesS
  rw [if_pos (okB_nw ha), if_pos (by omega), if_pos (by omega)]
  rfl
theorem bytesL_len {s a : Nat} (h : ndg 256 a ≤ s) : (bytesL s a).length = s := by
  unfold bytesL; simp [dgs_len]; omega
theorem bytesL_le {s a x : Nat} (h : x ∈ bytesL s a) : x ≤ 255 := by
  unfold bytesL at h
  rcases List.mem_append.1 h with h | h
  · have := List.eq_of_mem_replicate h; omega
  · have := mem_dgs (by decide) (List.mem_reverse.1 h); omega
theorem fb_bts {a m : Nat} (ha : nw a ≤ 64) (hm : m ≤ 255) : fbS (bytesL (4 * nw a + m) a) = (a, 0) := by
  have h1 := ndg256 (a := a)
  unfold fbS
  rw [bytesL_len (by omega), if_neg (by omega)]
  unfold bytesL
  rw [vb_zeros, vb_all (by decide), limS_ok ha]
end Go.Proofs.Ytohiimpjcgcaiaa
