/- natmod: check, Add, Sub, Mul. -/
import Derived.Test.YtomkmkjkeihodaaDoorMod1
set_option linter.unusedVariables false
set_option linter.unusedSimpArgs false
namespace Go.Proofs.YtomkmkjkeihodaaDoor
open Go.RowKit

/-- What check returns: 0, or the error number. -/
def chkS (n a k b q m : Nat) : Int := if okB n a && (okB k b && modB q m) then (if a < m ∧ b < m then 0 else 2) else 1
def modS (c : Int) (v : Nat) : Nat × Int := if c = 0 then (v, 0) else (0, c)
theorem modS_ok (v : Nat) : modS 0 v = (v, 0) := rfl
theorem modS_no {c : Int} (h : ¬ c = 0) (v : Nat) : modS c v = (0, c) := by unfold modS; rw [if_neg h]
theorem modB_yes {q m : Nat} (h : modB q m = true) : nw m = q ∧ q ≤ 32 ∧ 0 < m := by
  unfold modB at h
  rw [Bool.and_eq_true] at h
  obtain ⟨h1, h2⟩ := h
  obtain ⟨h3, h4⟩ := okB_yes.1 h1
  have h5 := of_decide_eq_true h2
  refine ⟨h3, by omega, ?_⟩
  rcases Nat.eq_zero_or_pos m with h6 | h6
  · rw [h6, nw_zero] at h5; omega
  · exact h6
theorem chk0 {n a k b q m : Nat} (h : chkS n a k b q m = 0) : nw a = n ∧ nw b = k ∧ nw m = q ∧ q ≤ 32 ∧ 0 < m ∧ a < m ∧ b < m := by
  unfold chkS at h
  by_cases h1 : (okB n a && (okB k b && modB q m)) = true
  · rw [if_pos h1] at h
    by_cases h2 : a < m ∧ b < m
    · rw [Bool.and_eq_true, Bool.and_eq_true] at h1
      obtain ⟨h3, h4, h5⟩ := h1
      obtain ⟨h6, h7, h8⟩ := modB_yes h5
      exact ⟨(okB_yes.1 h3).1, (okB_yes.1 h4).1, h6, h7, h8, h2.1, h2.2⟩
    · rw [if_neg h2] at h; cases h
  · rw [if_neg h1] at h; cases h
theorem chk_bd (n a k b q m : Nat) : 0 ≤ chkS n a k b q m ∧ chkS n a k b q m ≤ 2 := by unfold chkS; split <;> (try split) <;> omega

set_option maxHeartbeats 4000000 in
theorem check_a (A B' C' : Option Addr) (n k q c d p a b m : Nat) (w : World) (hA : Num w w.heap.size A n a) (hB : Num w w.heap.size B' k b) (hC : Num w w.heap.size C' q m) (hn : n ≤ 9223372036854775807) (hk : k ≤ 9223372036854775807) (hq : q ≤ 9223372036854775807) (h1 : okB n a = false) :
    Calls Tryd.prog 85 #[.agg #[.slice A n c], .agg #[.slice B' k d], .agg #[.slice C' q p]] w (RetB (.int .i64 (chkS n a k b q m)) w) := by
  have HC0 : chkS n a k b q m = 1 := by unfold chkS; simp only [h1]; rfl
  rw [HC0]
  clear HC0
  have H1 := hid h1
  clear h1
  obtain ⟨b0, b1, b2, bw⟩ := boxes3 w (.slice A n c) (.slice B' k d) (.slice C' q p)
  have XA := Box.mk b0 hA bw
  have XB := Box.mk b1 hB bw
  have XC := Box.mk b2 hC bw
  have WW := bw
  clear bw b0 b1 b2
  go_enter Tryd.func85, Tryd.ntmps85
  go_wp2_with fail
  generalize hV : (((w.alloc (.cells #[.slice A n c] 37)).alloc (.cells #[.slice B' k d] 37)).alloc (.cells #[.slice C' q p] 37)) = V0 at XA XB XC WW ⊢
  clear hV
  have hbs : w.heap.size ≤ V0.heap.size := WW.size
  have hc := valid_any A _ c a _ V0 XA.num (Nat.le_refl _) hn
  rw [H1.out] at hc
  refine hc.mono ?_
  clear hc
  rintro e V1 ⟨rfl, hb⟩
  replace XA := XA.below hb
  replace XB := XB.below hb
  replace XC := XC.below hb
  replace WW := WW.trans (hb.mono WW.size)
  have kXA := XA.cell
  have zXA := XA.lt
  have kXB := XB.cell
  have zXB := XB.lt
  have kXC := XC.cell
  have zXC := XC.lt
  clear hb hbs
  go_wp2_with fail
  go_ret
  exact ⟨rfl, WW⟩

set_option maxHeartbeats 4000000 in
theorem check_b (A B' C' : Option Addr) (n k q c d p a b m : Nat) (w : World) (hA : Num w w.heap.size A n a) (hB : Num w w.heap.size B' k b) (hC : Num w w.heap.size C' q m) (hn : n ≤ 9223372036854775807) (hk : k ≤ 9223372036854775807) (hq : q ≤ 9223372036854775807) (h1 : okB n a = true) (h2 : okB k b = false) :
    Calls Tryd.prog 85 #[.agg #[.slice A n c], .agg #[.slice B' k d], .agg #[.slice C' q p]] w (RetB (.int .i64 (chkS n a k b q m)) w) := by
  have HC0 : chkS n a k b q m = 1 := by unfold chkS; simp only [h1, h2]; rfl
  rw [HC0]
  clear HC0
  have H1 := hid h1
  have H2 := hid h2
  clear h1 h2
  obtain ⟨b0, b1, b2, bw⟩ := boxes3 w (.slice A n c) (.slice B' k d) (.slice C' q p)
  have XA := Box.mk b0 hA bw
  have XB := Box.mk b1 hB bw
  have XC := Box.mk b2 hC bw
  have WW := bw
  clear bw b0 b1 b2
  go_enter Tryd.func85, Tryd.ntmps85
  go_wp2_with fail
  generalize hV : (((w.alloc (.cells #[.slice A n c] 37)).alloc (.cells #[.slice B' k d] 37)).alloc (.cells #[.slice C' q p] 37)) = V0 at XA XB XC WW ⊢
  clear hV
  have hbs : w.heap.size ≤ V0.heap.size := WW.size
  have hc := valid_any A _ c a _ V0 XA.num (Nat.le_refl _) hn
  rw [H1.out] at hc
  refine hc.mono ?_
  clear hc
  rintro e V1 ⟨rfl, hb⟩
  replace XA := XA.below hb
  replace XB := XB.below hb
  replace XC := XC.below hb
  replace WW := WW.trans (hb.mono WW.size)
  have kXA := XA.cell
  have zXA := XA.lt
  have kXB := XB.cell
  have zXB := XB.lt
  have kXC := XC.cell
  have zXC := XC.lt
  clear hb hbs
  go_wp2_with fail
  have hbs : w.heap.size ≤ V1.heap.size := WW.size
  have hc := valid_any B' _ d b _ V1 XB.num (Nat.le_refl _) hk
  rw [H2.out] at hc
  refine hc.mono ?_
  clear hc
  rintro e V2 ⟨rfl, hb⟩
  clear kXA zXA kXB zXB kXC zXC
  replace XA := XA.below hb
  replace XB := XB.below hb
  replace XC := XC.below hb
  replace WW := WW.trans (hb.mono WW.size)
  have kXA := XA.cell
  have zXA := XA.lt
  have kXB := XB.cell
  have zXB := XB.lt
  have kXC := XC.cell
  have zXC := XC.lt
  clear hb hbs
  go_wp2_with fail
  go_ret
  exact ⟨rfl, WW⟩

set_option maxHeartbeats 4000000 in
theorem check_m (A B' C' : Option Addr) (n k q c d p a b m : Nat) (w : World) (hA : Num w w.heap.size A n a) (hB : Num w w.heap.size B' k b) (hC : Num w w.heap.size C' q m) (hn : n ≤ 9223372036854775807) (hk : k ≤ 9223372036854775807) (hq : q ≤ 9223372036854775807) (h1 : okB n a = true) (h2 : okB k b = true) (h3 : modB q m = false) :
    Calls Tryd.prog 85 #[.agg #[.slice A n c], .agg #[.slice B' k d], .agg #[.slice C' q p]] w (RetB (.int .i64 (chkS n a k b q m)) w) := by
  have HC0 : chkS n a k b q m = 1 := by unfold chkS; simp only [h1, h2, h3]; rfl
  rw [HC0]
  clear HC0
  have H1 := hid h1
  have H2 := hid h2
  have H3 := hid h3
  clear h1 h2 h3
  obtain ⟨b0, b1, b2, bw⟩ := boxes3 w (.slice A n c) (.slice B' k d) (.slice C' q p)
  have XA := Box.mk b0 hA bw
  have XB := Box.mk b1 hB bw
  have XC := Box.mk b2 hC bw
  have WW := bw
  clear bw b0 b1 b2
  go_enter Tryd.func85, Tryd.ntmps85
  go_wp2_with fail
  generalize hV : (((w.alloc (.cells #[.slice A n c] 37)).alloc (.cells #[.slice B' k d] 37)).alloc (.cells #[.slice C' q p] 37)) = V0 at XA XB XC WW ⊢
  clear hV
  have hbs : w.heap.size ≤ V0.heap.size := WW.size
  have hc := valid_any A _ c a _ V0 XA.num (Nat.le_refl _) hn
  rw [H1.out] at hc
  refine hc.mono ?_
  clear hc
  rintro e V1 ⟨rfl, hb⟩
  replace XA := XA.below hb
  replace XB := XB.below hb
  replace XC := XC.below hb
  replace WW := WW.trans (hb.mono WW.size)
  have kXA := XA.cell
  have zXA := XA.lt
  have kXB := XB.cell
  have zXB := XB.lt
  have kXC := XC.cell
  have zXC := XC.lt
  clear hb hbs
  go_wp2_with fail
  have hbs : w.heap.size ≤ V1.heap.size := WW.size
  have hc := valid_any B' _ d b _ V1 XB.num (Nat.le_refl _) hk
  rw [H2.out] at hc
  refine hc.mono ?_
  clear hc
  rintro e V2 ⟨rfl, hb⟩
  clear kXA zXA kXB zXB kXC zXC
  replace XA := XA.below hb
  replace XB := XB.below hb
  replace XC := XC.below hb
  replace WW := WW.trans (hb.mono WW.size)
  have kXA := XA.cell
  have zXA := XA.lt
  have kXB := XB.cell
  have zXB := XB.lt
  have kXC := XC.cell
  have zXC := XC.lt
  clear hb hbs
  go_wp2_with fail
  have hbs : w.heap.size ≤ V2.heap.size := WW.size
  have hc := modulus_any C' _ p m V2 XC.num hq
  rw [H3.out] at hc
  refine hc.mono ?_
  clear hc
  rintro e V3 ⟨rfl, hb⟩
  clear kXA zXA kXB zXB kXC zXC
  replace XA := XA.below hb
  replace XB := XB.below hb
  replace XC := XC.below hb
  replace WW := WW.trans (hb.mono WW.size)
  have kXA := XA.cell
  have zXA := XA.lt
  have kXB := XB.cell
  have zXB := XB.lt
  have kXC := XC.cell
  have zXC := XC.lt
  clear hb hbs
  go_wp2_with fail
  go_ret
  exact ⟨rfl, WW⟩

set_option maxHeartbeats 4000000 in
theorem check_ra (A B' C' : Option Addr) (n k q c d p a b m : Nat) (w : World) (hA : Num w w.heap.size A n a) (hB : Num w w.heap.size B' k b) (hC : Num w w.heap.size C' q m) (hn : n ≤ 9223372036854775807) (hk : k ≤ 9223372036854775807) (hq : q ≤ 9223372036854775807) (h1 : okB n a = true) (h2 : okB k b = true) (h3 : modB q m = true) (h4 : ¬ a < m) :
    Calls Tryd.prog 85 #[.agg #[.slice A n c], .agg #[.slice B' k d], .agg #[.slice C' q p]] w (RetB (.int .i64 (chkS n a k b q m)) w) := by
  have HC0 : chkS n a k b q m = 2 := by unfold chkS; simp only [h1, h2, h3]; simp [h4]
  rw [HC0]
  clear HC0
  obtain ⟨hna, hn1⟩ := okB_yes.1 h1
  obtain ⟨hkb, hk1⟩ := okB_yes.1 h2
  obtain ⟨hqm, hq1, hm0⟩ := modB_yes h3
  subst hna hkb hqm
  have H1 := hid h1
  have H2 := hid h2
  have H3 := hid h3
  have H4 : Hid (decide (a < m) = false) := decide_eq_false h4
  clear h1 h2 h3 h4
  obtain ⟨b0, b1, b2, bw⟩ := boxes3 w (.slice A (nw a) c) (.slice B' (nw b) d) (.slice C' (nw m) p)
  have XA := Box.mk b0 hA bw
  have XB := Box.mk b1 hB bw
  have XC := Box.mk b2 hC bw
  have WW := bw
  clear bw b0 b1 b2
  go_enter Tryd.func85, Tryd.ntmps85
  go_wp2_with fail
  generalize hV : (((w.alloc (.cells #[.slice A (nw a) c] 37)).alloc (.cells #[.slice B' (nw b) d] 37)).alloc (.cells #[.slice C' (nw m) p] 37)) = V0 at XA XB XC WW ⊢
  clear hV
  have hbs : w.heap.size ≤ V0.heap.size := WW.size
  have hc := valid_any A _ c a _ V0 XA.num (Nat.le_refl _) hn
  rw [H1.out] at hc
  refine hc.mono ?_
  clear hc
  rintro e V1 ⟨rfl, hb⟩
  replace XA := XA.below hb
  replace XB := XB.below hb
  replace XC := XC.below hb
  replace WW := WW.trans (hb.mono WW.size)
  have kXA := XA.cell
  have zXA := XA.lt
  have kXB := XB.cell
  have zXB := XB.lt
  have kXC := XC.cell
  have zXC := XC.lt
  clear hb hbs
  go_wp2_with fail
  have hbs : w.heap.size ≤ V1.heap.size := WW.size
  have hc := valid_any B' _ d b _ V1 XB.num (Nat.le_refl _) hk
  rw [H2.out] at hc
  refine hc.mono ?_
  clear hc
  rintro e V2 ⟨rfl, hb⟩
  clear kXA zXA kXB zXB kXC zXC
  replace XA := XA.below hb
  replace XB := XB.below hb
  replace XC := XC.below hb
  replace WW := WW.trans (hb.mono WW.size)
  have kXA := XA.cell
  have zXA := XA.lt
  have kXB := XB.cell
  have zXB := XB.lt
  have kXC := XC.cell
  have zXC := XC.lt
  clear hb hbs
  go_wp2_with fail
  have hbs : w.heap.size ≤ V2.heap.size := WW.size
  have hc := modulus_any C' _ p m V2 XC.num hq
  rw [H3.out] at hc
  refine hc.mono ?_
  clear hc
  rintro e V3 ⟨rfl, hb⟩
  clear kXA zXA kXB zXB kXC zXC
  replace XA := XA.below hb
  replace XB := XB.below hb
  replace XC := XC.below hb
  replace WW := WW.trans (hb.mono WW.size)
  have kXA := XA.cell
  have zXA := XA.lt
  have kXB := XB.cell
  have zXB := XB.lt
  have kXC := XC.cell
  have zXC := XC.lt
  clear hb hbs
  go_wp2_with fail
  have hbs : w.heap.size ≤ V3.heap.size := WW.size
  have hc := residue_any A C' c p a m V3 XA.num XC.num hn1 (by omega)
  rw [H4.out] at hc
  refine hc.mono ?_
  clear hc
  rintro e V4 ⟨rfl, hb⟩
  clear kXA zXA kXB zXB kXC zXC
  replace XA := XA.below hb
  replace XB := XB.below hb
  replace XC := XC.below hb
  replace WW := WW.trans (hb.mono WW.size)
  have kXA := XA.cell
  have zXA := XA.lt
  have kXB := XB.cell
  have zXB := XB.lt
  have kXC := XC.cell
  have zXC := XC.lt
  clear hb hbs
  go_wp2_with fail
  go_ret
  exact ⟨rfl, WW⟩

set_option maxHeartbeats 4000000 in
theorem check_rb (A B' C' : Option Addr) (n k q c d p a b m : Nat) (w : World) (hA : Num w w.heap.size A n a) (hB : Num w w.heap.size B' k b) (hC : Num w w.heap.size C' q m) (hn : n ≤ 9223372036854775807) (hk : k ≤ 9223372036854775807) (hq : q ≤ 9223372036854775807) (h1 : okB n a = true) (h2 : okB k b = true) (h3 : modB q m = true) (h4 : a < m) (h5 : ¬ b < m) :
    Calls Tryd.prog 85 #[.agg #[.slice A n c], .agg #[.slice B' k d], .agg #[.slice C' q p]] w (RetB (.int .i64 (chkS n a k b q m)) w) := by
  have HC0 : chkS n a k b q m = 2 := by unfold chkS; simp only [h1, h2, h3]; simp [h4, h5]
  rw [HC0]
  clear HC0
  obtain ⟨hna, hn1⟩ := okB_yes.1 h1
  obtain ⟨hkb, hk1⟩ := okB_yes.1 h2
  obtain ⟨hqm, hq1, hm0⟩ := modB_yes h3
  subst hna hkb hqm
  have H1 := hid h1
  have H2 := hid h2
  have H3 := hid h3
  have H4 : Hid (decide (a < m) = true) := decide_eq_true h4
  have H5 : Hid (decide (b < m) = false) := decide_eq_false h5
  clear h1 h2 h3 h4 h5
  obtain ⟨b0, b1, b2, bw⟩ := boxes3 w (.slice A (nw a) c) (.slice B' (nw b) d) (.slice C' (nw m) p)
  have XA := Box.mk b0 hA bw
  have XB := Box.mk b1 hB bw
  have XC := Box.mk b2 hC bw
  have WW := bw
  clear bw b0 b1 b2
  go_enter Tryd.func85, Tryd.ntmps85
  go_wp2_with fail
  generalize hV : (((w.alloc (.cells #[.slice A (nw a) c] 37)).alloc (.cells #[.slice B' (nw b) d] 37)).alloc (.cells #[.slice C' (nw m) p] 37)) = V0 at XA XB XC WW ⊢
  clear hV
  have hbs : w.heap.size ≤ V0.heap.size := WW.size
  have hc := valid_any A _ c a _ V0 XA.num (Nat.le_refl _) hn
  rw [H1.out] at hc
  refine hc.mono ?_
  clear hc
  rintro e V1 ⟨rfl, hb⟩
  replace XA := XA.below hb
  replace XB := XB.below hb
  replace XC := XC.below hb
  replace WW := WW.trans (hb.mono WW.size)
  have kXA := XA.cell
  have zXA := XA.lt
  have kXB := XB.cell
  have zXB := XB.lt
  have kXC := XC.cell
  have zXC := XC.lt
  clear hb hbs
  go_wp2_with fail
  have hbs : w.heap.size ≤ V1.heap.size := WW.size
  have hc := valid_any B' _ d b _ V1 XB.num (Nat.le_refl _) hk
  rw [H2.out] at hc
  refine hc.mono ?_
  clear hc
  rintro e V2 ⟨rfl, hb⟩
  clear kXA zXA kXB zXB kXC zXC
  replace XA := XA.below hb
  replace XB := XB.below hb
  replace XC := XC.below hb
  replace WW := WW.trans (hb.mono WW.size)
  have kXA := XA.cell
  have zXA := XA.lt
  have kXB := XB.cell
  have zXB := XB.lt
  have kXC := XC.cell
  have zXC := XC.lt
  clear hb hbs
  go_wp2_with fail
  have hbs : w.heap.size ≤ V2.heap.size := WW.size
  have hc := modulus_any C' _ p m V2 XC.num hq
  rw [H3.out] at hc
  refine hc.mono ?_
  clear hc
  rintro e V3 ⟨rfl, hb⟩
  clear kXA zXA kXB zXB kXC zXC
  replace XA := XA.below hb
  replace XB := XB.below hb
  replace XC := XC.below hb
  replace WW := WW.trans (hb.mono WW.size)
  have kXA := XA.cell
  have zXA := XA.lt
  have kXB := XB.cell
  have zXB := XB.lt
  have kXC := XC.cell
  have zXC := XC.lt
  clear hb hbs
  go_wp2_with fail
  have hbs : w.heap.size ≤ V3.heap.size := WW.size
  have hc := residue_any A C' c p a m V3 XA.num XC.num hn1 (by omega)
  rw [H4.out] at hc
  refine hc.mono ?_
  clear hc
  rintro e V4 ⟨rfl, hb⟩
  clear kXA zXA kXB zXB kXC zXC
  replace XA := XA.below hb
  replace XB := XB.below hb
  replace XC := XC.below hb
  replace WW := WW.trans (hb.mono WW.size)
  have kXA := XA.cell
  have zXA := XA.lt
  have kXB := XB.cell
  have zXB := XB.lt
  have kXC := XC.cell
  have zXC := XC.lt
  clear hb hbs
  go_wp2_with fail
  have hbs : w.heap.size ≤ V4.heap.size := WW.size
  have hc := residue_any B' C' d p b m V4 XB.num XC.num hk1 (by omega)
  rw [H5.out] at hc
  refine hc.mono ?_
  clear hc
  rintro e V5 ⟨rfl, hb⟩
  clear kXA zXA kXB zXB kXC zXC
  replace XA := XA.below hb
  replace XB := XB.below hb
  replace XC := XC.below hb
  replace WW := WW.trans (hb.mono WW.size)
  have kXA := XA.cell
  have zXA := XA.lt
  have kXB := XB.cell
  have zXB := XB.lt
  have kXC := XC.cell
  have zXC := XC.lt
  clear hb hbs
  go_wp2_with fail
  go_ret
  exact ⟨rfl, WW⟩

set_option maxHeartbeats 4000000 in
theorem check_ok (A B' C' : Option Addr) (n k q c d p a b m : Nat) (w : World) (hA : Num w w.heap.size A n a) (hB : Num w w.heap.size B' k b) (hC : Num w w.heap.size C' q m) (hn : n ≤ 9223372036854775807) (hk : k ≤ 9223372036854775807) (hq : q ≤ 9223372036854775807) (h1 : okB n a = true) (h2 : okB k b = true) (h3 : modB q m = true) (h4 : a < m) (h5 : b < m) :
    Calls Tryd.prog 85 #[.agg #[.slice A n c], .agg #[.slice B' k d], .agg #[.slice C' q p]] w (RetB (.int .i64 (chkS n a k b q m)) w) := by
  have HC0 : chkS n a k b q m = 0 := by unfold chkS; simp only [h1, h2, h3]; simp [h4, h5]
  rw [HC0]
  clear HC0
  obtain ⟨hna, hn1⟩ := okB_yes.1 h1
  obtain ⟨hkb, hk1⟩ := okB_yes.1 h2
  obtain ⟨hqm, hq1, hm0⟩ := modB_yes h3
  subst hna hkb hqm
  have H1 := hid h1
  have H2 := hid h2
  have H3 := hid h3
  have H4 : Hid (decide (a < m) = true) := decide_eq_true h4
  have H5 : Hid (decide (b < m) = true) := decide_eq_true h5
  clear h1 h2 h3 h4 h5
  obtain ⟨b0, b1, b2, bw⟩ := boxes3 w (.slice A (nw a) c) (.slice B' (nw b) d) (.slice C' (nw m) p)
  have XA := Box.mk b0 hA bw
  have XB := Box.mk b1 hB bw
  have XC := Box.mk b2 hC bw
  have WW := bw
  clear bw b0 b1 b2
  go_enter Tryd.func85, Tryd.ntmps85
  go_wp2_with fail
  generalize hV : (((w.alloc (.cells #[.slice A (nw a) c] 37)).alloc (.cells #[.slice B' (nw b) d] 37)).alloc (.cells #[.slice C' (nw m) p] 37)) = V0 at XA XB XC WW ⊢
  clear hV
  have hbs : w.heap.size ≤ V0.heap.size := WW.size
  have hc := valid_any A _ c a _ V0 XA.num (Nat.le_refl _) hn
  rw [H1.out] at hc
  refine hc.mono ?_
  clear hc
  rintro e V1 ⟨rfl, hb⟩
  replace XA := XA.below hb
  replace XB := XB.below hb
  replace XC := XC.below hb
  replace WW := WW.trans (hb.mono WW.size)
  have kXA := XA.cell
  have zXA := XA.lt
  have kXB := XB.cell
  have zXB := XB.lt
  have kXC := XC.cell
  have zXC := XC.lt
  clear hb hbs
  go_wp2_with fail
  have hbs : w.heap.size ≤ V1.heap.size := WW.size
  have hc := valid_any B' _ d b _ V1 XB.num (Nat.le_refl _) hk
  rw [H2.out] at hc
  refine hc.mono ?_
  clear hc
  rintro e V2 ⟨rfl, hb⟩
  clear kXA zXA kXB zXB kXC zXC
  replace XA := XA.below hb
  replace XB := XB.below hb
  replace XC := XC.below hb
  replace WW := WW.trans (hb.mono WW.size)
  have kXA := XA.cell
  have zXA := XA.lt
  have kXB := XB.cell
  have zXB := XB.lt
  have kXC := XC.cell
  have zXC := XC.lt
  clear hb hbs
  go_wp2_with fail
  have hbs : w.heap.size ≤ V2.heap.size := WW.size
  have hc := modulus_any C' _ p m V2 XC.num hq
  rw [H3.out] at hc
  refine hc.mono ?_
  clear hc
  rintro e V3 ⟨rfl, hb⟩
  clear kXA zXA kXB zXB kXC zXC
  replace XA := XA.below hb
  replace XB := XB.below hb
  replace XC := XC.below hb
  replace WW := WW.trans (hb.mono WW.size)
  have kXA := XA.cell
  have zXA := XA.lt
  have kXB := XB.cell
  have zXB := XB.lt
  have kXC := XC.cell
  have zXC := XC.lt
  clear hb hbs
  go_wp2_with fail
  have hbs : w.heap.size ≤ V3.heap.size := WW.size
  have hc := residue_any A C' c p a m V3 XA.num XC.num hn1 (by omega)
  rw [H4.out] at hc
  refine hc.mono ?_
  clear hc
  rintro e V4 ⟨rfl, hb⟩
  clear kXA zXA kXB zXB kXC zXC
  replace XA := XA.below hb
  replace XB := XB.below hb
  replace XC := XC.below hb
  replace WW := WW.trans (hb.mono WW.size)
  have kXA := XA.cell
  have zXA := XA.lt
  have kXB := XB.cell
  have zXB := XB.lt
  have kXC := XC.cell
  have zXC := XC.lt
  clear hb hbs
  go_wp2_with fail
  have hbs : w.heap.size ≤ V4.heap.size := WW.size
  have hc := residue_any B' C' d p b m V4 XB.num XC.num hk1 (by omega)
  rw [H5.out] at hc
  refine hc.mono ?_
  clear hc
  rintro e V5 ⟨rfl, hb⟩
  clear kXA zXA kXB zXB kXC zXC
  replace XA := XA.below hb
  replace XB := XB.below hb
  replace XC := XC.below hb
  replace WW := WW.trans (hb.mono WW.size)
  have kXA := XA.cell
  have zXA := XA.lt
  have kXB := XB.cell
  have zXB := XB.lt
  have kXC := XC.cell
  have zXC := XC.lt
  clear hb hbs
  go_wp2_with fail
  go_ret
  exact ⟨rfl, WW⟩

theorem check_any (A B' C' : Option Addr) (n k q c d p a b m : Nat) (w : World) (hA : Num w w.heap.size A n a) (hB : Num w w.heap.size B' k b) (hC : Num w w.heap.size C' q m) (hn : n ≤ 9223372036854775807) (hk : k ≤ 9223372036854775807) (hq : q ≤ 9223372036854775807) :
    Calls Tryd.prog 85 #[.agg #[.slice A n c], .agg #[.slice B' k d], .agg #[.slice C' q p]] w (RetB (.int .i64 (chkS n a k b q m)) w) := by
  cases h1 : okB n a
  · exact check_a A B' C' n k q c d p a b m w hA hB hC hn hk hq h1
  · cases h2 : okB k b
    · exact check_b A B' C' n k q c d p a b m w hA hB hC hn hk hq h1 h2
    · cases h3 : modB q m
      · exact check_m A B' C' n k q c d p a b m w hA hB hC hn hk hq h1 h2 h3
      · by_cases h4 : a < m
        · by_cases h5 : b < m
          · exact check_ok A B' C' n k q c d p a b m w hA hB hC hn hk hq h1 h2 h3 h4 h5
          · exact check_rb A B' C' n k q c d p a b m w hA hB hC hn hk hq h1 h2 h3 h4 h5
        · exact check_ra A B' C' n k q c d p a b m w hA hB hC hn hk hq h1 h2 h3 h4

theorem nw_sum {a b k : Nat} (h1 : nw a ≤ k) (h2 : nw b ≤ k) : nw (a + b) ≤ k + 1 := by
  refine nw_le ?_
  have := Nat.lt_of_lt_of_le (lt_nw a) (pw_le h1)
  have := Nat.lt_of_lt_of_le (lt_nw b) (pw_le h2)
  rw [pw_succ]; omega
theorem nw_prod {a b j k : Nat} (h1 : nw a ≤ j) (h2 : nw b ≤ k) : nw (a * b) ≤ j + k :=
  nw_le (mul_lt_pw (Nat.lt_of_lt_of_le (lt_nw a) (pw_le h1)) (Nat.lt_of_lt_of_le (lt_nw b) (pw_le h2)))

end Go.Proofs.YtomkmkjkeihodaaDoor
