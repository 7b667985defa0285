/- NatmodSums: the walk. -/
import Derived.Test.YtckajjapockonaaFirst
import Derived.Test.YtckajjapockonaaRf5
import Derived.Test.YtckajjapockonaaAwake
set_option linter.unusedVariables false
set_option linter.unusedSimpArgs false
namespace Go.Proofs.Ytckajjapockonaa
open Go.RowKit

set_option maxHeartbeats 8000000 in
set_option maxRecDepth 100000 in
theorem sums_far (A B' C' : Option Addr) (n k q c d p a b m : Nat) (w : World) (hA : Num w w.heap.size A n a) (hB : Num w w.heap.size B' k b) (hC : Num w w.heap.size C' q m) (hn : n ≤ 9223372036854775807) (hk : k ≤ 9223372036854775807) (hq : q ≤ 9223372036854775807) (hg : ¬ (n ≤ 70 ∧ k ≤ 70 ∧ q ≤ 70)) :
    Calls Try.prog 3 #[.agg #[.slice A n c], .agg #[.slice B' k d], .agg #[.slice C' q p]] w (RetB (.bool true) w) := by
  have HG : Hid (decide (n ≤ 70 ∧ k ≤ 70 ∧ q ≤ 70) = false) := decide_eq_false hg
  clear hg
  obtain ⟨b0, b1, b2, bw⟩ := boxes3 w (.slice A n c) (.slice B' k d) (.slice C' q p)
  have XA := Box.mk b0 hA bw
  have XB := Box.mk b1 hB bw
  have XC := Box.mk b2 hC bw
  have WW := bw
  clear bw b0 b1 b2
  go_enter Try.func3, Try.ntmps3
  go_wp2_with fail
  generalize hV : (((w.alloc (.cells #[.slice A n c] 24)).alloc (.cells #[.slice B' k d] 24)).alloc (.cells #[.slice C' q p] 24)) = V0 at XA XB XC WW ⊢
  clear hV
  have hbs : w.heap.size ≤ V0.heap.size := WW.size
  have hc := awake_any V0
  refine hc.mono ?_
  clear hc
  rintro e V1 ⟨rfl, hb⟩
  replace XA := XA.below hb
  replace XB := XB.below hb
  replace XC := XC.below hb
  replace WW := WW.trans (hb.mono WW.size)
  have kXA := XA.cell
  have zXA := XA.lt
  have kXB := XB.cell
  have zXB := XB.lt
  have kXC := XC.cell
  have zXC := XC.lt
  clear hb hbs
  go_wp2_with fail
  have hbs : w.heap.size ≤ V1.heap.size := WW.size
  have hc := few_3 V1 A B' C' _ c _ d _ p hn hk hq
  rw [HG.out] at hc
  refine hc.mono ?_
  clear hc
  rintro e V2 ⟨rfl, hb⟩
  clear kXA zXA kXB zXB kXC zXC
  replace XA := XA.below hb
  replace XB := XB.below hb
  replace XC := XC.below hb
  replace WW := WW.trans (hb.mono WW.size)
  have kXA := XA.cell
  have zXA := XA.lt
  have kXB := XB.cell
  have zXB := XB.lt
  have kXC := XC.cell
  have zXC := XC.lt
  clear hb hbs
  go_wp2_with fail
  have hbs : w.heap.size ≤ V2.heap.size := WW.size
  have hc := awake_any V2
  refine hc.mono ?_
  clear hc
  rintro e V3 ⟨rfl, hb⟩
  clear kXA zXA kXB zXB kXC zXC
  replace XA := XA.below hb
  replace XB := XB.below hb
  replace XC := XC.below hb
  replace WW := WW.trans (hb.mono WW.size)
  have kXA := XA.cell
  have zXA := XA.lt
  have kXB := XB.cell
  have zXB := XB.lt
  have kXC := XC.cell
  have zXC := XC.lt
  clear hb hbs
  go_wp2_with fail
  go_ret
  exact ⟨rfl, WW⟩

set_option maxHeartbeats 8000000 in
set_option maxRecDepth 100000 in
theorem sums_err (A B' C' : Option Addr) (n k q c d p a b m : Nat) (w : World) (hA : Num w w.heap.size A n a) (hB : Num w w.heap.size B' k b) (hC : Num w w.heap.size C' q m) (hn : n ≤ 9223372036854775807) (hk : k ≤ 9223372036854775807) (hq : q ≤ 9223372036854775807) (hg : n ≤ 70 ∧ k ≤ 70 ∧ q ≤ 70) (h0 : ¬ chkS n a k b q m = 0) :
    Calls Try.prog 3 #[.agg #[.slice A n c], .agg #[.slice B' k d], .agg #[.slice C' q p]] w (RetB (.bool true) w) := by
  have HG : Hid (decide (n ≤ 70 ∧ k ≤ 70 ∧ q ≤ 70) = true) := decide_eq_true hg
  obtain ⟨e, he⟩ : ∃ e, chkS n a k b q m = e := ⟨_, rfl⟩
  have HC := hid he
  rw [he] at h0
  have M1 := hid (modS_no h0 ((a + b) % m))
  have M2 := hid (modS_no h0 ((a + (m - b)) % m))
  have he1 := chk_bd n a k b q m
  rw [he] at he1
  have z1 : (e != 0) = true := by simpa using h0
  have z2 : (e == e) = true := by simp
  have z0 : (((nw 0 : Nat) : Int) == 0) = true := rfl
  clear he h0 hg
  obtain ⟨b0, b1, b2, bw⟩ := boxes3 w (.slice A n c) (.slice B' k d) (.slice C' q p)
  have XA := Box.mk b0 hA bw
  have XB := Box.mk b1 hB bw
  have XC := Box.mk b2 hC bw
  have WW := bw
  clear bw b0 b1 b2
  go_enter Try.func3, Try.ntmps3
  go_wp2_with fail
  generalize hV : (((w.alloc (.cells #[.slice A n c] 24)).alloc (.cells #[.slice B' k d] 24)).alloc (.cells #[.slice C' q p] 24)) = V0 at XA XB XC WW ⊢
  clear hV
  have hbs : w.heap.size ≤ V0.heap.size := WW.size
  have hc := awake_any V0
  refine hc.mono ?_
  clear hc
  rintro e V1 ⟨rfl, hb⟩
  replace XA := XA.below hb
  replace XB := XB.below hb
  replace XC := XC.below hb
  replace WW := WW.trans (hb.mono WW.size)
  have kXA := XA.cell
  have zXA := XA.lt
  have kXB := XB.cell
  have zXB := XB.lt
  have kXC := XC.cell
  have zXC := XC.lt
  clear hb hbs
  go_wp2_with fail
  have hbs : w.heap.size ≤ V1.heap.size := WW.size
  have hc := few_3 V1 A B' C' _ c _ d _ p hn hk hq
  rw [HG.out] at hc
  refine hc.mono ?_
  clear hc
  rintro e V2 ⟨rfl, hb⟩
  clear kXA zXA kXB zXB kXC zXC
  replace XA := XA.below hb
  replace XB := XB.below hb
  replace XC := XC.below hb
  replace WW := WW.trans (hb.mono WW.size)
  have kXA := XA.cell
  have zXA := XA.lt
  have kXB := XB.cell
  have zXB := XB.lt
  have kXC := XC.cell
  have zXC := XC.lt
  clear hb hbs
  go_wp2_with fail
  have hbs : w.heap.size ≤ V2.heap.size := WW.size
  have hc := nadd_any A B' C' _ _ _ c d p a b m V2 XA.num XB.num XC.num hn hk hq
  rw [HC.out] at hc
  rw [M1.out] at hc
  refine hc.mono ?_
  clear hc
  rintro e V3 ⟨v, rfl, hv, hb⟩
  clear kXA zXA kXB zXB kXC zXC
  replace XA := XA.below hb
  replace XB := XB.below hb
  replace XC := XC.below hb
  replace WW := WW.trans (hb.mono WW.size)
  obtain ⟨D1, d1, rfl, ho⟩ := hv
  have O1 := ho.weak (b := w.heap.size) hbs
  have hv' := O1.num
  clear ho
  have kXA := XA.cell
  have zXA := XA.lt
  have kXB := XB.cell
  have zXB := XB.lt
  have kXC := XC.cell
  have zXC := XC.lt
  clear hb hbs
  go_wp2_with fail
  obtain ⟨b0, bw⟩ := boxes1 V3 (.slice D1 (nw 0) d1)
  clear kXA zXA kXB zXB kXC zXC
  replace XA := XA.below bw
  replace XB := XB.below bw
  replace XC := XC.below bw
  have X1 := Box.mk b0 hv' bw
  replace O1 := O1.below bw (Nat.le_refl _)
  replace WW := WW.trans (bw.mono WW.size)
  clear bw b0 hv'
  generalize hV : (V3.alloc (.cells #[.slice D1 (nw 0) d1] 24)) = V4 at XA XB XC X1 O1 WW ⊢
  clear hV
  have kXA := XA.cell
  have zXA := XA.lt
  have kXB := XB.cell
  have zXB := XB.lt
  have kXC := XC.cell
  have zXC := XC.lt
  have kX1 := X1.cell
  have zX1 := X1.lt
  have hbs : w.heap.size ≤ V4.heap.size := WW.size
  have hc := nsub_any A B' C' _ _ _ c d p a b m V4 XA.num XB.num XC.num hn hk hq
  rw [HC.out] at hc
  rw [M2.out] at hc
  refine hc.mono ?_
  clear hc
  rintro e V5 ⟨v, rfl, hv, hb⟩
  clear kXA zXA kXB zXB kXC zXC kX1 zX1
  replace XA := XA.below hb
  replace XB := XB.below hb
  replace XC := XC.below hb
  replace X1 := X1.below hb
  replace O1 := O1.below hb (Nat.le_refl _)
  replace WW := WW.trans (hb.mono WW.size)
  obtain ⟨D2, d2, rfl, ho⟩ := hv
  have O2 := ho.weak (b := w.heap.size) hbs
  have hv' := O2.num
  clear ho
  have kXA := XA.cell
  have zXA := XA.lt
  have kXB := XB.cell
  have zXB := XB.lt
  have kXC := XC.cell
  have zXC := XC.lt
  have kX1 := X1.cell
  have zX1 := X1.lt
  clear hb hbs
  go_wp2_with fail
  obtain ⟨b0, bw⟩ := boxes1 V5 (.slice D2 (nw 0) d2)
  clear kXA zXA kXB zXB kXC zXC kX1 zX1
  replace XA := XA.below bw
  replace XB := XB.below bw
  replace XC := XC.below bw
  replace X1 := X1.below bw
  have X2 := Box.mk b0 hv' bw
  replace O1 := O1.below bw (Nat.le_refl _)
  replace O2 := O2.below bw (Nat.le_refl _)
  replace WW := WW.trans (bw.mono WW.size)
  clear bw b0 hv'
  have hVS : ((V5.alloc (.cells #[.slice D2 (nw 0) d2] 24))).heap.size = V5.heap.size + 1 := by simp
  generalize hV : (V5.alloc (.cells #[.slice D2 (nw 0) d2] 24)) = V6 at XA XB XC X1 X2 O1 O2 WW hVS ⊢
  clear hV
  have kXA := XA.cell
  have zXA := XA.lt
  have kXB := XB.cell
  have zXB := XB.lt
  have kXC := XC.cell
  have zXC := XC.lt
  have kX1 := X1.cell
  have zX1 := X1.lt
  have kX2 := X2.cell
  have zX2 := X2.lt
  have HVS := hid hVS
  clear hVS
  have hbs : w.heap.size ≤ V6.heap.size := WW.size
  have hc := first_args V6 A B' _ _ c d a b _ m p C' XA.num XB.num XC.num hn hk hq
  rw [HC.out] at hc
  rw [HVS.out] at hc
  refine hc.mono ?_
  clear hc
  rintro e V7 ⟨rfl, hb'⟩
  have hb := hb'
  rw [← HVS.out] at hb
  clear hb'
  clear kXA zXA kXB zXB kXC zXC kX1 zX1 kX2 zX2
  replace XA := XA.below hb
  replace XB := XB.below hb
  replace XC := XC.below hb
  replace X1 := X1.below hb
  replace X2 := X2.below hb
  replace O1 := O1.below hb (Nat.le_refl _)
  replace O2 := O2.below hb (Nat.le_refl _)
  replace WW := WW.trans (hb.mono WW.size)
  have kXA := XA.cell
  have zXA := XA.lt
  have kXB := XB.cell
  have zXB := XB.lt
  have kXC := XC.cell
  have zXC := XC.lt
  have kX1 := X1.cell
  have zX1 := X1.lt
  have kX2 := X2.cell
  have zX2 := X2.lt
  clear hb hbs
  go_wp2_with fail
  go_ret
  exact ⟨rfl, WW⟩

set_option maxHeartbeats 8000000 in
set_option maxRecDepth 100000 in
theorem sums_ok (A B' C' : Option Addr) (n k q c d p a b m : Nat) (w : World) (hA : Num w w.heap.size A n a) (hB : Num w w.heap.size B' k b) (hC : Num w w.heap.size C' q m) (hn : n ≤ 9223372036854775807) (hk : k ≤ 9223372036854775807) (hq : q ≤ 9223372036854775807) (hg : n ≤ 70 ∧ k ≤ 70 ∧ q ≤ 70) (h0 : chkS n a k b q m = 0) :
    Calls Try.prog 3 #[.agg #[.slice A n c], .agg #[.slice B' k d], .agg #[.slice C' q p]] w (RetB (.bool true) w) := by
  have HG : Hid (decide (n ≤ 70 ∧ k ≤ 70 ∧ q ≤ 70) = true) := decide_eq_true hg
  obtain ⟨e, he⟩ : ∃ e, chkS n a k b q m = e := ⟨_, rfl⟩
  obtain ⟨hna, hkb, hqm, hm1, hm0, ha, hb⟩ := chk0 h0
  subst hna hkb hqm
  have HC := hid h0
  skip
  obtain ⟨s, hs⟩ : ∃ s, s = (a + b) % m := ⟨_, rfl⟩
  obtain ⟨r, hr⟩ : ∃ r, r = (a + (m - b)) % m := ⟨_, rfl⟩
  have HS := hid hs
  have HR := hid hr
  have M1 := hid (modS_ok s)
  have M2 := hid (modS_ok r)
  have ha32 : nw a ≤ 32 := Nat.le_trans (nw_mono (Nat.le_of_lt ha)) hm1
  have hb32 : nw b ≤ 32 := Nat.le_trans (nw_mono (Nat.le_of_lt hb)) hm1
  have s32 : nw s ≤ 32 := Nat.le_trans (nw_mono (by rw [hs]; exact Nat.le_of_lt (Nat.mod_lt _ hm0))) hm1
  have r32 : nw r ≤ 32 := Nat.le_trans (nw_mono (by rw [hr]; exact Nat.le_of_lt (Nat.mod_lt _ hm0))) hm1
  have HAM := hid ha
  have HBM := hid hb
  clear he h0 hg hs hr ha hb
  obtain ⟨b0, b1, b2, bw⟩ := boxes3 w (.slice A (nw a) c) (.slice B' (nw b) d) (.slice C' (nw m) p)
  have XA := Box.mk b0 hA bw
  have XB := Box.mk b1 hB bw
  have XC := Box.mk b2 hC bw
  have WW := bw
  clear bw b0 b1 b2
  go_enter Try.func3, Try.ntmps3
  go_wp2_with fail
  generalize hV : (((w.alloc (.cells #[.slice A (nw a) c] 24)).alloc (.cells #[.slice B' (nw b) d] 24)).alloc (.cells #[.slice C' (nw m) p] 24)) = V0 at XA XB XC WW ⊢
  clear hV
  have hbs : w.heap.size ≤ V0.heap.size := WW.size
  have hc := awake_any V0
  refine hc.mono ?_
  clear hc
  rintro e V1 ⟨rfl, hb⟩
  replace XA := XA.below hb
  replace XB := XB.below hb
  replace XC := XC.below hb
  replace WW := WW.trans (hb.mono WW.size)
  have kXA := XA.cell
  have zXA := XA.lt
  have kXB := XB.cell
  have zXB := XB.lt
  have kXC := XC.cell
  have zXC := XC.lt
  clear hb hbs
  go_wp2_with fail
  have hbs : w.heap.size ≤ V1.heap.size := WW.size
  have hc := few_3 V1 A B' C' _ c _ d _ p hn hk hq
  rw [HG.out] at hc
  refine hc.mono ?_
  clear hc
  rintro e V2 ⟨rfl, hb⟩
  clear kXA zXA kXB zXB kXC zXC
  replace XA := XA.below hb
  replace XB := XB.below hb
  replace XC := XC.below hb
  replace WW := WW.trans (hb.mono WW.size)
  have kXA := XA.cell
  have zXA := XA.lt
  have kXB := XB.cell
  have zXB := XB.lt
  have kXC := XC.cell
  have zXC := XC.lt
  clear hb hbs
  go_wp2_with fail
  have hbs : w.heap.size ≤ V2.heap.size := WW.size
  have hc := nadd_any A B' C' _ _ _ c d p a b m V2 XA.num XB.num XC.num hn hk hq
  rw [HC.out] at hc
  rw [← HS.out] at hc
  rw [M1.out] at hc
  refine hc.mono ?_
  clear hc
  rintro e V3 ⟨v, rfl, hv, hb⟩
  clear kXA zXA kXB zXB kXC zXC
  replace XA := XA.below hb
  replace XB := XB.below hb
  replace XC := XC.below hb
  replace WW := WW.trans (hb.mono WW.size)
  obtain ⟨D1, d1, rfl, ho⟩ := hv
  have O1 := ho.weak (b := w.heap.size) hbs
  have hv' := O1.num
  clear ho
  have kXA := XA.cell
  have zXA := XA.lt
  have kXB := XB.cell
  have zXB := XB.lt
  have kXC := XC.cell
  have zXC := XC.lt
  clear hb hbs
  go_wp2_with fail
  obtain ⟨b0, bw⟩ := boxes1 V3 (.slice D1 (nw s) d1)
  clear kXA zXA kXB zXB kXC zXC
  replace XA := XA.below bw
  replace XB := XB.below bw
  replace XC := XC.below bw
  have X1 := Box.mk b0 hv' bw
  replace O1 := O1.below bw (Nat.le_refl _)
  replace WW := WW.trans (bw.mono WW.size)
  clear bw b0 hv'
  generalize hV : (V3.alloc (.cells #[.slice D1 (nw s) d1] 24)) = V4 at XA XB XC X1 O1 WW ⊢
  clear hV
  have kXA := XA.cell
  have zXA := XA.lt
  have kXB := XB.cell
  have zXB := XB.lt
  have kXC := XC.cell
  have zXC := XC.lt
  have kX1 := X1.cell
  have zX1 := X1.lt
  have hbs : w.heap.size ≤ V4.heap.size := WW.size
  have hc := nsub_any A B' C' _ _ _ c d p a b m V4 XA.num XB.num XC.num hn hk hq
  rw [HC.out] at hc
  rw [← HR.out] at hc
  rw [M2.out] at hc
  refine hc.mono ?_
  clear hc
  rintro e V5 ⟨v, rfl, hv, hb⟩
  clear kXA zXA kXB zXB kXC zXC kX1 zX1
  replace XA := XA.below hb
  replace XB := XB.below hb
  replace XC := XC.below hb
  replace X1 := X1.below hb
  replace O1 := O1.below hb (Nat.le_refl _)
  replace WW := WW.trans (hb.mono WW.size)
  obtain ⟨D2, d2, rfl, ho⟩ := hv
  have O2 := ho.weak (b := w.heap.size) hbs
  have hv' := O2.num
  clear ho
  have kXA := XA.cell
  have zXA := XA.lt
  have kXB := XB.cell
  have zXB := XB.lt
  have kXC := XC.cell
  have zXC := XC.lt
  have kX1 := X1.cell
  have zX1 := X1.lt
  clear hb hbs
  go_wp2_with fail
  obtain ⟨b0, bw⟩ := boxes1 V5 (.slice D2 (nw r) d2)
  clear kXA zXA kXB zXB kXC zXC kX1 zX1
  replace XA := XA.below bw
  replace XB := XB.below bw
  replace XC := XC.below bw
  replace X1 := X1.below bw
  have X2 := Box.mk b0 hv' bw
  replace O1 := O1.below bw (Nat.le_refl _)
  replace O2 := O2.below bw (Nat.le_refl _)
  replace WW := WW.trans (bw.mono WW.size)
  clear bw b0 hv'
  have hVS : ((V5.alloc (.cells #[.slice D2 (nw r) d2] 24))).heap.size = V5.heap.size + 1 := by simp
  generalize hV : (V5.alloc (.cells #[.slice D2 (nw r) d2] 24)) = V6 at XA XB XC X1 X2 O1 O2 WW hVS ⊢
  clear hV
  have kXA := XA.cell
  have zXA := XA.lt
  have kXB := XB.cell
  have zXB := XB.lt
  have kXC := XC.cell
  have zXC := XC.lt
  have kX1 := X1.cell
  have zX1 := X1.lt
  have kX2 := X2.cell
  have zX2 := X2.lt
  have HVS := hid hVS
  clear hVS
  have hbs : w.heap.size ≤ V6.heap.size := WW.size
  have hc := first_args V6 A B' _ _ c d a b _ m p C' XA.num XB.num XC.num hn hk hq
  rw [HC.out] at hc
  rw [HVS.out] at hc
  refine hc.mono ?_
  clear hc
  rintro e V7 ⟨rfl, hb'⟩
  have hb := hb'
  rw [← HVS.out] at hb
  clear hb'
  clear kXA zXA kXB zXB kXC zXC kX1 zX1 kX2 zX2
  replace XA := XA.below hb
  replace XB := XB.below hb
  replace XC := XC.below hb
  replace X1 := X1.below hb
  replace X2 := X2.below hb
  replace O1 := O1.below hb (Nat.le_refl _)
  replace O2 := O2.below hb (Nat.le_refl _)
  replace WW := WW.trans (hb.mono WW.size)
  have kXA := XA.cell
  have zXA := XA.lt
  have kXB := XB.cell
  have zXB := XB.lt
  have kXC := XC.cell
  have zXC := XC.lt
  have kX1 := X1.cell
  have zX1 := X1.lt
  have kX2 := X2.cell
  have zX2 := X2.lt
  clear hb hbs
  go_wp2_with fail
  have WWd := WW.drew
  have XAd := XA.drew
  have XBd := XB.drew
  have XCd := XC.drew
  have X1d := X1.drew
  have X2d := X2.drew
  have O1d := O1.drew
  have O2d := O2.drew
  have hst : (fun w' => w'.cell? ⟨w.heap.size, 0, none⟩ = some (.slice A (nw a) c) ∧ w'.cell? ⟨w.heap.size + 1, 0, none⟩ = some (.slice B' (nw b) d) ∧ w'.cell? ⟨w.heap.size + 1 + 1, 0, none⟩ = some (.slice C' (nw m) p) ∧ w'.cell? ⟨V3.heap.size, 0, none⟩ = some (.slice D1 (nw s) d1) ∧ w'.cell? ⟨V5.heap.size, 0, none⟩ = some (.slice D2 (nw r) d2)) V7.drew := ⟨kXA, kXB, kXC, kX1, kX2⟩
  clear WW kXA zXA kXB zXB kXC zXC kX1 zX1 kX2 zX2 XA XB XC X1 X2 O1 O2
  have WW := WWd
  have XA := XAd
  have XB := XBd
  have XC := XCd
  have X1 := X1d
  have X2 := X2d
  have O1 := O1d
  have O2 := O2d
  clear WWd XAd XBd XCd X1d X2d O1d O2d
  refine wp_region_held_drew (S := (fun w' => w'.cell? ⟨w.heap.size, 0, none⟩ = some (.slice A (nw a) c) ∧ w'.cell? ⟨w.heap.size + 1, 0, none⟩ = some (.slice B' (nw b) d) ∧ w'.cell? ⟨w.heap.size + 1 + 1, 0, none⟩ = some (.slice C' (nw m) p) ∧ w'.cell? ⟨V3.heap.size, 0, none⟩ = some (.slice D1 (nw s) d1) ∧ w'.cell? ⟨V5.heap.size, 0, none⟩ = some (.slice D2 (nw r) d2))) (by kernel_rfl) (hst) (fun hHeld => ?_)
  refine wpAnyH_take (i := 0) (oi := { dst := some 64, op := Op.load 24 (Operand.tmp 7), type := 24, pos := "law.go:52", after := #[], guard := none }) (v := ?_) rfl (by kernel_rfl) (by kernel_rfl) (by kernel_rfl) (fun _ _ _ h => h) (Or.inl ⟨by rfl, ?_⟩) (by assumption) ?_
  rotate_left
  · (intro ws hSw; (try dsimp only at hSw); (try go_simp); (try with_reducible rfl))
  (try simp only [Act.put, List.setIfInBounds_toArray, List.set_cons_zero, List.set_cons_succ])
  refine wpAnyH_take (i := 1) (oi := { dst := some 65, op := Op.load 24 (Operand.tmp 3), type := 24, pos := "law.go:52", after := #[], guard := none }) (v := ?_) rfl (by kernel_rfl) (by kernel_rfl) (by kernel_rfl) (fun _ _ _ h => h) (Or.inl ⟨by rfl, ?_⟩) (by assumption) ?_
  rotate_left
  · (intro ws hSw; (try dsimp only at hSw); (try go_simp); (try with_reducible rfl))
  (try simp only [Act.put, List.setIfInBounds_toArray, List.set_cons_zero, List.set_cons_succ])
  refine wpAnyH_take (i := 2) (oi := { dst := some 66, op := Op.load 24 (Operand.tmp 4), type := 24, pos := "law.go:52", after := #[], guard := none }) (v := ?_) rfl (by kernel_rfl) (by kernel_rfl) (by kernel_rfl) (fun _ _ _ h => h) (Or.inl ⟨by rfl, ?_⟩) (by assumption) ?_
  rotate_left
  · (intro ws hSw; (try dsimp only at hSw); (try go_simp); (try with_reducible rfl))
  (try simp only [Act.put, List.setIfInBounds_toArray, List.set_cons_zero, List.set_cons_succ])
  refine wpAnyH_take (i := 3) (oi := { dst := some 67, op := Op.load 24 (Operand.tmp 5), type := 24, pos := "law.go:52", after := #[], guard := none }) (v := ?_) rfl (by kernel_rfl) (by kernel_rfl) (by kernel_rfl) (fun _ _ _ h => h) (Or.inl ⟨by rfl, ?_⟩) (by assumption) ?_
  rotate_left
  · (intro ws hSw; (try dsimp only at hSw); (try go_simp); (try with_reducible rfl))
  (try simp only [Act.put, List.setIfInBounds_toArray, List.set_cons_zero, List.set_cons_succ])
  refine wpAnyH_ready (rs := [4]) (by kernel_rfl) (by simp) ?_
  refine AllReadyH.cons (o := { dst := some 68, op := Op.call { callee := Callee.value (Operand.func 18), args := #[Operand.tmp 65, Operand.tmp 66, Operand.tmp 67], argTypes := #[24, 24, 24] }, type := 24, pos := "law.go:52", after := #[{ on := 1, ground := Ground.data }, { on := 2, ground := Ground.data }, { on := 3, ground := Ground.data }], guard := none }) rfl (fun K hK => ?_) AllReadyH.nil
  go_simp
  have hbs : w.heap.size ≤ (V7.drew).heap.size := WW.size
  have hc := radd3_any A B' C' c d p a b m (V7.drew) XA.num XB.num XC.num (by omega) (by omega) (by omega) HAM.out HBM.out
  rw [← HS.out] at hc
  refine hc.mono ?_
  clear hc
  rintro e V8 ⟨v, rfl, hv, hb⟩
  replace XA := XA.below hb
  replace XB := XB.below hb
  replace XC := XC.below hb
  replace X1 := X1.below hb
  replace X2 := X2.below hb
  replace O1 := O1.below hb (Nat.le_refl _)
  replace O2 := O2.below hb (Nat.le_refl _)
  replace WW := WW.trans (hb.mono WW.size)
  obtain ⟨D5, d5, rfl, ho⟩ := hv
  have O5 := ho.weak (b := w.heap.size) hbs
  clear ho
  have kXA := XA.cell
  have kXB := XB.cell
  have kXC := XC.cell
  have kX1 := X1.cell
  have kX2 := X2.cell
  clear hb hbs
  refine hK.out _ _ (⟨kXA, kXB, kXC, kX1, kX2⟩) (fun hHeld4 => ?_)
  clear hK K hHeld
  have hHeld := hHeld4
  clear hHeld4
  (try simp only [Act.put, List.setIfInBounds_toArray, List.set_cons_zero, List.set_cons_succ])
  refine wpAnyH_ready (rs := [5]) (by kernel_rfl) (by simp) ?_
  refine AllReadyH.cons (o := { dst := some 69, op := Op.call { callee := Callee.value (Operand.func 17), args := #[Operand.tmp 64, Operand.tmp 68], argTypes := #[24, 24] }, type := 4, pos := "law.go:52", after := #[{ on := 0, ground := Ground.data }, { on := 4, ground := Ground.data }, { on := 4, ground := Ground.chain }], guard := none }) rfl (fun K hK => ?_) AllReadyH.nil
  go_simp
  have hbs : w.heap.size ≤ (V8).heap.size := WW.size
  have hc := same3_any D1 D5 _ _ d1 d5 s s (V8) X1.num O5.num (by omega) (by omega)
  rw [sameB_yes] at hc
  refine hc.mono ?_
  clear hc
  rintro e V9 ⟨rfl, hb⟩
  clear kXA kXB kXC kX1 kX2
  replace XA := XA.below hb
  replace XB := XB.below hb
  replace XC := XC.below hb
  replace X1 := X1.below hb
  replace X2 := X2.below hb
  replace O1 := O1.below hb (Nat.le_refl _)
  replace O2 := O2.below hb (Nat.le_refl _)
  replace O5 := O5.below hb (Nat.le_refl _)
  replace WW := WW.trans (hb.mono WW.size)
  have kXA := XA.cell
  have kXB := XB.cell
  have kXC := XC.cell
  have kX1 := X1.cell
  have kX2 := X2.cell
  clear hb hbs
  refine hK.out _ _ (⟨kXA, kXB, kXC, kX1, kX2⟩) (fun hHeld5 => ?_)
  clear hK K hHeld
  have hHeld := hHeld5
  clear hHeld5
  (try simp only [Act.put, List.setIfInBounds_toArray, List.set_cons_zero, List.set_cons_succ])
  refine wpAnyH_take (i := 6) (oi := { dst := some 70, op := Op.move (Operand.tmp 69), type := 4, pos := "law.go:52", after := #[{ on := 5, ground := Ground.data }, { on := 5, ground := Ground.chain }], guard := none }) (v := ?_) rfl (by kernel_rfl) (by kernel_rfl) (by kernel_rfl) (fun _ _ _ h => h) (Or.inl ⟨by rfl, ?_⟩) (by assumption) ?_
  rotate_left
  · (intro ws hSw; (try dsimp only at hSw); (try go_simp); (try with_reducible rfl))
  (try simp only [Act.put, List.setIfInBounds_toArray, List.set_cons_zero, List.set_cons_succ])
  refine wpAnyH_take (i := 7) (oi := { dst := some 71, op := Op.move (Operand.tmp 8), type := 27, pos := "law.go:52", after := #[{ on := 6, ground := Ground.guard }], guard := some (6, true) }) (v := ?_) rfl (by kernel_rfl) (by kernel_rfl) (by kernel_rfl) (fun _ _ _ h => h) (Or.inl ⟨by rfl, ?_⟩) (by assumption) ?_
  rotate_left
  · (intro ws hSw; (try dsimp only at hSw); (try go_simp); (try with_reducible rfl))
  (try simp only [Act.put, List.setIfInBounds_toArray, List.set_cons_zero, List.set_cons_succ])
  refine wpAnyH_take (i := 8) (oi := { dst := some 72, op := Op.binOp BinOp.eql 27 (Operand.tmp 71) (Operand.const (Value.int IntKind.i64 0)) 27, type := 4, pos := "law.go:52", after := #[{ on := 7, ground := Ground.data }, { on := 6, ground := Ground.guard }], guard := some (6, true) }) (v := ?_) rfl (by kernel_rfl) (by kernel_rfl) (by kernel_rfl) (fun _ _ _ h => h) (Or.inl ⟨by rfl, ?_⟩) (by assumption) ?_
  rotate_left
  · (intro ws hSw; (try dsimp only at hSw); (try go_simp); (try with_reducible rfl))
  (try simp only [Act.put, List.setIfInBounds_toArray, List.set_cons_zero, List.set_cons_succ])
  refine wpAnyH_take (i := 9) (oi := { dst := some 73, op := Op.pick (Operand.tmp 70) (Operand.tmp 72) (Operand.const (Value.bool false)), type := 4, pos := "law.go:52", after := #[{ on := 6, ground := Ground.data }, { on := 8, ground := Ground.data }], guard := none }) (v := ?_) rfl (by kernel_rfl) (by kernel_rfl) (by kernel_rfl) (fun _ _ _ h => h) (Or.inl ⟨by rfl, ?_⟩) (by assumption) ?_
  rotate_left
  · (intro ws hSw; (try dsimp only at hSw); (try go_simp); (try with_reducible rfl))
  (try simp only [Act.put, List.setIfInBounds_toArray, List.set_cons_zero, List.set_cons_succ])
  refine wpAnyH_take (i := 10) (oi := { dst := some 74, op := Op.move (Operand.tmp 73), type := 4, pos := "law.go:52", after := #[{ on := 9, ground := Ground.data }, { on := 6, ground := Ground.chain }], guard := none }) (v := ?_) rfl (by kernel_rfl) (by kernel_rfl) (by kernel_rfl) (fun _ _ _ h => h) (Or.inl ⟨by rfl, ?_⟩) (by assumption) ?_
  rotate_left
  · (intro ws hSw; (try dsimp only at hSw); (try go_simp); (try with_reducible rfl))
  (try simp only [Act.put, List.setIfInBounds_toArray, List.set_cons_zero, List.set_cons_succ])
  refine wpAnyH_take (i := 11) (oi := { dst := some 75, op := Op.load 24 (Operand.tmp 9), type := 24, pos := "law.go:52", after := #[{ on := 10, ground := Ground.guard }], guard := some (10, true) }) (v := ?_) rfl (by kernel_rfl) (by kernel_rfl) (by kernel_rfl) (fun _ _ _ h => h) (Or.inl ⟨by rfl, ?_⟩) (by assumption) ?_
  rotate_left
  · (intro ws hSw; (try dsimp only at hSw); (try go_simp); (try with_reducible rfl))
  (try simp only [Act.put, List.setIfInBounds_toArray, List.set_cons_zero, List.set_cons_succ])
  refine wpAnyH_take (i := 12) (oi := { dst := some 76, op := Op.load 24 (Operand.tmp 3), type := 24, pos := "law.go:52", after := #[{ on := 10, ground := Ground.guard }], guard := some (10, true) }) (v := ?_) rfl (by kernel_rfl) (by kernel_rfl) (by kernel_rfl) (fun _ _ _ h => h) (Or.inl ⟨by rfl, ?_⟩) (by assumption) ?_
  rotate_left
  · (intro ws hSw; (try dsimp only at hSw); (try go_simp); (try with_reducible rfl))
  (try simp only [Act.put, List.setIfInBounds_toArray, List.set_cons_zero, List.set_cons_succ])
  refine wpAnyH_take (i := 13) (oi := { dst := some 77, op := Op.load 24 (Operand.tmp 4), type := 24, pos := "law.go:52", after := #[{ on := 10, ground := Ground.guard }], guard := some (10, true) }) (v := ?_) rfl (by kernel_rfl) (by kernel_rfl) (by kernel_rfl) (fun _ _ _ h => h) (Or.inl ⟨by rfl, ?_⟩) (by assumption) ?_
  rotate_left
  · (intro ws hSw; (try dsimp only at hSw); (try go_simp); (try with_reducible rfl))
  (try simp only [Act.put, List.setIfInBounds_toArray, List.set_cons_zero, List.set_cons_succ])
  refine wpAnyH_take (i := 14) (oi := { dst := some 78, op := Op.load 24 (Operand.tmp 5), type := 24, pos := "law.go:52", after := #[{ on := 10, ground := Ground.guard }], guard := some (10, true) }) (v := ?_) rfl (by kernel_rfl) (by kernel_rfl) (by kernel_rfl) (fun _ _ _ h => h) (Or.inl ⟨by rfl, ?_⟩) (by assumption) ?_
  rotate_left
  · (intro ws hSw; (try dsimp only at hSw); (try go_simp); (try with_reducible rfl))
  (try simp only [Act.put, List.setIfInBounds_toArray, List.set_cons_zero, List.set_cons_succ])
  refine wpAnyH_ready (rs := [15]) (by kernel_rfl) (by simp) ?_
  refine AllReadyH.cons (o := { dst := some 79, op := Op.call { callee := Callee.value (Operand.func 19), args := #[Operand.tmp 76, Operand.tmp 77, Operand.tmp 78], argTypes := #[24, 24, 24] }, type := 24, pos := "law.go:52", after := #[{ on := 12, ground := Ground.data }, { on := 13, ground := Ground.data }, { on := 14, ground := Ground.data }, { on := 10, ground := Ground.chain }, { on := 10, ground := Ground.guard }], guard := some (10, true) }) rfl (fun K hK => ?_) AllReadyH.nil
  go_simp
  have hbs : w.heap.size ≤ (V9).heap.size := WW.size
  have hc := rsub3_any A B' C' c d p a b m (V9) XA.num XB.num XC.num (by omega) (by omega) (by omega) HAM.out HBM.out
  rw [← HR.out] at hc
  refine hc.mono ?_
  clear hc
  rintro e V10 ⟨v, rfl, hv, hb⟩
  clear kXA kXB kXC kX1 kX2
  replace XA := XA.below hb
  replace XB := XB.below hb
  replace XC := XC.below hb
  replace X1 := X1.below hb
  replace X2 := X2.below hb
  replace O1 := O1.below hb (Nat.le_refl _)
  replace O2 := O2.below hb (Nat.le_refl _)
  replace O5 := O5.below hb (Nat.le_refl _)
  replace WW := WW.trans (hb.mono WW.size)
  obtain ⟨D6, d6, rfl, ho⟩ := hv
  have O6 := ho.weak (b := w.heap.size) hbs
  clear ho
  have kXA := XA.cell
  have kXB := XB.cell
  have kXC := XC.cell
  have kX1 := X1.cell
  have kX2 := X2.cell
  clear hb hbs
  refine hK.out _ _ (⟨kXA, kXB, kXC, kX1, kX2⟩) (fun hHeld15 => ?_)
  clear hK K hHeld
  have hHeld := hHeld15
  clear hHeld15
  (try simp only [Act.put, List.setIfInBounds_toArray, List.set_cons_zero, List.set_cons_succ])
  refine wpAnyH_ready (rs := [16]) (by kernel_rfl) (by simp) ?_
  refine AllReadyH.cons (o := { dst := some 80, op := Op.call { callee := Callee.value (Operand.func 17), args := #[Operand.tmp 75, Operand.tmp 79], argTypes := #[24, 24] }, type := 4, pos := "law.go:52", after := #[{ on := 11, ground := Ground.data }, { on := 15, ground := Ground.data }, { on := 15, ground := Ground.chain }, { on := 10, ground := Ground.guard }], guard := some (10, true) }) rfl (fun K hK => ?_) AllReadyH.nil
  go_simp
  have hbs : w.heap.size ≤ (V10).heap.size := WW.size
  have hc := same3_any D2 D6 _ _ d2 d6 r r (V10) X2.num O6.num (by omega) (by omega)
  rw [sameB_yes] at hc
  refine hc.mono ?_
  clear hc
  rintro e V11 ⟨rfl, hb⟩
  clear kXA kXB kXC kX1 kX2
  replace XA := XA.below hb
  replace XB := XB.below hb
  replace XC := XC.below hb
  replace X1 := X1.below hb
  replace X2 := X2.below hb
  replace O1 := O1.below hb (Nat.le_refl _)
  replace O2 := O2.below hb (Nat.le_refl _)
  replace O5 := O5.below hb (Nat.le_refl _)
  replace O6 := O6.below hb (Nat.le_refl _)
  replace WW := WW.trans (hb.mono WW.size)
  have kXA := XA.cell
  have kXB := XB.cell
  have kXC := XC.cell
  have kX1 := X1.cell
  have kX2 := X2.cell
  clear hb hbs
  refine hK.out _ _ (⟨kXA, kXB, kXC, kX1, kX2⟩) (fun hHeld16 => ?_)
  clear hK K hHeld
  have hHeld := hHeld16
  clear hHeld16
  (try simp only [Act.put, List.setIfInBounds_toArray, List.set_cons_zero, List.set_cons_succ])
  refine wpAnyH_take (i := 17) (oi := { dst := some 81, op := Op.pick (Operand.tmp 74) (Operand.tmp 80) (Operand.const (Value.bool false)), type := 4, pos := "law.go:52", after := #[{ on := 10, ground := Ground.data }, { on := 16, ground := Ground.data }], guard := none }) (v := ?_) rfl (by kernel_rfl) (by kernel_rfl) (by kernel_rfl) (fun _ _ _ h => h) (Or.inl ⟨by rfl, ?_⟩) (by assumption) ?_
  rotate_left
  · (intro ws hSw; (try dsimp only at hSw); (try go_simp); (try with_reducible rfl))
  (try simp only [Act.put, List.setIfInBounds_toArray, List.set_cons_zero, List.set_cons_succ])
  refine wpAnyH_take (i := 18) (oi := { dst := some 82, op := Op.move (Operand.tmp 81), type := 4, pos := "law.go:52", after := #[{ on := 17, ground := Ground.data }, { on := 16, ground := Ground.chain }], guard := none }) (v := ?_) rfl (by kernel_rfl) (by kernel_rfl) (by kernel_rfl) (fun _ _ _ h => h) (Or.inl ⟨by rfl, ?_⟩) (by assumption) ?_
  rotate_left
  · (intro ws hSw; (try dsimp only at hSw); (try go_simp); (try with_reducible rfl))
  (try simp only [Act.put, List.setIfInBounds_toArray, List.set_cons_zero, List.set_cons_succ])
  refine wpAnyH_take (i := 19) (oi := { dst := some 83, op := Op.move (Operand.tmp 10), type := 27, pos := "law.go:52", after := #[{ on := 18, ground := Ground.guard }], guard := some (18, true) }) (v := ?_) rfl (by kernel_rfl) (by kernel_rfl) (by kernel_rfl) (fun _ _ _ h => h) (Or.inl ⟨by rfl, ?_⟩) (by assumption) ?_
  rotate_left
  · (intro ws hSw; (try dsimp only at hSw); (try go_simp); (try with_reducible rfl))
  (try simp only [Act.put, List.setIfInBounds_toArray, List.set_cons_zero, List.set_cons_succ])
  refine wpAnyH_take (i := 20) (oi := { dst := some 84, op := Op.binOp BinOp.eql 27 (Operand.tmp 83) (Operand.const (Value.int IntKind.i64 0)) 27, type := 4, pos := "law.go:52", after := #[{ on := 19, ground := Ground.data }, { on := 18, ground := Ground.guard }], guard := some (18, true) }) (v := ?_) rfl (by kernel_rfl) (by kernel_rfl) (by kernel_rfl) (fun _ _ _ h => h) (Or.inl ⟨by rfl, ?_⟩) (by assumption) ?_
  rotate_left
  · (intro ws hSw; (try dsimp only at hSw); (try go_simp); (try with_reducible rfl))
  (try simp only [Act.put, List.setIfInBounds_toArray, List.set_cons_zero, List.set_cons_succ])
  refine wpAnyH_take (i := 21) (oi := { dst := some 85, op := Op.pick (Operand.tmp 82) (Operand.tmp 84) (Operand.const (Value.bool false)), type := 4, pos := "law.go:52", after := #[{ on := 18, ground := Ground.data }, { on := 20, ground := Ground.data }], guard := none }) (v := ?_) rfl (by kernel_rfl) (by kernel_rfl) (by kernel_rfl) (fun _ _ _ h => h) (Or.inl ⟨by rfl, ?_⟩) (by assumption) ?_
  rotate_left
  · (intro ws hSw; (try dsimp only at hSw); (try go_simp); (try with_reducible rfl))
  (try simp only [Act.put, List.setIfInBounds_toArray, List.set_cons_zero, List.set_cons_succ])
  refine wpAnyH_take (i := 22) (oi := { dst := some 6, op := Op.assign (Operand.tmp 85), type := 4, pos := "law.go:52", after := #[{ on := 21, ground := Ground.data }, { on := 18, ground := Ground.chain }, { on := 0, ground := Ground.phase }, { on := 1, ground := Ground.phase }, { on := 2, ground := Ground.phase }, { on := 3, ground := Ground.phase }, { on := 4, ground := Ground.phase }, { on := 5, ground := Ground.phase }, { on := 6, ground := Ground.phase }, { on := 7, ground := Ground.phase }, { on := 8, ground := Ground.phase }, { on := 9, ground := Ground.phase }, { on := 10, ground := Ground.phase }, { on := 11, ground := Ground.phase }, { on := 12, ground := Ground.phase }, { on := 13, ground := Ground.phase }, { on := 14, ground := Ground.phase }, { on := 15, ground := Ground.phase }, { on := 16, ground := Ground.phase }, { on := 17, ground := Ground.phase }, { on := 18, ground := Ground.phase }, { on := 19, ground := Ground.phase }, { on := 20, ground := Ground.phase }, { on := 21, ground := Ground.phase }], guard := none }) (v := ?_) rfl (by kernel_rfl) (by kernel_rfl) (by kernel_rfl) (fun _ _ _ h => h) (Or.inl ⟨by rfl, ?_⟩) (by assumption) ?_
  rotate_left
  · (intro ws hSw; (try dsimp only at hSw); (try go_simp); (try with_reducible rfl))
  (try simp only [Act.put, List.setIfInBounds_toArray, List.set_cons_zero, List.set_cons_succ])
  refine wpAnyH_done (by kernel_rfl) ?_ _
  clear hHeld
  clear hst kXA kXB kXC kX1 kX2
  have kXA := XA.cell
  have zXA := XA.lt
  have kXB := XB.cell
  have zXB := XB.lt
  have kXC := XC.cell
  have zXC := XC.lt
  have kX1 := X1.cell
  have zX1 := X1.lt
  have kX2 := X2.cell
  have zX2 := X2.lt
  go_wp2_with fail
  go_ret
  exact ⟨rfl, WW⟩

theorem natmodSums_walk (A B' C' : Option Addr) (n k q c d p a b m : Nat) (w : World) (hA : Num w w.heap.size A n a) (hB : Num w w.heap.size B' k b) (hC : Num w w.heap.size C' q m) (hn : n ≤ 9223372036854775807) (hk : k ≤ 9223372036854775807) (hq : q ≤ 9223372036854775807) :
    Calls Try.prog 3 #[.agg #[.slice A n c], .agg #[.slice B' k d], .agg #[.slice C' q p]] w (RetB (.bool true) w) := by
  by_cases hg : n ≤ 70 ∧ k ≤ 70 ∧ q ≤ 70
  · by_cases h0 : chkS n a k b q m = 0
    · exact sums_ok A B' C' n k q c d p a b m w hA hB hC hn hk hq hg h0
    · exact sums_err A B' C' n k q c d p a b m w hA hB hC hn hk hq hg h0
  · exact sums_far A B' C' n k q c d p a b m w hA hB hC hn hk hq hg

end Go.Proofs.Ytckajjapockonaa
