/- NaturalProducts: the walk. -/
import Derived.Test.YtlhfaaghfhiaoaaRef8
import Derived.Test.YtlhfaaghfhiaoaaLSums
set_option linter.unusedVariables false
set_option linter.unusedSimpArgs false
namespace Go.Proofs.Ytlhfaaghfhiaoaa
open Go.RowKit

theorem same_zero : sameB (nw 0) 0 0 0 = true := by simp [sameB, nw_zero]
theorem shiftS_nw (a : Nat) (x : Int) : nw (shiftS a x).1 ≤ 64 := by
  unfold shiftS
  split
  · simp [nw_zero]
  · split
    · assumption
    · simp [nw_zero]

set_option maxHeartbeats 8000000 in
set_option maxRecDepth 100000 in
theorem prods_bad1 (A B' : Option Addr) (n m c d a b : Nat) (x : Int) (w : World) (hA : Num w w.heap.size A n a) (hB : Num w w.heap.size B' m b) (hx : -9223372036854775808 ≤ x ∧ x ≤ 9223372036854775807) (hn1 : n ≤ 100) (hm1 : m ≤ 100) (H1 : Hid (okB n a = false)) :
    Calls Try.prog 5 #[.agg #[.slice A n c], .agg #[.slice B' m d], .int .i64 x] w (RetB (.bool true) w) := by
  have hn : n ≤ 9223372036854775807 := by omega
  have hm : m ≤ 9223372036854775807 := by omega
  have HG : Hid (decide (100 < n ∨ 100 < m) = false) := decide_eq_false (by omega)
  have hz0 : nw 0 ≤ 64 := by simp [nw_zero]
  obtain ⟨hx0, hx1⟩ := hx
  obtain ⟨b0, b1, bw⟩ := boxes2 w (.slice A n c) (.slice B' m d)
  have XA := Box.mk b0 hA bw
  have XB := Box.mk b1 hB bw
  have WW := bw
  clear bw b0 b1
  go_enter Try.func5, Try.ntmps5
  go_wp2_with fail
  generalize hV : ((w.alloc (.cells #[.slice A n c] 24)).alloc (.cells #[.slice B' m d] 24)) = V0 at XA XB WW ⊢
  clear hV
  have hc := awake_any V0
  refine hc.mono ?_
  clear hc
  rintro e V1 ⟨rfl, hb⟩
  replace XA := XA.below hb
  replace XB := XB.below hb
  replace WW := WW.trans (hb.mono WW.size)
  have kXA := XA.cell
  have zXA := XA.lt
  have kXB := XB.cell
  have zXB := XB.lt
  clear hb
  go_wp2_with fail
  have hc := great_2 V1 A B' _ c _ d hn hm
  rw [HG.out] at hc
  refine hc.mono ?_
  clear hc
  rintro e V2 ⟨rfl, hb⟩
  clear kXA zXA kXB zXB
  replace XA := XA.below hb
  replace XB := XB.below hb
  replace WW := WW.trans (hb.mono WW.size)
  have kXA := XA.cell
  have zXA := XA.lt
  have kXB := XB.cell
  have zXB := XB.lt
  clear hb
  go_wp2_with fail
  have hc := mul_any A B' _ _ c d a b V2 XA.num XB.num hn hm
  rw [bothS_no1 H1.out] at hc
  refine hc.mono ?_
  clear hc
  rintro e V3 ⟨v, rfl, hv, hb⟩
  clear kXA zXA kXB zXB
  replace XA := XA.below hb
  replace XB := XB.below hb
  replace WW := WW.trans (hb.mono WW.size)
  obtain ⟨D1, d1, rfl, hv'⟩ := hv.open_
  clear hv
  have kXA := XA.cell
  have zXA := XA.lt
  have kXB := XB.cell
  have zXB := XB.lt
  clear hb
  go_wp2_with fail
  obtain ⟨b0, bw⟩ := boxes1 V3 (.slice D1 (nw 0) d1)
  clear kXA zXA kXB zXB
  replace XA := XA.below bw
  replace XB := XB.below bw
  have X1 := Box.mk b0 hv' bw
  replace WW := WW.trans (bw.mono WW.size)
  clear bw b0 hv'
  generalize hV : (V3.alloc (.cells #[.slice D1 (nw 0) d1] 24)) = V4 at XA XB X1 WW ⊢
  clear hV
  have kXA := XA.cell
  have zXA := XA.lt
  have kXB := XB.cell
  have zXB := XB.lt
  have kX1 := X1.cell
  have zX1 := X1.lt
  have hc := div_any A B' _ _ c d a b V4 XA.num XB.num hn hm
  rw [bothD_no1 H1.out] at hc
  refine hc.mono ?_
  clear hc
  rintro e V5 ⟨v, u', rfl, hv, hu, hb⟩
  clear kXA zXA kXB zXB kX1 zX1
  replace XA := XA.below hb
  replace XB := XB.below hb
  replace X1 := X1.below hb
  replace WW := WW.trans (hb.mono WW.size)
  obtain ⟨D2, d2, rfl, hv'⟩ := hv.open_
  clear hv
  obtain ⟨D3, d3, rfl, hu'⟩ := hu.open_
  clear hu
  have kXA := XA.cell
  have zXA := XA.lt
  have kXB := XB.cell
  have zXB := XB.lt
  have kX1 := X1.cell
  have zX1 := X1.lt
  clear hb
  go_wp2_with fail
  obtain ⟨b0, b1, bw⟩ := boxes2 V5 (.slice D2 (nw 0) d2) (.slice D3 (nw 0) d3)
  clear kXA zXA kXB zXB kX1 zX1
  replace XA := XA.below bw
  replace XB := XB.below bw
  replace X1 := X1.below bw
  have X2 := Box.mk b0 hv' bw
  have X3 := Box.mk b1 hu' bw
  replace WW := WW.trans (bw.mono WW.size)
  clear bw b0 b1 hv' hu'
  generalize hV : ((V5.alloc (.cells #[.slice D2 (nw 0) d2] 24)).alloc (.cells #[.slice D3 (nw 0) d3] 24)) = V6 at XA XB X1 X2 X3 WW ⊢
  clear hV
  have kXA := XA.cell
  have zXA := XA.lt
  have kXB := XB.cell
  have zXB := XB.lt
  have kX1 := X1.cell
  have zX1 := X1.lt
  have kX2 := X2.cell
  have zX2 := X2.lt
  have kX3 := X3.cell
  have zX3 := X3.lt
  have hc := shift_any A _ c a x V6 XA.num hn hx0 hx1
  rw [shiftV_no H1.out] at hc
  refine hc.mono ?_
  clear hc
  rintro e V7 ⟨v, rfl, hv, hb⟩
  clear kXA zXA kXB zXB kX1 zX1 kX2 zX2 kX3 zX3
  replace XA := XA.below hb
  replace XB := XB.below hb
  replace X1 := X1.below hb
  replace X2 := X2.below hb
  replace X3 := X3.below hb
  replace WW := WW.trans (hb.mono WW.size)
  obtain ⟨D4, d4, rfl, hv'⟩ := hv.open_
  clear hv
  have kXA := XA.cell
  have zXA := XA.lt
  have kXB := XB.cell
  have zXB := XB.lt
  have kX1 := X1.cell
  have zX1 := X1.lt
  have kX2 := X2.cell
  have zX2 := X2.lt
  have kX3 := X3.cell
  have zX3 := X3.lt
  clear hb
  go_wp2_with fail
  obtain ⟨b0, bw⟩ := boxes1 V7 (.slice D4 (nw 0) d4)
  clear kXA zXA kXB zXB kX1 zX1 kX2 zX2 kX3 zX3
  replace XA := XA.below bw
  replace XB := XB.below bw
  replace X1 := X1.below bw
  replace X2 := X2.below bw
  replace X3 := X3.below bw
  have X4 := Box.mk b0 hv' bw
  replace WW := WW.trans (bw.mono WW.size)
  clear bw b0 hv'
  generalize hV : (V7.alloc (.cells #[.slice D4 (nw 0) d4] 24)) = V8 at XA XB X1 X2 X3 X4 WW ⊢
  clear hV
  have kXA := XA.cell
  have zXA := XA.lt
  have kXB := XB.cell
  have zXB := XB.lt
  have kX1 := X1.cell
  have zX1 := X1.lt
  have kX2 := X2.cell
  have zX2 := X2.lt
  have kX3 := X3.cell
  have zX3 := X3.lt
  have kX4 := X4.cell
  have zX4 := X4.lt
  have hc := rvalid_any A _ c a _ V8 XA.num (Nat.le_refl _) hn
  rw [H1.out] at hc
  refine hc.mono ?_
  clear hc
  rintro e V9 ⟨rfl, hb⟩
  clear kXA zXA kXB zXB kX1 zX1 kX2 zX2 kX3 zX3 kX4 zX4
  replace XA := XA.below hb
  replace XB := XB.below hb
  replace X1 := X1.below hb
  replace X2 := X2.below hb
  replace X3 := X3.below hb
  replace X4 := X4.below hb
  replace WW := WW.trans (hb.mono WW.size)
  have kXA := XA.cell
  have zXA := XA.lt
  have kXB := XB.cell
  have zXB := XB.lt
  have kX1 := X1.cell
  have zX1 := X1.lt
  have kX2 := X2.cell
  have zX2 := X2.lt
  have kX3 := X3.cell
  have zX3 := X3.lt
  have kX4 := X4.cell
  have zX4 := X4.lt
  clear hb
  go_wp2_with fail
  have hc := is_any D1 none _ 0 d1 0 0 0 1 1 V9 X1.num (Num.nil _ _ _) (by omega) (by omega)
  rw [is_zero] at hc
  refine hc.mono ?_
  clear hc
  rintro e V10 ⟨rfl, hb⟩
  clear kXA zXA kXB zXB kX1 zX1 kX2 zX2 kX3 zX3 kX4 zX4
  replace XA := XA.below hb
  replace XB := XB.below hb
  replace X1 := X1.below hb
  replace X2 := X2.below hb
  replace X3 := X3.below hb
  replace X4 := X4.below hb
  replace WW := WW.trans (hb.mono WW.size)
  have kXA := XA.cell
  have zXA := XA.lt
  have kXB := XB.cell
  have zXB := XB.lt
  have kX1 := X1.cell
  have zX1 := X1.lt
  have kX2 := X2.cell
  have zX2 := X2.lt
  have kX3 := X3.cell
  have zX3 := X3.lt
  have kX4 := X4.cell
  have zX4 := X4.lt
  clear hb
  go_wp2_with fail
  have hc := is_any D2 none _ 0 d2 0 0 0 1 1 V10 X2.num (Num.nil _ _ _) (by omega) (by omega)
  rw [is_zero] at hc
  refine hc.mono ?_
  clear hc
  rintro e V11 ⟨rfl, hb⟩
  clear kXA zXA kXB zXB kX1 zX1 kX2 zX2 kX3 zX3 kX4 zX4
  replace XA := XA.below hb
  replace XB := XB.below hb
  replace X1 := X1.below hb
  replace X2 := X2.below hb
  replace X3 := X3.below hb
  replace X4 := X4.below hb
  replace WW := WW.trans (hb.mono WW.size)
  have kXA := XA.cell
  have zXA := XA.lt
  have kXB := XB.cell
  have zXB := XB.lt
  have kX1 := X1.cell
  have zX1 := X1.lt
  have kX2 := X2.cell
  have zX2 := X2.lt
  have kX3 := X3.cell
  have zX3 := X3.lt
  have kX4 := X4.cell
  have zX4 := X4.lt
  clear hb
  go_wp2_with fail
  have hc := same_any D3 none _ 0 d3 0 0 0 V11 X3.num (Num.nil _ _ _) (by omega) (by omega)
  rw [same_zero] at hc
  refine hc.mono ?_
  clear hc
  rintro e V12 ⟨rfl, hb⟩
  clear kXA zXA kXB zXB kX1 zX1 kX2 zX2 kX3 zX3 kX4 zX4
  replace XA := XA.below hb
  replace XB := XB.below hb
  replace X1 := X1.below hb
  replace X2 := X2.below hb
  replace X3 := X3.below hb
  replace X4 := X4.below hb
  replace WW := WW.trans (hb.mono WW.size)
  have kXA := XA.cell
  have zXA := XA.lt
  have kXB := XB.cell
  have zXB := XB.lt
  have kX1 := X1.cell
  have zX1 := X1.lt
  have kX2 := X2.cell
  have zX2 := X2.lt
  have kX3 := X3.cell
  have zX3 := X3.lt
  have kX4 := X4.cell
  have zX4 := X4.lt
  clear hb
  go_wp2_with fail
  have hc := is_any D4 none _ 0 d4 0 0 0 1 1 V12 X4.num (Num.nil _ _ _) (by omega) (by omega)
  rw [is_zero] at hc
  refine hc.mono ?_
  clear hc
  rintro e V13 ⟨rfl, hb⟩
  clear kXA zXA kXB zXB kX1 zX1 kX2 zX2 kX3 zX3 kX4 zX4
  replace XA := XA.below hb
  replace XB := XB.below hb
  replace X1 := X1.below hb
  replace X2 := X2.below hb
  replace X3 := X3.below hb
  replace X4 := X4.below hb
  replace WW := WW.trans (hb.mono WW.size)
  have kXA := XA.cell
  have zXA := XA.lt
  have kXB := XB.cell
  have zXB := XB.lt
  have kX1 := X1.cell
  have zX1 := X1.lt
  have kX2 := X2.cell
  have zX2 := X2.lt
  have kX3 := X3.cell
  have zX3 := X3.lt
  have kX4 := X4.cell
  have zX4 := X4.lt
  clear hb
  go_wp2_with fail
  go_ret
  exact ⟨rfl, WW⟩

set_option maxHeartbeats 8000000 in
set_option maxRecDepth 100000 in
theorem prods_bad2_lo (A B' : Option Addr) (m c d a b : Nat) (x : Int) (w : World) (hA : Num w w.heap.size A (nw a) a) (hB : Num w w.heap.size B' m b) (hx : -9223372036854775808 ≤ x ∧ x ≤ 9223372036854775807) (hn1 : nw a ≤ 64) (hm1 : m ≤ 100) (H2 : Hid (okB m b = false)) (hr : x < -10000) :
    Calls Try.prog 5 #[.agg #[.slice A (nw a) c], .agg #[.slice B' m d], .int .i64 x] w (RetB (.bool true) w) := by
  have hn : (nw a) ≤ 9223372036854775807 := by omega
  have hm : m ≤ 9223372036854775807 := by omega
  have HG : Hid (decide (100 < (nw a) ∨ 100 < m) = false) := decide_eq_false (by omega)
  have hz0 : nw 0 ≤ 64 := by simp [nw_zero]
  obtain ⟨hx0, hx1⟩ := hx
  have H1 := hid (okB_nw hn1)
  obtain ⟨s1, g1, hs⟩ : ∃ s1 g1, shiftS a x = (s1, g1) := ⟨_, _, rfl⟩
  have hs1 : nw s1 ≤ 64 := by have h5 := shiftS_nw a x; rw [hs] at h5; exact h5
  have e5 := shiftS_range (a := a) (x := x) (by omega)
  rw [hs] at e5
  obtain ⟨rfl, rfl⟩ : s1 = 0 ∧ g1 = 2 := by injection e5 with e6 e7; exact ⟨e6, e7⟩
  have HSH := hid hs
  clear e5 hs
  have r1 : decide (x < -10000) = true := by simpa using hr
  clear hr
  obtain ⟨b0, b1, bw⟩ := boxes2 w (.slice A (nw a) c) (.slice B' m d)
  have XA := Box.mk b0 hA bw
  have XB := Box.mk b1 hB bw
  have WW := bw
  clear bw b0 b1
  go_enter Try.func5, Try.ntmps5
  go_wp2_with fail
  generalize hV : ((w.alloc (.cells #[.slice A (nw a) c] 24)).alloc (.cells #[.slice B' m d] 24)) = V0 at XA XB WW ⊢
  clear hV
  have hc := awake_any V0
  refine hc.mono ?_
  clear hc
  rintro e V1 ⟨rfl, hb⟩
  replace XA := XA.below hb
  replace XB := XB.below hb
  replace WW := WW.trans (hb.mono WW.size)
  have kXA := XA.cell
  have zXA := XA.lt
  have kXB := XB.cell
  have zXB := XB.lt
  clear hb
  go_wp2_with fail
  have hc := great_2 V1 A B' _ c _ d hn hm
  rw [HG.out] at hc
  refine hc.mono ?_
  clear hc
  rintro e V2 ⟨rfl, hb⟩
  clear kXA zXA kXB zXB
  replace XA := XA.below hb
  replace XB := XB.below hb
  replace WW := WW.trans (hb.mono WW.size)
  have kXA := XA.cell
  have zXA := XA.lt
  have kXB := XB.cell
  have zXB := XB.lt
  clear hb
  go_wp2_with fail
  have hc := mul_any A B' _ _ c d a b V2 XA.num XB.num hn hm
  rw [bothS_no2 H2.out] at hc
  refine hc.mono ?_
  clear hc
  rintro e V3 ⟨v, rfl, hv, hb⟩
  clear kXA zXA kXB zXB
  replace XA := XA.below hb
  replace XB := XB.below hb
  replace WW := WW.trans (hb.mono WW.size)
  obtain ⟨D1, d1, rfl, hv'⟩ := hv.open_
  clear hv
  have kXA := XA.cell
  have zXA := XA.lt
  have kXB := XB.cell
  have zXB := XB.lt
  clear hb
  go_wp2_with fail
  obtain ⟨b0, bw⟩ := boxes1 V3 (.slice D1 (nw 0) d1)
  clear kXA zXA kXB zXB
  replace XA := XA.below bw
  replace XB := XB.below bw
  have X1 := Box.mk b0 hv' bw
  replace WW := WW.trans (bw.mono WW.size)
  clear bw b0 hv'
  generalize hV : (V3.alloc (.cells #[.slice D1 (nw 0) d1] 24)) = V4 at XA XB X1 WW ⊢
  clear hV
  have kXA := XA.cell
  have zXA := XA.lt
  have kXB := XB.cell
  have zXB := XB.lt
  have kX1 := X1.cell
  have zX1 := X1.lt
  have hc := div_any A B' _ _ c d a b V4 XA.num XB.num hn hm
  rw [bothD_no2 H2.out] at hc
  refine hc.mono ?_
  clear hc
  rintro e V5 ⟨v, u', rfl, hv, hu, hb⟩
  clear kXA zXA kXB zXB kX1 zX1
  replace XA := XA.below hb
  replace XB := XB.below hb
  replace X1 := X1.below hb
  replace WW := WW.trans (hb.mono WW.size)
  obtain ⟨D2, d2, rfl, hv'⟩ := hv.open_
  clear hv
  obtain ⟨D3, d3, rfl, hu'⟩ := hu.open_
  clear hu
  have kXA := XA.cell
  have zXA := XA.lt
  have kXB := XB.cell
  have zXB := XB.lt
  have kX1 := X1.cell
  have zX1 := X1.lt
  clear hb
  go_wp2_with fail
  obtain ⟨b0, b1, bw⟩ := boxes2 V5 (.slice D2 (nw 0) d2) (.slice D3 (nw 0) d3)
  clear kXA zXA kXB zXB kX1 zX1
  replace XA := XA.below bw
  replace XB := XB.below bw
  replace X1 := X1.below bw
  have X2 := Box.mk b0 hv' bw
  have X3 := Box.mk b1 hu' bw
  replace WW := WW.trans (bw.mono WW.size)
  clear bw b0 b1 hv' hu'
  generalize hV : ((V5.alloc (.cells #[.slice D2 (nw 0) d2] 24)).alloc (.cells #[.slice D3 (nw 0) d3] 24)) = V6 at XA XB X1 X2 X3 WW ⊢
  clear hV
  have kXA := XA.cell
  have zXA := XA.lt
  have kXB := XB.cell
  have zXB := XB.lt
  have kX1 := X1.cell
  have zX1 := X1.lt
  have kX2 := X2.cell
  have zX2 := X2.lt
  have kX3 := X3.cell
  have zX3 := X3.lt
  have hc := shift_any A _ c a x V6 XA.num hn hx0 hx1
  rw [shiftV_yes H1.out] at hc
  rw [HSH.out] at hc
  refine hc.mono ?_
  clear hc
  rintro e V7 ⟨v, rfl, hv, hb⟩
  clear kXA zXA kXB zXB kX1 zX1 kX2 zX2 kX3 zX3
  replace XA := XA.below hb
  replace XB := XB.below hb
  replace X1 := X1.below hb
  replace X2 := X2.below hb
  replace X3 := X3.below hb
  replace WW := WW.trans (hb.mono WW.size)
  obtain ⟨D4, d4, rfl, hv'⟩ := hv.open_
  clear hv
  have kXA := XA.cell
  have zXA := XA.lt
  have kXB := XB.cell
  have zXB := XB.lt
  have kX1 := X1.cell
  have zX1 := X1.lt
  have kX2 := X2.cell
  have zX2 := X2.lt
  have kX3 := X3.cell
  have zX3 := X3.lt
  clear hb
  go_wp2_with fail
  obtain ⟨b0, bw⟩ := boxes1 V7 (.slice D4 (nw 0) d4)
  clear kXA zXA kXB zXB kX1 zX1 kX2 zX2 kX3 zX3
  replace XA := XA.below bw
  replace XB := XB.below bw
  replace X1 := X1.below bw
  replace X2 := X2.below bw
  replace X3 := X3.below bw
  have X4 := Box.mk b0 hv' bw
  replace WW := WW.trans (bw.mono WW.size)
  clear bw b0 hv'
  generalize hV : (V7.alloc (.cells #[.slice D4 (nw 0) d4] 24)) = V8 at XA XB X1 X2 X3 X4 WW ⊢
  clear hV
  have kXA := XA.cell
  have zXA := XA.lt
  have kXB := XB.cell
  have zXB := XB.lt
  have kX1 := X1.cell
  have zX1 := X1.lt
  have kX2 := X2.cell
  have zX2 := X2.lt
  have kX3 := X3.cell
  have zX3 := X3.lt
  have kX4 := X4.cell
  have zX4 := X4.lt
  have hc := rvalid_any A _ c a _ V8 XA.num (Nat.le_refl _) hn
  rw [H1.out] at hc
  refine hc.mono ?_
  clear hc
  rintro e V9 ⟨rfl, hb⟩
  clear kXA zXA kXB zXB kX1 zX1 kX2 zX2 kX3 zX3 kX4 zX4
  replace XA := XA.below hb
  replace XB := XB.below hb
  replace X1 := X1.below hb
  replace X2 := X2.below hb
  replace X3 := X3.below hb
  replace X4 := X4.below hb
  replace WW := WW.trans (hb.mono WW.size)
  have kXA := XA.cell
  have zXA := XA.lt
  have kXB := XB.cell
  have zXB := XB.lt
  have kX1 := X1.cell
  have zX1 := X1.lt
  have kX2 := X2.cell
  have zX2 := X2.lt
  have kX3 := X3.cell
  have zX3 := X3.lt
  have kX4 := X4.cell
  have zX4 := X4.lt
  clear hb
  go_wp2_with fail
  have hc := is_any D4 none _ 0 d4 0 0 0 2 2 V9 X4.num (Num.nil _ _ _) (by omega) (by omega)
  rw [is_zero] at hc
  refine hc.mono ?_
  clear hc
  rintro e V10 ⟨rfl, hb⟩
  clear kXA zXA kXB zXB kX1 zX1 kX2 zX2 kX3 zX3 kX4 zX4
  replace XA := XA.below hb
  replace XB := XB.below hb
  replace X1 := X1.below hb
  replace X2 := X2.below hb
  replace X3 := X3.below hb
  replace X4 := X4.below hb
  replace WW := WW.trans (hb.mono WW.size)
  have kXA := XA.cell
  have zXA := XA.lt
  have kXB := XB.cell
  have zXB := XB.lt
  have kX1 := X1.cell
  have zX1 := X1.lt
  have kX2 := X2.cell
  have zX2 := X2.lt
  have kX3 := X3.cell
  have zX3 := X3.lt
  have kX4 := X4.cell
  have zX4 := X4.lt
  clear hb
  go_wp2_with fail
  have hc := rvalid_any B' _ d b _ V10 XB.num (Nat.le_refl _) hm
  rw [H2.out] at hc
  refine hc.mono ?_
  clear hc
  rintro e V11 ⟨rfl, hb⟩
  clear kXA zXA kXB zXB kX1 zX1 kX2 zX2 kX3 zX3 kX4 zX4
  replace XA := XA.below hb
  replace XB := XB.below hb
  replace X1 := X1.below hb
  replace X2 := X2.below hb
  replace X3 := X3.below hb
  replace X4 := X4.below hb
  replace WW := WW.trans (hb.mono WW.size)
  have kXA := XA.cell
  have zXA := XA.lt
  have kXB := XB.cell
  have zXB := XB.lt
  have kX1 := X1.cell
  have zX1 := X1.lt
  have kX2 := X2.cell
  have zX2 := X2.lt
  have kX3 := X3.cell
  have zX3 := X3.lt
  have kX4 := X4.cell
  have zX4 := X4.lt
  clear hb
  go_wp2_with fail
  have hc := is_any D1 none _ 0 d1 0 0 0 1 1 V11 X1.num (Num.nil _ _ _) (by omega) (by omega)
  rw [is_zero] at hc
  refine hc.mono ?_
  clear hc
  rintro e V12 ⟨rfl, hb⟩
  clear kXA zXA kXB zXB kX1 zX1 kX2 zX2 kX3 zX3 kX4 zX4
  replace XA := XA.below hb
  replace XB := XB.below hb
  replace X1 := X1.below hb
  replace X2 := X2.below hb
  replace X3 := X3.below hb
  replace X4 := X4.below hb
  replace WW := WW.trans (hb.mono WW.size)
  have kXA := XA.cell
  have zXA := XA.lt
  have kXB := XB.cell
  have zXB := XB.lt
  have kX1 := X1.cell
  have zX1 := X1.lt
  have kX2 := X2.cell
  have zX2 := X2.lt
  have kX3 := X3.cell
  have zX3 := X3.lt
  have kX4 := X4.cell
  have zX4 := X4.lt
  clear hb
  go_wp2_with fail
  have hc := is_any D2 none _ 0 d2 0 0 0 1 1 V12 X2.num (Num.nil _ _ _) (by omega) (by omega)
  rw [is_zero] at hc
  refine hc.mono ?_
  clear hc
  rintro e V13 ⟨rfl, hb⟩
  clear kXA zXA kXB zXB kX1 zX1 kX2 zX2 kX3 zX3 kX4 zX4
  replace XA := XA.below hb
  replace XB := XB.below hb
  replace X1 := X1.below hb
  replace X2 := X2.below hb
  replace X3 := X3.below hb
  replace X4 := X4.below hb
  replace WW := WW.trans (hb.mono WW.size)
  have kXA := XA.cell
  have zXA := XA.lt
  have kXB := XB.cell
  have zXB := XB.lt
  have kX1 := X1.cell
  have zX1 := X1.lt
  have kX2 := X2.cell
  have zX2 := X2.lt
  have kX3 := X3.cell
  have zX3 := X3.lt
  have kX4 := X4.cell
  have zX4 := X4.lt
  clear hb
  go_wp2_with fail
  have hc := same_any D3 none _ 0 d3 0 0 0 V13 X3.num (Num.nil _ _ _) (by omega) (by omega)
  rw [same_zero] at hc
  refine hc.mono ?_
  clear hc
  rintro e V14 ⟨rfl, hb⟩
  clear kXA zXA kXB zXB kX1 zX1 kX2 zX2 kX3 zX3 kX4 zX4
  replace XA := XA.below hb
  replace XB := XB.below hb
  replace X1 := X1.below hb
  replace X2 := X2.below hb
  replace X3 := X3.below hb
  replace X4 := X4.below hb
  replace WW := WW.trans (hb.mono WW.size)
  have kXA := XA.cell
  have zXA := XA.lt
  have kXB := XB.cell
  have zXB := XB.lt
  have kX1 := X1.cell
  have zX1 := X1.lt
  have kX2 := X2.cell
  have zX2 := X2.lt
  have kX3 := X3.cell
  have zX3 := X3.lt
  have kX4 := X4.cell
  have zX4 := X4.lt
  clear hb
  go_wp2_with fail
  go_ret
  exact ⟨rfl, WW⟩

set_option maxHeartbeats 8000000 in
set_option maxRecDepth 100000 in
theorem prods_bad2_hi (A B' : Option Addr) (m c d a b : Nat) (x : Int) (w : World) (hA : Num w w.heap.size A (nw a) a) (hB : Num w w.heap.size B' m b) (hx : -9223372036854775808 ≤ x ∧ x ≤ 9223372036854775807) (hn1 : nw a ≤ 64) (hm1 : m ≤ 100) (H2 : Hid (okB m b = false)) (hr : 10000 < x) :
    Calls Try.prog 5 #[.agg #[.slice A (nw a) c], .agg #[.slice B' m d], .int .i64 x] w (RetB (.bool true) w) := by
  have hn : (nw a) ≤ 9223372036854775807 := by omega
  have hm : m ≤ 9223372036854775807 := by omega
  have HG : Hid (decide (100 < (nw a) ∨ 100 < m) = false) := decide_eq_false (by omega)
  have hz0 : nw 0 ≤ 64 := by simp [nw_zero]
  obtain ⟨hx0, hx1⟩ := hx
  have H1 := hid (okB_nw hn1)
  obtain ⟨s1, g1, hs⟩ : ∃ s1 g1, shiftS a x = (s1, g1) := ⟨_, _, rfl⟩
  have hs1 : nw s1 ≤ 64 := by have h5 := shiftS_nw a x; rw [hs] at h5; exact h5
  have e5 := shiftS_range (a := a) (x := x) (by omega)
  rw [hs] at e5
  obtain ⟨rfl, rfl⟩ : s1 = 0 ∧ g1 = 2 := by injection e5 with e6 e7; exact ⟨e6, e7⟩
  have HSH := hid hs
  clear e5 hs
  have r1 : decide (x < -10000) = false := by simp; omega
  have r2 : decide (10000 < x) = true := by simpa using hr
  clear hr
  obtain ⟨b0, b1, bw⟩ := boxes2 w (.slice A (nw a) c) (.slice B' m d)
  have XA := Box.mk b0 hA bw
  have XB := Box.mk b1 hB bw
  have WW := bw
  clear bw b0 b1
  go_enter Try.func5, Try.ntmps5
  go_wp2_with fail
  generalize hV : ((w.alloc (.cells #[.slice A (nw a) c] 24)).alloc (.cells #[.slice B' m d] 24)) = V0 at XA XB WW ⊢
  clear hV
  have hc := awake_any V0
  refine hc.mono ?_
  clear hc
  rintro e V1 ⟨rfl, hb⟩
  replace XA := XA.below hb
  replace XB := XB.below hb
  replace WW := WW.trans (hb.mono WW.size)
  have kXA := XA.cell
  have zXA := XA.lt
  have kXB := XB.cell
  have zXB := XB.lt
  clear hb
  go_wp2_with fail
  have hc := great_2 V1 A B' _ c _ d hn hm
  rw [HG.out] at hc
  refine hc.mono ?_
  clear hc
  rintro e V2 ⟨rfl, hb⟩
  clear kXA zXA kXB zXB
  replace XA := XA.below hb
  replace XB := XB.below hb
  replace WW := WW.trans (hb.mono WW.size)
  have kXA := XA.cell
  have zXA := XA.lt
  have kXB := XB.cell
  have zXB := XB.lt
  clear hb
  go_wp2_with fail
  have hc := mul_any A B' _ _ c d a b V2 XA.num XB.num hn hm
  rw [bothS_no2 H2.out] at hc
  refine hc.mono ?_
  clear hc
  rintro e V3 ⟨v, rfl, hv, hb⟩
  clear kXA zXA kXB zXB
  replace XA := XA.below hb
  replace XB := XB.below hb
  replace WW := WW.trans (hb.mono WW.size)
  obtain ⟨D1, d1, rfl, hv'⟩ := hv.open_
  clear hv
  have kXA := XA.cell
  have zXA := XA.lt
  have kXB := XB.cell
  have zXB := XB.lt
  clear hb
  go_wp2_with fail
  obtain ⟨b0, bw⟩ := boxes1 V3 (.slice D1 (nw 0) d1)
  clear kXA zXA kXB zXB
  replace XA := XA.below bw
  replace XB := XB.below bw
  have X1 := Box.mk b0 hv' bw
  replace WW := WW.trans (bw.mono WW.size)
  clear bw b0 hv'
  generalize hV : (V3.alloc (.cells #[.slice D1 (nw 0) d1] 24)) = V4 at XA XB X1 WW ⊢
  clear hV
  have kXA := XA.cell
  have zXA := XA.lt
  have kXB := XB.cell
  have zXB := XB.lt
  have kX1 := X1.cell
  have zX1 := X1.lt
  have hc := div_any A B' _ _ c d a b V4 XA.num XB.num hn hm
  rw [bothD_no2 H2.out] at hc
  refine hc.mono ?_
  clear hc
  rintro e V5 ⟨v, u', rfl, hv, hu, hb⟩
  clear kXA zXA kXB zXB kX1 zX1
  replace XA := XA.below hb
  replace XB := XB.below hb
  replace X1 := X1.below hb
  replace WW := WW.trans (hb.mono WW.size)
  obtain ⟨D2, d2, rfl, hv'⟩ := hv.open_
  clear hv
  obtain ⟨D3, d3, rfl, hu'⟩ := hu.open_
  clear hu
  have kXA := XA.cell
  have zXA := XA.lt
  have kXB := XB.cell
  have zXB := XB.lt
  have kX1 := X1.cell
  have zX1 := X1.lt
  clear hb
  go_wp2_with fail
  obtain ⟨b0, b1, bw⟩ := boxes2 V5 (.slice D2 (nw 0) d2) (.slice D3 (nw 0) d3)
  clear kXA zXA kXB zXB kX1 zX1
  replace XA := XA.below bw
  replace XB := XB.below bw
  replace X1 := X1.below bw
  have X2 := Box.mk b0 hv' bw
  have X3 := Box.mk b1 hu' bw
  replace WW := WW.trans (bw.mono WW.size)
  clear bw b0 b1 hv' hu'
  generalize hV : ((V5.alloc (.cells #[.slice D2 (nw 0) d2] 24)).alloc (.cells #[.slice D3 (nw 0) d3] 24)) = V6 at XA XB X1 X2 X3 WW ⊢
  clear hV
  have kXA := XA.cell
  have zXA := XA.lt
  have kXB := XB.cell
  have zXB := XB.lt
  have kX1 := X1.cell
  have zX1 := X1.lt
  have kX2 := X2.cell
  have zX2 := X2.lt
  have kX3 := X3.cell
  have zX3 := X3.lt
  have hc := shift_any A _ c a x V6 XA.num hn hx0 hx1
  rw [shiftV_yes H1.out] at hc
  rw [HSH.out] at hc
  refine hc.mono ?_
  clear hc
  rintro e V7 ⟨v, rfl, hv, hb⟩
  clear kXA zXA kXB zXB kX1 zX1 kX2 zX2 kX3 zX3
  replace XA := XA.below hb
  replace XB := XB.below hb
  replace X1 := X1.below hb
  replace X2 := X2.below hb
  replace X3 := X3.below hb
  replace WW := WW.trans (hb.mono WW.size)
  obtain ⟨D4, d4, rfl, hv'⟩ := hv.open_
  clear hv
  have kXA := XA.cell
  have zXA := XA.lt
  have kXB := XB.cell
  have zXB := XB.lt
  have kX1 := X1.cell
  have zX1 := X1.lt
  have kX2 := X2.cell
  have zX2 := X2.lt
  have kX3 := X3.cell
  have zX3 := X3.lt
  clear hb
  go_wp2_with fail
  obtain ⟨b0, bw⟩ := boxes1 V7 (.slice D4 (nw 0) d4)
  clear kXA zXA kXB zXB kX1 zX1 kX2 zX2 kX3 zX3
  replace XA := XA.below bw
  replace XB := XB.below bw
  replace X1 := X1.below bw
  replace X2 := X2.below bw
  replace X3 := X3.below bw
  have X4 := Box.mk b0 hv' bw
  replace WW := WW.trans (bw.mono WW.size)
  clear bw b0 hv'
  generalize hV : (V7.alloc (.cells #[.slice D4 (nw 0) d4] 24)) = V8 at XA XB X1 X2 X3 X4 WW ⊢
  clear hV
  have kXA := XA.cell
  have zXA := XA.lt
  have kXB := XB.cell
  have zXB := XB.lt
  have kX1 := X1.cell
  have zX1 := X1.lt
  have kX2 := X2.cell
  have zX2 := X2.lt
  have kX3 := X3.cell
  have zX3 := X3.lt
  have kX4 := X4.cell
  have zX4 := X4.lt
  have hc := rvalid_any A _ c a _ V8 XA.num (Nat.le_refl _) hn
  rw [H1.out] at hc
  refine hc.mono ?_
  clear hc
  rintro e V9 ⟨rfl, hb⟩
  clear kXA zXA kXB zXB kX1 zX1 kX2 zX2 kX3 zX3 kX4 zX4
  replace XA := XA.below hb
  replace XB := XB.below hb
  replace X1 := X1.below hb
  replace X2 := X2.below hb
  replace X3 := X3.below hb
  replace X4 := X4.below hb
  replace WW := WW.trans (hb.mono WW.size)
  have kXA := XA.cell
  have zXA := XA.lt
  have kXB := XB.cell
  have zXB := XB.lt
  have kX1 := X1.cell
  have zX1 := X1.lt
  have kX2 := X2.cell
  have zX2 := X2.lt
  have kX3 := X3.cell
  have zX3 := X3.lt
  have kX4 := X4.cell
  have zX4 := X4.lt
  clear hb
  go_wp2_with fail
  have hc := is_any D4 none _ 0 d4 0 0 0 2 2 V9 X4.num (Num.nil _ _ _) (by omega) (by omega)
  rw [is_zero] at hc
  refine hc.mono ?_
  clear hc
  rintro e V10 ⟨rfl, hb⟩
  clear kXA zXA kXB zXB kX1 zX1 kX2 zX2 kX3 zX3 kX4 zX4
  replace XA := XA.below hb
  replace XB := XB.below hb
  replace X1 := X1.below hb
  replace X2 := X2.below hb
  replace X3 := X3.below hb
  replace X4 := X4.below hb
  replace WW := WW.trans (hb.mono WW.size)
  have kXA := XA.cell
  have zXA := XA.lt
  have kXB := XB.cell
  have zXB := XB.lt
  have kX1 := X1.cell
  have zX1 := X1.lt
  have kX2 := X2.cell
  have zX2 := X2.lt
  have kX3 := X3.cell
  have zX3 := X3.lt
  have kX4 := X4.cell
  have zX4 := X4.lt
  clear hb
  go_wp2_with fail
  have hc := rvalid_any B' _ d b _ V10 XB.num (Nat.le_refl _) hm
  rw [H2.out] at hc
  refine hc.mono ?_
  clear hc
  rintro e V11 ⟨rfl, hb⟩
  clear kXA zXA kXB zXB kX1 zX1 kX2 zX2 kX3 zX3 kX4 zX4
  replace XA := XA.below hb
  replace XB := XB.below hb
  replace X1 := X1.below hb
  replace X2 := X2.below hb
  replace X3 := X3.below hb
  replace X4 := X4.below hb
  replace WW := WW.trans (hb.mono WW.size)
  have kXA := XA.cell
  have zXA := XA.lt
  have kXB := XB.cell
  have zXB := XB.lt
  have kX1 := X1.cell
  have zX1 := X1.lt
  have kX2 := X2.cell
  have zX2 := X2.lt
  have kX3 := X3.cell
  have zX3 := X3.lt
  have kX4 := X4.cell
  have zX4 := X4.lt
  clear hb
  go_wp2_with fail
  have hc := is_any D1 none _ 0 d1 0 0 0 1 1 V11 X1.num (Num.nil _ _ _) (by omega) (by omega)
  rw [is_zero] at hc
  refine hc.mono ?_
  clear hc
  rintro e V12 ⟨rfl, hb⟩
  clear kXA zXA kXB zXB kX1 zX1 kX2 zX2 kX3 zX3 kX4 zX4
  replace XA := XA.below hb
  replace XB := XB.below hb
  replace X1 := X1.below hb
  replace X2 := X2.below hb
  replace X3 := X3.below hb
  replace X4 := X4.below hb
  replace WW := WW.trans (hb.mono WW.size)
  have kXA := XA.cell
  have zXA := XA.lt
  have kXB := XB.cell
  have zXB := XB.lt
  have kX1 := X1.cell
  have zX1 := X1.lt
  have kX2 := X2.cell
  have zX2 := X2.lt
  have kX3 := X3.cell
  have zX3 := X3.lt
  have kX4 := X4.cell
  have zX4 := X4.lt
  clear hb
  go_wp2_with fail
  have hc := is_any D2 none _ 0 d2 0 0 0 1 1 V12 X2.num (Num.nil _ _ _) (by omega) (by omega)
  rw [is_zero] at hc
  refine hc.mono ?_
  clear hc
  rintro e V13 ⟨rfl, hb⟩
  clear kXA zXA kXB zXB kX1 zX1 kX2 zX2 kX3 zX3 kX4 zX4
  replace XA := XA.below hb
  replace XB := XB.below hb
  replace X1 := X1.below hb
  replace X2 := X2.below hb
  replace X3 := X3.below hb
  replace X4 := X4.below hb
  replace WW := WW.trans (hb.mono WW.size)
  have kXA := XA.cell
  have zXA := XA.lt
  have kXB := XB.cell
  have zXB := XB.lt
  have kX1 := X1.cell
  have zX1 := X1.lt
  have kX2 := X2.cell
  have zX2 := X2.lt
  have kX3 := X3.cell
  have zX3 := X3.lt
  have kX4 := X4.cell
  have zX4 := X4.lt
  clear hb
  go_wp2_with fail
  have hc := same_any D3 none _ 0 d3 0 0 0 V13 X3.num (Num.nil _ _ _) (by omega) (by omega)
  rw [same_zero] at hc
  refine hc.mono ?_
  clear hc
  rintro e V14 ⟨rfl, hb⟩
  clear kXA zXA kXB zXB kX1 zX1 kX2 zX2 kX3 zX3 kX4 zX4
  replace XA := XA.below hb
  replace XB := XB.below hb
  replace X1 := X1.below hb
  replace X2 := X2.below hb
  replace X3 := X3.below hb
  replace X4 := X4.below hb
  replace WW := WW.trans (hb.mono WW.size)
  have kXA := XA.cell
  have zXA := XA.lt
  have kXB := XB.cell
  have zXB := XB.lt
  have kX1 := X1.cell
  have zX1 := X1.lt
  have kX2 := X2.cell
  have zX2 := X2.lt
  have kX3 := X3.cell
  have zX3 := X3.lt
  have kX4 := X4.cell
  have zX4 := X4.lt
  clear hb
  go_wp2_with fail
  go_ret
  exact ⟨rfl, WW⟩

set_option maxHeartbeats 8000000 in
set_option maxRecDepth 100000 in
theorem prods_bad2_in (A B' : Option Addr) (m c d a b : Nat) (x : Int) (w : World) (hA : Num w w.heap.size A (nw a) a) (hB : Num w w.heap.size B' m b) (hx : -9223372036854775808 ≤ x ∧ x ≤ 9223372036854775807) (hn1 : nw a ≤ 64) (hm1 : m ≤ 100) (H2 : Hid (okB m b = false)) (hr : ¬ (x < -10000 ∨ 10000 < x)) :
    Calls Try.prog 5 #[.agg #[.slice A (nw a) c], .agg #[.slice B' m d], .int .i64 x] w (RetB (.bool true) w) := by
  have hn : (nw a) ≤ 9223372036854775807 := by omega
  have hm : m ≤ 9223372036854775807 := by omega
  have HG : Hid (decide (100 < (nw a) ∨ 100 < m) = false) := decide_eq_false (by omega)
  have hz0 : nw 0 ≤ 64 := by simp [nw_zero]
  obtain ⟨hx0, hx1⟩ := hx
  have H1 := hid (okB_nw hn1)
  obtain ⟨s1, g1, hs⟩ : ∃ s1 g1, shiftS a x = (s1, g1) := ⟨_, _, rfl⟩
  have hs1 : nw s1 ≤ 64 := by have h5 := shiftS_nw a x; rw [hs] at h5; exact h5
  have HSH := hid hs
  have HR := hid hr
  have HS1 : Hid ((shiftS a x).1 = s1) := by show _ = _; rw [hs]
  have HS2 : Hid ((shiftS a x).2 = g1) := by show _ = _; rw [hs]
  clear hs
  have r1 : decide (x < -10000) = false := by simp; omega
  have r2 : decide (10000 < x) = false := by simp; omega
  clear hr
  obtain ⟨b0, b1, bw⟩ := boxes2 w (.slice A (nw a) c) (.slice B' m d)
  have XA := Box.mk b0 hA bw
  have XB := Box.mk b1 hB bw
  have WW := bw
  clear bw b0 b1
  go_enter Try.func5, Try.ntmps5
  go_wp2_with fail
  generalize hV : ((w.alloc (.cells #[.slice A (nw a) c] 24)).alloc (.cells #[.slice B' m d] 24)) = V0 at XA XB WW ⊢
  clear hV
  have hc := awake_any V0
  refine hc.mono ?_
  clear hc
  rintro e V1 ⟨rfl, hb⟩
  replace XA := XA.below hb
  replace XB := XB.below hb
  replace WW := WW.trans (hb.mono WW.size)
  have kXA := XA.cell
  have zXA := XA.lt
  have kXB := XB.cell
  have zXB := XB.lt
  clear hb
  go_wp2_with fail
  have hc := great_2 V1 A B' _ c _ d hn hm
  rw [HG.out] at hc
  refine hc.mono ?_
  clear hc
  rintro e V2 ⟨rfl, hb⟩
  clear kXA zXA kXB zXB
  replace XA := XA.below hb
  replace XB := XB.below hb
  replace WW := WW.trans (hb.mono WW.size)
  have kXA := XA.cell
  have zXA := XA.lt
  have kXB := XB.cell
  have zXB := XB.lt
  clear hb
  go_wp2_with fail
  have hc := mul_any A B' _ _ c d a b V2 XA.num XB.num hn hm
  rw [bothS_no2 H2.out] at hc
  refine hc.mono ?_
  clear hc
  rintro e V3 ⟨v, rfl, hv, hb⟩
  clear kXA zXA kXB zXB
  replace XA := XA.below hb
  replace XB := XB.below hb
  replace WW := WW.trans (hb.mono WW.size)
  obtain ⟨D1, d1, rfl, hv'⟩ := hv.open_
  clear hv
  have kXA := XA.cell
  have zXA := XA.lt
  have kXB := XB.cell
  have zXB := XB.lt
  clear hb
  go_wp2_with fail
  obtain ⟨b0, bw⟩ := boxes1 V3 (.slice D1 (nw 0) d1)
  clear kXA zXA kXB zXB
  replace XA := XA.below bw
  replace XB := XB.below bw
  have X1 := Box.mk b0 hv' bw
  replace WW := WW.trans (bw.mono WW.size)
  clear bw b0 hv'
  generalize hV : (V3.alloc (.cells #[.slice D1 (nw 0) d1] 24)) = V4 at XA XB X1 WW ⊢
  clear hV
  have kXA := XA.cell
  have zXA := XA.lt
  have kXB := XB.cell
  have zXB := XB.lt
  have kX1 := X1.cell
  have zX1 := X1.lt
  have hc := div_any A B' _ _ c d a b V4 XA.num XB.num hn hm
  rw [bothD_no2 H2.out] at hc
  refine hc.mono ?_
  clear hc
  rintro e V5 ⟨v, u', rfl, hv, hu, hb⟩
  clear kXA zXA kXB zXB kX1 zX1
  replace XA := XA.below hb
  replace XB := XB.below hb
  replace X1 := X1.below hb
  replace WW := WW.trans (hb.mono WW.size)
  obtain ⟨D2, d2, rfl, hv'⟩ := hv.open_
  clear hv
  obtain ⟨D3, d3, rfl, hu'⟩ := hu.open_
  clear hu
  have kXA := XA.cell
  have zXA := XA.lt
  have kXB := XB.cell
  have zXB := XB.lt
  have kX1 := X1.cell
  have zX1 := X1.lt
  clear hb
  go_wp2_with fail
  obtain ⟨b0, b1, bw⟩ := boxes2 V5 (.slice D2 (nw 0) d2) (.slice D3 (nw 0) d3)
  clear kXA zXA kXB zXB kX1 zX1
  replace XA := XA.below bw
  replace XB := XB.below bw
  replace X1 := X1.below bw
  have X2 := Box.mk b0 hv' bw
  have X3 := Box.mk b1 hu' bw
  replace WW := WW.trans (bw.mono WW.size)
  clear bw b0 b1 hv' hu'
  generalize hV : ((V5.alloc (.cells #[.slice D2 (nw 0) d2] 24)).alloc (.cells #[.slice D3 (nw 0) d3] 24)) = V6 at XA XB X1 X2 X3 WW ⊢
  clear hV
  have kXA := XA.cell
  have zXA := XA.lt
  have kXB := XB.cell
  have zXB := XB.lt
  have kX1 := X1.cell
  have zX1 := X1.lt
  have kX2 := X2.cell
  have zX2 := X2.lt
  have kX3 := X3.cell
  have zX3 := X3.lt
  have hc := shift_any A _ c a x V6 XA.num hn hx0 hx1
  rw [shiftV_yes H1.out] at hc
  rw [HSH.out] at hc
  refine hc.mono ?_
  clear hc
  rintro e V7 ⟨v, rfl, hv, hb⟩
  clear kXA zXA kXB zXB kX1 zX1 kX2 zX2 kX3 zX3
  replace XA := XA.below hb
  replace XB := XB.below hb
  replace X1 := X1.below hb
  replace X2 := X2.below hb
  replace X3 := X3.below hb
  replace WW := WW.trans (hb.mono WW.size)
  obtain ⟨D4, d4, rfl, hv'⟩ := hv.open_
  clear hv
  have kXA := XA.cell
  have zXA := XA.lt
  have kXB := XB.cell
  have zXB := XB.lt
  have kX1 := X1.cell
  have zX1 := X1.lt
  have kX2 := X2.cell
  have zX2 := X2.lt
  have kX3 := X3.cell
  have zX3 := X3.lt
  clear hb
  go_wp2_with fail
  obtain ⟨b0, bw⟩ := boxes1 V7 (.slice D4 (nw s1) d4)
  clear kXA zXA kXB zXB kX1 zX1 kX2 zX2 kX3 zX3
  replace XA := XA.below bw
  replace XB := XB.below bw
  replace X1 := X1.below bw
  replace X2 := X2.below bw
  replace X3 := X3.below bw
  have X4 := Box.mk b0 hv' bw
  replace WW := WW.trans (bw.mono WW.size)
  clear bw b0 hv'
  generalize hV : (V7.alloc (.cells #[.slice D4 (nw s1) d4] 24)) = V8 at XA XB X1 X2 X3 X4 WW ⊢
  clear hV
  have kXA := XA.cell
  have zXA := XA.lt
  have kXB := XB.cell
  have zXB := XB.lt
  have kX1 := X1.cell
  have zX1 := X1.lt
  have kX2 := X2.cell
  have zX2 := X2.lt
  have kX3 := X3.cell
  have zX3 := X3.lt
  have kX4 := X4.cell
  have zX4 := X4.lt
  have hc := rvalid_any A _ c a _ V8 XA.num (Nat.le_refl _) hn
  rw [H1.out] at hc
  refine hc.mono ?_
  clear hc
  rintro e V9 ⟨rfl, hb⟩
  clear kXA zXA kXB zXB kX1 zX1 kX2 zX2 kX3 zX3 kX4 zX4
  replace XA := XA.below hb
  replace XB := XB.below hb
  replace X1 := X1.below hb
  replace X2 := X2.below hb
  replace X3 := X3.below hb
  replace X4 := X4.below hb
  replace WW := WW.trans (hb.mono WW.size)
  have kXA := XA.cell
  have zXA := XA.lt
  have kXB := XB.cell
  have zXB := XB.lt
  have kX1 := X1.cell
  have zX1 := X1.lt
  have kX2 := X2.cell
  have zX2 := X2.lt
  have kX3 := X3.cell
  have zX3 := X3.lt
  have kX4 := X4.cell
  have zX4 := X4.lt
  clear hb
  go_wp2_with fail
  have hc := rshift_any A c a x V9 XA.num hn1 HR.out
  rw [HS1.out] at hc
  rw [HS2.out] at hc
  refine hc.mono ?_
  clear hc
  rintro e V10 ⟨v, rfl, hv, hb⟩
  clear kXA zXA kXB zXB kX1 zX1 kX2 zX2 kX3 zX3 kX4 zX4
  replace XA := XA.below hb
  replace XB := XB.below hb
  replace X1 := X1.below hb
  replace X2 := X2.below hb
  replace X3 := X3.below hb
  replace X4 := X4.below hb
  replace WW := WW.trans (hb.mono WW.size)
  obtain ⟨D5, d5, rfl, hv'⟩ := hv.open_
  clear hv
  have kXA := XA.cell
  have zXA := XA.lt
  have kXB := XB.cell
  have zXB := XB.lt
  have kX1 := X1.cell
  have zX1 := X1.lt
  have kX2 := X2.cell
  have zX2 := X2.lt
  have kX3 := X3.cell
  have zX3 := X3.lt
  have kX4 := X4.cell
  have zX4 := X4.lt
  clear hb
  go_wp2_with fail
  obtain ⟨b0, bw⟩ := boxes1 V10 (.slice D5 (nw s1) d5)
  clear kXA zXA kXB zXB kX1 zX1 kX2 zX2 kX3 zX3 kX4 zX4
  replace XA := XA.below bw
  replace XB := XB.below bw
  replace X1 := X1.below bw
  replace X2 := X2.below bw
  replace X3 := X3.below bw
  replace X4 := X4.below bw
  have X5 := Box.mk b0 hv' bw
  replace WW := WW.trans (bw.mono WW.size)
  clear bw b0 hv'
  generalize hV : (V10.alloc (.cells #[.slice D5 (nw s1) d5] 24)) = V11 at XA XB X1 X2 X3 X4 X5 WW ⊢
  clear hV
  have kXA := XA.cell
  have zXA := XA.lt
  have kXB := XB.cell
  have zXB := XB.lt
  have kX1 := X1.cell
  have zX1 := X1.lt
  have kX2 := X2.cell
  have zX2 := X2.lt
  have kX3 := X3.cell
  have zX3 := X3.lt
  have kX4 := X4.cell
  have zX4 := X4.lt
  have kX5 := X5.cell
  have zX5 := X5.lt
  have hc := is_any D4 D5 _ _ d4 d5 s1 s1 g1 g1 V11 X4.num X5.num (by omega) (by omega)
  rw [is_self] at hc
  refine hc.mono ?_
  clear hc
  rintro e V12 ⟨rfl, hb⟩
  clear kXA zXA kXB zXB kX1 zX1 kX2 zX2 kX3 zX3 kX4 zX4 kX5 zX5
  replace XA := XA.below hb
  replace XB := XB.below hb
  replace X1 := X1.below hb
  replace X2 := X2.below hb
  replace X3 := X3.below hb
  replace X4 := X4.below hb
  replace X5 := X5.below hb
  replace WW := WW.trans (hb.mono WW.size)
  have kXA := XA.cell
  have zXA := XA.lt
  have kXB := XB.cell
  have zXB := XB.lt
  have kX1 := X1.cell
  have zX1 := X1.lt
  have kX2 := X2.cell
  have zX2 := X2.lt
  have kX3 := X3.cell
  have zX3 := X3.lt
  have kX4 := X4.cell
  have zX4 := X4.lt
  have kX5 := X5.cell
  have zX5 := X5.lt
  clear hb
  go_wp2_with fail
  have hc := rvalid_any B' _ d b _ V12 XB.num (Nat.le_refl _) hm
  rw [H2.out] at hc
  refine hc.mono ?_
  clear hc
  rintro e V13 ⟨rfl, hb⟩
  clear kXA zXA kXB zXB kX1 zX1 kX2 zX2 kX3 zX3 kX4 zX4 kX5 zX5
  replace XA := XA.below hb
  replace XB := XB.below hb
  replace X1 := X1.below hb
  replace X2 := X2.below hb
  replace X3 := X3.below hb
  replace X4 := X4.below hb
  replace X5 := X5.below hb
  replace WW := WW.trans (hb.mono WW.size)
  have kXA := XA.cell
  have zXA := XA.lt
  have kXB := XB.cell
  have zXB := XB.lt
  have kX1 := X1.cell
  have zX1 := X1.lt
  have kX2 := X2.cell
  have zX2 := X2.lt
  have kX3 := X3.cell
  have zX3 := X3.lt
  have kX4 := X4.cell
  have zX4 := X4.lt
  have kX5 := X5.cell
  have zX5 := X5.lt
  clear hb
  go_wp2_with fail
  have hc := is_any D1 none _ 0 d1 0 0 0 1 1 V13 X1.num (Num.nil _ _ _) (by omega) (by omega)
  rw [is_zero] at hc
  refine hc.mono ?_
  clear hc
  rintro e V14 ⟨rfl, hb⟩
  clear kXA zXA kXB zXB kX1 zX1 kX2 zX2 kX3 zX3 kX4 zX4 kX5 zX5
  replace XA := XA.below hb
  replace XB := XB.below hb
  replace X1 := X1.below hb
  replace X2 := X2.below hb
  replace X3 := X3.below hb
  replace X4 := X4.below hb
  replace X5 := X5.below hb
  replace WW := WW.trans (hb.mono WW.size)
  have kXA := XA.cell
  have zXA := XA.lt
  have kXB := XB.cell
  have zXB := XB.lt
  have kX1 := X1.cell
  have zX1 := X1.lt
  have kX2 := X2.cell
  have zX2 := X2.lt
  have kX3 := X3.cell
  have zX3 := X3.lt
  have kX4 := X4.cell
  have zX4 := X4.lt
  have kX5 := X5.cell
  have zX5 := X5.lt
  clear hb
  go_wp2_with fail
  have hc := is_any D2 none _ 0 d2 0 0 0 1 1 V14 X2.num (Num.nil _ _ _) (by omega) (by omega)
  rw [is_zero] at hc
  refine hc.mono ?_
  clear hc
  rintro e V15 ⟨rfl, hb⟩
  clear kXA zXA kXB zXB kX1 zX1 kX2 zX2 kX3 zX3 kX4 zX4 kX5 zX5
  replace XA := XA.below hb
  replace XB := XB.below hb
  replace X1 := X1.below hb
  replace X2 := X2.below hb
  replace X3 := X3.below hb
  replace X4 := X4.below hb
  replace X5 := X5.below hb
  replace WW := WW.trans (hb.mono WW.size)
  have kXA := XA.cell
  have zXA := XA.lt
  have kXB := XB.cell
  have zXB := XB.lt
  have kX1 := X1.cell
  have zX1 := X1.lt
  have kX2 := X2.cell
  have zX2 := X2.lt
  have kX3 := X3.cell
  have zX3 := X3.lt
  have kX4 := X4.cell
  have zX4 := X4.lt
  have kX5 := X5.cell
  have zX5 := X5.lt
  clear hb
  go_wp2_with fail
  have hc := same_any D3 none _ 0 d3 0 0 0 V15 X3.num (Num.nil _ _ _) (by omega) (by omega)
  rw [same_zero] at hc
  refine hc.mono ?_
  clear hc
  rintro e V16 ⟨rfl, hb⟩
  clear kXA zXA kXB zXB kX1 zX1 kX2 zX2 kX3 zX3 kX4 zX4 kX5 zX5
  replace XA := XA.below hb
  replace XB := XB.below hb
  replace X1 := X1.below hb
  replace X2 := X2.below hb
  replace X3 := X3.below hb
  replace X4 := X4.below hb
  replace X5 := X5.below hb
  replace WW := WW.trans (hb.mono WW.size)
  have kXA := XA.cell
  have zXA := XA.lt
  have kXB := XB.cell
  have zXB := XB.lt
  have kX1 := X1.cell
  have zX1 := X1.lt
  have kX2 := X2.cell
  have zX2 := X2.lt
  have kX3 := X3.cell
  have zX3 := X3.lt
  have kX4 := X4.cell
  have zX4 := X4.lt
  have kX5 := X5.cell
  have zX5 := X5.lt
  clear hb
  go_wp2_with fail
  go_ret
  exact ⟨rfl, WW⟩

set_option maxHeartbeats 8000000 in
set_option maxRecDepth 100000 in
theorem prods_zero_lo (A B' : Option Addr) (c d a b : Nat) (x : Int) (w : World) (hA : Num w w.heap.size A (nw a) a) (hB : Num w w.heap.size B' 0 0) (hx : -9223372036854775808 ≤ x ∧ x ≤ 9223372036854775807) (hn1 : nw a ≤ 64)  (hr : x < -10000) :
    Calls Try.prog 5 #[.agg #[.slice A (nw a) c], .agg #[.slice B' 0 d], .int .i64 x] w (RetB (.bool true) w) := by
  have hm1 : 0 ≤ 64 := by omega
  have hn : (nw a) ≤ 9223372036854775807 := by omega
  have hm : 0 ≤ 9223372036854775807 := by omega
  have HG : Hid (decide (100 < (nw a) ∨ 100 < 0) = false) := decide_eq_false (by omega)
  have hz0 : nw 0 ≤ 64 := by simp [nw_zero]
  obtain ⟨hx0, hx1⟩ := hx
  have H1 := hid (okB_nw hn1)
  obtain ⟨s1, g1, hs⟩ : ∃ s1 g1, shiftS a x = (s1, g1) := ⟨_, _, rfl⟩
  have hs1 : nw s1 ≤ 64 := by have h5 := shiftS_nw a x; rw [hs] at h5; exact h5
  have e5 := shiftS_range (a := a) (x := x) (by omega)
  rw [hs] at e5
  obtain ⟨rfl, rfl⟩ : s1 = 0 ∧ g1 = 2 := by injection e5 with e6 e7; exact ⟨e6, e7⟩
  have HSH := hid hs
  clear e5 hs
  have r1 : decide (x < -10000) = true := by simpa using hr
  clear hr
  have H2 : Hid (okB 0 0 = true) := rfl
  obtain ⟨l1, l2, hl⟩ : ∃ l1 l2, limS (a * 0) = (l1, l2) := ⟨_, _, rfl⟩
  have hl1 : nw l1 ≤ 64 := by have h5 := limS_nw (a * 0); rw [hl] at h5; exact h5
  have HL := hid hl
  have HL1 : Hid ((limS (a * 0)).1 = l1) := by show _ = _; rw [hl]
  have HL2 : Hid ((limS (a * 0)).2 = l2) := by show _ = _; rw [hl]
  clear hl
  have HD := hid (divS_no (a := a) (b := 0) rfl)
  obtain ⟨b0, b1, bw⟩ := boxes2 w (.slice A (nw a) c) (.slice B' 0 d)
  have XA := Box.mk b0 hA bw
  have XB := Box.mk b1 hB bw
  have WW := bw
  clear bw b0 b1
  go_enter Try.func5, Try.ntmps5
  go_wp2_with fail
  generalize hV : ((w.alloc (.cells #[.slice A (nw a) c] 24)).alloc (.cells #[.slice B' 0 d] 24)) = V0 at XA XB WW ⊢
  clear hV
  have hc := awake_any V0
  refine hc.mono ?_
  clear hc
  rintro e V1 ⟨rfl, hb⟩
  replace XA := XA.below hb
  replace XB := XB.below hb
  replace WW := WW.trans (hb.mono WW.size)
  have kXA := XA.cell
  have zXA := XA.lt
  have kXB := XB.cell
  have zXB := XB.lt
  clear hb
  go_wp2_with fail
  have hc := great_2 V1 A B' _ c _ d hn hm
  rw [HG.out] at hc
  refine hc.mono ?_
  clear hc
  rintro e V2 ⟨rfl, hb⟩
  clear kXA zXA kXB zXB
  replace XA := XA.below hb
  replace XB := XB.below hb
  replace WW := WW.trans (hb.mono WW.size)
  have kXA := XA.cell
  have zXA := XA.lt
  have kXB := XB.cell
  have zXB := XB.lt
  clear hb
  go_wp2_with fail
  have hc := mul_any A B' _ _ c d a 0 V2 XA.num XB.num hn hm
  rw [bothS_yes H1.out H2.out] at hc
  rw [HL.out] at hc
  refine hc.mono ?_
  clear hc
  rintro e V3 ⟨v, rfl, hv, hb⟩
  clear kXA zXA kXB zXB
  replace XA := XA.below hb
  replace XB := XB.below hb
  replace WW := WW.trans (hb.mono WW.size)
  obtain ⟨D1, d1, rfl, hv'⟩ := hv.open_
  clear hv
  have kXA := XA.cell
  have zXA := XA.lt
  have kXB := XB.cell
  have zXB := XB.lt
  clear hb
  go_wp2_with fail
  obtain ⟨b0, bw⟩ := boxes1 V3 (.slice D1 (nw l1) d1)
  clear kXA zXA kXB zXB
  replace XA := XA.below bw
  replace XB := XB.below bw
  have X1 := Box.mk b0 hv' bw
  replace WW := WW.trans (bw.mono WW.size)
  clear bw b0 hv'
  generalize hV : (V3.alloc (.cells #[.slice D1 (nw l1) d1] 24)) = V4 at XA XB X1 WW ⊢
  clear hV
  have kXA := XA.cell
  have zXA := XA.lt
  have kXB := XB.cell
  have zXB := XB.lt
  have kX1 := X1.cell
  have zX1 := X1.lt
  have hc := div_any A B' _ _ c d a 0 V4 XA.num XB.num hn hm
  rw [bothD_yes H1.out H2.out] at hc
  rw [HD.out] at hc
  refine hc.mono ?_
  clear hc
  rintro e V5 ⟨v, u', rfl, hv, hu, hb⟩
  clear kXA zXA kXB zXB kX1 zX1
  replace XA := XA.below hb
  replace XB := XB.below hb
  replace X1 := X1.below hb
  replace WW := WW.trans (hb.mono WW.size)
  obtain ⟨D2, d2, rfl, hv'⟩ := hv.open_
  clear hv
  obtain ⟨D3, d3, rfl, hu'⟩ := hu.open_
  clear hu
  have kXA := XA.cell
  have zXA := XA.lt
  have kXB := XB.cell
  have zXB := XB.lt
  have kX1 := X1.cell
  have zX1 := X1.lt
  clear hb
  go_wp2_with fail
  obtain ⟨b0, b1, bw⟩ := boxes2 V5 (.slice D2 (nw 0) d2) (.slice D3 (nw 0) d3)
  clear kXA zXA kXB zXB kX1 zX1
  replace XA := XA.below bw
  replace XB := XB.below bw
  replace X1 := X1.below bw
  have X2 := Box.mk b0 hv' bw
  have X3 := Box.mk b1 hu' bw
  replace WW := WW.trans (bw.mono WW.size)
  clear bw b0 b1 hv' hu'
  generalize hV : ((V5.alloc (.cells #[.slice D2 (nw 0) d2] 24)).alloc (.cells #[.slice D3 (nw 0) d3] 24)) = V6 at XA XB X1 X2 X3 WW ⊢
  clear hV
  have kXA := XA.cell
  have zXA := XA.lt
  have kXB := XB.cell
  have zXB := XB.lt
  have kX1 := X1.cell
  have zX1 := X1.lt
  have kX2 := X2.cell
  have zX2 := X2.lt
  have kX3 := X3.cell
  have zX3 := X3.lt
  have hc := shift_any A _ c a x V6 XA.num hn hx0 hx1
  rw [shiftV_yes H1.out] at hc
  rw [HSH.out] at hc
  refine hc.mono ?_
  clear hc
  rintro e V7 ⟨v, rfl, hv, hb⟩
  clear kXA zXA kXB zXB kX1 zX1 kX2 zX2 kX3 zX3
  replace XA := XA.below hb
  replace XB := XB.below hb
  replace X1 := X1.below hb
  replace X2 := X2.below hb
  replace X3 := X3.below hb
  replace WW := WW.trans (hb.mono WW.size)
  obtain ⟨D4, d4, rfl, hv'⟩ := hv.open_
  clear hv
  have kXA := XA.cell
  have zXA := XA.lt
  have kXB := XB.cell
  have zXB := XB.lt
  have kX1 := X1.cell
  have zX1 := X1.lt
  have kX2 := X2.cell
  have zX2 := X2.lt
  have kX3 := X3.cell
  have zX3 := X3.lt
  clear hb
  go_wp2_with fail
  obtain ⟨b0, bw⟩ := boxes1 V7 (.slice D4 (nw 0) d4)
  clear kXA zXA kXB zXB kX1 zX1 kX2 zX2 kX3 zX3
  replace XA := XA.below bw
  replace XB := XB.below bw
  replace X1 := X1.below bw
  replace X2 := X2.below bw
  replace X3 := X3.below bw
  have X4 := Box.mk b0 hv' bw
  replace WW := WW.trans (bw.mono WW.size)
  clear bw b0 hv'
  generalize hV : (V7.alloc (.cells #[.slice D4 (nw 0) d4] 24)) = V8 at XA XB X1 X2 X3 X4 WW ⊢
  clear hV
  have kXA := XA.cell
  have zXA := XA.lt
  have kXB := XB.cell
  have zXB := XB.lt
  have kX1 := X1.cell
  have zX1 := X1.lt
  have kX2 := X2.cell
  have zX2 := X2.lt
  have kX3 := X3.cell
  have zX3 := X3.lt
  have kX4 := X4.cell
  have zX4 := X4.lt
  have hc := rvalid_any A _ c a _ V8 XA.num (Nat.le_refl _) hn
  rw [H1.out] at hc
  refine hc.mono ?_
  clear hc
  rintro e V9 ⟨rfl, hb⟩
  clear kXA zXA kXB zXB kX1 zX1 kX2 zX2 kX3 zX3 kX4 zX4
  replace XA := XA.below hb
  replace XB := XB.below hb
  replace X1 := X1.below hb
  replace X2 := X2.below hb
  replace X3 := X3.below hb
  replace X4 := X4.below hb
  replace WW := WW.trans (hb.mono WW.size)
  have kXA := XA.cell
  have zXA := XA.lt
  have kXB := XB.cell
  have zXB := XB.lt
  have kX1 := X1.cell
  have zX1 := X1.lt
  have kX2 := X2.cell
  have zX2 := X2.lt
  have kX3 := X3.cell
  have zX3 := X3.lt
  have kX4 := X4.cell
  have zX4 := X4.lt
  clear hb
  go_wp2_with fail
  have hc := is_any D4 none _ 0 d4 0 0 0 2 2 V9 X4.num (Num.nil _ _ _) (by omega) (by omega)
  rw [is_zero] at hc
  refine hc.mono ?_
  clear hc
  rintro e V10 ⟨rfl, hb⟩
  clear kXA zXA kXB zXB kX1 zX1 kX2 zX2 kX3 zX3 kX4 zX4
  replace XA := XA.below hb
  replace XB := XB.below hb
  replace X1 := X1.below hb
  replace X2 := X2.below hb
  replace X3 := X3.below hb
  replace X4 := X4.below hb
  replace WW := WW.trans (hb.mono WW.size)
  have kXA := XA.cell
  have zXA := XA.lt
  have kXB := XB.cell
  have zXB := XB.lt
  have kX1 := X1.cell
  have zX1 := X1.lt
  have kX2 := X2.cell
  have zX2 := X2.lt
  have kX3 := X3.cell
  have zX3 := X3.lt
  have kX4 := X4.cell
  have zX4 := X4.lt
  clear hb
  go_wp2_with fail
  have hc := rvalid_any B' _ d 0 _ V10 XB.num (Nat.le_refl _) hm
  rw [H2.out] at hc
  refine hc.mono ?_
  clear hc
  rintro e V11 ⟨rfl, hb⟩
  clear kXA zXA kXB zXB kX1 zX1 kX2 zX2 kX3 zX3 kX4 zX4
  replace XA := XA.below hb
  replace XB := XB.below hb
  replace X1 := X1.below hb
  replace X2 := X2.below hb
  replace X3 := X3.below hb
  replace X4 := X4.below hb
  replace WW := WW.trans (hb.mono WW.size)
  have kXA := XA.cell
  have zXA := XA.lt
  have kXB := XB.cell
  have zXB := XB.lt
  have kX1 := X1.cell
  have zX1 := X1.lt
  have kX2 := X2.cell
  have zX2 := X2.lt
  have kX3 := X3.cell
  have zX3 := X3.lt
  have kX4 := X4.cell
  have zX4 := X4.lt
  clear hb
  go_wp2_with fail
  have hc := rmul_any A B' _ _ c d a 0 V11 XA.num XB.num hn1 hm1
  rw [HL1.out] at hc
  rw [HL2.out] at hc
  refine hc.mono ?_
  clear hc
  rintro e V12 ⟨v, rfl, hv, hb⟩
  clear kXA zXA kXB zXB kX1 zX1 kX2 zX2 kX3 zX3 kX4 zX4
  replace XA := XA.below hb
  replace XB := XB.below hb
  replace X1 := X1.below hb
  replace X2 := X2.below hb
  replace X3 := X3.below hb
  replace X4 := X4.below hb
  replace WW := WW.trans (hb.mono WW.size)
  obtain ⟨D6, d6, rfl, hv'⟩ := hv.open_
  clear hv
  have kXA := XA.cell
  have zXA := XA.lt
  have kXB := XB.cell
  have zXB := XB.lt
  have kX1 := X1.cell
  have zX1 := X1.lt
  have kX2 := X2.cell
  have zX2 := X2.lt
  have kX3 := X3.cell
  have zX3 := X3.lt
  have kX4 := X4.cell
  have zX4 := X4.lt
  clear hb
  go_wp2_with fail
  obtain ⟨b0, bw⟩ := boxes1 V12 (.slice D6 (nw l1) d6)
  clear kXA zXA kXB zXB kX1 zX1 kX2 zX2 kX3 zX3 kX4 zX4
  replace XA := XA.below bw
  replace XB := XB.below bw
  replace X1 := X1.below bw
  replace X2 := X2.below bw
  replace X3 := X3.below bw
  replace X4 := X4.below bw
  have X6 := Box.mk b0 hv' bw
  replace WW := WW.trans (bw.mono WW.size)
  clear bw b0 hv'
  generalize hV : (V12.alloc (.cells #[.slice D6 (nw l1) d6] 24)) = V13 at XA XB X1 X2 X3 X4 X6 WW ⊢
  clear hV
  have kXA := XA.cell
  have zXA := XA.lt
  have kXB := XB.cell
  have zXB := XB.lt
  have kX1 := X1.cell
  have zX1 := X1.lt
  have kX2 := X2.cell
  have zX2 := X2.lt
  have kX3 := X3.cell
  have zX3 := X3.lt
  have kX4 := X4.cell
  have zX4 := X4.lt
  have kX6 := X6.cell
  have zX6 := X6.lt
  have hc := is_any D1 D6 _ _ d1 d6 l1 l1 l2 l2 V13 X1.num X6.num (by omega) (by omega)
  rw [is_self] at hc
  refine hc.mono ?_
  clear hc
  rintro e V14 ⟨rfl, hb⟩
  clear kXA zXA kXB zXB kX1 zX1 kX2 zX2 kX3 zX3 kX4 zX4 kX6 zX6
  replace XA := XA.below hb
  replace XB := XB.below hb
  replace X1 := X1.below hb
  replace X2 := X2.below hb
  replace X3 := X3.below hb
  replace X4 := X4.below hb
  replace X6 := X6.below hb
  replace WW := WW.trans (hb.mono WW.size)
  have kXA := XA.cell
  have zXA := XA.lt
  have kXB := XB.cell
  have zXB := XB.lt
  have kX1 := X1.cell
  have zX1 := X1.lt
  have kX2 := X2.cell
  have zX2 := X2.lt
  have kX3 := X3.cell
  have zX3 := X3.lt
  have kX4 := X4.cell
  have zX4 := X4.lt
  have kX6 := X6.cell
  have zX6 := X6.lt
  clear hb
  go_wp2_with fail
  have hc := is_any D2 none _ 0 d2 0 0 0 10 10 V14 X2.num (Num.nil _ _ _) (by omega) (by omega)
  rw [is_zero] at hc
  refine hc.mono ?_
  clear hc
  rintro e V15 ⟨rfl, hb⟩
  clear kXA zXA kXB zXB kX1 zX1 kX2 zX2 kX3 zX3 kX4 zX4 kX6 zX6
  replace XA := XA.below hb
  replace XB := XB.below hb
  replace X1 := X1.below hb
  replace X2 := X2.below hb
  replace X3 := X3.below hb
  replace X4 := X4.below hb
  replace X6 := X6.below hb
  replace WW := WW.trans (hb.mono WW.size)
  have kXA := XA.cell
  have zXA := XA.lt
  have kXB := XB.cell
  have zXB := XB.lt
  have kX1 := X1.cell
  have zX1 := X1.lt
  have kX2 := X2.cell
  have zX2 := X2.lt
  have kX3 := X3.cell
  have zX3 := X3.lt
  have kX4 := X4.cell
  have zX4 := X4.lt
  have kX6 := X6.cell
  have zX6 := X6.lt
  clear hb
  go_wp2_with fail
  have hc := same_any D3 none _ 0 d3 0 0 0 V15 X3.num (Num.nil _ _ _) (by omega) (by omega)
  rw [same_zero] at hc
  refine hc.mono ?_
  clear hc
  rintro e V16 ⟨rfl, hb⟩
  clear kXA zXA kXB zXB kX1 zX1 kX2 zX2 kX3 zX3 kX4 zX4 kX6 zX6
  replace XA := XA.below hb
  replace XB := XB.below hb
  replace X1 := X1.below hb
  replace X2 := X2.below hb
  replace X3 := X3.below hb
  replace X4 := X4.below hb
  replace X6 := X6.below hb
  replace WW := WW.trans (hb.mono WW.size)
  have kXA := XA.cell
  have zXA := XA.lt
  have kXB := XB.cell
  have zXB := XB.lt
  have kX1 := X1.cell
  have zX1 := X1.lt
  have kX2 := X2.cell
  have zX2 := X2.lt
  have kX3 := X3.cell
  have zX3 := X3.lt
  have kX4 := X4.cell
  have zX4 := X4.lt
  have kX6 := X6.cell
  have zX6 := X6.lt
  clear hb
  go_wp2_with fail
  go_ret
  exact ⟨rfl, WW⟩

set_option maxHeartbeats 8000000 in
set_option maxRecDepth 100000 in
theorem prods_zero_hi (A B' : Option Addr) (c d a b : Nat) (x : Int) (w : World) (hA : Num w w.heap.size A (nw a) a) (hB : Num w w.heap.size B' 0 0) (hx : -9223372036854775808 ≤ x ∧ x ≤ 9223372036854775807) (hn1 : nw a ≤ 64)  (hr : 10000 < x) :
    Calls Try.prog 5 #[.agg #[.slice A (nw a) c], .agg #[.slice B' 0 d], .int .i64 x] w (RetB (.bool true) w) := by
  have hm1 : 0 ≤ 64 := by omega
  have hn : (nw a) ≤ 9223372036854775807 := by omega
  have hm : 0 ≤ 9223372036854775807 := by omega
  have HG : Hid (decide (100 < (nw a) ∨ 100 < 0) = false) := decide_eq_false (by omega)
  have hz0 : nw 0 ≤ 64 := by simp [nw_zero]
  obtain ⟨hx0, hx1⟩ := hx
  have H1 := hid (okB_nw hn1)
  obtain ⟨s1, g1, hs⟩ : ∃ s1 g1, shiftS a x = (s1, g1) := ⟨_, _, rfl⟩
  have hs1 : nw s1 ≤ 64 := by have h5 := shiftS_nw a x; rw [hs] at h5; exact h5
  have e5 := shiftS_range (a := a) (x := x) (by omega)
  rw [hs] at e5
  obtain ⟨rfl, rfl⟩ : s1 = 0 ∧ g1 = 2 := by injection e5 with e6 e7; exact ⟨e6, e7⟩
  have HSH := hid hs
  clear e5 hs
  have r1 : decide (x < -10000) = false := by simp; omega
  have r2 : decide (10000 < x) = true := by simpa using hr
  clear hr
  have H2 : Hid (okB 0 0 = true) := rfl
  obtain ⟨l1, l2, hl⟩ : ∃ l1 l2, limS (a * 0) = (l1, l2) := ⟨_, _, rfl⟩
  have hl1 : nw l1 ≤ 64 := by have h5 := limS_nw (a * 0); rw [hl] at h5; exact h5
  have HL := hid hl
  have HL1 : Hid ((limS (a * 0)).1 = l1) := by show _ = _; rw [hl]
  have HL2 : Hid ((limS (a * 0)).2 = l2) := by show _ = _; rw [hl]
  clear hl
  have HD := hid (divS_no (a := a) (b := 0) rfl)
  obtain ⟨b0, b1, bw⟩ := boxes2 w (.slice A (nw a) c) (.slice B' 0 d)
  have XA := Box.mk b0 hA bw
  have XB := Box.mk b1 hB bw
  have WW := bw
  clear bw b0 b1
  go_enter Try.func5, Try.ntmps5
  go_wp2_with fail
  generalize hV : ((w.alloc (.cells #[.slice A (nw a) c] 24)).alloc (.cells #[.slice B' 0 d] 24)) = V0 at XA XB WW ⊢
  clear hV
  have hc := awake_any V0
  refine hc.mono ?_
  clear hc
  rintro e V1 ⟨rfl, hb⟩
  replace XA := XA.below hb
  replace XB := XB.below hb
  replace WW := WW.trans (hb.mono WW.size)
  have kXA := XA.cell
  have zXA := XA.lt
  have kXB := XB.cell
  have zXB := XB.lt
  clear hb
  go_wp2_with fail
  have hc := great_2 V1 A B' _ c _ d hn hm
  rw [HG.out] at hc
  refine hc.mono ?_
  clear hc
  rintro e V2 ⟨rfl, hb⟩
  clear kXA zXA kXB zXB
  replace XA := XA.below hb
  replace XB := XB.below hb
  replace WW := WW.trans (hb.mono WW.size)
  have kXA := XA.cell
  have zXA := XA.lt
  have kXB := XB.cell
  have zXB := XB.lt
  clear hb
  go_wp2_with fail
  have hc := mul_any A B' _ _ c d a 0 V2 XA.num XB.num hn hm
  rw [bothS_yes H1.out H2.out] at hc
  rw [HL.out] at hc
  refine hc.mono ?_
  clear hc
  rintro e V3 ⟨v, rfl, hv, hb⟩
  clear kXA zXA kXB zXB
  replace XA := XA.below hb
  replace XB := XB.below hb
  replace WW := WW.trans (hb.mono WW.size)
  obtain ⟨D1, d1, rfl, hv'⟩ := hv.open_
  clear hv
  have kXA := XA.cell
  have zXA := XA.lt
  have kXB := XB.cell
  have zXB := XB.lt
  clear hb
  go_wp2_with fail
  obtain ⟨b0, bw⟩ := boxes1 V3 (.slice D1 (nw l1) d1)
  clear kXA zXA kXB zXB
  replace XA := XA.below bw
  replace XB := XB.below bw
  have X1 := Box.mk b0 hv' bw
  replace WW := WW.trans (bw.mono WW.size)
  clear bw b0 hv'
  generalize hV : (V3.alloc (.cells #[.slice D1 (nw l1) d1] 24)) = V4 at XA XB X1 WW ⊢
  clear hV
  have kXA := XA.cell
  have zXA := XA.lt
  have kXB := XB.cell
  have zXB := XB.lt
  have kX1 := X1.cell
  have zX1 := X1.lt
  have hc := div_any A B' _ _ c d a 0 V4 XA.num XB.num hn hm
  rw [bothD_yes H1.out H2.out] at hc
  rw [HD.out] at hc
  refine hc.mono ?_
  clear hc
  rintro e V5 ⟨v, u', rfl, hv, hu, hb⟩
  clear kXA zXA kXB zXB kX1 zX1
  replace XA := XA.below hb
  replace XB := XB.below hb
  replace X1 := X1.below hb
  replace WW := WW.trans (hb.mono WW.size)
  obtain ⟨D2, d2, rfl, hv'⟩ := hv.open_
  clear hv
  obtain ⟨D3, d3, rfl, hu'⟩ := hu.open_
  clear hu
  have kXA := XA.cell
  have zXA := XA.lt
  have kXB := XB.cell
  have zXB := XB.lt
  have kX1 := X1.cell
  have zX1 := X1.lt
  clear hb
  go_wp2_with fail
  obtain ⟨b0, b1, bw⟩ := boxes2 V5 (.slice D2 (nw 0) d2) (.slice D3 (nw 0) d3)
  clear kXA zXA kXB zXB kX1 zX1
  replace XA := XA.below bw
  replace XB := XB.below bw
  replace X1 := X1.below bw
  have X2 := Box.mk b0 hv' bw
  have X3 := Box.mk b1 hu' bw
  replace WW := WW.trans (bw.mono WW.size)
  clear bw b0 b1 hv' hu'
  generalize hV : ((V5.alloc (.cells #[.slice D2 (nw 0) d2] 24)).alloc (.cells #[.slice D3 (nw 0) d3] 24)) = V6 at XA XB X1 X2 X3 WW ⊢
  clear hV
  have kXA := XA.cell
  have zXA := XA.lt
  have kXB := XB.cell
  have zXB := XB.lt
  have kX1 := X1.cell
  have zX1 := X1.lt
  have kX2 := X2.cell
  have zX2 := X2.lt
  have kX3 := X3.cell
  have zX3 := X3.lt
  have hc := shift_any A _ c a x V6 XA.num hn hx0 hx1
  rw [shiftV_yes H1.out] at hc
  rw [HSH.out] at hc
  refine hc.mono ?_
  clear hc
  rintro e V7 ⟨v, rfl, hv, hb⟩
  clear kXA zXA kXB zXB kX1 zX1 kX2 zX2 kX3 zX3
  replace XA := XA.below hb
  replace XB := XB.below hb
  replace X1 := X1.below hb
  replace X2 := X2.below hb
  replace X3 := X3.below hb
  replace WW := WW.trans (hb.mono WW.size)
  obtain ⟨D4, d4, rfl, hv'⟩ := hv.open_
  clear hv
  have kXA := XA.cell
  have zXA := XA.lt
  have kXB := XB.cell
  have zXB := XB.lt
  have kX1 := X1.cell
  have zX1 := X1.lt
  have kX2 := X2.cell
  have zX2 := X2.lt
  have kX3 := X3.cell
  have zX3 := X3.lt
  clear hb
  go_wp2_with fail
  obtain ⟨b0, bw⟩ := boxes1 V7 (.slice D4 (nw 0) d4)
  clear kXA zXA kXB zXB kX1 zX1 kX2 zX2 kX3 zX3
  replace XA := XA.below bw
  replace XB := XB.below bw
  replace X1 := X1.below bw
  replace X2 := X2.below bw
  replace X3 := X3.below bw
  have X4 := Box.mk b0 hv' bw
  replace WW := WW.trans (bw.mono WW.size)
  clear bw b0 hv'
  generalize hV : (V7.alloc (.cells #[.slice D4 (nw 0) d4] 24)) = V8 at XA XB X1 X2 X3 X4 WW ⊢
  clear hV
  have kXA := XA.cell
  have zXA := XA.lt
  have kXB := XB.cell
  have zXB := XB.lt
  have kX1 := X1.cell
  have zX1 := X1.lt
  have kX2 := X2.cell
  have zX2 := X2.lt
  have kX3 := X3.cell
  have zX3 := X3.lt
  have kX4 := X4.cell
  have zX4 := X4.lt
  have hc := rvalid_any A _ c a _ V8 XA.num (Nat.le_refl _) hn
  rw [H1.out] at hc
  refine hc.mono ?_
  clear hc
  rintro e V9 ⟨rfl, hb⟩
  clear kXA zXA kXB zXB kX1 zX1 kX2 zX2 kX3 zX3 kX4 zX4
  replace XA := XA.below hb
  replace XB := XB.below hb
  replace X1 := X1.below hb
  replace X2 := X2.below hb
  replace X3 := X3.below hb
  replace X4 := X4.below hb
  replace WW := WW.trans (hb.mono WW.size)
  have kXA := XA.cell
  have zXA := XA.lt
  have kXB := XB.cell
  have zXB := XB.lt
  have kX1 := X1.cell
  have zX1 := X1.lt
  have kX2 := X2.cell
  have zX2 := X2.lt
  have kX3 := X3.cell
  have zX3 := X3.lt
  have kX4 := X4.cell
  have zX4 := X4.lt
  clear hb
  go_wp2_with fail
  have hc := is_any D4 none _ 0 d4 0 0 0 2 2 V9 X4.num (Num.nil _ _ _) (by omega) (by omega)
  rw [is_zero] at hc
  refine hc.mono ?_
  clear hc
  rintro e V10 ⟨rfl, hb⟩
  clear kXA zXA kXB zXB kX1 zX1 kX2 zX2 kX3 zX3 kX4 zX4
  replace XA := XA.below hb
  replace XB := XB.below hb
  replace X1 := X1.below hb
  replace X2 := X2.below hb
  replace X3 := X3.below hb
  replace X4 := X4.below hb
  replace WW := WW.trans (hb.mono WW.size)
  have kXA := XA.cell
  have zXA := XA.lt
  have kXB := XB.cell
  have zXB := XB.lt
  have kX1 := X1.cell
  have zX1 := X1.lt
  have kX2 := X2.cell
  have zX2 := X2.lt
  have kX3 := X3.cell
  have zX3 := X3.lt
  have kX4 := X4.cell
  have zX4 := X4.lt
  clear hb
  go_wp2_with fail
  have hc := rvalid_any B' _ d 0 _ V10 XB.num (Nat.le_refl _) hm
  rw [H2.out] at hc
  refine hc.mono ?_
  clear hc
  rintro e V11 ⟨rfl, hb⟩
  clear kXA zXA kXB zXB kX1 zX1 kX2 zX2 kX3 zX3 kX4 zX4
  replace XA := XA.below hb
  replace XB := XB.below hb
  replace X1 := X1.below hb
  replace X2 := X2.below hb
  replace X3 := X3.below hb
  replace X4 := X4.below hb
  replace WW := WW.trans (hb.mono WW.size)
  have kXA := XA.cell
  have zXA := XA.lt
  have kXB := XB.cell
  have zXB := XB.lt
  have kX1 := X1.cell
  have zX1 := X1.lt
  have kX2 := X2.cell
  have zX2 := X2.lt
  have kX3 := X3.cell
  have zX3 := X3.lt
  have kX4 := X4.cell
  have zX4 := X4.lt
  clear hb
  go_wp2_with fail
  have hc := rmul_any A B' _ _ c d a 0 V11 XA.num XB.num hn1 hm1
  rw [HL1.out] at hc
  rw [HL2.out] at hc
  refine hc.mono ?_
  clear hc
  rintro e V12 ⟨v, rfl, hv, hb⟩
  clear kXA zXA kXB zXB kX1 zX1 kX2 zX2 kX3 zX3 kX4 zX4
  replace XA := XA.below hb
  replace XB := XB.below hb
  replace X1 := X1.below hb
  replace X2 := X2.below hb
  replace X3 := X3.below hb
  replace X4 := X4.below hb
  replace WW := WW.trans (hb.mono WW.size)
  obtain ⟨D6, d6, rfl, hv'⟩ := hv.open_
  clear hv
  have kXA := XA.cell
  have zXA := XA.lt
  have kXB := XB.cell
  have zXB := XB.lt
  have kX1 := X1.cell
  have zX1 := X1.lt
  have kX2 := X2.cell
  have zX2 := X2.lt
  have kX3 := X3.cell
  have zX3 := X3.lt
  have kX4 := X4.cell
  have zX4 := X4.lt
  clear hb
  go_wp2_with fail
  obtain ⟨b0, bw⟩ := boxes1 V12 (.slice D6 (nw l1) d6)
  clear kXA zXA kXB zXB kX1 zX1 kX2 zX2 kX3 zX3 kX4 zX4
  replace XA := XA.below bw
  replace XB := XB.below bw
  replace X1 := X1.below bw
  replace X2 := X2.below bw
  replace X3 := X3.below bw
  replace X4 := X4.below bw
  have X6 := Box.mk b0 hv' bw
  replace WW := WW.trans (bw.mono WW.size)
  clear bw b0 hv'
  generalize hV : (V12.alloc (.cells #[.slice D6 (nw l1) d6] 24)) = V13 at XA XB X1 X2 X3 X4 X6 WW ⊢
  clear hV
  have kXA := XA.cell
  have zXA := XA.lt
  have kXB := XB.cell
  have zXB := XB.lt
  have kX1 := X1.cell
  have zX1 := X1.lt
  have kX2 := X2.cell
  have zX2 := X2.lt
  have kX3 := X3.cell
  have zX3 := X3.lt
  have kX4 := X4.cell
  have zX4 := X4.lt
  have kX6 := X6.cell
  have zX6 := X6.lt
  have hc := is_any D1 D6 _ _ d1 d6 l1 l1 l2 l2 V13 X1.num X6.num (by omega) (by omega)
  rw [is_self] at hc
  refine hc.mono ?_
  clear hc
  rintro e V14 ⟨rfl, hb⟩
  clear kXA zXA kXB zXB kX1 zX1 kX2 zX2 kX3 zX3 kX4 zX4 kX6 zX6
  replace XA := XA.below hb
  replace XB := XB.below hb
  replace X1 := X1.below hb
  replace X2 := X2.below hb
  replace X3 := X3.below hb
  replace X4 := X4.below hb
  replace X6 := X6.below hb
  replace WW := WW.trans (hb.mono WW.size)
  have kXA := XA.cell
  have zXA := XA.lt
  have kXB := XB.cell
  have zXB := XB.lt
  have kX1 := X1.cell
  have zX1 := X1.lt
  have kX2 := X2.cell
  have zX2 := X2.lt
  have kX3 := X3.cell
  have zX3 := X3.lt
  have kX4 := X4.cell
  have zX4 := X4.lt
  have kX6 := X6.cell
  have zX6 := X6.lt
  clear hb
  go_wp2_with fail
  have hc := is_any D2 none _ 0 d2 0 0 0 10 10 V14 X2.num (Num.nil _ _ _) (by omega) (by omega)
  rw [is_zero] at hc
  refine hc.mono ?_
  clear hc
  rintro e V15 ⟨rfl, hb⟩
  clear kXA zXA kXB zXB kX1 zX1 kX2 zX2 kX3 zX3 kX4 zX4 kX6 zX6
  replace XA := XA.below hb
  replace XB := XB.below hb
  replace X1 := X1.below hb
  replace X2 := X2.below hb
  replace X3 := X3.below hb
  replace X4 := X4.below hb
  replace X6 := X6.below hb
  replace WW := WW.trans (hb.mono WW.size)
  have kXA := XA.cell
  have zXA := XA.lt
  have kXB := XB.cell
  have zXB := XB.lt
  have kX1 := X1.cell
  have zX1 := X1.lt
  have kX2 := X2.cell
  have zX2 := X2.lt
  have kX3 := X3.cell
  have zX3 := X3.lt
  have kX4 := X4.cell
  have zX4 := X4.lt
  have kX6 := X6.cell
  have zX6 := X6.lt
  clear hb
  go_wp2_with fail
  have hc := same_any D3 none _ 0 d3 0 0 0 V15 X3.num (Num.nil _ _ _) (by omega) (by omega)
  rw [same_zero] at hc
  refine hc.mono ?_
  clear hc
  rintro e V16 ⟨rfl, hb⟩
  clear kXA zXA kXB zXB kX1 zX1 kX2 zX2 kX3 zX3 kX4 zX4 kX6 zX6
  replace XA := XA.below hb
  replace XB := XB.below hb
  replace X1 := X1.below hb
  replace X2 := X2.below hb
  replace X3 := X3.below hb
  replace X4 := X4.below hb
  replace X6 := X6.below hb
  replace WW := WW.trans (hb.mono WW.size)
  have kXA := XA.cell
  have zXA := XA.lt
  have kXB := XB.cell
  have zXB := XB.lt
  have kX1 := X1.cell
  have zX1 := X1.lt
  have kX2 := X2.cell
  have zX2 := X2.lt
  have kX3 := X3.cell
  have zX3 := X3.lt
  have kX4 := X4.cell
  have zX4 := X4.lt
  have kX6 := X6.cell
  have zX6 := X6.lt
  clear hb
  go_wp2_with fail
  go_ret
  exact ⟨rfl, WW⟩

set_option maxHeartbeats 8000000 in
set_option maxRecDepth 100000 in
theorem prods_zero_in (A B' : Option Addr) (c d a b : Nat) (x : Int) (w : World) (hA : Num w w.heap.size A (nw a) a) (hB : Num w w.heap.size B' 0 0) (hx : -9223372036854775808 ≤ x ∧ x ≤ 9223372036854775807) (hn1 : nw a ≤ 64)  (hr : ¬ (x < -10000 ∨ 10000 < x)) :
    Calls Try.prog 5 #[.agg #[.slice A (nw a) c], .agg #[.slice B' 0 d], .int .i64 x] w (RetB (.bool true) w) := by
  have hm1 : 0 ≤ 64 := by omega
  have hn : (nw a) ≤ 9223372036854775807 := by omega
  have hm : 0 ≤ 9223372036854775807 := by omega
  have HG : Hid (decide (100 < (nw a) ∨ 100 < 0) = false) := decide_eq_false (by omega)
  have hz0 : nw 0 ≤ 64 := by simp [nw_zero]
  obtain ⟨hx0, hx1⟩ := hx
  have H1 := hid (okB_nw hn1)
  obtain ⟨s1, g1, hs⟩ : ∃ s1 g1, shiftS a x = (s1, g1) := ⟨_, _, rfl⟩
  have hs1 : nw s1 ≤ 64 := by have h5 := shiftS_nw a x; rw [hs] at h5; exact h5
  have HSH := hid hs
  have HR := hid hr
  have HS1 : Hid ((shiftS a x).1 = s1) := by show _ = _; rw [hs]
  have HS2 : Hid ((shiftS a x).2 = g1) := by show _ = _; rw [hs]
  clear hs
  have r1 : decide (x < -10000) = false := by simp; omega
  have r2 : decide (10000 < x) = false := by simp; omega
  clear hr
  have H2 : Hid (okB 0 0 = true) := rfl
  obtain ⟨l1, l2, hl⟩ : ∃ l1 l2, limS (a * 0) = (l1, l2) := ⟨_, _, rfl⟩
  have hl1 : nw l1 ≤ 64 := by have h5 := limS_nw (a * 0); rw [hl] at h5; exact h5
  have HL := hid hl
  have HL1 : Hid ((limS (a * 0)).1 = l1) := by show _ = _; rw [hl]
  have HL2 : Hid ((limS (a * 0)).2 = l2) := by show _ = _; rw [hl]
  clear hl
  have HD := hid (divS_no (a := a) (b := 0) rfl)
  obtain ⟨b0, b1, bw⟩ := boxes2 w (.slice A (nw a) c) (.slice B' 0 d)
  have XA := Box.mk b0 hA bw
  have XB := Box.mk b1 hB bw
  have WW := bw
  clear bw b0 b1
  go_enter Try.func5, Try.ntmps5
  go_wp2_with fail
  generalize hV : ((w.alloc (.cells #[.slice A (nw a) c] 24)).alloc (.cells #[.slice B' 0 d] 24)) = V0 at XA XB WW ⊢
  clear hV
  have hc := awake_any V0
  refine hc.mono ?_
  clear hc
  rintro e V1 ⟨rfl, hb⟩
  replace XA := XA.below hb
  replace XB := XB.below hb
  replace WW := WW.trans (hb.mono WW.size)
  have kXA := XA.cell
  have zXA := XA.lt
  have kXB := XB.cell
  have zXB := XB.lt
  clear hb
  go_wp2_with fail
  have hc := great_2 V1 A B' _ c _ d hn hm
  rw [HG.out] at hc
  refine hc.mono ?_
  clear hc
  rintro e V2 ⟨rfl, hb⟩
  clear kXA zXA kXB zXB
  replace XA := XA.below hb
  replace XB := XB.below hb
  replace WW := WW.trans (hb.mono WW.size)
  have kXA := XA.cell
  have zXA := XA.lt
  have kXB := XB.cell
  have zXB := XB.lt
  clear hb
  go_wp2_with fail
  have hc := mul_any A B' _ _ c d a 0 V2 XA.num XB.num hn hm
  rw [bothS_yes H1.out H2.out] at hc
  rw [HL.out] at hc
  refine hc.mono ?_
  clear hc
  rintro e V3 ⟨v, rfl, hv, hb⟩
  clear kXA zXA kXB zXB
  replace XA := XA.below hb
  replace XB := XB.below hb
  replace WW := WW.trans (hb.mono WW.size)
  obtain ⟨D1, d1, rfl, hv'⟩ := hv.open_
  clear hv
  have kXA := XA.cell
  have zXA := XA.lt
  have kXB := XB.cell
  have zXB := XB.lt
  clear hb
  go_wp2_with fail
  obtain ⟨b0, bw⟩ := boxes1 V3 (.slice D1 (nw l1) d1)
  clear kXA zXA kXB zXB
  replace XA := XA.below bw
  replace XB := XB.below bw
  have X1 := Box.mk b0 hv' bw
  replace WW := WW.trans (bw.mono WW.size)
  clear bw b0 hv'
  generalize hV : (V3.alloc (.cells #[.slice D1 (nw l1) d1] 24)) = V4 at XA XB X1 WW ⊢
  clear hV
  have kXA := XA.cell
  have zXA := XA.lt
  have kXB := XB.cell
  have zXB := XB.lt
  have kX1 := X1.cell
  have zX1 := X1.lt
  have hc := div_any A B' _ _ c d a 0 V4 XA.num XB.num hn hm
  rw [bothD_yes H1.out H2.out] at hc
  rw [HD.out] at hc
  refine hc.mono ?_
  clear hc
  rintro e V5 ⟨v, u', rfl, hv, hu, hb⟩
  clear kXA zXA kXB zXB kX1 zX1
  replace XA := XA.below hb
  replace XB := XB.below hb
  replace X1 := X1.below hb
  replace WW := WW.trans (hb.mono WW.size)
  obtain ⟨D2, d2, rfl, hv'⟩ := hv.open_
  clear hv
  obtain ⟨D3, d3, rfl, hu'⟩ := hu.open_
  clear hu
  have kXA := XA.cell
  have zXA := XA.lt
  have kXB := XB.cell
  have zXB := XB.lt
  have kX1 := X1.cell
  have zX1 := X1.lt
  clear hb
  go_wp2_with fail
  obtain ⟨b0, b1, bw⟩ := boxes2 V5 (.slice D2 (nw 0) d2) (.slice D3 (nw 0) d3)
  clear kXA zXA kXB zXB kX1 zX1
  replace XA := XA.below bw
  replace XB := XB.below bw
  replace X1 := X1.below bw
  have X2 := Box.mk b0 hv' bw
  have X3 := Box.mk b1 hu' bw
  replace WW := WW.trans (bw.mono WW.size)
  clear bw b0 b1 hv' hu'
  generalize hV : ((V5.alloc (.cells #[.slice D2 (nw 0) d2] 24)).alloc (.cells #[.slice D3 (nw 0) d3] 24)) = V6 at XA XB X1 X2 X3 WW ⊢
  clear hV
  have kXA := XA.cell
  have zXA := XA.lt
  have kXB := XB.cell
  have zXB := XB.lt
  have kX1 := X1.cell
  have zX1 := X1.lt
  have kX2 := X2.cell
  have zX2 := X2.lt
  have kX3 := X3.cell
  have zX3 := X3.lt
  have hc := shift_any A _ c a x V6 XA.num hn hx0 hx1
  rw [shiftV_yes H1.out] at hc
  rw [HSH.out] at hc
  refine hc.mono ?_
  clear hc
  rintro e V7 ⟨v, rfl, hv, hb⟩
  clear kXA zXA kXB zXB kX1 zX1 kX2 zX2 kX3 zX3
  replace XA := XA.below hb
  replace XB := XB.below hb
  replace X1 := X1.below hb
  replace X2 := X2.below hb
  replace X3 := X3.below hb
  replace WW := WW.trans (hb.mono WW.size)
  obtain ⟨D4, d4, rfl, hv'⟩ := hv.open_
  clear hv
  have kXA := XA.cell
  have zXA := XA.lt
  have kXB := XB.cell
  have zXB := XB.lt
  have kX1 := X1.cell
  have zX1 := X1.lt
  have kX2 := X2.cell
  have zX2 := X2.lt
  have kX3 := X3.cell
  have zX3 := X3.lt
  clear hb
  go_wp2_with fail
  obtain ⟨b0, bw⟩ := boxes1 V7 (.slice D4 (nw s1) d4)
  clear kXA zXA kXB zXB kX1 zX1 kX2 zX2 kX3 zX3
  replace XA := XA.below bw
  replace XB := XB.below bw
  replace X1 := X1.below bw
  replace X2 := X2.below bw
  replace X3 := X3.below bw
  have X4 := Box.mk b0 hv' bw
  replace WW := WW.trans (bw.mono WW.size)
  clear bw b0 hv'
  generalize hV : (V7.alloc (.cells #[.slice D4 (nw s1) d4] 24)) = V8 at XA XB X1 X2 X3 X4 WW ⊢
  clear hV
  have kXA := XA.cell
  have zXA := XA.lt
  have kXB := XB.cell
  have zXB := XB.lt
  have kX1 := X1.cell
  have zX1 := X1.lt
  have kX2 := X2.cell
  have zX2 := X2.lt
  have kX3 := X3.cell
  have zX3 := X3.lt
  have kX4 := X4.cell
  have zX4 := X4.lt
  have hc := rvalid_any A _ c a _ V8 XA.num (Nat.le_refl _) hn
  rw [H1.out] at hc
  refine hc.mono ?_
  clear hc
  rintro e V9 ⟨rfl, hb⟩
  clear kXA zXA kXB zXB kX1 zX1 kX2 zX2 kX3 zX3 kX4 zX4
  replace XA := XA.below hb
  replace XB := XB.below hb
  replace X1 := X1.below hb
  replace X2 := X2.below hb
  replace X3 := X3.below hb
  replace X4 := X4.below hb
  replace WW := WW.trans (hb.mono WW.size)
  have kXA := XA.cell
  have zXA := XA.lt
  have kXB := XB.cell
  have zXB := XB.lt
  have kX1 := X1.cell
  have zX1 := X1.lt
  have kX2 := X2.cell
  have zX2 := X2.lt
  have kX3 := X3.cell
  have zX3 := X3.lt
  have kX4 := X4.cell
  have zX4 := X4.lt
  clear hb
  go_wp2_with fail
  have hc := rshift_any A c a x V9 XA.num hn1 HR.out
  rw [HS1.out] at hc
  rw [HS2.out] at hc
  refine hc.mono ?_
  clear hc
  rintro e V10 ⟨v, rfl, hv, hb⟩
  clear kXA zXA kXB zXB kX1 zX1 kX2 zX2 kX3 zX3 kX4 zX4
  replace XA := XA.below hb
  replace XB := XB.below hb
  replace X1 := X1.below hb
  replace X2 := X2.below hb
  replace X3 := X3.below hb
  replace X4 := X4.below hb
  replace WW := WW.trans (hb.mono WW.size)
  obtain ⟨D5, d5, rfl, hv'⟩ := hv.open_
  clear hv
  have kXA := XA.cell
  have zXA := XA.lt
  have kXB := XB.cell
  have zXB := XB.lt
  have kX1 := X1.cell
  have zX1 := X1.lt
  have kX2 := X2.cell
  have zX2 := X2.lt
  have kX3 := X3.cell
  have zX3 := X3.lt
  have kX4 := X4.cell
  have zX4 := X4.lt
  clear hb
  go_wp2_with fail
  obtain ⟨b0, bw⟩ := boxes1 V10 (.slice D5 (nw s1) d5)
  clear kXA zXA kXB zXB kX1 zX1 kX2 zX2 kX3 zX3 kX4 zX4
  replace XA := XA.below bw
  replace XB := XB.below bw
  replace X1 := X1.below bw
  replace X2 := X2.below bw
  replace X3 := X3.below bw
  replace X4 := X4.below bw
  have X5 := Box.mk b0 hv' bw
  replace WW := WW.trans (bw.mono WW.size)
  clear bw b0 hv'
  generalize hV : (V10.alloc (.cells #[.slice D5 (nw s1) d5] 24)) = V11 at XA XB X1 X2 X3 X4 X5 WW ⊢
  clear hV
  have kXA := XA.cell
  have zXA := XA.lt
  have kXB := XB.cell
  have zXB := XB.lt
  have kX1 := X1.cell
  have zX1 := X1.lt
  have kX2 := X2.cell
  have zX2 := X2.lt
  have kX3 := X3.cell
  have zX3 := X3.lt
  have kX4 := X4.cell
  have zX4 := X4.lt
  have kX5 := X5.cell
  have zX5 := X5.lt
  have hc := is_any D4 D5 _ _ d4 d5 s1 s1 g1 g1 V11 X4.num X5.num (by omega) (by omega)
  rw [is_self] at hc
  refine hc.mono ?_
  clear hc
  rintro e V12 ⟨rfl, hb⟩
  clear kXA zXA kXB zXB kX1 zX1 kX2 zX2 kX3 zX3 kX4 zX4 kX5 zX5
  replace XA := XA.below hb
  replace XB := XB.below hb
  replace X1 := X1.below hb
  replace X2 := X2.below hb
  replace X3 := X3.below hb
  replace X4 := X4.below hb
  replace X5 := X5.below hb
  replace WW := WW.trans (hb.mono WW.size)
  have kXA := XA.cell
  have zXA := XA.lt
  have kXB := XB.cell
  have zXB := XB.lt
  have kX1 := X1.cell
  have zX1 := X1.lt
  have kX2 := X2.cell
  have zX2 := X2.lt
  have kX3 := X3.cell
  have zX3 := X3.lt
  have kX4 := X4.cell
  have zX4 := X4.lt
  have kX5 := X5.cell
  have zX5 := X5.lt
  clear hb
  go_wp2_with fail
  have hc := rvalid_any B' _ d 0 _ V12 XB.num (Nat.le_refl _) hm
  rw [H2.out] at hc
  refine hc.mono ?_
  clear hc
  rintro e V13 ⟨rfl, hb⟩
  clear kXA zXA kXB zXB kX1 zX1 kX2 zX2 kX3 zX3 kX4 zX4 kX5 zX5
  replace XA := XA.below hb
  replace XB := XB.below hb
  replace X1 := X1.below hb
  replace X2 := X2.below hb
  replace X3 := X3.below hb
  replace X4 := X4.below hb
  replace X5 := X5.below hb
  replace WW := WW.trans (hb.mono WW.size)
  have kXA := XA.cell
  have zXA := XA.lt
  have kXB := XB.cell
  have zXB := XB.lt
  have kX1 := X1.cell
  have zX1 := X1.lt
  have kX2 := X2.cell
  have zX2 := X2.lt
  have kX3 := X3.cell
  have zX3 := X3.lt
  have kX4 := X4.cell
  have zX4 := X4.lt
  have kX5 := X5.cell
  have zX5 := X5.lt
  clear hb
  go_wp2_with fail
  have hc := rmul_any A B' _ _ c d a 0 V13 XA.num XB.num hn1 hm1
  rw [HL1.out] at hc
  rw [HL2.out] at hc
  refine hc.mono ?_
  clear hc
  rintro e V14 ⟨v, rfl, hv, hb⟩
  clear kXA zXA kXB zXB kX1 zX1 kX2 zX2 kX3 zX3 kX4 zX4 kX5 zX5
  replace XA := XA.below hb
  replace XB := XB.below hb
  replace X1 := X1.below hb
  replace X2 := X2.below hb
  replace X3 := X3.below hb
  replace X4 := X4.below hb
  replace X5 := X5.below hb
  replace WW := WW.trans (hb.mono WW.size)
  obtain ⟨D6, d6, rfl, hv'⟩ := hv.open_
  clear hv
  have kXA := XA.cell
  have zXA := XA.lt
  have kXB := XB.cell
  have zXB := XB.lt
  have kX1 := X1.cell
  have zX1 := X1.lt
  have kX2 := X2.cell
  have zX2 := X2.lt
  have kX3 := X3.cell
  have zX3 := X3.lt
  have kX4 := X4.cell
  have zX4 := X4.lt
  have kX5 := X5.cell
  have zX5 := X5.lt
  clear hb
  go_wp2_with fail
  obtain ⟨b0, bw⟩ := boxes1 V14 (.slice D6 (nw l1) d6)
  clear kXA zXA kXB zXB kX1 zX1 kX2 zX2 kX3 zX3 kX4 zX4 kX5 zX5
  replace XA := XA.below bw
  replace XB := XB.below bw
  replace X1 := X1.below bw
  replace X2 := X2.below bw
  replace X3 := X3.below bw
  replace X4 := X4.below bw
  replace X5 := X5.below bw
  have X6 := Box.mk b0 hv' bw
  replace WW := WW.trans (bw.mono WW.size)
  clear bw b0 hv'
  generalize hV : (V14.alloc (.cells #[.slice D6 (nw l1) d6] 24)) = V15 at XA XB X1 X2 X3 X4 X5 X6 WW ⊢
  clear hV
  have kXA := XA.cell
  have zXA := XA.lt
  have kXB := XB.cell
  have zXB := XB.lt
  have kX1 := X1.cell
  have zX1 := X1.lt
  have kX2 := X2.cell
  have zX2 := X2.lt
  have kX3 := X3.cell
  have zX3 := X3.lt
  have kX4 := X4.cell
  have zX4 := X4.lt
  have kX5 := X5.cell
  have zX5 := X5.lt
  have kX6 := X6.cell
  have zX6 := X6.lt
  have hc := is_any D1 D6 _ _ d1 d6 l1 l1 l2 l2 V15 X1.num X6.num (by omega) (by omega)
  rw [is_self] at hc
  refine hc.mono ?_
  clear hc
  rintro e V16 ⟨rfl, hb⟩
  clear kXA zXA kXB zXB kX1 zX1 kX2 zX2 kX3 zX3 kX4 zX4 kX5 zX5 kX6 zX6
  replace XA := XA.below hb
  replace XB := XB.below hb
  replace X1 := X1.below hb
  replace X2 := X2.below hb
  replace X3 := X3.below hb
  replace X4 := X4.below hb
  replace X5 := X5.below hb
  replace X6 := X6.below hb
  replace WW := WW.trans (hb.mono WW.size)
  have kXA := XA.cell
  have zXA := XA.lt
  have kXB := XB.cell
  have zXB := XB.lt
  have kX1 := X1.cell
  have zX1 := X1.lt
  have kX2 := X2.cell
  have zX2 := X2.lt
  have kX3 := X3.cell
  have zX3 := X3.lt
  have kX4 := X4.cell
  have zX4 := X4.lt
  have kX5 := X5.cell
  have zX5 := X5.lt
  have kX6 := X6.cell
  have zX6 := X6.lt
  clear hb
  go_wp2_with fail
  have hc := is_any D2 none _ 0 d2 0 0 0 10 10 V16 X2.num (Num.nil _ _ _) (by omega) (by omega)
  rw [is_zero] at hc
  refine hc.mono ?_
  clear hc
  rintro e V17 ⟨rfl, hb⟩
  clear kXA zXA kXB zXB kX1 zX1 kX2 zX2 kX3 zX3 kX4 zX4 kX5 zX5 kX6 zX6
  replace XA := XA.below hb
  replace XB := XB.below hb
  replace X1 := X1.below hb
  replace X2 := X2.below hb
  replace X3 := X3.below hb
  replace X4 := X4.below hb
  replace X5 := X5.below hb
  replace X6 := X6.below hb
  replace WW := WW.trans (hb.mono WW.size)
  have kXA := XA.cell
  have zXA := XA.lt
  have kXB := XB.cell
  have zXB := XB.lt
  have kX1 := X1.cell
  have zX1 := X1.lt
  have kX2 := X2.cell
  have zX2 := X2.lt
  have kX3 := X3.cell
  have zX3 := X3.lt
  have kX4 := X4.cell
  have zX4 := X4.lt
  have kX5 := X5.cell
  have zX5 := X5.lt
  have kX6 := X6.cell
  have zX6 := X6.lt
  clear hb
  go_wp2_with fail
  have hc := same_any D3 none _ 0 d3 0 0 0 V17 X3.num (Num.nil _ _ _) (by omega) (by omega)
  rw [same_zero] at hc
  refine hc.mono ?_
  clear hc
  rintro e V18 ⟨rfl, hb⟩
  clear kXA zXA kXB zXB kX1 zX1 kX2 zX2 kX3 zX3 kX4 zX4 kX5 zX5 kX6 zX6
  replace XA := XA.below hb
  replace XB := XB.below hb
  replace X1 := X1.below hb
  replace X2 := X2.below hb
  replace X3 := X3.below hb
  replace X4 := X4.below hb
  replace X5 := X5.below hb
  replace X6 := X6.below hb
  replace WW := WW.trans (hb.mono WW.size)
  have kXA := XA.cell
  have zXA := XA.lt
  have kXB := XB.cell
  have zXB := XB.lt
  have kX1 := X1.cell
  have zX1 := X1.lt
  have kX2 := X2.cell
  have zX2 := X2.lt
  have kX3 := X3.cell
  have zX3 := X3.lt
  have kX4 := X4.cell
  have zX4 := X4.lt
  have kX5 := X5.cell
  have zX5 := X5.lt
  have kX6 := X6.cell
  have zX6 := X6.lt
  clear hb
  go_wp2_with fail
  go_ret
  exact ⟨rfl, WW⟩

set_option maxHeartbeats 8000000 in
set_option maxRecDepth 100000 in
theorem prods_nz_lo (A B' : Option Addr) (c d a b : Nat) (x : Int) (w : World) (hA : Num w w.heap.size A (nw a) a) (hB : Num w w.heap.size B' (nw b) b) (hx : -9223372036854775808 ≤ x ∧ x ≤ 9223372036854775807) (hn1 : nw a ≤ 64) (hm1 : nw b ≤ 64) (h0 : ¬ b = 0) (hr : x < -10000) :
    Calls Try.prog 5 #[.agg #[.slice A (nw a) c], .agg #[.slice B' (nw b) d], .int .i64 x] w (RetB (.bool true) w) := by
  have hn : (nw a) ≤ 9223372036854775807 := by omega
  have hm : (nw b) ≤ 9223372036854775807 := by omega
  have HG : Hid (decide (100 < (nw a) ∨ 100 < (nw b)) = false) := decide_eq_false (by omega)
  have hz0 : nw 0 ≤ 64 := by simp [nw_zero]
  obtain ⟨hx0, hx1⟩ := hx
  have H1 := hid (okB_nw hn1)
  obtain ⟨s1, g1, hs⟩ : ∃ s1 g1, shiftS a x = (s1, g1) := ⟨_, _, rfl⟩
  have hs1 : nw s1 ≤ 64 := by have h5 := shiftS_nw a x; rw [hs] at h5; exact h5
  have e5 := shiftS_range (a := a) (x := x) (by omega)
  rw [hs] at e5
  obtain ⟨rfl, rfl⟩ : s1 = 0 ∧ g1 = 2 := by injection e5 with e6 e7; exact ⟨e6, e7⟩
  have HSH := hid hs
  clear e5 hs
  have r1 : decide (x < -10000) = true := by simpa using hr
  clear hr
  have H2 := hid (okB_nw hm1)
  obtain ⟨l1, l2, hl⟩ : ∃ l1 l2, limS (a * b) = (l1, l2) := ⟨_, _, rfl⟩
  have hl1 : nw l1 ≤ 64 := by have h5 := limS_nw (a * b); rw [hl] at h5; exact h5
  have HL := hid hl
  have HL1 : Hid ((limS (a * b)).1 = l1) := by show _ = _; rw [hl]
  have HL2 : Hid ((limS (a * b)).2 = l2) := by show _ = _; rw [hl]
  clear hl
  have hb0 : 0 < b := by omega
  have hz1 : (((nw b : Nat) : Int) == 0) = false := by have := nw_pos h0; simp; omega
  obtain ⟨q, hq⟩ : ∃ q, q = a / b := ⟨_, rfl⟩
  obtain ⟨r, hr'⟩ : ∃ r, r = a % b := ⟨_, rfl⟩
  have HD := hid (divS_yes (a := a) h0)
  rw [← hq, ← hr'] at HD
  have HQ := hid hq
  have HRR := hid hr'
  have hq1 : nw q ≤ 64 := by rw [hq]; exact Nat.le_trans (nw_mono (Nat.div_le_self _ _)) hn1
  have hr1 : nw r ≤ 64 := by rw [hr']; exact Nat.le_trans (nw_mono (Nat.mod_le _ _)) hn1
  clear hq hr' h0
  obtain ⟨b0, b1, bw⟩ := boxes2 w (.slice A (nw a) c) (.slice B' (nw b) d)
  have XA := Box.mk b0 hA bw
  have XB := Box.mk b1 hB bw
  have WW := bw
  clear bw b0 b1
  go_enter Try.func5, Try.ntmps5
  go_wp2_with fail
  generalize hV : ((w.alloc (.cells #[.slice A (nw a) c] 24)).alloc (.cells #[.slice B' (nw b) d] 24)) = V0 at XA XB WW ⊢
  clear hV
  have hc := awake_any V0
  refine hc.mono ?_
  clear hc
  rintro e V1 ⟨rfl, hb⟩
  replace XA := XA.below hb
  replace XB := XB.below hb
  replace WW := WW.trans (hb.mono WW.size)
  have kXA := XA.cell
  have zXA := XA.lt
  have kXB := XB.cell
  have zXB := XB.lt
  clear hb
  go_wp2_with fail
  have hc := great_2 V1 A B' _ c _ d hn hm
  rw [HG.out] at hc
  refine hc.mono ?_
  clear hc
  rintro e V2 ⟨rfl, hb⟩
  clear kXA zXA kXB zXB
  replace XA := XA.below hb
  replace XB := XB.below hb
  replace WW := WW.trans (hb.mono WW.size)
  have kXA := XA.cell
  have zXA := XA.lt
  have kXB := XB.cell
  have zXB := XB.lt
  clear hb
  go_wp2_with fail
  have hc := mul_any A B' _ _ c d a b V2 XA.num XB.num hn hm
  rw [bothS_yes H1.out H2.out] at hc
  rw [HL.out] at hc
  refine hc.mono ?_
  clear hc
  rintro e V3 ⟨v, rfl, hv, hb⟩
  clear kXA zXA kXB zXB
  replace XA := XA.below hb
  replace XB := XB.below hb
  replace WW := WW.trans (hb.mono WW.size)
  obtain ⟨D1, d1, rfl, hv'⟩ := hv.open_
  clear hv
  have kXA := XA.cell
  have zXA := XA.lt
  have kXB := XB.cell
  have zXB := XB.lt
  clear hb
  go_wp2_with fail
  obtain ⟨b0, bw⟩ := boxes1 V3 (.slice D1 (nw l1) d1)
  clear kXA zXA kXB zXB
  replace XA := XA.below bw
  replace XB := XB.below bw
  have X1 := Box.mk b0 hv' bw
  replace WW := WW.trans (bw.mono WW.size)
  clear bw b0 hv'
  generalize hV : (V3.alloc (.cells #[.slice D1 (nw l1) d1] 24)) = V4 at XA XB X1 WW ⊢
  clear hV
  have kXA := XA.cell
  have zXA := XA.lt
  have kXB := XB.cell
  have zXB := XB.lt
  have kX1 := X1.cell
  have zX1 := X1.lt
  have hc := div_any A B' _ _ c d a b V4 XA.num XB.num hn hm
  rw [bothD_yes H1.out H2.out] at hc
  rw [HD.out] at hc
  refine hc.mono ?_
  clear hc
  rintro e V5 ⟨v, u', rfl, hv, hu, hb⟩
  clear kXA zXA kXB zXB kX1 zX1
  replace XA := XA.below hb
  replace XB := XB.below hb
  replace X1 := X1.below hb
  replace WW := WW.trans (hb.mono WW.size)
  obtain ⟨D2, d2, rfl, hv'⟩ := hv.open_
  clear hv
  obtain ⟨D3, d3, rfl, hu'⟩ := hu.open_
  clear hu
  have kXA := XA.cell
  have zXA := XA.lt
  have kXB := XB.cell
  have zXB := XB.lt
  have kX1 := X1.cell
  have zX1 := X1.lt
  clear hb
  go_wp2_with fail
  obtain ⟨b0, b1, bw⟩ := boxes2 V5 (.slice D2 (nw q) d2) (.slice D3 (nw r) d3)
  clear kXA zXA kXB zXB kX1 zX1
  replace XA := XA.below bw
  replace XB := XB.below bw
  replace X1 := X1.below bw
  have X2 := Box.mk b0 hv' bw
  have X3 := Box.mk b1 hu' bw
  replace WW := WW.trans (bw.mono WW.size)
  clear bw b0 b1 hv' hu'
  generalize hV : ((V5.alloc (.cells #[.slice D2 (nw q) d2] 24)).alloc (.cells #[.slice D3 (nw r) d3] 24)) = V6 at XA XB X1 X2 X3 WW ⊢
  clear hV
  have kXA := XA.cell
  have zXA := XA.lt
  have kXB := XB.cell
  have zXB := XB.lt
  have kX1 := X1.cell
  have zX1 := X1.lt
  have kX2 := X2.cell
  have zX2 := X2.lt
  have kX3 := X3.cell
  have zX3 := X3.lt
  have hc := shift_any A _ c a x V6 XA.num hn hx0 hx1
  rw [shiftV_yes H1.out] at hc
  rw [HSH.out] at hc
  refine hc.mono ?_
  clear hc
  rintro e V7 ⟨v, rfl, hv, hb⟩
  clear kXA zXA kXB zXB kX1 zX1 kX2 zX2 kX3 zX3
  replace XA := XA.below hb
  replace XB := XB.below hb
  replace X1 := X1.below hb
  replace X2 := X2.below hb
  replace X3 := X3.below hb
  replace WW := WW.trans (hb.mono WW.size)
  obtain ⟨D4, d4, rfl, hv'⟩ := hv.open_
  clear hv
  have kXA := XA.cell
  have zXA := XA.lt
  have kXB := XB.cell
  have zXB := XB.lt
  have kX1 := X1.cell
  have zX1 := X1.lt
  have kX2 := X2.cell
  have zX2 := X2.lt
  have kX3 := X3.cell
  have zX3 := X3.lt
  clear hb
  go_wp2_with fail
  obtain ⟨b0, bw⟩ := boxes1 V7 (.slice D4 (nw 0) d4)
  clear kXA zXA kXB zXB kX1 zX1 kX2 zX2 kX3 zX3
  replace XA := XA.below bw
  replace XB := XB.below bw
  replace X1 := X1.below bw
  replace X2 := X2.below bw
  replace X3 := X3.below bw
  have X4 := Box.mk b0 hv' bw
  replace WW := WW.trans (bw.mono WW.size)
  clear bw b0 hv'
  generalize hV : (V7.alloc (.cells #[.slice D4 (nw 0) d4] 24)) = V8 at XA XB X1 X2 X3 X4 WW ⊢
  clear hV
  have kXA := XA.cell
  have zXA := XA.lt
  have kXB := XB.cell
  have zXB := XB.lt
  have kX1 := X1.cell
  have zX1 := X1.lt
  have kX2 := X2.cell
  have zX2 := X2.lt
  have kX3 := X3.cell
  have zX3 := X3.lt
  have kX4 := X4.cell
  have zX4 := X4.lt
  have hc := rvalid_any A _ c a _ V8 XA.num (Nat.le_refl _) hn
  rw [H1.out] at hc
  refine hc.mono ?_
  clear hc
  rintro e V9 ⟨rfl, hb⟩
  clear kXA zXA kXB zXB kX1 zX1 kX2 zX2 kX3 zX3 kX4 zX4
  replace XA := XA.below hb
  replace XB := XB.below hb
  replace X1 := X1.below hb
  replace X2 := X2.below hb
  replace X3 := X3.below hb
  replace X4 := X4.below hb
  replace WW := WW.trans (hb.mono WW.size)
  have kXA := XA.cell
  have zXA := XA.lt
  have kXB := XB.cell
  have zXB := XB.lt
  have kX1 := X1.cell
  have zX1 := X1.lt
  have kX2 := X2.cell
  have zX2 := X2.lt
  have kX3 := X3.cell
  have zX3 := X3.lt
  have kX4 := X4.cell
  have zX4 := X4.lt
  clear hb
  go_wp2_with fail
  have hc := is_any D4 none _ 0 d4 0 0 0 2 2 V9 X4.num (Num.nil _ _ _) (by omega) (by omega)
  rw [is_zero] at hc
  refine hc.mono ?_
  clear hc
  rintro e V10 ⟨rfl, hb⟩
  clear kXA zXA kXB zXB kX1 zX1 kX2 zX2 kX3 zX3 kX4 zX4
  replace XA := XA.below hb
  replace XB := XB.below hb
  replace X1 := X1.below hb
  replace X2 := X2.below hb
  replace X3 := X3.below hb
  replace X4 := X4.below hb
  replace WW := WW.trans (hb.mono WW.size)
  have kXA := XA.cell
  have zXA := XA.lt
  have kXB := XB.cell
  have zXB := XB.lt
  have kX1 := X1.cell
  have zX1 := X1.lt
  have kX2 := X2.cell
  have zX2 := X2.lt
  have kX3 := X3.cell
  have zX3 := X3.lt
  have kX4 := X4.cell
  have zX4 := X4.lt
  clear hb
  go_wp2_with fail
  have hc := rvalid_any B' _ d b _ V10 XB.num (Nat.le_refl _) hm
  rw [H2.out] at hc
  refine hc.mono ?_
  clear hc
  rintro e V11 ⟨rfl, hb⟩
  clear kXA zXA kXB zXB kX1 zX1 kX2 zX2 kX3 zX3 kX4 zX4
  replace XA := XA.below hb
  replace XB := XB.below hb
  replace X1 := X1.below hb
  replace X2 := X2.below hb
  replace X3 := X3.below hb
  replace X4 := X4.below hb
  replace WW := WW.trans (hb.mono WW.size)
  have kXA := XA.cell
  have zXA := XA.lt
  have kXB := XB.cell
  have zXB := XB.lt
  have kX1 := X1.cell
  have zX1 := X1.lt
  have kX2 := X2.cell
  have zX2 := X2.lt
  have kX3 := X3.cell
  have zX3 := X3.lt
  have kX4 := X4.cell
  have zX4 := X4.lt
  clear hb
  go_wp2_with fail
  have hc := rmul_any A B' _ _ c d a b V11 XA.num XB.num hn1 hm1
  rw [HL1.out] at hc
  rw [HL2.out] at hc
  refine hc.mono ?_
  clear hc
  rintro e V12 ⟨v, rfl, hv, hb⟩
  clear kXA zXA kXB zXB kX1 zX1 kX2 zX2 kX3 zX3 kX4 zX4
  replace XA := XA.below hb
  replace XB := XB.below hb
  replace X1 := X1.below hb
  replace X2 := X2.below hb
  replace X3 := X3.below hb
  replace X4 := X4.below hb
  replace WW := WW.trans (hb.mono WW.size)
  obtain ⟨D6, d6, rfl, hv'⟩ := hv.open_
  clear hv
  have kXA := XA.cell
  have zXA := XA.lt
  have kXB := XB.cell
  have zXB := XB.lt
  have kX1 := X1.cell
  have zX1 := X1.lt
  have kX2 := X2.cell
  have zX2 := X2.lt
  have kX3 := X3.cell
  have zX3 := X3.lt
  have kX4 := X4.cell
  have zX4 := X4.lt
  clear hb
  go_wp2_with fail
  obtain ⟨b0, bw⟩ := boxes1 V12 (.slice D6 (nw l1) d6)
  clear kXA zXA kXB zXB kX1 zX1 kX2 zX2 kX3 zX3 kX4 zX4
  replace XA := XA.below bw
  replace XB := XB.below bw
  replace X1 := X1.below bw
  replace X2 := X2.below bw
  replace X3 := X3.below bw
  replace X4 := X4.below bw
  have X6 := Box.mk b0 hv' bw
  replace WW := WW.trans (bw.mono WW.size)
  clear bw b0 hv'
  generalize hV : (V12.alloc (.cells #[.slice D6 (nw l1) d6] 24)) = V13 at XA XB X1 X2 X3 X4 X6 WW ⊢
  clear hV
  have kXA := XA.cell
  have zXA := XA.lt
  have kXB := XB.cell
  have zXB := XB.lt
  have kX1 := X1.cell
  have zX1 := X1.lt
  have kX2 := X2.cell
  have zX2 := X2.lt
  have kX3 := X3.cell
  have zX3 := X3.lt
  have kX4 := X4.cell
  have zX4 := X4.lt
  have kX6 := X6.cell
  have zX6 := X6.lt
  have hc := is_any D1 D6 _ _ d1 d6 l1 l1 l2 l2 V13 X1.num X6.num (by omega) (by omega)
  rw [is_self] at hc
  refine hc.mono ?_
  clear hc
  rintro e V14 ⟨rfl, hb⟩
  clear kXA zXA kXB zXB kX1 zX1 kX2 zX2 kX3 zX3 kX4 zX4 kX6 zX6
  replace XA := XA.below hb
  replace XB := XB.below hb
  replace X1 := X1.below hb
  replace X2 := X2.below hb
  replace X3 := X3.below hb
  replace X4 := X4.below hb
  replace X6 := X6.below hb
  replace WW := WW.trans (hb.mono WW.size)
  have kXA := XA.cell
  have zXA := XA.lt
  have kXB := XB.cell
  have zXB := XB.lt
  have kX1 := X1.cell
  have zX1 := X1.lt
  have kX2 := X2.cell
  have zX2 := X2.lt
  have kX3 := X3.cell
  have zX3 := X3.lt
  have kX4 := X4.cell
  have zX4 := X4.lt
  have kX6 := X6.cell
  have zX6 := X6.lt
  clear hb
  go_wp2_with fail
  have hc := rdiv_any A B' c d a b V14 XA.num XB.num hn1 hm1 hb0
  rw [← HQ.out] at hc
  rw [← HRR.out] at hc
  refine hc.mono ?_
  clear hc
  rintro e V15 ⟨v, u', rfl, hv, hu, hb⟩
  clear kXA zXA kXB zXB kX1 zX1 kX2 zX2 kX3 zX3 kX4 zX4 kX6 zX6
  replace XA := XA.below hb
  replace XB := XB.below hb
  replace X1 := X1.below hb
  replace X2 := X2.below hb
  replace X3 := X3.below hb
  replace X4 := X4.below hb
  replace X6 := X6.below hb
  replace WW := WW.trans (hb.mono WW.size)
  obtain ⟨D7, d7, rfl, hv'⟩ := hv.open_
  clear hv
  obtain ⟨D8, d8, rfl, hu'⟩ := hu.open_
  clear hu
  have kXA := XA.cell
  have zXA := XA.lt
  have kXB := XB.cell
  have zXB := XB.lt
  have kX1 := X1.cell
  have zX1 := X1.lt
  have kX2 := X2.cell
  have zX2 := X2.lt
  have kX3 := X3.cell
  have zX3 := X3.lt
  have kX4 := X4.cell
  have zX4 := X4.lt
  have kX6 := X6.cell
  have zX6 := X6.lt
  clear hb
  go_wp2_with fail
  obtain ⟨b0, b1, bw⟩ := boxes2 V15 (.slice D7 (nw q) d7) (.slice D8 (nw r) d8)
  clear kXA zXA kXB zXB kX1 zX1 kX2 zX2 kX3 zX3 kX4 zX4 kX6 zX6
  replace XA := XA.below bw
  replace XB := XB.below bw
  replace X1 := X1.below bw
  replace X2 := X2.below bw
  replace X3 := X3.below bw
  replace X4 := X4.below bw
  replace X6 := X6.below bw
  have X7 := Box.mk b0 hv' bw
  have X8 := Box.mk b1 hu' bw
  replace WW := WW.trans (bw.mono WW.size)
  clear bw b0 b1 hv' hu'
  generalize hV : ((V15.alloc (.cells #[.slice D7 (nw q) d7] 24)).alloc (.cells #[.slice D8 (nw r) d8] 24)) = V16 at XA XB X1 X2 X3 X4 X6 X7 X8 WW ⊢
  clear hV
  have kXA := XA.cell
  have zXA := XA.lt
  have kXB := XB.cell
  have zXB := XB.lt
  have kX1 := X1.cell
  have zX1 := X1.lt
  have kX2 := X2.cell
  have zX2 := X2.lt
  have kX3 := X3.cell
  have zX3 := X3.lt
  have kX4 := X4.cell
  have zX4 := X4.lt
  have kX6 := X6.cell
  have zX6 := X6.lt
  have kX7 := X7.cell
  have zX7 := X7.lt
  have kX8 := X8.cell
  have zX8 := X8.lt
  have hc := is_any D2 D7 _ _ d2 d7 q q 0 0 V16 X2.num X7.num (by omega) (by omega)
  rw [is_self] at hc
  refine hc.mono ?_
  clear hc
  rintro e V17 ⟨rfl, hb⟩
  clear kXA zXA kXB zXB kX1 zX1 kX2 zX2 kX3 zX3 kX4 zX4 kX6 zX6 kX7 zX7 kX8 zX8
  replace XA := XA.below hb
  replace XB := XB.below hb
  replace X1 := X1.below hb
  replace X2 := X2.below hb
  replace X3 := X3.below hb
  replace X4 := X4.below hb
  replace X6 := X6.below hb
  replace X7 := X7.below hb
  replace X8 := X8.below hb
  replace WW := WW.trans (hb.mono WW.size)
  have kXA := XA.cell
  have zXA := XA.lt
  have kXB := XB.cell
  have zXB := XB.lt
  have kX1 := X1.cell
  have zX1 := X1.lt
  have kX2 := X2.cell
  have zX2 := X2.lt
  have kX3 := X3.cell
  have zX3 := X3.lt
  have kX4 := X4.cell
  have zX4 := X4.lt
  have kX6 := X6.cell
  have zX6 := X6.lt
  have kX7 := X7.cell
  have zX7 := X7.lt
  have kX8 := X8.cell
  have zX8 := X8.lt
  clear hb
  go_wp2_with fail
  have hc := same_any D3 D8 _ _ d3 d8 r r V17 X3.num X8.num (by omega) (by omega)
  rw [sameB_yes] at hc
  refine hc.mono ?_
  clear hc
  rintro e V18 ⟨rfl, hb⟩
  clear kXA zXA kXB zXB kX1 zX1 kX2 zX2 kX3 zX3 kX4 zX4 kX6 zX6 kX7 zX7 kX8 zX8
  replace XA := XA.below hb
  replace XB := XB.below hb
  replace X1 := X1.below hb
  replace X2 := X2.below hb
  replace X3 := X3.below hb
  replace X4 := X4.below hb
  replace X6 := X6.below hb
  replace X7 := X7.below hb
  replace X8 := X8.below hb
  replace WW := WW.trans (hb.mono WW.size)
  have kXA := XA.cell
  have zXA := XA.lt
  have kXB := XB.cell
  have zXB := XB.lt
  have kX1 := X1.cell
  have zX1 := X1.lt
  have kX2 := X2.cell
  have zX2 := X2.lt
  have kX3 := X3.cell
  have zX3 := X3.lt
  have kX4 := X4.cell
  have zX4 := X4.lt
  have kX6 := X6.cell
  have zX6 := X6.lt
  have kX7 := X7.cell
  have zX7 := X7.lt
  have kX8 := X8.cell
  have zX8 := X8.lt
  clear hb
  go_wp2_with fail
  go_ret
  exact ⟨rfl, WW⟩

set_option maxHeartbeats 8000000 in
set_option maxRecDepth 100000 in
theorem prods_nz_hi (A B' : Option Addr) (c d a b : Nat) (x : Int) (w : World) (hA : Num w w.heap.size A (nw a) a) (hB : Num w w.heap.size B' (nw b) b) (hx : -9223372036854775808 ≤ x ∧ x ≤ 9223372036854775807) (hn1 : nw a ≤ 64) (hm1 : nw b ≤ 64) (h0 : ¬ b = 0) (hr : 10000 < x) :
    Calls Try.prog 5 #[.agg #[.slice A (nw a) c], .agg #[.slice B' (nw b) d], .int .i64 x] w (RetB (.bool true) w) := by
  have hn : (nw a) ≤ 9223372036854775807 := by omega
  have hm : (nw b) ≤ 9223372036854775807 := by omega
  have HG : Hid (decide (100 < (nw a) ∨ 100 < (nw b)) = false) := decide_eq_false (by omega)
  have hz0 : nw 0 ≤ 64 := by simp [nw_zero]
  obtain ⟨hx0, hx1⟩ := hx
  have H1 := hid (okB_nw hn1)
  obtain ⟨s1, g1, hs⟩ : ∃ s1 g1, shiftS a x = (s1, g1) := ⟨_, _, rfl⟩
  have hs1 : nw s1 ≤ 64 := by have h5 := shiftS_nw a x; rw [hs] at h5; exact h5
  have e5 := shiftS_range (a := a) (x := x) (by omega)
  rw [hs] at e5
  obtain ⟨rfl, rfl⟩ : s1 = 0 ∧ g1 = 2 := by injection e5 with e6 e7; exact ⟨e6, e7⟩
  have HSH := hid hs
  clear e5 hs
  have r1 : decide (x < -10000) = false := by simp; omega
  have r2 : decide (10000 < x) = true := by simpa using hr
  clear hr
  have H2 := hid (okB_nw hm1)
  obtain ⟨l1, l2, hl⟩ : ∃ l1 l2, limS (a * b) = (l1, l2) := ⟨_, _, rfl⟩
  have hl1 : nw l1 ≤ 64 := by have h5 := limS_nw (a * b); rw [hl] at h5; exact h5
  have HL := hid hl
  have HL1 : Hid ((limS (a * b)).1 = l1) := by show _ = _; rw [hl]
  have HL2 : Hid ((limS (a * b)).2 = l2) := by show _ = _; rw [hl]
  clear hl
  have hb0 : 0 < b := by omega
  have hz1 : (((nw b : Nat) : Int) == 0) = false := by have := nw_pos h0; simp; omega
  obtain ⟨q, hq⟩ : ∃ q, q = a / b := ⟨_, rfl⟩
  obtain ⟨r, hr'⟩ : ∃ r, r = a % b := ⟨_, rfl⟩
  have HD := hid (divS_yes (a := a) h0)
  rw [← hq, ← hr'] at HD
  have HQ := hid hq
  have HRR := hid hr'
  have hq1 : nw q ≤ 64 := by rw [hq]; exact Nat.le_trans (nw_mono (Nat.div_le_self _ _)) hn1
  have hr1 : nw r ≤ 64 := by rw [hr']; exact Nat.le_trans (nw_mono (Nat.mod_le _ _)) hn1
  clear hq hr' h0
  obtain ⟨b0, b1, bw⟩ := boxes2 w (.slice A (nw a) c) (.slice B' (nw b) d)
  have XA := Box.mk b0 hA bw
  have XB := Box.mk b1 hB bw
  have WW := bw
  clear bw b0 b1
  go_enter Try.func5, Try.ntmps5
  go_wp2_with fail
  generalize hV : ((w.alloc (.cells #[.slice A (nw a) c] 24)).alloc (.cells #[.slice B' (nw b) d] 24)) = V0 at XA XB WW ⊢
  clear hV
  have hc := awake_any V0
  refine hc.mono ?_
  clear hc
  rintro e V1 ⟨rfl, hb⟩
  replace XA := XA.below hb
  replace XB := XB.below hb
  replace WW := WW.trans (hb.mono WW.size)
  have kXA := XA.cell
  have zXA := XA.lt
  have kXB := XB.cell
  have zXB := XB.lt
  clear hb
  go_wp2_with fail
  have hc := great_2 V1 A B' _ c _ d hn hm
  rw [HG.out] at hc
  refine hc.mono ?_
  clear hc
  rintro e V2 ⟨rfl, hb⟩
  clear kXA zXA kXB zXB
  replace XA := XA.below hb
  replace XB := XB.below hb
  replace WW := WW.trans (hb.mono WW.size)
  have kXA := XA.cell
  have zXA := XA.lt
  have kXB := XB.cell
  have zXB := XB.lt
  clear hb
  go_wp2_with fail
  have hc := mul_any A B' _ _ c d a b V2 XA.num XB.num hn hm
  rw [bothS_yes H1.out H2.out] at hc
  rw [HL.out] at hc
  refine hc.mono ?_
  clear hc
  rintro e V3 ⟨v, rfl, hv, hb⟩
  clear kXA zXA kXB zXB
  replace XA := XA.below hb
  replace XB := XB.below hb
  replace WW := WW.trans (hb.mono WW.size)
  obtain ⟨D1, d1, rfl, hv'⟩ := hv.open_
  clear hv
  have kXA := XA.cell
  have zXA := XA.lt
  have kXB := XB.cell
  have zXB := XB.lt
  clear hb
  go_wp2_with fail
  obtain ⟨b0, bw⟩ := boxes1 V3 (.slice D1 (nw l1) d1)
  clear kXA zXA kXB zXB
  replace XA := XA.below bw
  replace XB := XB.below bw
  have X1 := Box.mk b0 hv' bw
  replace WW := WW.trans (bw.mono WW.size)
  clear bw b0 hv'
  generalize hV : (V3.alloc (.cells #[.slice D1 (nw l1) d1] 24)) = V4 at XA XB X1 WW ⊢
  clear hV
  have kXA := XA.cell
  have zXA := XA.lt
  have kXB := XB.cell
  have zXB := XB.lt
  have kX1 := X1.cell
  have zX1 := X1.lt
  have hc := div_any A B' _ _ c d a b V4 XA.num XB.num hn hm
  rw [bothD_yes H1.out H2.out] at hc
  rw [HD.out] at hc
  refine hc.mono ?_
  clear hc
  rintro e V5 ⟨v, u', rfl, hv, hu, hb⟩
  clear kXA zXA kXB zXB kX1 zX1
  replace XA := XA.below hb
  replace XB := XB.below hb
  replace X1 := X1.below hb
  replace WW := WW.trans (hb.mono WW.size)
  obtain ⟨D2, d2, rfl, hv'⟩ := hv.open_
  clear hv
  obtain ⟨D3, d3, rfl, hu'⟩ := hu.open_
  clear hu
  have kXA := XA.cell
  have zXA := XA.lt
  have kXB := XB.cell
  have zXB := XB.lt
  have kX1 := X1.cell
  have zX1 := X1.lt
  clear hb
  go_wp2_with fail
  obtain ⟨b0, b1, bw⟩ := boxes2 V5 (.slice D2 (nw q) d2) (.slice D3 (nw r) d3)
  clear kXA zXA kXB zXB kX1 zX1
  replace XA := XA.below bw
  replace XB := XB.below bw
  replace X1 := X1.below bw
  have X2 := Box.mk b0 hv' bw
  have X3 := Box.mk b1 hu' bw
  replace WW := WW.trans (bw.mono WW.size)
  clear bw b0 b1 hv' hu'
  generalize hV : ((V5.alloc (.cells #[.slice D2 (nw q) d2] 24)).alloc (.cells #[.slice D3 (nw r) d3] 24)) = V6 at XA XB X1 X2 X3 WW ⊢
  clear hV
  have kXA := XA.cell
  have zXA := XA.lt
  have kXB := XB.cell
  have zXB := XB.lt
  have kX1 := X1.cell
  have zX1 := X1.lt
  have kX2 := X2.cell
  have zX2 := X2.lt
  have kX3 := X3.cell
  have zX3 := X3.lt
  have hc := shift_any A _ c a x V6 XA.num hn hx0 hx1
  rw [shiftV_yes H1.out] at hc
  rw [HSH.out] at hc
  refine hc.mono ?_
  clear hc
  rintro e V7 ⟨v, rfl, hv, hb⟩
  clear kXA zXA kXB zXB kX1 zX1 kX2 zX2 kX3 zX3
  replace XA := XA.below hb
  replace XB := XB.below hb
  replace X1 := X1.below hb
  replace X2 := X2.below hb
  replace X3 := X3.below hb
  replace WW := WW.trans (hb.mono WW.size)
  obtain ⟨D4, d4, rfl, hv'⟩ := hv.open_
  clear hv
  have kXA := XA.cell
  have zXA := XA.lt
  have kXB := XB.cell
  have zXB := XB.lt
  have kX1 := X1.cell
  have zX1 := X1.lt
  have kX2 := X2.cell
  have zX2 := X2.lt
  have kX3 := X3.cell
  have zX3 := X3.lt
  clear hb
  go_wp2_with fail
  obtain ⟨b0, bw⟩ := boxes1 V7 (.slice D4 (nw 0) d4)
  clear kXA zXA kXB zXB kX1 zX1 kX2 zX2 kX3 zX3
  replace XA := XA.below bw
  replace XB := XB.below bw
  replace X1 := X1.below bw
  replace X2 := X2.below bw
  replace X3 := X3.below bw
  have X4 := Box.mk b0 hv' bw
  replace WW := WW.trans (bw.mono WW.size)
  clear bw b0 hv'
  generalize hV : (V7.alloc (.cells #[.slice D4 (nw 0) d4] 24)) = V8 at XA XB X1 X2 X3 X4 WW ⊢
  clear hV
  have kXA := XA.cell
  have zXA := XA.lt
  have kXB := XB.cell
  have zXB := XB.lt
  have kX1 := X1.cell
  have zX1 := X1.lt
  have kX2 := X2.cell
  have zX2 := X2.lt
  have kX3 := X3.cell
  have zX3 := X3.lt
  have kX4 := X4.cell
  have zX4 := X4.lt
  have hc := rvalid_any A _ c a _ V8 XA.num (Nat.le_refl _) hn
  rw [H1.out] at hc
  refine hc.mono ?_
  clear hc
  rintro e V9 ⟨rfl, hb⟩
  clear kXA zXA kXB zXB kX1 zX1 kX2 zX2 kX3 zX3 kX4 zX4
  replace XA := XA.below hb
  replace XB := XB.below hb
  replace X1 := X1.below hb
  replace X2 := X2.below hb
  replace X3 := X3.below hb
  replace X4 := X4.below hb
  replace WW := WW.trans (hb.mono WW.size)
  have kXA := XA.cell
  have zXA := XA.lt
  have kXB := XB.cell
  have zXB := XB.lt
  have kX1 := X1.cell
  have zX1 := X1.lt
  have kX2 := X2.cell
  have zX2 := X2.lt
  have kX3 := X3.cell
  have zX3 := X3.lt
  have kX4 := X4.cell
  have zX4 := X4.lt
  clear hb
  go_wp2_with fail
  have hc := is_any D4 none _ 0 d4 0 0 0 2 2 V9 X4.num (Num.nil _ _ _) (by omega) (by omega)
  rw [is_zero] at hc
  refine hc.mono ?_
  clear hc
  rintro e V10 ⟨rfl, hb⟩
  clear kXA zXA kXB zXB kX1 zX1 kX2 zX2 kX3 zX3 kX4 zX4
  replace XA := XA.below hb
  replace XB := XB.below hb
  replace X1 := X1.below hb
  replace X2 := X2.below hb
  replace X3 := X3.below hb
  replace X4 := X4.below hb
  replace WW := WW.trans (hb.mono WW.size)
  have kXA := XA.cell
  have zXA := XA.lt
  have kXB := XB.cell
  have zXB := XB.lt
  have kX1 := X1.cell
  have zX1 := X1.lt
  have kX2 := X2.cell
  have zX2 := X2.lt
  have kX3 := X3.cell
  have zX3 := X3.lt
  have kX4 := X4.cell
  have zX4 := X4.lt
  clear hb
  go_wp2_with fail
  have hc := rvalid_any B' _ d b _ V10 XB.num (Nat.le_refl _) hm
  rw [H2.out] at hc
  refine hc.mono ?_
  clear hc
  rintro e V11 ⟨rfl, hb⟩
  clear kXA zXA kXB zXB kX1 zX1 kX2 zX2 kX3 zX3 kX4 zX4
  replace XA := XA.below hb
  replace XB := XB.below hb
  replace X1 := X1.below hb
  replace X2 := X2.below hb
  replace X3 := X3.below hb
  replace X4 := X4.below hb
  replace WW := WW.trans (hb.mono WW.size)
  have kXA := XA.cell
  have zXA := XA.lt
  have kXB := XB.cell
  have zXB := XB.lt
  have kX1 := X1.cell
  have zX1 := X1.lt
  have kX2 := X2.cell
  have zX2 := X2.lt
  have kX3 := X3.cell
  have zX3 := X3.lt
  have kX4 := X4.cell
  have zX4 := X4.lt
  clear hb
  go_wp2_with fail
  have hc := rmul_any A B' _ _ c d a b V11 XA.num XB.num hn1 hm1
  rw [HL1.out] at hc
  rw [HL2.out] at hc
  refine hc.mono ?_
  clear hc
  rintro e V12 ⟨v, rfl, hv, hb⟩
  clear kXA zXA kXB zXB kX1 zX1 kX2 zX2 kX3 zX3 kX4 zX4
  replace XA := XA.below hb
  replace XB := XB.below hb
  replace X1 := X1.below hb
  replace X2 := X2.below hb
  replace X3 := X3.below hb
  replace X4 := X4.below hb
  replace WW := WW.trans (hb.mono WW.size)
  obtain ⟨D6, d6, rfl, hv'⟩ := hv.open_
  clear hv
  have kXA := XA.cell
  have zXA := XA.lt
  have kXB := XB.cell
  have zXB := XB.lt
  have kX1 := X1.cell
  have zX1 := X1.lt
  have kX2 := X2.cell
  have zX2 := X2.lt
  have kX3 := X3.cell
  have zX3 := X3.lt
  have kX4 := X4.cell
  have zX4 := X4.lt
  clear hb
  go_wp2_with fail
  obtain ⟨b0, bw⟩ := boxes1 V12 (.slice D6 (nw l1) d6)
  clear kXA zXA kXB zXB kX1 zX1 kX2 zX2 kX3 zX3 kX4 zX4
  replace XA := XA.below bw
  replace XB := XB.below bw
  replace X1 := X1.below bw
  replace X2 := X2.below bw
  replace X3 := X3.below bw
  replace X4 := X4.below bw
  have X6 := Box.mk b0 hv' bw
  replace WW := WW.trans (bw.mono WW.size)
  clear bw b0 hv'
  generalize hV : (V12.alloc (.cells #[.slice D6 (nw l1) d6] 24)) = V13 at XA XB X1 X2 X3 X4 X6 WW ⊢
  clear hV
  have kXA := XA.cell
  have zXA := XA.lt
  have kXB := XB.cell
  have zXB := XB.lt
  have kX1 := X1.cell
  have zX1 := X1.lt
  have kX2 := X2.cell
  have zX2 := X2.lt
  have kX3 := X3.cell
  have zX3 := X3.lt
  have kX4 := X4.cell
  have zX4 := X4.lt
  have kX6 := X6.cell
  have zX6 := X6.lt
  have hc := is_any D1 D6 _ _ d1 d6 l1 l1 l2 l2 V13 X1.num X6.num (by omega) (by omega)
  rw [is_self] at hc
  refine hc.mono ?_
  clear hc
  rintro e V14 ⟨rfl, hb⟩
  clear kXA zXA kXB zXB kX1 zX1 kX2 zX2 kX3 zX3 kX4 zX4 kX6 zX6
  replace XA := XA.below hb
  replace XB := XB.below hb
  replace X1 := X1.below hb
  replace X2 := X2.below hb
  replace X3 := X3.below hb
  replace X4 := X4.below hb
  replace X6 := X6.below hb
  replace WW := WW.trans (hb.mono WW.size)
  have kXA := XA.cell
  have zXA := XA.lt
  have kXB := XB.cell
  have zXB := XB.lt
  have kX1 := X1.cell
  have zX1 := X1.lt
  have kX2 := X2.cell
  have zX2 := X2.lt
  have kX3 := X3.cell
  have zX3 := X3.lt
  have kX4 := X4.cell
  have zX4 := X4.lt
  have kX6 := X6.cell
  have zX6 := X6.lt
  clear hb
  go_wp2_with fail
  have hc := rdiv_any A B' c d a b V14 XA.num XB.num hn1 hm1 hb0
  rw [← HQ.out] at hc
  rw [← HRR.out] at hc
  refine hc.mono ?_
  clear hc
  rintro e V15 ⟨v, u', rfl, hv, hu, hb⟩
  clear kXA zXA kXB zXB kX1 zX1 kX2 zX2 kX3 zX3 kX4 zX4 kX6 zX6
  replace XA := XA.below hb
  replace XB := XB.below hb
  replace X1 := X1.below hb
  replace X2 := X2.below hb
  replace X3 := X3.below hb
  replace X4 := X4.below hb
  replace X6 := X6.below hb
  replace WW := WW.trans (hb.mono WW.size)
  obtain ⟨D7, d7, rfl, hv'⟩ := hv.open_
  clear hv
  obtain ⟨D8, d8, rfl, hu'⟩ := hu.open_
  clear hu
  have kXA := XA.cell
  have zXA := XA.lt
  have kXB := XB.cell
  have zXB := XB.lt
  have kX1 := X1.cell
  have zX1 := X1.lt
  have kX2 := X2.cell
  have zX2 := X2.lt
  have kX3 := X3.cell
  have zX3 := X3.lt
  have kX4 := X4.cell
  have zX4 := X4.lt
  have kX6 := X6.cell
  have zX6 := X6.lt
  clear hb
  go_wp2_with fail
  obtain ⟨b0, b1, bw⟩ := boxes2 V15 (.slice D7 (nw q) d7) (.slice D8 (nw r) d8)
  clear kXA zXA kXB zXB kX1 zX1 kX2 zX2 kX3 zX3 kX4 zX4 kX6 zX6
  replace XA := XA.below bw
  replace XB := XB.below bw
  replace X1 := X1.below bw
  replace X2 := X2.below bw
  replace X3 := X3.below bw
  replace X4 := X4.below bw
  replace X6 := X6.below bw
  have X7 := Box.mk b0 hv' bw
  have X8 := Box.mk b1 hu' bw
  replace WW := WW.trans (bw.mono WW.size)
  clear bw b0 b1 hv' hu'
  generalize hV : ((V15.alloc (.cells #[.slice D7 (nw q) d7] 24)).alloc (.cells #[.slice D8 (nw r) d8] 24)) = V16 at XA XB X1 X2 X3 X4 X6 X7 X8 WW ⊢
  clear hV
  have kXA := XA.cell
  have zXA := XA.lt
  have kXB := XB.cell
  have zXB := XB.lt
  have kX1 := X1.cell
  have zX1 := X1.lt
  have kX2 := X2.cell
  have zX2 := X2.lt
  have kX3 := X3.cell
  have zX3 := X3.lt
  have kX4 := X4.cell
  have zX4 := X4.lt
  have kX6 := X6.cell
  have zX6 := X6.lt
  have kX7 := X7.cell
  have zX7 := X7.lt
  have kX8 := X8.cell
  have zX8 := X8.lt
  have hc := is_any D2 D7 _ _ d2 d7 q q 0 0 V16 X2.num X7.num (by omega) (by omega)
  rw [is_self] at hc
  refine hc.mono ?_
  clear hc
  rintro e V17 ⟨rfl, hb⟩
  clear kXA zXA kXB zXB kX1 zX1 kX2 zX2 kX3 zX3 kX4 zX4 kX6 zX6 kX7 zX7 kX8 zX8
  replace XA := XA.below hb
  replace XB := XB.below hb
  replace X1 := X1.below hb
  replace X2 := X2.below hb
  replace X3 := X3.below hb
  replace X4 := X4.below hb
  replace X6 := X6.below hb
  replace X7 := X7.below hb
  replace X8 := X8.below hb
  replace WW := WW.trans (hb.mono WW.size)
  have kXA := XA.cell
  have zXA := XA.lt
  have kXB := XB.cell
  have zXB := XB.lt
  have kX1 := X1.cell
  have zX1 := X1.lt
  have kX2 := X2.cell
  have zX2 := X2.lt
  have kX3 := X3.cell
  have zX3 := X3.lt
  have kX4 := X4.cell
  have zX4 := X4.lt
  have kX6 := X6.cell
  have zX6 := X6.lt
  have kX7 := X7.cell
  have zX7 := X7.lt
  have kX8 := X8.cell
  have zX8 := X8.lt
  clear hb
  go_wp2_with fail
  have hc := same_any D3 D8 _ _ d3 d8 r r V17 X3.num X8.num (by omega) (by omega)
  rw [sameB_yes] at hc
  refine hc.mono ?_
  clear hc
  rintro e V18 ⟨rfl, hb⟩
  clear kXA zXA kXB zXB kX1 zX1 kX2 zX2 kX3 zX3 kX4 zX4 kX6 zX6 kX7 zX7 kX8 zX8
  replace XA := XA.below hb
  replace XB := XB.below hb
  replace X1 := X1.below hb
  replace X2 := X2.below hb
  replace X3 := X3.below hb
  replace X4 := X4.below hb
  replace X6 := X6.below hb
  replace X7 := X7.below hb
  replace X8 := X8.below hb
  replace WW := WW.trans (hb.mono WW.size)
  have kXA := XA.cell
  have zXA := XA.lt
  have kXB := XB.cell
  have zXB := XB.lt
  have kX1 := X1.cell
  have zX1 := X1.lt
  have kX2 := X2.cell
  have zX2 := X2.lt
  have kX3 := X3.cell
  have zX3 := X3.lt
  have kX4 := X4.cell
  have zX4 := X4.lt
  have kX6 := X6.cell
  have zX6 := X6.lt
  have kX7 := X7.cell
  have zX7 := X7.lt
  have kX8 := X8.cell
  have zX8 := X8.lt
  clear hb
  go_wp2_with fail
  go_ret
  exact ⟨rfl, WW⟩

set_option maxHeartbeats 8000000 in
set_option maxRecDepth 100000 in
theorem prods_nz_in (A B' : Option Addr) (c d a b : Nat) (x : Int) (w : World) (hA : Num w w.heap.size A (nw a) a) (hB : Num w w.heap.size B' (nw b) b) (hx : -9223372036854775808 ≤ x ∧ x ≤ 9223372036854775807) (hn1 : nw a ≤ 64) (hm1 : nw b ≤ 64) (h0 : ¬ b = 0) (hr : ¬ (x < -10000 ∨ 10000 < x)) :
    Calls Try.prog 5 #[.agg #[.slice A (nw a) c], .agg #[.slice B' (nw b) d], .int .i64 x] w (RetB (.bool true) w) := by
  have hn : (nw a) ≤ 9223372036854775807 := by omega
  have hm : (nw b) ≤ 9223372036854775807 := by omega
  have HG : Hid (decide (100 < (nw a) ∨ 100 < (nw b)) = false) := decide_eq_false (by omega)
  have hz0 : nw 0 ≤ 64 := by simp [nw_zero]
  obtain ⟨hx0, hx1⟩ := hx
  have H1 := hid (okB_nw hn1)
  obtain ⟨s1, g1, hs⟩ : ∃ s1 g1, shiftS a x = (s1, g1) := ⟨_, _, rfl⟩
  have hs1 : nw s1 ≤ 64 := by have h5 := shiftS_nw a x; rw [hs] at h5; exact h5
  have HSH := hid hs
  have HR := hid hr
  have HS1 : Hid ((shiftS a x).1 = s1) := by show _ = _; rw [hs]
  have HS2 : Hid ((shiftS a x).2 = g1) := by show _ = _; rw [hs]
  clear hs
  have r1 : decide (x < -10000) = false := by simp; omega
  have r2 : decide (10000 < x) = false := by simp; omega
  clear hr
  have H2 := hid (okB_nw hm1)
  obtain ⟨l1, l2, hl⟩ : ∃ l1 l2, limS (a * b) = (l1, l2) := ⟨_, _, rfl⟩
  have hl1 : nw l1 ≤ 64 := by have h5 := limS_nw (a * b); rw [hl] at h5; exact h5
  have HL := hid hl
  have HL1 : Hid ((limS (a * b)).1 = l1) := by show _ = _; rw [hl]
  have HL2 : Hid ((limS (a * b)).2 = l2) := by show _ = _; rw [hl]
  clear hl
  have hb0 : 0 < b := by omega
  have hz1 : (((nw b : Nat) : Int) == 0) = false := by have := nw_pos h0; simp; omega
  obtain ⟨q, hq⟩ : ∃ q, q = a / b := ⟨_, rfl⟩
  obtain ⟨r, hr'⟩ : ∃ r, r = a % b := ⟨_, rfl⟩
  have HD := hid (divS_yes (a := a) h0)
  rw [← hq, ← hr'] at HD
  have HQ := hid hq
  have HRR := hid hr'
  have hq1 : nw q ≤ 64 := by rw [hq]; exact Nat.le_trans (nw_mono (Nat.div_le_self _ _)) hn1
  have hr1 : nw r ≤ 64 := by rw [hr']; exact Nat.le_trans (nw_mono (Nat.mod_le _ _)) hn1
  clear hq hr' h0
  obtain ⟨b0, b1, bw⟩ := boxes2 w (.slice A (nw a) c) (.slice B' (nw b) d)
  have XA := Box.mk b0 hA bw
  have XB := Box.mk b1 hB bw
  have WW := bw
  clear bw b0 b1
  go_enter Try.func5, Try.ntmps5
  go_wp2_with fail
  generalize hV : ((w.alloc (.cells #[.slice A (nw a) c] 24)).alloc (.cells #[.slice B' (nw b) d] 24)) = V0 at XA XB WW ⊢
  clear hV
  have hc := awake_any V0
  refine hc.mono ?_
  clear hc
  rintro e V1 ⟨rfl, hb⟩
  replace XA := XA.below hb
  replace XB := XB.below hb
  replace WW := WW.trans (hb.mono WW.size)
  have kXA := XA.cell
  have zXA := XA.lt
  have kXB := XB.cell
  have zXB := XB.lt
  clear hb
  go_wp2_with fail
  have hc := great_2 V1 A B' _ c _ d hn hm
  rw [HG.out] at hc
  refine hc.mono ?_
  clear hc
  rintro e V2 ⟨rfl, hb⟩
  clear kXA zXA kXB zXB
  replace XA := XA.below hb
  replace XB := XB.below hb
  replace WW := WW.trans (hb.mono WW.size)
  have kXA := XA.cell
  have zXA := XA.lt
  have kXB := XB.cell
  have zXB := XB.lt
  clear hb
  go_wp2_with fail
  have hc := mul_any A B' _ _ c d a b V2 XA.num XB.num hn hm
  rw [bothS_yes H1.out H2.out] at hc
  rw [HL.out] at hc
  refine hc.mono ?_
  clear hc
  rintro e V3 ⟨v, rfl, hv, hb⟩
  clear kXA zXA kXB zXB
  replace XA := XA.below hb
  replace XB := XB.below hb
  replace WW := WW.trans (hb.mono WW.size)
  obtain ⟨D1, d1, rfl, hv'⟩ := hv.open_
  clear hv
  have kXA := XA.cell
  have zXA := XA.lt
  have kXB := XB.cell
  have zXB := XB.lt
  clear hb
  go_wp2_with fail
  obtain ⟨b0, bw⟩ := boxes1 V3 (.slice D1 (nw l1) d1)
  clear kXA zXA kXB zXB
  replace XA := XA.below bw
  replace XB := XB.below bw
  have X1 := Box.mk b0 hv' bw
  replace WW := WW.trans (bw.mono WW.size)
  clear bw b0 hv'
  generalize hV : (V3.alloc (.cells #[.slice D1 (nw l1) d1] 24)) = V4 at XA XB X1 WW ⊢
  clear hV
  have kXA := XA.cell
  have zXA := XA.lt
  have kXB := XB.cell
  have zXB := XB.lt
  have kX1 := X1.cell
  have zX1 := X1.lt
  have hc := div_any A B' _ _ c d a b V4 XA.num XB.num hn hm
  rw [bothD_yes H1.out H2.out] at hc
  rw [HD.out] at hc
  refine hc.mono ?_
  clear hc
  rintro e V5 ⟨v, u', rfl, hv, hu, hb⟩
  clear kXA zXA kXB zXB kX1 zX1
  replace XA := XA.below hb
  replace XB := XB.below hb
  replace X1 := X1.below hb
  replace WW := WW.trans (hb.mono WW.size)
  obtain ⟨D2, d2, rfl, hv'⟩ := hv.open_
  clear hv
  obtain ⟨D3, d3, rfl, hu'⟩ := hu.open_
  clear hu
  have kXA := XA.cell
  have zXA := XA.lt
  have kXB := XB.cell
  have zXB := XB.lt
  have kX1 := X1.cell
  have zX1 := X1.lt
  clear hb
  go_wp2_with fail
  obtain ⟨b0, b1, bw⟩ := boxes2 V5 (.slice D2 (nw q) d2) (.slice D3 (nw r) d3)
  clear kXA zXA kXB zXB kX1 zX1
  replace XA := XA.below bw
  replace XB := XB.below bw
  replace X1 := X1.below bw
  have X2 := Box.mk b0 hv' bw
  have X3 := Box.mk b1 hu' bw
  replace WW := WW.trans (bw.mono WW.size)
  clear bw b0 b1 hv' hu'
  generalize hV : ((V5.alloc (.cells #[.slice D2 (nw q) d2] 24)).alloc (.cells #[.slice D3 (nw r) d3] 24)) = V6 at XA XB X1 X2 X3 WW ⊢
  clear hV
  have kXA := XA.cell
  have zXA := XA.lt
  have kXB := XB.cell
  have zXB := XB.lt
  have kX1 := X1.cell
  have zX1 := X1.lt
  have kX2 := X2.cell
  have zX2 := X2.lt
  have kX3 := X3.cell
  have zX3 := X3.lt
  have hc := shift_any A _ c a x V6 XA.num hn hx0 hx1
  rw [shiftV_yes H1.out] at hc
  rw [HSH.out] at hc
  refine hc.mono ?_
  clear hc
  rintro e V7 ⟨v, rfl, hv, hb⟩
  clear kXA zXA kXB zXB kX1 zX1 kX2 zX2 kX3 zX3
  replace XA := XA.below hb
  replace XB := XB.below hb
  replace X1 := X1.below hb
  replace X2 := X2.below hb
  replace X3 := X3.below hb
  replace WW := WW.trans (hb.mono WW.size)
  obtain ⟨D4, d4, rfl, hv'⟩ := hv.open_
  clear hv
  have kXA := XA.cell
  have zXA := XA.lt
  have kXB := XB.cell
  have zXB := XB.lt
  have kX1 := X1.cell
  have zX1 := X1.lt
  have kX2 := X2.cell
  have zX2 := X2.lt
  have kX3 := X3.cell
  have zX3 := X3.lt
  clear hb
  go_wp2_with fail
  obtain ⟨b0, bw⟩ := boxes1 V7 (.slice D4 (nw s1) d4)
  clear kXA zXA kXB zXB kX1 zX1 kX2 zX2 kX3 zX3
  replace XA := XA.below bw
  replace XB := XB.below bw
  replace X1 := X1.below bw
  replace X2 := X2.below bw
  replace X3 := X3.below bw
  have X4 := Box.mk b0 hv' bw
  replace WW := WW.trans (bw.mono WW.size)
  clear bw b0 hv'
  generalize hV : (V7.alloc (.cells #[.slice D4 (nw s1) d4] 24)) = V8 at XA XB X1 X2 X3 X4 WW ⊢
  clear hV
  have kXA := XA.cell
  have zXA := XA.lt
  have kXB := XB.cell
  have zXB := XB.lt
  have kX1 := X1.cell
  have zX1 := X1.lt
  have kX2 := X2.cell
  have zX2 := X2.lt
  have kX3 := X3.cell
  have zX3 := X3.lt
  have kX4 := X4.cell
  have zX4 := X4.lt
  have hc := rvalid_any A _ c a _ V8 XA.num (Nat.le_refl _) hn
  rw [H1.out] at hc
  refine hc.mono ?_
  clear hc
  rintro e V9 ⟨rfl, hb⟩
  clear kXA zXA kXB zXB kX1 zX1 kX2 zX2 kX3 zX3 kX4 zX4
  replace XA := XA.below hb
  replace XB := XB.below hb
  replace X1 := X1.below hb
  replace X2 := X2.below hb
  replace X3 := X3.below hb
  replace X4 := X4.below hb
  replace WW := WW.trans (hb.mono WW.size)
  have kXA := XA.cell
  have zXA := XA.lt
  have kXB := XB.cell
  have zXB := XB.lt
  have kX1 := X1.cell
  have zX1 := X1.lt
  have kX2 := X2.cell
  have zX2 := X2.lt
  have kX3 := X3.cell
  have zX3 := X3.lt
  have kX4 := X4.cell
  have zX4 := X4.lt
  clear hb
  go_wp2_with fail
  have hc := rshift_any A c a x V9 XA.num hn1 HR.out
  rw [HS1.out] at hc
  rw [HS2.out] at hc
  refine hc.mono ?_
  clear hc
  rintro e V10 ⟨v, rfl, hv, hb⟩
  clear kXA zXA kXB zXB kX1 zX1 kX2 zX2 kX3 zX3 kX4 zX4
  replace XA := XA.below hb
  replace XB := XB.below hb
  replace X1 := X1.below hb
  replace X2 := X2.below hb
  replace X3 := X3.below hb
  replace X4 := X4.below hb
  replace WW := WW.trans (hb.mono WW.size)
  obtain ⟨D5, d5, rfl, hv'⟩ := hv.open_
  clear hv
  have kXA := XA.cell
  have zXA := XA.lt
  have kXB := XB.cell
  have zXB := XB.lt
  have kX1 := X1.cell
  have zX1 := X1.lt
  have kX2 := X2.cell
  have zX2 := X2.lt
  have kX3 := X3.cell
  have zX3 := X3.lt
  have kX4 := X4.cell
  have zX4 := X4.lt
  clear hb
  go_wp2_with fail
  obtain ⟨b0, bw⟩ := boxes1 V10 (.slice D5 (nw s1) d5)
  clear kXA zXA kXB zXB kX1 zX1 kX2 zX2 kX3 zX3 kX4 zX4
  replace XA := XA.below bw
  replace XB := XB.below bw
  replace X1 := X1.below bw
  replace X2 := X2.below bw
  replace X3 := X3.below bw
  replace X4 := X4.below bw
  have X5 := Box.mk b0 hv' bw
  replace WW := WW.trans (bw.mono WW.size)
  clear bw b0 hv'
  generalize hV : (V10.alloc (.cells #[.slice D5 (nw s1) d5] 24)) = V11 at XA XB X1 X2 X3 X4 X5 WW ⊢
  clear hV
  have kXA := XA.cell
  have zXA := XA.lt
  have kXB := XB.cell
  have zXB := XB.lt
  have kX1 := X1.cell
  have zX1 := X1.lt
  have kX2 := X2.cell
  have zX2 := X2.lt
  have kX3 := X3.cell
  have zX3 := X3.lt
  have kX4 := X4.cell
  have zX4 := X4.lt
  have kX5 := X5.cell
  have zX5 := X5.lt
  have hc := is_any D4 D5 _ _ d4 d5 s1 s1 g1 g1 V11 X4.num X5.num (by omega) (by omega)
  rw [is_self] at hc
  refine hc.mono ?_
  clear hc
  rintro e V12 ⟨rfl, hb⟩
  clear kXA zXA kXB zXB kX1 zX1 kX2 zX2 kX3 zX3 kX4 zX4 kX5 zX5
  replace XA := XA.below hb
  replace XB := XB.below hb
  replace X1 := X1.below hb
  replace X2 := X2.below hb
  replace X3 := X3.below hb
  replace X4 := X4.below hb
  replace X5 := X5.below hb
  replace WW := WW.trans (hb.mono WW.size)
  have kXA := XA.cell
  have zXA := XA.lt
  have kXB := XB.cell
  have zXB := XB.lt
  have kX1 := X1.cell
  have zX1 := X1.lt
  have kX2 := X2.cell
  have zX2 := X2.lt
  have kX3 := X3.cell
  have zX3 := X3.lt
  have kX4 := X4.cell
  have zX4 := X4.lt
  have kX5 := X5.cell
  have zX5 := X5.lt
  clear hb
  go_wp2_with fail
  have hc := rvalid_any B' _ d b _ V12 XB.num (Nat.le_refl _) hm
  rw [H2.out] at hc
  refine hc.mono ?_
  clear hc
  rintro e V13 ⟨rfl, hb⟩
  clear kXA zXA kXB zXB kX1 zX1 kX2 zX2 kX3 zX3 kX4 zX4 kX5 zX5
  replace XA := XA.below hb
  replace XB := XB.below hb
  replace X1 := X1.below hb
  replace X2 := X2.below hb
  replace X3 := X3.below hb
  replace X4 := X4.below hb
  replace X5 := X5.below hb
  replace WW := WW.trans (hb.mono WW.size)
  have kXA := XA.cell
  have zXA := XA.lt
  have kXB := XB.cell
  have zXB := XB.lt
  have kX1 := X1.cell
  have zX1 := X1.lt
  have kX2 := X2.cell
  have zX2 := X2.lt
  have kX3 := X3.cell
  have zX3 := X3.lt
  have kX4 := X4.cell
  have zX4 := X4.lt
  have kX5 := X5.cell
  have zX5 := X5.lt
  clear hb
  go_wp2_with fail
  have hc := rmul_any A B' _ _ c d a b V13 XA.num XB.num hn1 hm1
  rw [HL1.out] at hc
  rw [HL2.out] at hc
  refine hc.mono ?_
  clear hc
  rintro e V14 ⟨v, rfl, hv, hb⟩
  clear kXA zXA kXB zXB kX1 zX1 kX2 zX2 kX3 zX3 kX4 zX4 kX5 zX5
  replace XA := XA.below hb
  replace XB := XB.below hb
  replace X1 := X1.below hb
  replace X2 := X2.below hb
  replace X3 := X3.below hb
  replace X4 := X4.below hb
  replace X5 := X5.below hb
  replace WW := WW.trans (hb.mono WW.size)
  obtain ⟨D6, d6, rfl, hv'⟩ := hv.open_
  clear hv
  have kXA := XA.cell
  have zXA := XA.lt
  have kXB := XB.cell
  have zXB := XB.lt
  have kX1 := X1.cell
  have zX1 := X1.lt
  have kX2 := X2.cell
  have zX2 := X2.lt
  have kX3 := X3.cell
  have zX3 := X3.lt
  have kX4 := X4.cell
  have zX4 := X4.lt
  have kX5 := X5.cell
  have zX5 := X5.lt
  clear hb
  go_wp2_with fail
  obtain ⟨b0, bw⟩ := boxes1 V14 (.slice D6 (nw l1) d6)
  clear kXA zXA kXB zXB kX1 zX1 kX2 zX2 kX3 zX3 kX4 zX4 kX5 zX5
  replace XA := XA.below bw
  replace XB := XB.below bw
  replace X1 := X1.below bw
  replace X2 := X2.below bw
  replace X3 := X3.below bw
  replace X4 := X4.below bw
  replace X5 := X5.below bw
  have X6 := Box.mk b0 hv' bw
  replace WW := WW.trans (bw.mono WW.size)
  clear bw b0 hv'
  generalize hV : (V14.alloc (.cells #[.slice D6 (nw l1) d6] 24)) = V15 at XA XB X1 X2 X3 X4 X5 X6 WW ⊢
  clear hV
  have kXA := XA.cell
  have zXA := XA.lt
  have kXB := XB.cell
  have zXB := XB.lt
  have kX1 := X1.cell
  have zX1 := X1.lt
  have kX2 := X2.cell
  have zX2 := X2.lt
  have kX3 := X3.cell
  have zX3 := X3.lt
  have kX4 := X4.cell
  have zX4 := X4.lt
  have kX5 := X5.cell
  have zX5 := X5.lt
  have kX6 := X6.cell
  have zX6 := X6.lt
  have hc := is_any D1 D6 _ _ d1 d6 l1 l1 l2 l2 V15 X1.num X6.num (by omega) (by omega)
  rw [is_self] at hc
  refine hc.mono ?_
  clear hc
  rintro e V16 ⟨rfl, hb⟩
  clear kXA zXA kXB zXB kX1 zX1 kX2 zX2 kX3 zX3 kX4 zX4 kX5 zX5 kX6 zX6
  replace XA := XA.below hb
  replace XB := XB.below hb
  replace X1 := X1.below hb
  replace X2 := X2.below hb
  replace X3 := X3.below hb
  replace X4 := X4.below hb
  replace X5 := X5.below hb
  replace X6 := X6.below hb
  replace WW := WW.trans (hb.mono WW.size)
  have kXA := XA.cell
  have zXA := XA.lt
  have kXB := XB.cell
  have zXB := XB.lt
  have kX1 := X1.cell
  have zX1 := X1.lt
  have kX2 := X2.cell
  have zX2 := X2.lt
  have kX3 := X3.cell
  have zX3 := X3.lt
  have kX4 := X4.cell
  have zX4 := X4.lt
  have kX5 := X5.cell
  have zX5 := X5.lt
  have kX6 := X6.cell
  have zX6 := X6.lt
  clear hb
  go_wp2_with fail
  have hc := rdiv_any A B' c d a b V16 XA.num XB.num hn1 hm1 hb0
  rw [← HQ.out] at hc
  rw [← HRR.out] at hc
  refine hc.mono ?_
  clear hc
  rintro e V17 ⟨v, u', rfl, hv, hu, hb⟩
  clear kXA zXA kXB zXB kX1 zX1 kX2 zX2 kX3 zX3 kX4 zX4 kX5 zX5 kX6 zX6
  replace XA := XA.below hb
  replace XB := XB.below hb
  replace X1 := X1.below hb
  replace X2 := X2.below hb
  replace X3 := X3.below hb
  replace X4 := X4.below hb
  replace X5 := X5.below hb
  replace X6 := X6.below hb
  replace WW := WW.trans (hb.mono WW.size)
  obtain ⟨D7, d7, rfl, hv'⟩ := hv.open_
  clear hv
  obtain ⟨D8, d8, rfl, hu'⟩ := hu.open_
  clear hu
  have kXA := XA.cell
  have zXA := XA.lt
  have kXB := XB.cell
  have zXB := XB.lt
  have kX1 := X1.cell
  have zX1 := X1.lt
  have kX2 := X2.cell
  have zX2 := X2.lt
  have kX3 := X3.cell
  have zX3 := X3.lt
  have kX4 := X4.cell
  have zX4 := X4.lt
  have kX5 := X5.cell
  have zX5 := X5.lt
  have kX6 := X6.cell
  have zX6 := X6.lt
  clear hb
  go_wp2_with fail
  obtain ⟨b0, b1, bw⟩ := boxes2 V17 (.slice D7 (nw q) d7) (.slice D8 (nw r) d8)
  clear kXA zXA kXB zXB kX1 zX1 kX2 zX2 kX3 zX3 kX4 zX4 kX5 zX5 kX6 zX6
  replace XA := XA.below bw
  replace XB := XB.below bw
  replace X1 := X1.below bw
  replace X2 := X2.below bw
  replace X3 := X3.below bw
  replace X4 := X4.below bw
  replace X5 := X5.below bw
  replace X6 := X6.below bw
  have X7 := Box.mk b0 hv' bw
  have X8 := Box.mk b1 hu' bw
  replace WW := WW.trans (bw.mono WW.size)
  clear bw b0 b1 hv' hu'
  generalize hV : ((V17.alloc (.cells #[.slice D7 (nw q) d7] 24)).alloc (.cells #[.slice D8 (nw r) d8] 24)) = V18 at XA XB X1 X2 X3 X4 X5 X6 X7 X8 WW ⊢
  clear hV
  have kXA := XA.cell
  have zXA := XA.lt
  have kXB := XB.cell
  have zXB := XB.lt
  have kX1 := X1.cell
  have zX1 := X1.lt
  have kX2 := X2.cell
  have zX2 := X2.lt
  have kX3 := X3.cell
  have zX3 := X3.lt
  have kX4 := X4.cell
  have zX4 := X4.lt
  have kX5 := X5.cell
  have zX5 := X5.lt
  have kX6 := X6.cell
  have zX6 := X6.lt
  have kX7 := X7.cell
  have zX7 := X7.lt
  have kX8 := X8.cell
  have zX8 := X8.lt
  have hc := is_any D2 D7 _ _ d2 d7 q q 0 0 V18 X2.num X7.num (by omega) (by omega)
  rw [is_self] at hc
  refine hc.mono ?_
  clear hc
  rintro e V19 ⟨rfl, hb⟩
  clear kXA zXA kXB zXB kX1 zX1 kX2 zX2 kX3 zX3 kX4 zX4 kX5 zX5 kX6 zX6 kX7 zX7 kX8 zX8
  replace XA := XA.below hb
  replace XB := XB.below hb
  replace X1 := X1.below hb
  replace X2 := X2.below hb
  replace X3 := X3.below hb
  replace X4 := X4.below hb
  replace X5 := X5.below hb
  replace X6 := X6.below hb
  replace X7 := X7.below hb
  replace X8 := X8.below hb
  replace WW := WW.trans (hb.mono WW.size)
  have kXA := XA.cell
  have zXA := XA.lt
  have kXB := XB.cell
  have zXB := XB.lt
  have kX1 := X1.cell
  have zX1 := X1.lt
  have kX2 := X2.cell
  have zX2 := X2.lt
  have kX3 := X3.cell
  have zX3 := X3.lt
  have kX4 := X4.cell
  have zX4 := X4.lt
  have kX5 := X5.cell
  have zX5 := X5.lt
  have kX6 := X6.cell
  have zX6 := X6.lt
  have kX7 := X7.cell
  have zX7 := X7.lt
  have kX8 := X8.cell
  have zX8 := X8.lt
  clear hb
  go_wp2_with fail
  have hc := same_any D3 D8 _ _ d3 d8 r r V19 X3.num X8.num (by omega) (by omega)
  rw [sameB_yes] at hc
  refine hc.mono ?_
  clear hc
  rintro e V20 ⟨rfl, hb⟩
  clear kXA zXA kXB zXB kX1 zX1 kX2 zX2 kX3 zX3 kX4 zX4 kX5 zX5 kX6 zX6 kX7 zX7 kX8 zX8
  replace XA := XA.below hb
  replace XB := XB.below hb
  replace X1 := X1.below hb
  replace X2 := X2.below hb
  replace X3 := X3.below hb
  replace X4 := X4.below hb
  replace X5 := X5.below hb
  replace X6 := X6.below hb
  replace X7 := X7.below hb
  replace X8 := X8.below hb
  replace WW := WW.trans (hb.mono WW.size)
  have kXA := XA.cell
  have zXA := XA.lt
  have kXB := XB.cell
  have zXB := XB.lt
  have kX1 := X1.cell
  have zX1 := X1.lt
  have kX2 := X2.cell
  have zX2 := X2.lt
  have kX3 := X3.cell
  have zX3 := X3.lt
  have kX4 := X4.cell
  have zX4 := X4.lt
  have kX5 := X5.cell
  have zX5 := X5.lt
  have kX6 := X6.cell
  have zX6 := X6.lt
  have kX7 := X7.cell
  have zX7 := X7.lt
  have kX8 := X8.cell
  have zX8 := X8.lt
  clear hb
  go_wp2_with fail
  go_ret
  exact ⟨rfl, WW⟩

theorem naturalProducts_walk (A B' : Option Addr) (n m c d a b : Nat) (x : Int) (w : World) (hA : Num w w.heap.size A n a) (hB : Num w w.heap.size B' m b) (hn : n ≤ 9223372036854775807) (hm : m ≤ 9223372036854775807) (hx : -9223372036854775808 ≤ x ∧ x ≤ 9223372036854775807) :
    Calls Try.prog 5 #[.agg #[.slice A n c], .agg #[.slice B' m d], .int .i64 x] w (RetB (.bool true) w) := by
  by_cases hg : 100 < n ∨ 100 < m
  · have HG := hid (decide_eq_true hg)
    clear hg
    obtain ⟨b0, b1, bw⟩ := boxes2 w (.slice A n c) (.slice B' m d)
    have XA := Box.mk b0 hA bw
    have XB := Box.mk b1 hB bw
    have WW := bw
    clear bw b0 b1
    go_enter Try.func5, Try.ntmps5
    go_wp2_with fail
    generalize hV : ((w.alloc (.cells #[.slice A n c] 24)).alloc (.cells #[.slice B' m d] 24)) = V0 at XA XB WW ⊢
    clear hV
    have hc := awake_any V0
    refine hc.mono ?_
    clear hc
    rintro e V1 ⟨rfl, hb⟩
    replace XA := XA.below hb
    replace XB := XB.below hb
    replace WW := WW.trans (hb.mono WW.size)
    have kXA := XA.cell
    have zXA := XA.lt
    have kXB := XB.cell
    have zXB := XB.lt
    clear hb
    go_wp2_with fail
    have hc := great_2 V1 A B' _ c _ d hn hm
    rw [HG.out] at hc
    refine hc.mono ?_
    clear hc
    rintro e V2 ⟨rfl, hb⟩
    clear kXA zXA kXB zXB
    replace XA := XA.below hb
    replace XB := XB.below hb
    replace WW := WW.trans (hb.mono WW.size)
    have kXA := XA.cell
    have zXA := XA.lt
    have kXB := XB.cell
    have zXB := XB.lt
    clear hb
    go_wp2_with fail
    go_ret
    exact ⟨rfl, WW⟩
  · cases h1 : okB n a
    · exact prods_bad1 A B' n m c d a b x w hA hB hx (by omega) (by omega) h1
    · obtain ⟨hna, hn1⟩ := okB_yes.1 h1
      subst hna
      cases h2 : okB m b
      · by_cases hr : x < -10000
        · exact prods_bad2_lo A B' m c d a b x w hA hB hx hn1 (by omega) h2 hr
        · by_cases hr2 : 10000 < x
          · exact prods_bad2_hi A B' m c d a b x w hA hB hx hn1 (by omega) h2 hr2
          · exact prods_bad2_in A B' m c d a b x w hA hB hx hn1 (by omega) h2 (by omega)
      · obtain ⟨hmb, hm1⟩ := okB_yes.1 h2
        subst hmb
        by_cases h0 : b = 0
        · subst h0
          rw [nw_zero] at hB ⊢
          by_cases hr : x < -10000
          · exact prods_zero_lo A B' c d a 0 x w hA hB hx hn1 hr
          · by_cases hr2 : 10000 < x
            · exact prods_zero_hi A B' c d a 0 x w hA hB hx hn1 hr2
            · exact prods_zero_in A B' c d a 0 x w hA hB hx hn1 (by omega)
        · by_cases hr : x < -10000
          · exact prods_nz_lo A B' c d a b x w hA hB hx hn1 hm1 h0 hr
          · by_cases hr2 : 10000 < x
            · exact prods_nz_hi A B' c d a b x w hA hB hx hn1 hm1 h0 hr2
            · exact prods_nz_in A B' c d a b x w hA hB hx hn1 hm1 h0 (by omega)

end Go.Proofs.Ytlhfaaghfhiaoaa
