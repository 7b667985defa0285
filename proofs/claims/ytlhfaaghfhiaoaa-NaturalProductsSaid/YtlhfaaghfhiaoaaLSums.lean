/- NaturalSums: the walk. -/
import Derived.Test.YtlhfaaghfhiaoaaRef4
import Derived.Test.YtlhfaaghfhiaoaaLInts
set_option linter.unusedVariables false
set_option linter.unusedSimpArgs false
namespace Go.Proofs.Ytlhfaaghfhiaoaa
open Go.RowKit

theorem limS_nw (a : Nat) : nw (limS a).1 ≤ 64 := by
  unfold limS
  split
  · assumption
  · simp [nw_zero]
set_option maxHeartbeats 8000000 in
set_option maxRecDepth 100000 in
theorem sums_bad1 (A B' : Option Addr) (n m c d a b : Nat) (w : World) (hA : Num w w.heap.size A n a) (hB : Num w w.heap.size B' m b) (hn1 : n ≤ 100) (hm1 : m ≤ 100) (H1 : Hid (okB n a = false)) :
    Calls Try.prog 4 #[.agg #[.slice A n c], .agg #[.slice B' m d]] w (RetB (.bool true) w) := by
  have hn : n ≤ 9223372036854775807 := by omega
  have hm : m ≤ 9223372036854775807 := by omega
  have HG : Hid (decide (100 < n ∨ 100 < m) = false) := decide_eq_false (by omega)
  have hz0 : nw 0 ≤ 64 := by simp [nw_zero]
  obtain ⟨b0, b1, bw⟩ := boxes2 w (.slice A n c) (.slice B' m d)
  have XA := Box.mk b0 hA bw
  have XB := Box.mk b1 hB bw
  have WW := bw
  clear bw b0 b1
  go_enter Try.func4, Try.ntmps4
  go_wp2_with fail
  generalize hV : ((w.alloc (.cells #[.slice A n c] 24)).alloc (.cells #[.slice B' m d] 24)) = V0 at XA XB WW ⊢
  clear hV
  have hc := awake_any V0
  refine hc.mono ?_
  clear hc
  rintro e V1 ⟨rfl, hb⟩
  replace XA := XA.below hb
  replace XB := XB.below hb
  replace WW := WW.trans (hb.mono WW.size)
  have kXA := XA.cell
  have zXA := XA.lt
  have kXB := XB.cell
  have zXB := XB.lt
  clear hb
  go_wp2_with fail
  have hc := great_2 V1 A B' _ c _ d hn hm
  rw [HG.out] at hc
  refine hc.mono ?_
  clear hc
  rintro e V2 ⟨rfl, hb⟩
  clear kXA zXA kXB zXB
  replace XA := XA.below hb
  replace XB := XB.below hb
  replace WW := WW.trans (hb.mono WW.size)
  have kXA := XA.cell
  have zXA := XA.lt
  have kXB := XB.cell
  have zXB := XB.lt
  clear hb
  go_wp2_with fail
  have hc := add_any A B' _ _ c d a b V2 XA.num XB.num hn hm
  rw [bothS_no1 H1.out] at hc
  refine hc.mono ?_
  clear hc
  rintro e V3 ⟨v, rfl, hv, hb⟩
  clear kXA zXA kXB zXB
  replace XA := XA.below hb
  replace XB := XB.below hb
  replace WW := WW.trans (hb.mono WW.size)
  obtain ⟨D1, d1, rfl, hv'⟩ := hv.open_
  clear hv
  have kXA := XA.cell
  have zXA := XA.lt
  have kXB := XB.cell
  have zXB := XB.lt
  clear hb
  go_wp2_with fail
  obtain ⟨b0, bw⟩ := boxes1 V3 (.slice D1 (nw 0) d1)
  clear kXA zXA kXB zXB
  replace XA := XA.below bw
  replace XB := XB.below bw
  have X1 := Box.mk b0 hv' bw
  replace WW := WW.trans (bw.mono WW.size)
  clear bw b0 hv'
  generalize hV : (V3.alloc (.cells #[.slice D1 (nw 0) d1] 24)) = V4 at XA XB X1 WW ⊢
  clear hV
  have kXA := XA.cell
  have zXA := XA.lt
  have kXB := XB.cell
  have zXB := XB.lt
  have kX1 := X1.cell
  have zX1 := X1.lt
  have hc := sub_any A B' _ _ c d a b V4 XA.num XB.num hn hm
  rw [bothS_no1 H1.out] at hc
  refine hc.mono ?_
  clear hc
  rintro e V5 ⟨v, rfl, hv, hb⟩
  clear kXA zXA kXB zXB kX1 zX1
  replace XA := XA.below hb
  replace XB := XB.below hb
  replace X1 := X1.below hb
  replace WW := WW.trans (hb.mono WW.size)
  obtain ⟨D2, d2, rfl, hv'⟩ := hv.open_
  clear hv
  have kXA := XA.cell
  have zXA := XA.lt
  have kXB := XB.cell
  have zXB := XB.lt
  have kX1 := X1.cell
  have zX1 := X1.lt
  clear hb
  go_wp2_with fail
  obtain ⟨b0, bw⟩ := boxes1 V5 (.slice D2 (nw 0) d2)
  clear kXA zXA kXB zXB kX1 zX1
  replace XA := XA.below bw
  replace XB := XB.below bw
  replace X1 := X1.below bw
  have X2 := Box.mk b0 hv' bw
  replace WW := WW.trans (bw.mono WW.size)
  clear bw b0 hv'
  generalize hV : (V5.alloc (.cells #[.slice D2 (nw 0) d2] 24)) = V6 at XA XB X1 X2 WW ⊢
  clear hV
  have kXA := XA.cell
  have zXA := XA.lt
  have kXB := XB.cell
  have zXB := XB.lt
  have kX1 := X1.cell
  have zX1 := X1.lt
  have kX2 := X2.cell
  have zX2 := X2.lt
  have hc := rvalid_any A _ c a _ V6 XA.num (Nat.le_refl _) hn
  rw [H1.out] at hc
  refine hc.mono ?_
  clear hc
  rintro e V7 ⟨rfl, hb⟩
  clear kXA zXA kXB zXB kX1 zX1 kX2 zX2
  replace XA := XA.below hb
  replace XB := XB.below hb
  replace X1 := X1.below hb
  replace X2 := X2.below hb
  replace WW := WW.trans (hb.mono WW.size)
  have kXA := XA.cell
  have zXA := XA.lt
  have kXB := XB.cell
  have zXB := XB.lt
  have kX1 := X1.cell
  have zX1 := X1.lt
  have kX2 := X2.cell
  have zX2 := X2.lt
  clear hb
  go_wp2_with fail
  have hc := cmp_any A B' _ _ c d a b V7 XA.num XB.num hn hm
  rw [bothC_no1 H1.out] at hc
  refine hc.mono ?_
  clear hc
  rintro e V8 ⟨rfl, hb⟩
  clear kXA zXA kXB zXB kX1 zX1 kX2 zX2
  replace XA := XA.below hb
  replace XB := XB.below hb
  replace X1 := X1.below hb
  replace X2 := X2.below hb
  replace WW := WW.trans (hb.mono WW.size)
  have kXA := XA.cell
  have zXA := XA.lt
  have kXB := XB.cell
  have zXB := XB.lt
  have kX1 := X1.cell
  have zX1 := X1.lt
  have kX2 := X2.cell
  have zX2 := X2.lt
  clear hb
  go_wp2_with fail
  have hc := is_any D1 none _ 0 d1 0 0 0 1 1 V8 X1.num (Num.nil _ _ _) (by omega) (by omega)
  rw [is_zero] at hc
  refine hc.mono ?_
  clear hc
  rintro e V9 ⟨rfl, hb⟩
  clear kXA zXA kXB zXB kX1 zX1 kX2 zX2
  replace XA := XA.below hb
  replace XB := XB.below hb
  replace X1 := X1.below hb
  replace X2 := X2.below hb
  replace WW := WW.trans (hb.mono WW.size)
  have kXA := XA.cell
  have zXA := XA.lt
  have kXB := XB.cell
  have zXB := XB.lt
  have kX1 := X1.cell
  have zX1 := X1.lt
  have kX2 := X2.cell
  have zX2 := X2.lt
  clear hb
  go_wp2_with fail
  have hc := is_any D2 none _ 0 d2 0 0 0 1 1 V9 X2.num (Num.nil _ _ _) (by omega) (by omega)
  rw [is_zero] at hc
  refine hc.mono ?_
  clear hc
  rintro e V10 ⟨rfl, hb⟩
  clear kXA zXA kXB zXB kX1 zX1 kX2 zX2
  replace XA := XA.below hb
  replace XB := XB.below hb
  replace X1 := X1.below hb
  replace X2 := X2.below hb
  replace WW := WW.trans (hb.mono WW.size)
  have kXA := XA.cell
  have zXA := XA.lt
  have kXB := XB.cell
  have zXB := XB.lt
  have kX1 := X1.cell
  have zX1 := X1.lt
  have kX2 := X2.cell
  have zX2 := X2.lt
  clear hb
  go_wp2_with fail
  go_ret
  exact ⟨rfl, WW⟩

set_option maxHeartbeats 8000000 in
set_option maxRecDepth 100000 in
theorem sums_bad2 (A B' : Option Addr) (n m c d a b : Nat) (w : World) (hA : Num w w.heap.size A n a) (hB : Num w w.heap.size B' m b) (hn1 : n ≤ 100) (hm1 : m ≤ 100) (H1 : Hid (okB n a = true)) (H2 : Hid (okB m b = false)) :
    Calls Try.prog 4 #[.agg #[.slice A n c], .agg #[.slice B' m d]] w (RetB (.bool true) w) := by
  have hn : n ≤ 9223372036854775807 := by omega
  have hm : m ≤ 9223372036854775807 := by omega
  have HG : Hid (decide (100 < n ∨ 100 < m) = false) := decide_eq_false (by omega)
  have hz0 : nw 0 ≤ 64 := by simp [nw_zero]
  obtain ⟨b0, b1, bw⟩ := boxes2 w (.slice A n c) (.slice B' m d)
  have XA := Box.mk b0 hA bw
  have XB := Box.mk b1 hB bw
  have WW := bw
  clear bw b0 b1
  go_enter Try.func4, Try.ntmps4
  go_wp2_with fail
  generalize hV : ((w.alloc (.cells #[.slice A n c] 24)).alloc (.cells #[.slice B' m d] 24)) = V0 at XA XB WW ⊢
  clear hV
  have hc := awake_any V0
  refine hc.mono ?_
  clear hc
  rintro e V1 ⟨rfl, hb⟩
  replace XA := XA.below hb
  replace XB := XB.below hb
  replace WW := WW.trans (hb.mono WW.size)
  have kXA := XA.cell
  have zXA := XA.lt
  have kXB := XB.cell
  have zXB := XB.lt
  clear hb
  go_wp2_with fail
  have hc := great_2 V1 A B' _ c _ d hn hm
  rw [HG.out] at hc
  refine hc.mono ?_
  clear hc
  rintro e V2 ⟨rfl, hb⟩
  clear kXA zXA kXB zXB
  replace XA := XA.below hb
  replace XB := XB.below hb
  replace WW := WW.trans (hb.mono WW.size)
  have kXA := XA.cell
  have zXA := XA.lt
  have kXB := XB.cell
  have zXB := XB.lt
  clear hb
  go_wp2_with fail
  have hc := add_any A B' _ _ c d a b V2 XA.num XB.num hn hm
  rw [bothS_no2 H2.out] at hc
  refine hc.mono ?_
  clear hc
  rintro e V3 ⟨v, rfl, hv, hb⟩
  clear kXA zXA kXB zXB
  replace XA := XA.below hb
  replace XB := XB.below hb
  replace WW := WW.trans (hb.mono WW.size)
  obtain ⟨D1, d1, rfl, hv'⟩ := hv.open_
  clear hv
  have kXA := XA.cell
  have zXA := XA.lt
  have kXB := XB.cell
  have zXB := XB.lt
  clear hb
  go_wp2_with fail
  obtain ⟨b0, bw⟩ := boxes1 V3 (.slice D1 (nw 0) d1)
  clear kXA zXA kXB zXB
  replace XA := XA.below bw
  replace XB := XB.below bw
  have X1 := Box.mk b0 hv' bw
  replace WW := WW.trans (bw.mono WW.size)
  clear bw b0 hv'
  generalize hV : (V3.alloc (.cells #[.slice D1 (nw 0) d1] 24)) = V4 at XA XB X1 WW ⊢
  clear hV
  have kXA := XA.cell
  have zXA := XA.lt
  have kXB := XB.cell
  have zXB := XB.lt
  have kX1 := X1.cell
  have zX1 := X1.lt
  have hc := sub_any A B' _ _ c d a b V4 XA.num XB.num hn hm
  rw [bothS_no2 H2.out] at hc
  refine hc.mono ?_
  clear hc
  rintro e V5 ⟨v, rfl, hv, hb⟩
  clear kXA zXA kXB zXB kX1 zX1
  replace XA := XA.below hb
  replace XB := XB.below hb
  replace X1 := X1.below hb
  replace WW := WW.trans (hb.mono WW.size)
  obtain ⟨D2, d2, rfl, hv'⟩ := hv.open_
  clear hv
  have kXA := XA.cell
  have zXA := XA.lt
  have kXB := XB.cell
  have zXB := XB.lt
  have kX1 := X1.cell
  have zX1 := X1.lt
  clear hb
  go_wp2_with fail
  obtain ⟨b0, bw⟩ := boxes1 V5 (.slice D2 (nw 0) d2)
  clear kXA zXA kXB zXB kX1 zX1
  replace XA := XA.below bw
  replace XB := XB.below bw
  replace X1 := X1.below bw
  have X2 := Box.mk b0 hv' bw
  replace WW := WW.trans (bw.mono WW.size)
  clear bw b0 hv'
  generalize hV : (V5.alloc (.cells #[.slice D2 (nw 0) d2] 24)) = V6 at XA XB X1 X2 WW ⊢
  clear hV
  have kXA := XA.cell
  have zXA := XA.lt
  have kXB := XB.cell
  have zXB := XB.lt
  have kX1 := X1.cell
  have zX1 := X1.lt
  have kX2 := X2.cell
  have zX2 := X2.lt
  have hc := rvalid_any A _ c a _ V6 XA.num (Nat.le_refl _) hn
  rw [H1.out] at hc
  refine hc.mono ?_
  clear hc
  rintro e V7 ⟨rfl, hb⟩
  clear kXA zXA kXB zXB kX1 zX1 kX2 zX2
  replace XA := XA.below hb
  replace XB := XB.below hb
  replace X1 := X1.below hb
  replace X2 := X2.below hb
  replace WW := WW.trans (hb.mono WW.size)
  have kXA := XA.cell
  have zXA := XA.lt
  have kXB := XB.cell
  have zXB := XB.lt
  have kX1 := X1.cell
  have zX1 := X1.lt
  have kX2 := X2.cell
  have zX2 := X2.lt
  clear hb
  go_wp2_with fail
  have hc := rvalid_any B' _ d b _ V7 XB.num (Nat.le_refl _) hm
  rw [H2.out] at hc
  refine hc.mono ?_
  clear hc
  rintro e V8 ⟨rfl, hb⟩
  clear kXA zXA kXB zXB kX1 zX1 kX2 zX2
  replace XA := XA.below hb
  replace XB := XB.below hb
  replace X1 := X1.below hb
  replace X2 := X2.below hb
  replace WW := WW.trans (hb.mono WW.size)
  have kXA := XA.cell
  have zXA := XA.lt
  have kXB := XB.cell
  have zXB := XB.lt
  have kX1 := X1.cell
  have zX1 := X1.lt
  have kX2 := X2.cell
  have zX2 := X2.lt
  clear hb
  go_wp2_with fail
  have hc := cmp_any A B' _ _ c d a b V8 XA.num XB.num hn hm
  rw [bothC_no2 H2.out] at hc
  refine hc.mono ?_
  clear hc
  rintro e V9 ⟨rfl, hb⟩
  clear kXA zXA kXB zXB kX1 zX1 kX2 zX2
  replace XA := XA.below hb
  replace XB := XB.below hb
  replace X1 := X1.below hb
  replace X2 := X2.below hb
  replace WW := WW.trans (hb.mono WW.size)
  have kXA := XA.cell
  have zXA := XA.lt
  have kXB := XB.cell
  have zXB := XB.lt
  have kX1 := X1.cell
  have zX1 := X1.lt
  have kX2 := X2.cell
  have zX2 := X2.lt
  clear hb
  go_wp2_with fail
  have hc := is_any D1 none _ 0 d1 0 0 0 1 1 V9 X1.num (Num.nil _ _ _) (by omega) (by omega)
  rw [is_zero] at hc
  refine hc.mono ?_
  clear hc
  rintro e V10 ⟨rfl, hb⟩
  clear kXA zXA kXB zXB kX1 zX1 kX2 zX2
  replace XA := XA.below hb
  replace XB := XB.below hb
  replace X1 := X1.below hb
  replace X2 := X2.below hb
  replace WW := WW.trans (hb.mono WW.size)
  have kXA := XA.cell
  have zXA := XA.lt
  have kXB := XB.cell
  have zXB := XB.lt
  have kX1 := X1.cell
  have zX1 := X1.lt
  have kX2 := X2.cell
  have zX2 := X2.lt
  clear hb
  go_wp2_with fail
  have hc := is_any D2 none _ 0 d2 0 0 0 1 1 V10 X2.num (Num.nil _ _ _) (by omega) (by omega)
  rw [is_zero] at hc
  refine hc.mono ?_
  clear hc
  rintro e V11 ⟨rfl, hb⟩
  clear kXA zXA kXB zXB kX1 zX1 kX2 zX2
  replace XA := XA.below hb
  replace XB := XB.below hb
  replace X1 := X1.below hb
  replace X2 := X2.below hb
  replace WW := WW.trans (hb.mono WW.size)
  have kXA := XA.cell
  have zXA := XA.lt
  have kXB := XB.cell
  have zXB := XB.lt
  have kX1 := X1.cell
  have zX1 := X1.lt
  have kX2 := X2.cell
  have zX2 := X2.lt
  clear hb
  go_wp2_with fail
  go_ret
  exact ⟨rfl, WW⟩

set_option maxHeartbeats 8000000 in
set_option maxRecDepth 100000 in
theorem sums_lt (A B' : Option Addr) (c d a b : Nat) (w : World) (hA : Num w w.heap.size A (nw a) a) (hB : Num w w.heap.size B' (nw b) b) (hn1 : nw a ≤ 64) (hm1 : nw b ≤ 64) (h : a < b) :
    Calls Try.prog 4 #[.agg #[.slice A (nw a) c], .agg #[.slice B' (nw b) d]] w (RetB (.bool true) w) := by
  have hn : (nw a) ≤ 9223372036854775807 := by omega
  have hm : (nw b) ≤ 9223372036854775807 := by omega
  have HG : Hid (decide (100 < (nw a) ∨ 100 < (nw b)) = false) := decide_eq_false (by omega)
  have hz0 : nw 0 ≤ 64 := by simp [nw_zero]
  have H1 := hid (okB_nw hn1)
  have H2 := hid (okB_nw hm1)
  obtain ⟨l1, l2, hl⟩ : ∃ l1 l2, limS (a + b) = (l1, l2) := ⟨_, _, rfl⟩
  have hl1 : nw l1 ≤ 64 := by have h5 := limS_nw (a + b); rw [hl] at h5; exact h5
  have HL := hid hl
  have HL1 : Hid ((limS (a + b)).1 = l1) := by show _ = _; rw [hl]
  have HL2 : Hid ((limS (a + b)).2 = l2) := by show _ = _; rw [hl]
  clear hl
  obtain ⟨od, hod⟩ : ∃ x, ordN a b = x := ⟨_, rfl⟩
  have OD := hid hod
  have eo : (od != od) = false := by simp
  have HS := hid (subS_no h)
  have lo : decide (od < 0) = true := by rw [← hod, ordN_lt h]; decide
  clear hod h
  obtain ⟨b0, b1, bw⟩ := boxes2 w (.slice A (nw a) c) (.slice B' (nw b) d)
  have XA := Box.mk b0 hA bw
  have XB := Box.mk b1 hB bw
  have WW := bw
  clear bw b0 b1
  go_enter Try.func4, Try.ntmps4
  go_wp2_with fail
  generalize hV : ((w.alloc (.cells #[.slice A (nw a) c] 24)).alloc (.cells #[.slice B' (nw b) d] 24)) = V0 at XA XB WW ⊢
  clear hV
  have hc := awake_any V0
  refine hc.mono ?_
  clear hc
  rintro e V1 ⟨rfl, hb⟩
  replace XA := XA.below hb
  replace XB := XB.below hb
  replace WW := WW.trans (hb.mono WW.size)
  have kXA := XA.cell
  have zXA := XA.lt
  have kXB := XB.cell
  have zXB := XB.lt
  clear hb
  go_wp2_with fail
  have hc := great_2 V1 A B' _ c _ d hn hm
  rw [HG.out] at hc
  refine hc.mono ?_
  clear hc
  rintro e V2 ⟨rfl, hb⟩
  clear kXA zXA kXB zXB
  replace XA := XA.below hb
  replace XB := XB.below hb
  replace WW := WW.trans (hb.mono WW.size)
  have kXA := XA.cell
  have zXA := XA.lt
  have kXB := XB.cell
  have zXB := XB.lt
  clear hb
  go_wp2_with fail
  have hc := add_any A B' _ _ c d a b V2 XA.num XB.num hn hm
  rw [bothS_yes H1.out H2.out] at hc
  rw [HL.out] at hc
  refine hc.mono ?_
  clear hc
  rintro e V3 ⟨v, rfl, hv, hb⟩
  clear kXA zXA kXB zXB
  replace XA := XA.below hb
  replace XB := XB.below hb
  replace WW := WW.trans (hb.mono WW.size)
  obtain ⟨D1, d1, rfl, hv'⟩ := hv.open_
  clear hv
  have kXA := XA.cell
  have zXA := XA.lt
  have kXB := XB.cell
  have zXB := XB.lt
  clear hb
  go_wp2_with fail
  obtain ⟨b0, bw⟩ := boxes1 V3 (.slice D1 (nw l1) d1)
  clear kXA zXA kXB zXB
  replace XA := XA.below bw
  replace XB := XB.below bw
  have X1 := Box.mk b0 hv' bw
  replace WW := WW.trans (bw.mono WW.size)
  clear bw b0 hv'
  generalize hV : (V3.alloc (.cells #[.slice D1 (nw l1) d1] 24)) = V4 at XA XB X1 WW ⊢
  clear hV
  have kXA := XA.cell
  have zXA := XA.lt
  have kXB := XB.cell
  have zXB := XB.lt
  have kX1 := X1.cell
  have zX1 := X1.lt
  have hc := sub_any A B' _ _ c d a b V4 XA.num XB.num hn hm
  rw [bothS_yes H1.out H2.out] at hc
  rw [HS.out] at hc
  refine hc.mono ?_
  clear hc
  rintro e V5 ⟨v, rfl, hv, hb⟩
  clear kXA zXA kXB zXB kX1 zX1
  replace XA := XA.below hb
  replace XB := XB.below hb
  replace X1 := X1.below hb
  replace WW := WW.trans (hb.mono WW.size)
  obtain ⟨D2, d2, rfl, hv'⟩ := hv.open_
  clear hv
  have kXA := XA.cell
  have zXA := XA.lt
  have kXB := XB.cell
  have zXB := XB.lt
  have kX1 := X1.cell
  have zX1 := X1.lt
  clear hb
  go_wp2_with fail
  obtain ⟨b0, bw⟩ := boxes1 V5 (.slice D2 (nw 0) d2)
  clear kXA zXA kXB zXB kX1 zX1
  replace XA := XA.below bw
  replace XB := XB.below bw
  replace X1 := X1.below bw
  have X2 := Box.mk b0 hv' bw
  replace WW := WW.trans (bw.mono WW.size)
  clear bw b0 hv'
  generalize hV : (V5.alloc (.cells #[.slice D2 (nw 0) d2] 24)) = V6 at XA XB X1 X2 WW ⊢
  clear hV
  have kXA := XA.cell
  have zXA := XA.lt
  have kXB := XB.cell
  have zXB := XB.lt
  have kX1 := X1.cell
  have zX1 := X1.lt
  have kX2 := X2.cell
  have zX2 := X2.lt
  have hc := rvalid_any A _ c a _ V6 XA.num (Nat.le_refl _) hn
  rw [H1.out] at hc
  refine hc.mono ?_
  clear hc
  rintro e V7 ⟨rfl, hb⟩
  clear kXA zXA kXB zXB kX1 zX1 kX2 zX2
  replace XA := XA.below hb
  replace XB := XB.below hb
  replace X1 := X1.below hb
  replace X2 := X2.below hb
  replace WW := WW.trans (hb.mono WW.size)
  have kXA := XA.cell
  have zXA := XA.lt
  have kXB := XB.cell
  have zXB := XB.lt
  have kX1 := X1.cell
  have zX1 := X1.lt
  have kX2 := X2.cell
  have zX2 := X2.lt
  clear hb
  go_wp2_with fail
  have hc := rvalid_any B' _ d b _ V7 XB.num (Nat.le_refl _) hm
  rw [H2.out] at hc
  refine hc.mono ?_
  clear hc
  rintro e V8 ⟨rfl, hb⟩
  clear kXA zXA kXB zXB kX1 zX1 kX2 zX2
  replace XA := XA.below hb
  replace XB := XB.below hb
  replace X1 := X1.below hb
  replace X2 := X2.below hb
  replace WW := WW.trans (hb.mono WW.size)
  have kXA := XA.cell
  have zXA := XA.lt
  have kXB := XB.cell
  have zXB := XB.lt
  have kX1 := X1.cell
  have zX1 := X1.lt
  have kX2 := X2.cell
  have zX2 := X2.lt
  clear hb
  go_wp2_with fail
  have hc := radd_any A B' _ _ c d a b V8 XA.num XB.num hn1 hm1
  rw [HL1.out] at hc
  rw [HL2.out] at hc
  refine hc.mono ?_
  clear hc
  rintro e V9 ⟨v, rfl, hv, hb⟩
  clear kXA zXA kXB zXB kX1 zX1 kX2 zX2
  replace XA := XA.below hb
  replace XB := XB.below hb
  replace X1 := X1.below hb
  replace X2 := X2.below hb
  replace WW := WW.trans (hb.mono WW.size)
  obtain ⟨D3, d3, rfl, hv'⟩ := hv.open_
  clear hv
  have kXA := XA.cell
  have zXA := XA.lt
  have kXB := XB.cell
  have zXB := XB.lt
  have kX1 := X1.cell
  have zX1 := X1.lt
  have kX2 := X2.cell
  have zX2 := X2.lt
  clear hb
  go_wp2_with fail
  obtain ⟨b0, bw⟩ := boxes1 V9 (.slice D3 (nw l1) d3)
  clear kXA zXA kXB zXB kX1 zX1 kX2 zX2
  replace XA := XA.below bw
  replace XB := XB.below bw
  replace X1 := X1.below bw
  replace X2 := X2.below bw
  have X3 := Box.mk b0 hv' bw
  replace WW := WW.trans (bw.mono WW.size)
  clear bw b0 hv'
  generalize hV : (V9.alloc (.cells #[.slice D3 (nw l1) d3] 24)) = V10 at XA XB X1 X2 X3 WW ⊢
  clear hV
  have kXA := XA.cell
  have zXA := XA.lt
  have kXB := XB.cell
  have zXB := XB.lt
  have kX1 := X1.cell
  have zX1 := X1.lt
  have kX2 := X2.cell
  have zX2 := X2.lt
  have kX3 := X3.cell
  have zX3 := X3.lt
  have WDr := hid WW.drew
  have HXA_0 := hid XA.drew
  have HXB_0 := hid XB.drew
  have HX1_0 := hid X1.drew
  have HX3_0 := hid X3.drew
  have HX2_0 := hid X2.drew
  clear zXA zXB zX1 zX3 zX2 kX2
  clear WW XA XB X1 X3 X2
  refine wp_region_held_drew (S := (fun w' => w'.cell? ⟨w.heap.size, 0, none⟩ = some ((.slice A (nw a) c)) ∧ w'.cell? ⟨w.heap.size + 1, 0, none⟩ = some ((.slice B' (nw b) d)) ∧ w'.cell? ⟨V3.heap.size, 0, none⟩ = some ((.slice D1 (nw l1) d1)) ∧ w'.cell? ⟨V9.heap.size, 0, none⟩ = some ((.slice D3 (nw l1) d3)))) (by kernel_rfl) (⟨kXA, kXB, kX1, kX3⟩) (fun hHeld => ?_)
  refine wpAnyH_take (i := 0) (oi := { dst := some 59, op := Op.load 24 (Operand.tmp 2), type := 24, pos := "law.go:71", after := #[], guard := none }) (v := ?_) rfl (by kernel_rfl) (by kernel_rfl) (by kernel_rfl) (fun _ _ _ h => h) (Or.inl ⟨by rfl, ?_⟩) (by assumption) ?_
  rotate_left
  · (intro ws hSw; (try dsimp only at hSw); (try go_simp); (try with_reducible rfl))
  (try simp only [Act.put, List.setIfInBounds_toArray, List.set_cons_zero, List.set_cons_succ])
  refine wpAnyH_take (i := 1) (oi := { dst := some 60, op := Op.load 24 (Operand.tmp 3), type := 24, pos := "law.go:71", after := #[], guard := none }) (v := ?_) rfl (by kernel_rfl) (by kernel_rfl) (by kernel_rfl) (fun _ _ _ h => h) (Or.inl ⟨by rfl, ?_⟩) (by assumption) ?_
  rotate_left
  · (intro ws hSw; (try dsimp only at hSw); (try go_simp); (try with_reducible rfl))
  (try simp only [Act.put, List.setIfInBounds_toArray, List.set_cons_zero, List.set_cons_succ])
  refine wpAnyH_take (i := 3) (oi := { dst := some 62, op := Op.load 24 (Operand.tmp 2), type := 24, pos := "law.go:71", after := #[], guard := none }) (v := ?_) rfl (by kernel_rfl) (by kernel_rfl) (by kernel_rfl) (fun _ _ _ h => h) (Or.inl ⟨by rfl, ?_⟩) (by assumption) ?_
  rotate_left
  · (intro ws hSw; (try dsimp only at hSw); (try go_simp); (try with_reducible rfl))
  (try simp only [Act.put, List.setIfInBounds_toArray, List.set_cons_zero, List.set_cons_succ])
  refine wpAnyH_take (i := 4) (oi := { dst := some 63, op := Op.load 24 (Operand.tmp 3), type := 24, pos := "law.go:71", after := #[], guard := none }) (v := ?_) rfl (by kernel_rfl) (by kernel_rfl) (by kernel_rfl) (fun _ _ _ h => h) (Or.inl ⟨by rfl, ?_⟩) (by assumption) ?_
  rotate_left
  · (intro ws hSw; (try dsimp only at hSw); (try go_simp); (try with_reducible rfl))
  (try simp only [Act.put, List.setIfInBounds_toArray, List.set_cons_zero, List.set_cons_succ])
  refine wpAnyH_ready (rs := [2]) (by kernel_rfl) (by simp) ?_
  refine AllReadyH.cons (o := { dst := some 61, op := Op.call { callee := Callee.value (Operand.func 26), args := #[Operand.tmp 59, Operand.tmp 60], argTypes := #[24, 24] }, type := 3, pos := "law.go:71", after := #[{ on := 0, ground := Ground.data }, { on := 1, ground := Ground.data }], guard := none }) rfl (fun K hK => ?_) AllReadyH.nil
  go_simp
  have hc := cmp_any A B' _ _ c d a b _ HXA_0.out.num HXB_0.out.num hn hm
  rw [bothC_yes H1.out H2.out] at hc
  rw [OD.out] at hc
  refine hc.mono ?_
  clear hc
  rintro e w10_1 ⟨rfl, hb⟩
  have HXA_1 := hid (HXA_0.out.below hb)
  have HXB_1 := hid (HXB_0.out.below hb)
  have HX1_1 := hid (HX1_0.out.below hb)
  have HX3_1 := hid (HX3_0.out.below hb)
  have HX2_1 := hid (HX2_0.out.below hb)
  have qXA_1 := HXA_1.out.cell
  have qXB_1 := HXB_1.out.cell
  have qX1_1 := HX1_1.out.cell
  have qX3_1 := HX3_1.out.cell
  have WD_1 := hid (WDr.out.trans (hb.mono WDr.out.size))
  clear hb
  refine hK.out _ _ (⟨qXA_1, qXB_1, qX1_1, qX3_1⟩) (fun hHeld2 => ?_)
  clear hK K hHeld
  have hHeld := hHeld2
  clear hHeld2
  (try simp only [Act.put, List.setIfInBounds_toArray, List.set_cons_zero, List.set_cons_succ])
  refine wpAnyH_ready (rs := [5]) (by kernel_rfl) (by simp) ?_
  refine AllReadyH.cons (o := { dst := some 64, op := Op.call { callee := Callee.value (Operand.func 28), args := #[Operand.tmp 62, Operand.tmp 63], argTypes := #[24, 24] }, type := 3, pos := "law.go:71", after := #[{ on := 3, ground := Ground.data }, { on := 4, ground := Ground.data }, { on := 2, ground := Ground.chain }], guard := none }) rfl (fun K hK => ?_) AllReadyH.nil
  go_simp
  have hc := rcompare_any A B' _ _ c d a b _ HXA_1.out.num HXB_1.out.num hn1 hm1
  rw [OD.out] at hc
  refine hc.mono ?_
  clear hc
  rintro e w10_2 ⟨rfl, hb⟩
  have HXA_2 := hid (HXA_1.out.below hb)
  have HXB_2 := hid (HXB_1.out.below hb)
  have HX1_2 := hid (HX1_1.out.below hb)
  have HX3_2 := hid (HX3_1.out.below hb)
  have HX2_2 := hid (HX2_1.out.below hb)
  have qXA_2 := HXA_2.out.cell
  have qXB_2 := HXB_2.out.cell
  have qX1_2 := HX1_2.out.cell
  have qX3_2 := HX3_2.out.cell
  have WD_2 := hid (WD_1.out.trans (hb.mono WD_1.out.size))
  clear hb
  refine hK.out _ _ (⟨qXA_2, qXB_2, qX1_2, qX3_2⟩) (fun hHeld5 => ?_)
  clear hK K hHeld
  have hHeld := hHeld5
  clear hHeld5
  (try simp only [Act.put, List.setIfInBounds_toArray, List.set_cons_zero, List.set_cons_succ])
  refine wpAnyH_take (i := 6) (oi := { dst := some 65, op := Op.binOp BinOp.neq 3 (Operand.tmp 61) (Operand.tmp 64) 3, type := 4, pos := "law.go:71", after := #[{ on := 2, ground := Ground.data }, { on := 5, ground := Ground.data }], guard := none }) (v := ?_) rfl (by kernel_rfl) (by kernel_rfl) (by kernel_rfl) (fun _ _ _ h => h) (Or.inl ⟨by rfl, ?_⟩) (by assumption) ?_
  rotate_left
  · (intro ws hSw; (try dsimp only at hSw); (try go_simp); (try with_reducible rfl))
  (try simp only [Act.put, List.setIfInBounds_toArray, List.set_cons_zero, List.set_cons_succ])
  refine wpAnyH_take (i := 7) (oi := { dst := some 66, op := Op.move (Operand.tmp 65), type := 4, pos := "law.go:71", after := #[{ on := 6, ground := Ground.data }, { on := 5, ground := Ground.chain }], guard := none }) (v := ?_) rfl (by kernel_rfl) (by kernel_rfl) (by kernel_rfl) (fun _ _ _ h => h) (Or.inl ⟨by rfl, ?_⟩) (by assumption) ?_
  rotate_left
  · (intro ws hSw; (try dsimp only at hSw); (try go_simp); (try with_reducible rfl))
  (try simp only [Act.put, List.setIfInBounds_toArray, List.set_cons_zero, List.set_cons_succ])
  refine wpAnyH_take (i := 8) (oi := { dst := some 67, op := Op.load 24 (Operand.tmp 5), type := 24, pos := "law.go:71", after := #[{ on := 7, ground := Ground.guard }], guard := some (7, false) }) (v := ?_) rfl (by kernel_rfl) (by kernel_rfl) (by kernel_rfl) (fun _ _ _ h => h) (Or.inl ⟨by rfl, ?_⟩) (by assumption) ?_
  rotate_left
  · (intro ws hSw; (try dsimp only at hSw); (try go_simp); (try with_reducible rfl))
  (try simp only [Act.put, List.setIfInBounds_toArray, List.set_cons_zero, List.set_cons_succ])
  refine wpAnyH_take (i := 9) (oi := { dst := some 68, op := Op.move (Operand.tmp 6), type := 28, pos := "law.go:71", after := #[{ on := 7, ground := Ground.guard }], guard := some (7, false) }) (v := ?_) rfl (by kernel_rfl) (by kernel_rfl) (by kernel_rfl) (fun _ _ _ h => h) (Or.inl ⟨by rfl, ?_⟩) (by assumption) ?_
  rotate_left
  · (intro ws hSw; (try dsimp only at hSw); (try go_simp); (try with_reducible rfl))
  (try simp only [Act.put, List.setIfInBounds_toArray, List.set_cons_zero, List.set_cons_succ])
  refine wpAnyH_take (i := 10) (oi := { dst := some 69, op := Op.load 24 (Operand.tmp 9), type := 24, pos := "law.go:71", after := #[{ on := 7, ground := Ground.guard }], guard := some (7, false) }) (v := ?_) rfl (by kernel_rfl) (by kernel_rfl) (by kernel_rfl) (fun _ _ _ h => h) (Or.inl ⟨by rfl, ?_⟩) (by assumption) ?_
  rotate_left
  · (intro ws hSw; (try dsimp only at hSw); (try go_simp); (try with_reducible rfl))
  (try simp only [Act.put, List.setIfInBounds_toArray, List.set_cons_zero, List.set_cons_succ])
  refine wpAnyH_take (i := 11) (oi := { dst := some 70, op := Op.move (Operand.tmp 10), type := 3, pos := "law.go:71", after := #[{ on := 7, ground := Ground.guard }], guard := some (7, false) }) (v := ?_) rfl (by kernel_rfl) (by kernel_rfl) (by kernel_rfl) (fun _ _ _ h => h) (Or.inl ⟨by rfl, ?_⟩) (by assumption) ?_
  rotate_left
  · (intro ws hSw; (try dsimp only at hSw); (try go_simp); (try with_reducible rfl))
  (try simp only [Act.put, List.setIfInBounds_toArray, List.set_cons_zero, List.set_cons_succ])
  refine wpAnyH_ready (rs := [12]) (by kernel_rfl) (by simp) ?_
  refine AllReadyH.cons (o := { dst := some 71, op := Op.call { callee := Callee.value (Operand.func 17), args := #[Operand.tmp 67, Operand.tmp 68, Operand.tmp 69, Operand.tmp 70], argTypes := #[24, 28, 24, 3] }, type := 4, pos := "law.go:71", after := #[{ on := 8, ground := Ground.data }, { on := 9, ground := Ground.data }, { on := 10, ground := Ground.data }, { on := 11, ground := Ground.data }, { on := 7, ground := Ground.chain }, { on := 7, ground := Ground.guard }], guard := some (7, false) }) rfl (fun K hK => ?_) AllReadyH.nil
  go_simp
  have hc := is_any D1 D3 _ _ d1 d3 l1 l1 l2 l2 _ HX1_2.out.num HX3_2.out.num (by omega) (by omega)
  rw [is_self] at hc
  refine hc.mono ?_
  clear hc
  rintro e w10_3 ⟨rfl, hb⟩
  have HXA_3 := hid (HXA_2.out.below hb)
  have HXB_3 := hid (HXB_2.out.below hb)
  have HX1_3 := hid (HX1_2.out.below hb)
  have HX3_3 := hid (HX3_2.out.below hb)
  have HX2_3 := hid (HX2_2.out.below hb)
  have qXA_3 := HXA_3.out.cell
  have qXB_3 := HXB_3.out.cell
  have qX1_3 := HX1_3.out.cell
  have qX3_3 := HX3_3.out.cell
  have WD_3 := hid (WD_2.out.trans (hb.mono WD_2.out.size))
  clear hb
  refine hK.out _ _ (⟨qXA_3, qXB_3, qX1_3, qX3_3⟩) (fun hHeld12 => ?_)
  clear hK K hHeld
  have hHeld := hHeld12
  clear hHeld12
  (try simp only [Act.put, List.setIfInBounds_toArray, List.set_cons_zero, List.set_cons_succ])
  refine wpAnyH_take (i := 13) (oi := { dst := some 72, op := Op.unOp UnOp.not 4 (Operand.tmp 71), type := 4, pos := "law.go:71", after := #[{ on := 12, ground := Ground.data }, { on := 7, ground := Ground.guard }], guard := some (7, false) }) (v := ?_) rfl (by kernel_rfl) (by kernel_rfl) (by kernel_rfl) (fun _ _ _ h => h) (Or.inl ⟨by rfl, ?_⟩) (by assumption) ?_
  rotate_left
  · (intro ws hSw; (try dsimp only at hSw); (try go_simp); (try with_reducible rfl))
  (try simp only [Act.put, List.setIfInBounds_toArray, List.set_cons_zero, List.set_cons_succ])
  refine wpAnyH_take (i := 14) (oi := { dst := some 73, op := Op.pick (Operand.tmp 66) (Operand.const (Value.bool true)) (Operand.tmp 72), type := 4, pos := "law.go:71", after := #[{ on := 7, ground := Ground.data }, { on := 13, ground := Ground.data }], guard := none }) (v := ?_) rfl (by kernel_rfl) (by kernel_rfl) (by kernel_rfl) (fun _ _ _ h => h) (Or.inl ⟨by rfl, ?_⟩) (by assumption) ?_
  rotate_left
  · (intro ws hSw; (try dsimp only at hSw); (try go_simp); (try with_reducible rfl))
  (try simp only [Act.put, List.setIfInBounds_toArray, List.set_cons_zero, List.set_cons_succ])
  refine wpAnyH_done (by kernel_rfl) ?_ _
  clear hHeld
  clear kXA kXB kX1 kX3 qXA_1 qXB_1 qX1_1 qX3_1 qXA_2 qXB_2 qX1_2 qX3_2 qXA_3 qXB_3 qX1_3 qX3_3
  have XA := HXA_3.out
  have XB := HXB_3.out
  have X1 := HX1_3.out
  have X3 := HX3_3.out
  have X2 := HX2_3.out
  have WW := WD_3.out
  clear HXA_0 HXB_0 HX1_0 HX3_0 HX2_0 HXA_1 HXB_1 HX1_1 HX3_1 HX2_1 HXA_2 HXB_2 HX1_2 HX3_2 HX2_2 HXA_3 HXB_3 HX1_3 HX3_3 HX2_3 WDr WD_1 WD_2 WD_3
  have kXA := XA.cell
  have zXA := XA.lt
  have kXB := XB.cell
  have zXB := XB.lt
  have kX1 := X1.cell
  have zX1 := X1.lt
  have kX3 := X3.cell
  have zX3 := X3.lt
  have kX2 := X2.cell
  have zX2 := X2.lt
  go_wp2_with fail
  have hc := rcompare_any A B' _ _ c d a b w10_3 XA.num XB.num hn1 hm1
  rw [OD.out] at hc
  refine hc.mono ?_
  clear hc
  rintro e V12 ⟨rfl, hb⟩
  clear kXA zXA kXB zXB kX1 zX1 kX3 zX3 kX2 zX2
  replace XA := XA.below hb
  replace XB := XB.below hb
  replace X1 := X1.below hb
  replace X3 := X3.below hb
  replace X2 := X2.below hb
  replace WW := WW.trans (hb.mono WW.size)
  have kXA := XA.cell
  have zXA := XA.lt
  have kXB := XB.cell
  have zXB := XB.lt
  have kX1 := X1.cell
  have zX1 := X1.lt
  have kX3 := X3.cell
  have zX3 := X3.lt
  have kX2 := X2.cell
  have zX2 := X2.lt
  clear hb
  go_wp2_with fail
  have hc := is_any D2 none _ 0 d2 0 0 0 2 2 V12 X2.num (Num.nil _ _ _) (by omega) (by omega)
  rw [is_zero] at hc
  refine hc.mono ?_
  clear hc
  rintro e V13 ⟨rfl, hb⟩
  clear kXA zXA kXB zXB kX1 zX1 kX3 zX3 kX2 zX2
  replace XA := XA.below hb
  replace XB := XB.below hb
  replace X1 := X1.below hb
  replace X3 := X3.below hb
  replace X2 := X2.below hb
  replace WW := WW.trans (hb.mono WW.size)
  have kXA := XA.cell
  have zXA := XA.lt
  have kXB := XB.cell
  have zXB := XB.lt
  have kX1 := X1.cell
  have zX1 := X1.lt
  have kX3 := X3.cell
  have zX3 := X3.lt
  have kX2 := X2.cell
  have zX2 := X2.lt
  clear hb
  go_wp2_with fail
  go_ret
  exact ⟨rfl, WW⟩

set_option maxHeartbeats 8000000 in
set_option maxRecDepth 100000 in
theorem sums_ge (A B' : Option Addr) (c d a b : Nat) (w : World) (hA : Num w w.heap.size A (nw a) a) (hB : Num w w.heap.size B' (nw b) b) (hn1 : nw a ≤ 64) (hm1 : nw b ≤ 64) (h : ¬ a < b) :
    Calls Try.prog 4 #[.agg #[.slice A (nw a) c], .agg #[.slice B' (nw b) d]] w (RetB (.bool true) w) := by
  have hn : (nw a) ≤ 9223372036854775807 := by omega
  have hm : (nw b) ≤ 9223372036854775807 := by omega
  have HG : Hid (decide (100 < (nw a) ∨ 100 < (nw b)) = false) := decide_eq_false (by omega)
  have hz0 : nw 0 ≤ 64 := by simp [nw_zero]
  have H1 := hid (okB_nw hn1)
  have H2 := hid (okB_nw hm1)
  obtain ⟨l1, l2, hl⟩ : ∃ l1 l2, limS (a + b) = (l1, l2) := ⟨_, _, rfl⟩
  have hl1 : nw l1 ≤ 64 := by have h5 := limS_nw (a + b); rw [hl] at h5; exact h5
  have HL := hid hl
  have HL1 : Hid ((limS (a + b)).1 = l1) := by show _ = _; rw [hl]
  have HL2 : Hid ((limS (a + b)).2 = l2) := by show _ = _; rw [hl]
  clear hl
  obtain ⟨od, hod⟩ : ∃ x, ordN a b = x := ⟨_, rfl⟩
  have OD := hid hod
  have eo : (od != od) = false := by simp
  have HS := hid (subS_yes h)
  have lo : decide (od < 0) = false := by have := ordN_bd a b; rw [← hod]; unfold ordN; rw [if_neg h]; split <;> decide
  have hle : b ≤ a := by omega
  obtain ⟨e, he⟩ : ∃ e, e = a - b := ⟨_, rfl⟩
  rw [← he] at HS
  have HE := hid he
  have hn3 : nw e ≤ 64 := by rw [he]; exact Nat.le_trans (nw_mono (Nat.sub_le _ _)) hn1
  clear hod h he
  obtain ⟨b0, b1, bw⟩ := boxes2 w (.slice A (nw a) c) (.slice B' (nw b) d)
  have XA := Box.mk b0 hA bw
  have XB := Box.mk b1 hB bw
  have WW := bw
  clear bw b0 b1
  go_enter Try.func4, Try.ntmps4
  go_wp2_with fail
  generalize hV : ((w.alloc (.cells #[.slice A (nw a) c] 24)).alloc (.cells #[.slice B' (nw b) d] 24)) = V0 at XA XB WW ⊢
  clear hV
  have hc := awake_any V0
  refine hc.mono ?_
  clear hc
  rintro e V1 ⟨rfl, hb⟩
  replace XA := XA.below hb
  replace XB := XB.below hb
  replace WW := WW.trans (hb.mono WW.size)
  have kXA := XA.cell
  have zXA := XA.lt
  have kXB := XB.cell
  have zXB := XB.lt
  clear hb
  go_wp2_with fail
  have hc := great_2 V1 A B' _ c _ d hn hm
  rw [HG.out] at hc
  refine hc.mono ?_
  clear hc
  rintro e V2 ⟨rfl, hb⟩
  clear kXA zXA kXB zXB
  replace XA := XA.below hb
  replace XB := XB.below hb
  replace WW := WW.trans (hb.mono WW.size)
  have kXA := XA.cell
  have zXA := XA.lt
  have kXB := XB.cell
  have zXB := XB.lt
  clear hb
  go_wp2_with fail
  have hc := add_any A B' _ _ c d a b V2 XA.num XB.num hn hm
  rw [bothS_yes H1.out H2.out] at hc
  rw [HL.out] at hc
  refine hc.mono ?_
  clear hc
  rintro e V3 ⟨v, rfl, hv, hb⟩
  clear kXA zXA kXB zXB
  replace XA := XA.below hb
  replace XB := XB.below hb
  replace WW := WW.trans (hb.mono WW.size)
  obtain ⟨D1, d1, rfl, hv'⟩ := hv.open_
  clear hv
  have kXA := XA.cell
  have zXA := XA.lt
  have kXB := XB.cell
  have zXB := XB.lt
  clear hb
  go_wp2_with fail
  obtain ⟨b0, bw⟩ := boxes1 V3 (.slice D1 (nw l1) d1)
  clear kXA zXA kXB zXB
  replace XA := XA.below bw
  replace XB := XB.below bw
  have X1 := Box.mk b0 hv' bw
  replace WW := WW.trans (bw.mono WW.size)
  clear bw b0 hv'
  generalize hV : (V3.alloc (.cells #[.slice D1 (nw l1) d1] 24)) = V4 at XA XB X1 WW ⊢
  clear hV
  have kXA := XA.cell
  have zXA := XA.lt
  have kXB := XB.cell
  have zXB := XB.lt
  have kX1 := X1.cell
  have zX1 := X1.lt
  have hc := sub_any A B' _ _ c d a b V4 XA.num XB.num hn hm
  rw [bothS_yes H1.out H2.out] at hc
  rw [HS.out] at hc
  refine hc.mono ?_
  clear hc
  rintro e V5 ⟨v, rfl, hv, hb⟩
  clear kXA zXA kXB zXB kX1 zX1
  replace XA := XA.below hb
  replace XB := XB.below hb
  replace X1 := X1.below hb
  replace WW := WW.trans (hb.mono WW.size)
  obtain ⟨D2, d2, rfl, hv'⟩ := hv.open_
  clear hv
  have kXA := XA.cell
  have zXA := XA.lt
  have kXB := XB.cell
  have zXB := XB.lt
  have kX1 := X1.cell
  have zX1 := X1.lt
  clear hb
  go_wp2_with fail
  obtain ⟨b0, bw⟩ := boxes1 V5 (.slice D2 (nw e) d2)
  clear kXA zXA kXB zXB kX1 zX1
  replace XA := XA.below bw
  replace XB := XB.below bw
  replace X1 := X1.below bw
  have X2 := Box.mk b0 hv' bw
  replace WW := WW.trans (bw.mono WW.size)
  clear bw b0 hv'
  generalize hV : (V5.alloc (.cells #[.slice D2 (nw e) d2] 24)) = V6 at XA XB X1 X2 WW ⊢
  clear hV
  have kXA := XA.cell
  have zXA := XA.lt
  have kXB := XB.cell
  have zXB := XB.lt
  have kX1 := X1.cell
  have zX1 := X1.lt
  have kX2 := X2.cell
  have zX2 := X2.lt
  have hc := rvalid_any A _ c a _ V6 XA.num (Nat.le_refl _) hn
  rw [H1.out] at hc
  refine hc.mono ?_
  clear hc
  rintro e V7 ⟨rfl, hb⟩
  clear kXA zXA kXB zXB kX1 zX1 kX2 zX2
  replace XA := XA.below hb
  replace XB := XB.below hb
  replace X1 := X1.below hb
  replace X2 := X2.below hb
  replace WW := WW.trans (hb.mono WW.size)
  have kXA := XA.cell
  have zXA := XA.lt
  have kXB := XB.cell
  have zXB := XB.lt
  have kX1 := X1.cell
  have zX1 := X1.lt
  have kX2 := X2.cell
  have zX2 := X2.lt
  clear hb
  go_wp2_with fail
  have hc := rvalid_any B' _ d b _ V7 XB.num (Nat.le_refl _) hm
  rw [H2.out] at hc
  refine hc.mono ?_
  clear hc
  rintro e V8 ⟨rfl, hb⟩
  clear kXA zXA kXB zXB kX1 zX1 kX2 zX2
  replace XA := XA.below hb
  replace XB := XB.below hb
  replace X1 := X1.below hb
  replace X2 := X2.below hb
  replace WW := WW.trans (hb.mono WW.size)
  have kXA := XA.cell
  have zXA := XA.lt
  have kXB := XB.cell
  have zXB := XB.lt
  have kX1 := X1.cell
  have zX1 := X1.lt
  have kX2 := X2.cell
  have zX2 := X2.lt
  clear hb
  go_wp2_with fail
  have hc := radd_any A B' _ _ c d a b V8 XA.num XB.num hn1 hm1
  rw [HL1.out] at hc
  rw [HL2.out] at hc
  refine hc.mono ?_
  clear hc
  rintro e V9 ⟨v, rfl, hv, hb⟩
  clear kXA zXA kXB zXB kX1 zX1 kX2 zX2
  replace XA := XA.below hb
  replace XB := XB.below hb
  replace X1 := X1.below hb
  replace X2 := X2.below hb
  replace WW := WW.trans (hb.mono WW.size)
  obtain ⟨D3, d3, rfl, hv'⟩ := hv.open_
  clear hv
  have kXA := XA.cell
  have zXA := XA.lt
  have kXB := XB.cell
  have zXB := XB.lt
  have kX1 := X1.cell
  have zX1 := X1.lt
  have kX2 := X2.cell
  have zX2 := X2.lt
  clear hb
  go_wp2_with fail
  obtain ⟨b0, bw⟩ := boxes1 V9 (.slice D3 (nw l1) d3)
  clear kXA zXA kXB zXB kX1 zX1 kX2 zX2
  replace XA := XA.below bw
  replace XB := XB.below bw
  replace X1 := X1.below bw
  replace X2 := X2.below bw
  have X3 := Box.mk b0 hv' bw
  replace WW := WW.trans (bw.mono WW.size)
  clear bw b0 hv'
  generalize hV : (V9.alloc (.cells #[.slice D3 (nw l1) d3] 24)) = V10 at XA XB X1 X2 X3 WW ⊢
  clear hV
  have kXA := XA.cell
  have zXA := XA.lt
  have kXB := XB.cell
  have zXB := XB.lt
  have kX1 := X1.cell
  have zX1 := X1.lt
  have kX2 := X2.cell
  have zX2 := X2.lt
  have kX3 := X3.cell
  have zX3 := X3.lt
  have WDr := hid WW.drew
  have HXA_0 := hid XA.drew
  have HXB_0 := hid XB.drew
  have HX1_0 := hid X1.drew
  have HX3_0 := hid X3.drew
  have HX2_0 := hid X2.drew
  clear zXA zXB zX1 zX3 zX2 kX2
  clear WW XA XB X1 X3 X2
  refine wp_region_held_drew (S := (fun w' => w'.cell? ⟨w.heap.size, 0, none⟩ = some ((.slice A (nw a) c)) ∧ w'.cell? ⟨w.heap.size + 1, 0, none⟩ = some ((.slice B' (nw b) d)) ∧ w'.cell? ⟨V3.heap.size, 0, none⟩ = some ((.slice D1 (nw l1) d1)) ∧ w'.cell? ⟨V9.heap.size, 0, none⟩ = some ((.slice D3 (nw l1) d3)))) (by kernel_rfl) (⟨kXA, kXB, kX1, kX3⟩) (fun hHeld => ?_)
  refine wpAnyH_take (i := 0) (oi := { dst := some 59, op := Op.load 24 (Operand.tmp 2), type := 24, pos := "law.go:71", after := #[], guard := none }) (v := ?_) rfl (by kernel_rfl) (by kernel_rfl) (by kernel_rfl) (fun _ _ _ h => h) (Or.inl ⟨by rfl, ?_⟩) (by assumption) ?_
  rotate_left
  · (intro ws hSw; (try dsimp only at hSw); (try go_simp); (try with_reducible rfl))
  (try simp only [Act.put, List.setIfInBounds_toArray, List.set_cons_zero, List.set_cons_succ])
  refine wpAnyH_take (i := 1) (oi := { dst := some 60, op := Op.load 24 (Operand.tmp 3), type := 24, pos := "law.go:71", after := #[], guard := none }) (v := ?_) rfl (by kernel_rfl) (by kernel_rfl) (by kernel_rfl) (fun _ _ _ h => h) (Or.inl ⟨by rfl, ?_⟩) (by assumption) ?_
  rotate_left
  · (intro ws hSw; (try dsimp only at hSw); (try go_simp); (try with_reducible rfl))
  (try simp only [Act.put, List.setIfInBounds_toArray, List.set_cons_zero, List.set_cons_succ])
  refine wpAnyH_take (i := 3) (oi := { dst := some 62, op := Op.load 24 (Operand.tmp 2), type := 24, pos := "law.go:71", after := #[], guard := none }) (v := ?_) rfl (by kernel_rfl) (by kernel_rfl) (by kernel_rfl) (fun _ _ _ h => h) (Or.inl ⟨by rfl, ?_⟩) (by assumption) ?_
  rotate_left
  · (intro ws hSw; (try dsimp only at hSw); (try go_simp); (try with_reducible rfl))
  (try simp only [Act.put, List.setIfInBounds_toArray, List.set_cons_zero, List.set_cons_succ])
  refine wpAnyH_take (i := 4) (oi := { dst := some 63, op := Op.load 24 (Operand.tmp 3), type := 24, pos := "law.go:71", after := #[], guard := none }) (v := ?_) rfl (by kernel_rfl) (by kernel_rfl) (by kernel_rfl) (fun _ _ _ h => h) (Or.inl ⟨by rfl, ?_⟩) (by assumption) ?_
  rotate_left
  · (intro ws hSw; (try dsimp only at hSw); (try go_simp); (try with_reducible rfl))
  (try simp only [Act.put, List.setIfInBounds_toArray, List.set_cons_zero, List.set_cons_succ])
  refine wpAnyH_ready (rs := [2]) (by kernel_rfl) (by simp) ?_
  refine AllReadyH.cons (o := { dst := some 61, op := Op.call { callee := Callee.value (Operand.func 26), args := #[Operand.tmp 59, Operand.tmp 60], argTypes := #[24, 24] }, type := 3, pos := "law.go:71", after := #[{ on := 0, ground := Ground.data }, { on := 1, ground := Ground.data }], guard := none }) rfl (fun K hK => ?_) AllReadyH.nil
  go_simp
  have hc := cmp_any A B' _ _ c d a b _ HXA_0.out.num HXB_0.out.num hn hm
  rw [bothC_yes H1.out H2.out] at hc
  rw [OD.out] at hc
  refine hc.mono ?_
  clear hc
  rintro e w10_1 ⟨rfl, hb⟩
  have HXA_1 := hid (HXA_0.out.below hb)
  have HXB_1 := hid (HXB_0.out.below hb)
  have HX1_1 := hid (HX1_0.out.below hb)
  have HX3_1 := hid (HX3_0.out.below hb)
  have HX2_1 := hid (HX2_0.out.below hb)
  have qXA_1 := HXA_1.out.cell
  have qXB_1 := HXB_1.out.cell
  have qX1_1 := HX1_1.out.cell
  have qX3_1 := HX3_1.out.cell
  have WD_1 := hid (WDr.out.trans (hb.mono WDr.out.size))
  clear hb
  refine hK.out _ _ (⟨qXA_1, qXB_1, qX1_1, qX3_1⟩) (fun hHeld2 => ?_)
  clear hK K hHeld
  have hHeld := hHeld2
  clear hHeld2
  (try simp only [Act.put, List.setIfInBounds_toArray, List.set_cons_zero, List.set_cons_succ])
  refine wpAnyH_ready (rs := [5]) (by kernel_rfl) (by simp) ?_
  refine AllReadyH.cons (o := { dst := some 64, op := Op.call { callee := Callee.value (Operand.func 28), args := #[Operand.tmp 62, Operand.tmp 63], argTypes := #[24, 24] }, type := 3, pos := "law.go:71", after := #[{ on := 3, ground := Ground.data }, { on := 4, ground := Ground.data }, { on := 2, ground := Ground.chain }], guard := none }) rfl (fun K hK => ?_) AllReadyH.nil
  go_simp
  have hc := rcompare_any A B' _ _ c d a b _ HXA_1.out.num HXB_1.out.num hn1 hm1
  rw [OD.out] at hc
  refine hc.mono ?_
  clear hc
  rintro e w10_2 ⟨rfl, hb⟩
  have HXA_2 := hid (HXA_1.out.below hb)
  have HXB_2 := hid (HXB_1.out.below hb)
  have HX1_2 := hid (HX1_1.out.below hb)
  have HX3_2 := hid (HX3_1.out.below hb)
  have HX2_2 := hid (HX2_1.out.below hb)
  have qXA_2 := HXA_2.out.cell
  have qXB_2 := HXB_2.out.cell
  have qX1_2 := HX1_2.out.cell
  have qX3_2 := HX3_2.out.cell
  have WD_2 := hid (WD_1.out.trans (hb.mono WD_1.out.size))
  clear hb
  refine hK.out _ _ (⟨qXA_2, qXB_2, qX1_2, qX3_2⟩) (fun hHeld5 => ?_)
  clear hK K hHeld
  have hHeld := hHeld5
  clear hHeld5
  (try simp only [Act.put, List.setIfInBounds_toArray, List.set_cons_zero, List.set_cons_succ])
  refine wpAnyH_take (i := 6) (oi := { dst := some 65, op := Op.binOp BinOp.neq 3 (Operand.tmp 61) (Operand.tmp 64) 3, type := 4, pos := "law.go:71", after := #[{ on := 2, ground := Ground.data }, { on := 5, ground := Ground.data }], guard := none }) (v := ?_) rfl (by kernel_rfl) (by kernel_rfl) (by kernel_rfl) (fun _ _ _ h => h) (Or.inl ⟨by rfl, ?_⟩) (by assumption) ?_
  rotate_left
  · (intro ws hSw; (try dsimp only at hSw); (try go_simp); (try with_reducible rfl))
  (try simp only [Act.put, List.setIfInBounds_toArray, List.set_cons_zero, List.set_cons_succ])
  refine wpAnyH_take (i := 7) (oi := { dst := some 66, op := Op.move (Operand.tmp 65), type := 4, pos := "law.go:71", after := #[{ on := 6, ground := Ground.data }, { on := 5, ground := Ground.chain }], guard := none }) (v := ?_) rfl (by kernel_rfl) (by kernel_rfl) (by kernel_rfl) (fun _ _ _ h => h) (Or.inl ⟨by rfl, ?_⟩) (by assumption) ?_
  rotate_left
  · (intro ws hSw; (try dsimp only at hSw); (try go_simp); (try with_reducible rfl))
  (try simp only [Act.put, List.setIfInBounds_toArray, List.set_cons_zero, List.set_cons_succ])
  refine wpAnyH_take (i := 8) (oi := { dst := some 67, op := Op.load 24 (Operand.tmp 5), type := 24, pos := "law.go:71", after := #[{ on := 7, ground := Ground.guard }], guard := some (7, false) }) (v := ?_) rfl (by kernel_rfl) (by kernel_rfl) (by kernel_rfl) (fun _ _ _ h => h) (Or.inl ⟨by rfl, ?_⟩) (by assumption) ?_
  rotate_left
  · (intro ws hSw; (try dsimp only at hSw); (try go_simp); (try with_reducible rfl))
  (try simp only [Act.put, List.setIfInBounds_toArray, List.set_cons_zero, List.set_cons_succ])
  refine wpAnyH_take (i := 9) (oi := { dst := some 68, op := Op.move (Operand.tmp 6), type := 28, pos := "law.go:71", after := #[{ on := 7, ground := Ground.guard }], guard := some (7, false) }) (v := ?_) rfl (by kernel_rfl) (by kernel_rfl) (by kernel_rfl) (fun _ _ _ h => h) (Or.inl ⟨by rfl, ?_⟩) (by assumption) ?_
  rotate_left
  · (intro ws hSw; (try dsimp only at hSw); (try go_simp); (try with_reducible rfl))
  (try simp only [Act.put, List.setIfInBounds_toArray, List.set_cons_zero, List.set_cons_succ])
  refine wpAnyH_take (i := 10) (oi := { dst := some 69, op := Op.load 24 (Operand.tmp 9), type := 24, pos := "law.go:71", after := #[{ on := 7, ground := Ground.guard }], guard := some (7, false) }) (v := ?_) rfl (by kernel_rfl) (by kernel_rfl) (by kernel_rfl) (fun _ _ _ h => h) (Or.inl ⟨by rfl, ?_⟩) (by assumption) ?_
  rotate_left
  · (intro ws hSw; (try dsimp only at hSw); (try go_simp); (try with_reducible rfl))
  (try simp only [Act.put, List.setIfInBounds_toArray, List.set_cons_zero, List.set_cons_succ])
  refine wpAnyH_take (i := 11) (oi := { dst := some 70, op := Op.move (Operand.tmp 10), type := 3, pos := "law.go:71", after := #[{ on := 7, ground := Ground.guard }], guard := some (7, false) }) (v := ?_) rfl (by kernel_rfl) (by kernel_rfl) (by kernel_rfl) (fun _ _ _ h => h) (Or.inl ⟨by rfl, ?_⟩) (by assumption) ?_
  rotate_left
  · (intro ws hSw; (try dsimp only at hSw); (try go_simp); (try with_reducible rfl))
  (try simp only [Act.put, List.setIfInBounds_toArray, List.set_cons_zero, List.set_cons_succ])
  refine wpAnyH_ready (rs := [12]) (by kernel_rfl) (by simp) ?_
  refine AllReadyH.cons (o := { dst := some 71, op := Op.call { callee := Callee.value (Operand.func 17), args := #[Operand.tmp 67, Operand.tmp 68, Operand.tmp 69, Operand.tmp 70], argTypes := #[24, 28, 24, 3] }, type := 4, pos := "law.go:71", after := #[{ on := 8, ground := Ground.data }, { on := 9, ground := Ground.data }, { on := 10, ground := Ground.data }, { on := 11, ground := Ground.data }, { on := 7, ground := Ground.chain }, { on := 7, ground := Ground.guard }], guard := some (7, false) }) rfl (fun K hK => ?_) AllReadyH.nil
  go_simp
  have hc := is_any D1 D3 _ _ d1 d3 l1 l1 l2 l2 _ HX1_2.out.num HX3_2.out.num (by omega) (by omega)
  rw [is_self] at hc
  refine hc.mono ?_
  clear hc
  rintro e w10_3 ⟨rfl, hb⟩
  have HXA_3 := hid (HXA_2.out.below hb)
  have HXB_3 := hid (HXB_2.out.below hb)
  have HX1_3 := hid (HX1_2.out.below hb)
  have HX3_3 := hid (HX3_2.out.below hb)
  have HX2_3 := hid (HX2_2.out.below hb)
  have qXA_3 := HXA_3.out.cell
  have qXB_3 := HXB_3.out.cell
  have qX1_3 := HX1_3.out.cell
  have qX3_3 := HX3_3.out.cell
  have WD_3 := hid (WD_2.out.trans (hb.mono WD_2.out.size))
  clear hb
  refine hK.out _ _ (⟨qXA_3, qXB_3, qX1_3, qX3_3⟩) (fun hHeld12 => ?_)
  clear hK K hHeld
  have hHeld := hHeld12
  clear hHeld12
  (try simp only [Act.put, List.setIfInBounds_toArray, List.set_cons_zero, List.set_cons_succ])
  refine wpAnyH_take (i := 13) (oi := { dst := some 72, op := Op.unOp UnOp.not 4 (Operand.tmp 71), type := 4, pos := "law.go:71", after := #[{ on := 12, ground := Ground.data }, { on := 7, ground := Ground.guard }], guard := some (7, false) }) (v := ?_) rfl (by kernel_rfl) (by kernel_rfl) (by kernel_rfl) (fun _ _ _ h => h) (Or.inl ⟨by rfl, ?_⟩) (by assumption) ?_
  rotate_left
  · (intro ws hSw; (try dsimp only at hSw); (try go_simp); (try with_reducible rfl))
  (try simp only [Act.put, List.setIfInBounds_toArray, List.set_cons_zero, List.set_cons_succ])
  refine wpAnyH_take (i := 14) (oi := { dst := some 73, op := Op.pick (Operand.tmp 66) (Operand.const (Value.bool true)) (Operand.tmp 72), type := 4, pos := "law.go:71", after := #[{ on := 7, ground := Ground.data }, { on := 13, ground := Ground.data }], guard := none }) (v := ?_) rfl (by kernel_rfl) (by kernel_rfl) (by kernel_rfl) (fun _ _ _ h => h) (Or.inl ⟨by rfl, ?_⟩) (by assumption) ?_
  rotate_left
  · (intro ws hSw; (try dsimp only at hSw); (try go_simp); (try with_reducible rfl))
  (try simp only [Act.put, List.setIfInBounds_toArray, List.set_cons_zero, List.set_cons_succ])
  refine wpAnyH_done (by kernel_rfl) ?_ _
  clear hHeld
  clear kXA kXB kX1 kX3 qXA_1 qXB_1 qX1_1 qX3_1 qXA_2 qXB_2 qX1_2 qX3_2 qXA_3 qXB_3 qX1_3 qX3_3
  have XA := HXA_3.out
  have XB := HXB_3.out
  have X1 := HX1_3.out
  have X3 := HX3_3.out
  have X2 := HX2_3.out
  have WW := WD_3.out
  clear HXA_0 HXB_0 HX1_0 HX3_0 HX2_0 HXA_1 HXB_1 HX1_1 HX3_1 HX2_1 HXA_2 HXB_2 HX1_2 HX3_2 HX2_2 HXA_3 HXB_3 HX1_3 HX3_3 HX2_3 WDr WD_1 WD_2 WD_3
  have kXA := XA.cell
  have zXA := XA.lt
  have kXB := XB.cell
  have zXB := XB.lt
  have kX1 := X1.cell
  have zX1 := X1.lt
  have kX3 := X3.cell
  have zX3 := X3.lt
  have kX2 := X2.cell
  have zX2 := X2.lt
  go_wp2_with fail
  have hc := rcompare_any A B' _ _ c d a b w10_3 XA.num XB.num hn1 hm1
  rw [OD.out] at hc
  refine hc.mono ?_
  clear hc
  rintro e V12 ⟨rfl, hb⟩
  clear kXA zXA kXB zXB kX1 zX1 kX3 zX3 kX2 zX2
  replace XA := XA.below hb
  replace XB := XB.below hb
  replace X1 := X1.below hb
  replace X3 := X3.below hb
  replace X2 := X2.below hb
  replace WW := WW.trans (hb.mono WW.size)
  have kXA := XA.cell
  have zXA := XA.lt
  have kXB := XB.cell
  have zXB := XB.lt
  have kX1 := X1.cell
  have zX1 := X1.lt
  have kX3 := X3.cell
  have zX3 := X3.lt
  have kX2 := X2.cell
  have zX2 := X2.lt
  clear hb
  go_wp2_with fail
  clear X1 X3 kX1 zX1 kX3 zX3
  have WDr := hid WW.drew
  have HXA_0 := hid XA.drew
  have HXB_0 := hid XB.drew
  have HX2_0 := hid X2.drew
  clear zXA zXB zX2
  clear WW XA XB X2
  refine wp_region_held_drew (S := (fun w' => w'.cell? ⟨w.heap.size, 0, none⟩ = some ((.slice A (nw a) c)) ∧ w'.cell? ⟨w.heap.size + 1, 0, none⟩ = some ((.slice B' (nw b) d)) ∧ w'.cell? ⟨V5.heap.size, 0, none⟩ = some ((.slice D2 (nw e) d2)))) (by kernel_rfl) (⟨kXA, kXB, kX2⟩) (fun hHeld => ?_)
  refine wpAnyH_take (i := 0) (oi := { dst := some 82, op := Op.load 24 (Operand.tmp 7), type := 24, pos := "law.go:77", after := #[], guard := none }) (v := ?_) rfl (by kernel_rfl) (by kernel_rfl) (by kernel_rfl) (fun _ _ _ h => h) (Or.inl ⟨by rfl, ?_⟩) (by assumption) ?_
  rotate_left
  · (intro ws hSw; (try dsimp only at hSw); (try go_simp); (try with_reducible rfl))
  (try simp only [Act.put, List.setIfInBounds_toArray, List.set_cons_zero, List.set_cons_succ])
  refine wpAnyH_take (i := 1) (oi := { dst := some 83, op := Op.move (Operand.tmp 8), type := 28, pos := "law.go:77", after := #[], guard := none }) (v := ?_) rfl (by kernel_rfl) (by kernel_rfl) (by kernel_rfl) (fun _ _ _ h => h) (Or.inl ⟨by rfl, ?_⟩) (by assumption) ?_
  rotate_left
  · (intro ws hSw; (try dsimp only at hSw); (try go_simp); (try with_reducible rfl))
  (try simp only [Act.put, List.setIfInBounds_toArray, List.set_cons_zero, List.set_cons_succ])
  refine wpAnyH_take (i := 2) (oi := { dst := some 84, op := Op.load 24 (Operand.tmp 2), type := 24, pos := "law.go:77", after := #[], guard := none }) (v := ?_) rfl (by kernel_rfl) (by kernel_rfl) (by kernel_rfl) (fun _ _ _ h => h) (Or.inl ⟨by rfl, ?_⟩) (by assumption) ?_
  rotate_left
  · (intro ws hSw; (try dsimp only at hSw); (try go_simp); (try with_reducible rfl))
  (try simp only [Act.put, List.setIfInBounds_toArray, List.set_cons_zero, List.set_cons_succ])
  refine wpAnyH_take (i := 3) (oi := { dst := some 85, op := Op.load 24 (Operand.tmp 3), type := 24, pos := "law.go:77", after := #[], guard := none }) (v := ?_) rfl (by kernel_rfl) (by kernel_rfl) (by kernel_rfl) (fun _ _ _ h => h) (Or.inl ⟨by rfl, ?_⟩) (by assumption) ?_
  rotate_left
  · (intro ws hSw; (try dsimp only at hSw); (try go_simp); (try with_reducible rfl))
  (try simp only [Act.put, List.setIfInBounds_toArray, List.set_cons_zero, List.set_cons_succ])
  refine wpAnyH_ready (rs := [4]) (by kernel_rfl) (by simp) ?_
  refine AllReadyH.cons (o := { dst := some 86, op := Op.call { callee := Callee.value (Operand.func 29), args := #[Operand.tmp 84, Operand.tmp 85], argTypes := #[24, 24] }, type := 24, pos := "law.go:77", after := #[{ on := 2, ground := Ground.data }, { on := 3, ground := Ground.data }], guard := none }) rfl (fun K hK => ?_) AllReadyH.nil
  go_simp
  have hc := rsub_any A B' _ _ c d a b (V12.drew) HXA_0.out.num HXB_0.out.num (by omega) (by omega) hle
  rw [← HE.out] at hc
  refine hc.mono ?_
  clear hc
  rintro e w12_1 ⟨v, rfl, hv, hb⟩
  obtain ⟨DY, dY, rfl, hv'⟩ := hv.open_
  have NY_1 := hid hv'
  clear hv hv'
  have HXA_1 := hid (HXA_0.out.below hb)
  have HXB_1 := hid (HXB_0.out.below hb)
  have HX2_1 := hid (HX2_0.out.below hb)
  have qXA_1 := HXA_1.out.cell
  have qXB_1 := HXB_1.out.cell
  have qX2_1 := HX2_1.out.cell
  have WD_1 := hid (WDr.out.trans (hb.mono WDr.out.size))
  clear hb
  refine hK.out _ _ (⟨qXA_1, qXB_1, qX2_1⟩) (fun hHeld4 => ?_)
  clear hK K hHeld
  have hHeld := hHeld4
  clear hHeld4
  (try simp only [Act.put, List.setIfInBounds_toArray, List.set_cons_zero, List.set_cons_succ])
  refine wpAnyH_ready (rs := [5]) (by kernel_rfl) (by simp) ?_
  refine AllReadyH.cons (o := { dst := some 87, op := Op.call { callee := Callee.value (Operand.func 17), args := #[Operand.tmp 82, Operand.tmp 83, Operand.tmp 86, Operand.const (Value.int IntKind.i64 0)], argTypes := #[24, 28, 24, 3] }, type := 4, pos := "law.go:77", after := #[{ on := 0, ground := Ground.data }, { on := 1, ground := Ground.data }, { on := 4, ground := Ground.data }, { on := 4, ground := Ground.chain }], guard := none }) rfl (fun K hK => ?_) AllReadyH.nil
  go_simp
  have hc := is_any D2 DY _ _ d2 dY e e 0 0 _ HX2_1.out.num NY_1.out (by omega) (by omega)
  rw [is_self] at hc
  refine hc.mono ?_
  clear hc
  rintro e w12_2 ⟨rfl, hb⟩
  have HXA_2 := hid (HXA_1.out.below hb)
  have HXB_2 := hid (HXB_1.out.below hb)
  have HX2_2 := hid (HX2_1.out.below hb)
  have qXA_2 := HXA_2.out.cell
  have qXB_2 := HXB_2.out.cell
  have qX2_2 := HX2_2.out.cell
  have NY_2 := hid ((NY_1.out.below hb).more hb.size)
  have WD_2 := hid (WD_1.out.trans (hb.mono WD_1.out.size))
  clear hb
  refine hK.out _ _ (⟨qXA_2, qXB_2, qX2_2⟩) (fun hHeld5 => ?_)
  clear hK K hHeld
  have hHeld := hHeld5
  clear hHeld5
  (try simp only [Act.put, List.setIfInBounds_toArray, List.set_cons_zero, List.set_cons_succ])
  refine wpAnyH_take (i := 6) (oi := { dst := some 4, op := Op.assign (Operand.tmp 87), type := 4, pos := "law.go:77", after := #[{ on := 5, ground := Ground.data }, { on := 5, ground := Ground.chain }, { on := 0, ground := Ground.phase }, { on := 1, ground := Ground.phase }, { on := 2, ground := Ground.phase }, { on := 3, ground := Ground.phase }, { on := 4, ground := Ground.phase }, { on := 5, ground := Ground.phase }], guard := none }) (v := ?_) rfl (by kernel_rfl) (by kernel_rfl) (by kernel_rfl) (fun _ _ _ h => h) (Or.inl ⟨by rfl, ?_⟩) (by assumption) ?_
  rotate_left
  · (intro ws hSw; (try dsimp only at hSw); (try go_simp); (try with_reducible rfl))
  (try simp only [Act.put, List.setIfInBounds_toArray, List.set_cons_zero, List.set_cons_succ])
  refine wpAnyH_done (by kernel_rfl) ?_ _
  clear hHeld
  clear kXA kXB kX2 qXA_1 qXB_1 qX2_1 qXA_2 qXB_2 qX2_2
  have XA := HXA_2.out
  have XB := HXB_2.out
  have X2 := HX2_2.out
  have WW := WD_2.out
  clear HXA_0 HXB_0 HX2_0 HXA_1 HXB_1 HX2_1 HXA_2 HXB_2 HX2_2 WDr WD_1 WD_2
  have kXA := XA.cell
  have zXA := XA.lt
  have kXB := XB.cell
  have zXB := XB.lt
  have kX2 := X2.cell
  have zX2 := X2.lt
  go_wp2_with fail
  go_ret
  exact ⟨rfl, WW⟩

theorem naturalSums_walk (A B' : Option Addr) (n m c d a b : Nat) (w : World) (hA : Num w w.heap.size A n a) (hB : Num w w.heap.size B' m b) (hn : n ≤ 9223372036854775807) (hm : m ≤ 9223372036854775807) :
    Calls Try.prog 4 #[.agg #[.slice A n c], .agg #[.slice B' m d]] w (RetB (.bool true) w) := by
  by_cases hg : 100 < n ∨ 100 < m
  · have HG := hid (decide_eq_true hg)
    clear hg
    obtain ⟨b0, b1, bw⟩ := boxes2 w (.slice A n c) (.slice B' m d)
    have XA := Box.mk b0 hA bw
    have XB := Box.mk b1 hB bw
    have WW := bw
    clear bw b0 b1
    go_enter Try.func4, Try.ntmps4
    go_wp2_with fail
    generalize hV : ((w.alloc (.cells #[.slice A n c] 24)).alloc (.cells #[.slice B' m d] 24)) = V0 at XA XB WW ⊢
    clear hV
    have hc := awake_any V0
    refine hc.mono ?_
    clear hc
    rintro e V1 ⟨rfl, hb⟩
    replace XA := XA.below hb
    replace XB := XB.below hb
    replace WW := WW.trans (hb.mono WW.size)
    have kXA := XA.cell
    have zXA := XA.lt
    have kXB := XB.cell
    have zXB := XB.lt
    clear hb
    go_wp2_with fail
    have hc := great_2 V1 A B' _ c _ d hn hm
    rw [HG.out] at hc
    refine hc.mono ?_
    clear hc
    rintro e V2 ⟨rfl, hb⟩
    clear kXA zXA kXB zXB
    replace XA := XA.below hb
    replace XB := XB.below hb
    replace WW := WW.trans (hb.mono WW.size)
    have kXA := XA.cell
    have zXA := XA.lt
    have kXB := XB.cell
    have zXB := XB.lt
    clear hb
    go_wp2_with fail
    go_ret
    exact ⟨rfl, WW⟩
  · cases h1 : okB n a
    · exact sums_bad1 A B' n m c d a b w hA hB (by omega) (by omega) h1
    · cases h2 : okB m b
      · exact sums_bad2 A B' n m c d a b w hA hB (by omega) (by omega) h1 h2
      · obtain ⟨hna, hn1⟩ := okB_yes.1 h1
        obtain ⟨hmb, hm1⟩ := okB_yes.1 h2
        subst hna hmb
        by_cases h : a < b
        · exact sums_lt A B' c d a b w hA hB hn1 hm1 h
        · exact sums_ge A B' c d a b w hA hB hn1 hm1 h

end Go.Proofs.Ytlhfaaghfhiaoaa
