/- NaturalRing: the walk, part 4 of its cases. -/
import Derived.Test.YtlhfaaghfhiaoaaLRingH
set_option linter.unusedVariables false
set_option linter.unusedSimpArgs false
namespace Go.Proofs.Ytlhfaaghfhiaoaa
open Go.RowKit

set_option maxHeartbeats 4000000 in
set_option maxRecDepth 100000 in
theorem ring_4 (A B' C' : Option Addr) (ca cb cc a b c : Nat) (w : World) (hA : Num w w.heap.size A (nw a) a) (hB : Num w w.heap.size B' (nw b) b) (hC : Num w w.heap.size C' (nw c) c) (ha : nw a ≤ 64) (hb : nw b ≤ 64) (hc : nw c ≤ 64) (s1 : nw (a + b) ≤ 64) (s2 : ¬ nw (b + c) ≤ 64) (p1 : ¬ nw (a * b) ≤ 64) (m : nw ((a + b) * c) ≤ 64) :
    Calls Try.prog 6 #[.agg #[.slice A (nw a) ca], .agg #[.slice B' (nw b) cb], .agg #[.slice C' (nw c) cc]] w (RetB (.bool true) w) := by
  have HG : Hid (decide (100 < nw a ∨ 100 < nw b ∨ 100 < nw c) = false) := decide_eq_false (by omega)
  have HA := hid (okB_nw ha)
  have HB := hid (okB_nw hb)
  have HC := hid (okB_nw hc)
  have hz0 : nw 0 ≤ 64 := by simp [nw_zero]
  have L1 := hid (limS_ok s1)
  have L1' : Hid (limS (b + a) = (a + b, 0)) := by show _ = _; rw [Nat.add_comm b a]; exact L1.out
  have O1 := hid (okB_nw s1)
  have LB : Hid (subS (a + b) b = (a, 0)) := by show _ = _; rw [subS_yes (by omega), Nat.add_sub_cancel]
  have L2 := hid (limS_big s2)
  obtain ⟨v3, e3, L3, b3⟩ := limS_some (a + b + c)
  have L4 := hid (limS_big p1)
  have L4' : Hid (limS (b * a) = (0, 9)) := by show _ = _; rw [Nat.mul_comm b a]; exact L4.out
  obtain ⟨u, hu⟩ : ∃ u, u = 1 := ⟨_, rfl⟩
  have LO : Hid (ofS 1 = (u, 0)) := by show _ = _; rw [hu]; exact ofS_nat 1
  have hu1 : nw u ≤ 64 := Nat.le_trans (nw_le (n := 1) (by rw [hu]; decide)) (by omega)
  have OU := hid (okB_nw hu1)
  have LU : Hid (limS (a * u) = (a, 0)) := by show _ = _; rw [hu, Nat.mul_one]; exact limS_ok ha
  have OZ : Hid (okB 0 0 = true) := okB_nw (a := 0) (by simp [nw_zero])
  have LZ : Hid (limS (a + 0) = (a, 0)) := limS_ok ha
  have L7 := hid (limS_ok m)
  have h8 : nw (a * c) ≤ 64 := Nat.le_trans (nw_mono (Nat.mul_le_mul_right _ (Nat.le_add_right a b))) m
  have h9 : nw (b * c) ≤ 64 := Nat.le_trans (nw_mono (Nat.mul_le_mul_right _ (Nat.le_add_left b a))) m
  have L8 := hid (limS_ok h8)
  have L9 := hid (limS_ok h9)
  have O8 := hid (okB_nw h8)
  have O9 := hid (okB_nw h9)
  have LF : Hid (limS (a * c + b * c) = ((a + b) * c, 0)) := by show _ = _; rw [← Nat.add_mul]; exact L7.out
  clear hu
  obtain ⟨b0, b1, b2, bw⟩ := boxes3 w (.slice A (nw a) ca) (.slice B' (nw b) cb) (.slice C' (nw c) cc)
  have XA := Box.mk b0 hA bw
  have XB := Box.mk b1 hB bw
  have XC := Box.mk b2 hC bw
  have WW := bw
  clear bw b0 b1 b2
  go_enter Try.func6, Try.ntmps6
  go_wp2_with fail
  generalize hV : (((w.alloc (.cells #[.slice A (nw a) ca] 24)).alloc (.cells #[.slice B' (nw b) cb] 24)).alloc (.cells #[.slice C' (nw c) cc] 24)) = V0 at XA XB XC WW ⊢
  clear hV
  have hc := awake_any V0
  refine hc.mono ?_
  clear hc
  rintro e V1 ⟨rfl, hb⟩
  replace XA := XA.below hb
  replace XB := XB.below hb
  replace XC := XC.below hb
  replace WW := WW.trans (hb.mono WW.size)
  have kXA := XA.cell
  have zXA := XA.lt
  have kXB := XB.cell
  have zXB := XB.lt
  have kXC := XC.cell
  have zXC := XC.lt
  clear hb
  go_wp2_with fail
  have hc := great_3 V1 A B' C' (nw a) ca (nw b) cb (nw c) cc (by omega) (by omega) (by omega)
  rw [HG.out] at hc
  refine hc.mono ?_
  clear hc
  rintro e V2 ⟨rfl, hb⟩
  clear kXA zXA kXB zXB kXC zXC
  replace XA := XA.below hb
  replace XB := XB.below hb
  replace XC := XC.below hb
  replace WW := WW.trans (hb.mono WW.size)
  have kXA := XA.cell
  have zXA := XA.lt
  have kXB := XB.cell
  have zXB := XB.lt
  have kXC := XC.cell
  have zXC := XC.lt
  clear hb
  go_wp2_with fail
  have hc := rvalid_any A _ ca a _ V2 XA.num (Nat.le_refl _) (by omega)
  rw [HA.out] at hc
  refine hc.mono ?_
  clear hc
  rintro e V3 ⟨rfl, hb⟩
  clear kXA zXA kXB zXB kXC zXC
  replace XA := XA.below hb
  replace XB := XB.below hb
  replace XC := XC.below hb
  replace WW := WW.trans (hb.mono WW.size)
  have kXA := XA.cell
  have zXA := XA.lt
  have kXB := XB.cell
  have zXB := XB.lt
  have kXC := XC.cell
  have zXC := XC.lt
  clear hb
  go_wp2_with fail
  have hc := rvalid_any B' _ cb b _ V3 XB.num (Nat.le_refl _) (by omega)
  rw [HB.out] at hc
  refine hc.mono ?_
  clear hc
  rintro e V4 ⟨rfl, hb⟩
  clear kXA zXA kXB zXB kXC zXC
  replace XA := XA.below hb
  replace XB := XB.below hb
  replace XC := XC.below hb
  replace WW := WW.trans (hb.mono WW.size)
  have kXA := XA.cell
  have zXA := XA.lt
  have kXB := XB.cell
  have zXB := XB.lt
  have kXC := XC.cell
  have zXC := XC.lt
  clear hb
  go_wp2_with fail
  have hc := rvalid_any C' _ cc c _ V4 XC.num (Nat.le_refl _) (by omega)
  rw [HC.out] at hc
  refine hc.mono ?_
  clear hc
  rintro e V5 ⟨rfl, hb⟩
  clear kXA zXA kXB zXB kXC zXC
  replace XA := XA.below hb
  replace XB := XB.below hb
  replace XC := XC.below hb
  replace WW := WW.trans (hb.mono WW.size)
  have kXA := XA.cell
  have zXA := XA.lt
  have kXB := XB.cell
  have zXB := XB.lt
  have kXC := XC.cell
  have zXC := XC.lt
  clear hb
  go_wp2_with fail
  have hc := add_any A B' _ _ ca cb a b V5 XA.num XB.num (by omega) (by omega)
  rw [bothS_yes HA.out HB.out] at hc
  rw [L1.out] at hc
  refine hc.mono ?_
  clear hc
  rintro e V6 ⟨v, rfl, hv, hb⟩
  clear kXA zXA kXB zXB kXC zXC
  replace XA := XA.below hb
  replace XB := XB.below hb
  replace XC := XC.below hb
  replace WW := WW.trans (hb.mono WW.size)
  obtain ⟨D1, d1, rfl, hv'⟩ := hv.open_
  clear hv
  have kXA := XA.cell
  have zXA := XA.lt
  have kXB := XB.cell
  have zXB := XB.lt
  have kXC := XC.cell
  have zXC := XC.lt
  clear hb
  go_wp2_with fail
  obtain ⟨b0, bw⟩ := boxes1 V6 (.slice D1 (nw (a + b)) d1)
  clear kXA zXA kXB zXB kXC zXC
  replace XA := XA.below bw
  replace XB := XB.below bw
  replace XC := XC.below bw
  have X1 := Box.mk b0 hv' bw
  replace WW := WW.trans (bw.mono WW.size)
  clear bw b0 hv'
  generalize hV : (V6.alloc (.cells #[.slice D1 (nw (a + b)) d1] 24)) = V7 at XA XB XC X1 WW ⊢
  clear hV
  have kXA := XA.cell
  have zXA := XA.lt
  have kXB := XB.cell
  have zXB := XB.lt
  have kXC := XC.cell
  have zXC := XC.lt
  have kX1 := X1.cell
  have zX1 := X1.lt
  have hc := add_any B' A _ _ cb ca b a V7 XB.num XA.num (by omega) (by omega)
  rw [bothS_yes HB.out HA.out] at hc
  rw [L1'.out] at hc
  refine hc.mono ?_
  clear hc
  rintro e V8 ⟨v, rfl, hv, hb⟩
  clear kXA zXA kXB zXB kXC zXC kX1 zX1
  replace XA := XA.below hb
  replace XB := XB.below hb
  replace XC := XC.below hb
  replace X1 := X1.below hb
  replace WW := WW.trans (hb.mono WW.size)
  obtain ⟨D2, d2, rfl, hv'⟩ := hv.open_
  clear hv
  have kXA := XA.cell
  have zXA := XA.lt
  have kXB := XB.cell
  have zXB := XB.lt
  have kXC := XC.cell
  have zXC := XC.lt
  have kX1 := X1.cell
  have zX1 := X1.lt
  clear hb
  go_wp2_with fail
  obtain ⟨b0, bw⟩ := boxes1 V8 (.slice D2 (nw (a + b)) d2)
  clear kXA zXA kXB zXB kXC zXC kX1 zX1
  replace XA := XA.below bw
  replace XB := XB.below bw
  replace XC := XC.below bw
  replace X1 := X1.below bw
  have X2 := Box.mk b0 hv' bw
  replace WW := WW.trans (bw.mono WW.size)
  clear bw b0 hv'
  generalize hV : (V8.alloc (.cells #[.slice D2 (nw (a + b)) d2] 24)) = V9 at XA XB XC X1 X2 WW ⊢
  clear hV
  have kXA := XA.cell
  have zXA := XA.lt
  have kXB := XB.cell
  have zXB := XB.lt
  have kXC := XC.cell
  have zXC := XC.lt
  have kX1 := X1.cell
  have zX1 := X1.lt
  have kX2 := X2.cell
  have zX2 := X2.lt
  have hc := same_any D1 D2 _ _ d1 d2 (a + b) (a + b) V9 X1.num X2.num (by omega) (by omega)
  rw [sameB_yes] at hc
  refine hc.mono ?_
  clear hc
  rintro e V10 ⟨rfl, hb⟩
  clear kXA zXA kXB zXB kXC zXC kX1 zX1 kX2 zX2
  replace XA := XA.below hb
  replace XB := XB.below hb
  replace XC := XC.below hb
  replace X1 := X1.below hb
  replace X2 := X2.below hb
  replace WW := WW.trans (hb.mono WW.size)
  have kXA := XA.cell
  have zXA := XA.lt
  have kXB := XB.cell
  have zXB := XB.lt
  have kXC := XC.cell
  have zXC := XC.lt
  have kX1 := X1.cell
  have zX1 := X1.lt
  have kX2 := X2.cell
  have zX2 := X2.lt
  clear hb
  go_wp2_with fail
  have hc := sub_any D1 B' _ _ d1 cb (a + b) b V10 X1.num XB.num (by omega) (by omega)
  rw [bothS_yes O1.out HB.out] at hc
  rw [LB.out] at hc
  refine hc.mono ?_
  clear hc
  rintro e V11 ⟨v, rfl, hv, hb⟩
  clear kXA zXA kXB zXB kXC zXC kX1 zX1 kX2 zX2
  replace XA := XA.below hb
  replace XB := XB.below hb
  replace XC := XC.below hb
  replace X1 := X1.below hb
  replace X2 := X2.below hb
  replace WW := WW.trans (hb.mono WW.size)
  obtain ⟨D3, d3, rfl, hv'⟩ := hv.open_
  clear hv
  have kXA := XA.cell
  have zXA := XA.lt
  have kXB := XB.cell
  have zXB := XB.lt
  have kXC := XC.cell
  have zXC := XC.lt
  have kX1 := X1.cell
  have zX1 := X1.lt
  have kX2 := X2.cell
  have zX2 := X2.lt
  clear hb
  go_wp2_with fail
  obtain ⟨b0, bw⟩ := boxes1 V11 (.slice D3 (nw a) d3)
  clear kXA zXA kXB zXB kXC zXC kX1 zX1 kX2 zX2
  replace XA := XA.below bw
  replace XB := XB.below bw
  replace XC := XC.below bw
  replace X1 := X1.below bw
  replace X2 := X2.below bw
  have X3 := Box.mk b0 hv' bw
  replace WW := WW.trans (bw.mono WW.size)
  clear bw b0 hv'
  generalize hV : (V11.alloc (.cells #[.slice D3 (nw a) d3] 24)) = V12 at XA XB XC X1 X2 X3 WW ⊢
  clear hV
  have kXA := XA.cell
  have zXA := XA.lt
  have kXB := XB.cell
  have zXB := XB.lt
  have kXC := XC.cell
  have zXC := XC.lt
  have kX1 := X1.cell
  have zX1 := X1.lt
  have kX2 := X2.cell
  have zX2 := X2.lt
  have kX3 := X3.cell
  have zX3 := X3.lt
  have hc := same_any D3 A _ _ d3 ca a a V12 X3.num XA.num (by omega) (by omega)
  rw [sameB_yes] at hc
  refine hc.mono ?_
  clear hc
  rintro e V13 ⟨rfl, hb⟩
  clear kXA zXA kXB zXB kXC zXC kX1 zX1 kX2 zX2 kX3 zX3
  replace XA := XA.below hb
  replace XB := XB.below hb
  replace XC := XC.below hb
  replace X1 := X1.below hb
  replace X2 := X2.below hb
  replace X3 := X3.below hb
  replace WW := WW.trans (hb.mono WW.size)
  have kXA := XA.cell
  have zXA := XA.lt
  have kXB := XB.cell
  have zXB := XB.lt
  have kXC := XC.cell
  have zXC := XC.lt
  have kX1 := X1.cell
  have zX1 := X1.lt
  have kX2 := X2.cell
  have zX2 := X2.lt
  have kX3 := X3.cell
  have zX3 := X3.lt
  clear hb
  go_wp2_with fail
  have hc := add_any B' C' _ _ cb cc b c V13 XB.num XC.num (by omega) (by omega)
  rw [bothS_yes HB.out HC.out] at hc
  rw [L2.out] at hc
  refine hc.mono ?_
  clear hc
  rintro e V14 ⟨v, rfl, hv, hb⟩
  clear kXA zXA kXB zXB kXC zXC kX1 zX1 kX2 zX2 kX3 zX3
  replace XA := XA.below hb
  replace XB := XB.below hb
  replace XC := XC.below hb
  replace X1 := X1.below hb
  replace X2 := X2.below hb
  replace X3 := X3.below hb
  replace WW := WW.trans (hb.mono WW.size)
  obtain ⟨D4, d4, rfl, hv'⟩ := hv.open_
  clear hv
  have kXA := XA.cell
  have zXA := XA.lt
  have kXB := XB.cell
  have zXB := XB.lt
  have kXC := XC.cell
  have zXC := XC.lt
  have kX1 := X1.cell
  have zX1 := X1.lt
  have kX2 := X2.cell
  have zX2 := X2.lt
  have kX3 := X3.cell
  have zX3 := X3.lt
  clear hb
  go_wp2_with fail
  obtain ⟨b0, bw⟩ := boxes1 V14 (.slice D4 (nw 0) d4)
  clear kXA zXA kXB zXB kXC zXC kX1 zX1 kX2 zX2 kX3 zX3
  replace XA := XA.below bw
  replace XB := XB.below bw
  replace XC := XC.below bw
  replace X1 := X1.below bw
  replace X2 := X2.below bw
  replace X3 := X3.below bw
  have X4 := Box.mk b0 hv' bw
  replace WW := WW.trans (bw.mono WW.size)
  clear bw b0 hv'
  generalize hV : (V14.alloc (.cells #[.slice D4 (nw 0) d4] 24)) = V15 at XA XB XC X1 X2 X3 X4 WW ⊢
  clear hV
  have kXA := XA.cell
  have zXA := XA.lt
  have kXB := XB.cell
  have zXB := XB.lt
  have kXC := XC.cell
  have zXC := XC.lt
  have kX1 := X1.cell
  have zX1 := X1.lt
  have kX2 := X2.cell
  have zX2 := X2.lt
  have kX3 := X3.cell
  have zX3 := X3.lt
  have kX4 := X4.cell
  have zX4 := X4.lt
  have hc := add_any D1 C' _ _ d1 cc (a + b) c V15 X1.num XC.num (by omega) (by omega)
  rw [bothS_yes O1.out HC.out] at hc
  rw [L3.out] at hc
  refine hc.mono ?_
  clear hc
  rintro e V16 ⟨v, rfl, hv, hb⟩
  clear kXA zXA kXB zXB kXC zXC kX1 zX1 kX2 zX2 kX3 zX3 kX4 zX4
  replace XA := XA.below hb
  replace XB := XB.below hb
  replace XC := XC.below hb
  replace X1 := X1.below hb
  replace X2 := X2.below hb
  replace X3 := X3.below hb
  replace X4 := X4.below hb
  replace WW := WW.trans (hb.mono WW.size)
  obtain ⟨D5, d5, rfl, hv'⟩ := hv.open_
  clear hv
  have kXA := XA.cell
  have zXA := XA.lt
  have kXB := XB.cell
  have zXB := XB.lt
  have kXC := XC.cell
  have zXC := XC.lt
  have kX1 := X1.cell
  have zX1 := X1.lt
  have kX2 := X2.cell
  have zX2 := X2.lt
  have kX3 := X3.cell
  have zX3 := X3.lt
  have kX4 := X4.cell
  have zX4 := X4.lt
  clear hb
  go_wp2_with fail
  obtain ⟨b0, bw⟩ := boxes1 V16 (.slice D5 (nw v3) d5)
  clear kXA zXA kXB zXB kXC zXC kX1 zX1 kX2 zX2 kX3 zX3 kX4 zX4
  replace XA := XA.below bw
  replace XB := XB.below bw
  replace XC := XC.below bw
  replace X1 := X1.below bw
  replace X2 := X2.below bw
  replace X3 := X3.below bw
  replace X4 := X4.below bw
  have X5 := Box.mk b0 hv' bw
  replace WW := WW.trans (bw.mono WW.size)
  clear bw b0 hv'
  generalize hV : (V16.alloc (.cells #[.slice D5 (nw v3) d5] 24)) = V17 at XA XB XC X1 X2 X3 X4 X5 WW ⊢
  clear hV
  have kXA := XA.cell
  have zXA := XA.lt
  have kXB := XB.cell
  have zXB := XB.lt
  have kXC := XC.cell
  have zXC := XC.lt
  have kX1 := X1.cell
  have zX1 := X1.lt
  have kX2 := X2.cell
  have zX2 := X2.lt
  have kX3 := X3.cell
  have zX3 := X3.lt
  have kX4 := X4.cell
  have zX4 := X4.lt
  have kX5 := X5.cell
  have zX5 := X5.lt
  have hc := mul_any A B' _ _ ca cb a b V17 XA.num XB.num (by omega) (by omega)
  rw [bothS_yes HA.out HB.out] at hc
  rw [L4.out] at hc
  refine hc.mono ?_
  clear hc
  rintro e V18 ⟨v, rfl, hv, hb⟩
  clear kXA zXA kXB zXB kXC zXC kX1 zX1 kX2 zX2 kX3 zX3 kX4 zX4 kX5 zX5
  replace XA := XA.below hb
  replace XB := XB.below hb
  replace XC := XC.below hb
  replace X1 := X1.below hb
  replace X2 := X2.below hb
  replace X3 := X3.below hb
  replace X4 := X4.below hb
  replace X5 := X5.below hb
  replace WW := WW.trans (hb.mono WW.size)
  obtain ⟨D6, d6, rfl, hv'⟩ := hv.open_
  clear hv
  have kXA := XA.cell
  have zXA := XA.lt
  have kXB := XB.cell
  have zXB := XB.lt
  have kXC := XC.cell
  have zXC := XC.lt
  have kX1 := X1.cell
  have zX1 := X1.lt
  have kX2 := X2.cell
  have zX2 := X2.lt
  have kX3 := X3.cell
  have zX3 := X3.lt
  have kX4 := X4.cell
  have zX4 := X4.lt
  have kX5 := X5.cell
  have zX5 := X5.lt
  clear hb
  go_wp2_with fail
  obtain ⟨b0, bw⟩ := boxes1 V18 (.slice D6 (nw 0) d6)
  clear kXA zXA kXB zXB kXC zXC kX1 zX1 kX2 zX2 kX3 zX3 kX4 zX4 kX5 zX5
  replace XA := XA.below bw
  replace XB := XB.below bw
  replace XC := XC.below bw
  replace X1 := X1.below bw
  replace X2 := X2.below bw
  replace X3 := X3.below bw
  replace X4 := X4.below bw
  replace X5 := X5.below bw
  have X7 := Box.mk b0 hv' bw
  replace WW := WW.trans (bw.mono WW.size)
  clear bw b0 hv'
  generalize hV : (V18.alloc (.cells #[.slice D6 (nw 0) d6] 24)) = V19 at XA XB XC X1 X2 X3 X4 X5 X7 WW ⊢
  clear hV
  have kXA := XA.cell
  have zXA := XA.lt
  have kXB := XB.cell
  have zXB := XB.lt
  have kXC := XC.cell
  have zXC := XC.lt
  have kX1 := X1.cell
  have zX1 := X1.lt
  have kX2 := X2.cell
  have zX2 := X2.lt
  have kX3 := X3.cell
  have zX3 := X3.lt
  have kX4 := X4.cell
  have zX4 := X4.lt
  have kX5 := X5.cell
  have zX5 := X5.lt
  have kX7 := X7.cell
  have zX7 := X7.lt
  have hc := mul_any B' A _ _ cb ca b a V19 XB.num XA.num (by omega) (by omega)
  rw [bothS_yes HB.out HA.out] at hc
  rw [L4'.out] at hc
  refine hc.mono ?_
  clear hc
  rintro e V20 ⟨v, rfl, hv, hb⟩
  clear kXA zXA kXB zXB kXC zXC kX1 zX1 kX2 zX2 kX3 zX3 kX4 zX4 kX5 zX5 kX7 zX7
  replace XA := XA.below hb
  replace XB := XB.below hb
  replace XC := XC.below hb
  replace X1 := X1.below hb
  replace X2 := X2.below hb
  replace X3 := X3.below hb
  replace X4 := X4.below hb
  replace X5 := X5.below hb
  replace X7 := X7.below hb
  replace WW := WW.trans (hb.mono WW.size)
  obtain ⟨D7, d7, rfl, hv'⟩ := hv.open_
  clear hv
  have kXA := XA.cell
  have zXA := XA.lt
  have kXB := XB.cell
  have zXB := XB.lt
  have kXC := XC.cell
  have zXC := XC.lt
  have kX1 := X1.cell
  have zX1 := X1.lt
  have kX2 := X2.cell
  have zX2 := X2.lt
  have kX3 := X3.cell
  have zX3 := X3.lt
  have kX4 := X4.cell
  have zX4 := X4.lt
  have kX5 := X5.cell
  have zX5 := X5.lt
  have kX7 := X7.cell
  have zX7 := X7.lt
  clear hb
  go_wp2_with fail
  obtain ⟨b0, bw⟩ := boxes1 V20 (.slice D7 (nw 0) d7)
  clear kXA zXA kXB zXB kXC zXC kX1 zX1 kX2 zX2 kX3 zX3 kX4 zX4 kX5 zX5 kX7 zX7
  replace XA := XA.below bw
  replace XB := XB.below bw
  replace XC := XC.below bw
  replace X1 := X1.below bw
  replace X2 := X2.below bw
  replace X3 := X3.below bw
  replace X4 := X4.below bw
  replace X5 := X5.below bw
  replace X7 := X7.below bw
  have X8 := Box.mk b0 hv' bw
  replace WW := WW.trans (bw.mono WW.size)
  clear bw b0 hv'
  generalize hV : (V20.alloc (.cells #[.slice D7 (nw 0) d7] 24)) = V21 at XA XB XC X1 X2 X3 X4 X5 X7 X8 WW ⊢
  clear hV
  have kXA := XA.cell
  have zXA := XA.lt
  have kXB := XB.cell
  have zXB := XB.lt
  have kXC := XC.cell
  have zXC := XC.lt
  have kX1 := X1.cell
  have zX1 := X1.lt
  have kX2 := X2.cell
  have zX2 := X2.lt
  have kX3 := X3.cell
  have zX3 := X3.lt
  have kX4 := X4.cell
  have zX4 := X4.lt
  have kX5 := X5.cell
  have zX5 := X5.lt
  have kX7 := X7.cell
  have zX7 := X7.lt
  have kX8 := X8.cell
  have zX8 := X8.lt
  have hc := same_any D6 D7 _ _ d6 d7 0 0 V21 X7.num X8.num (by omega) (by omega)
  rw [sameB_yes] at hc
  refine hc.mono ?_
  clear hc
  rintro e V22 ⟨rfl, hb⟩
  clear kXA zXA kXB zXB kXC zXC kX1 zX1 kX2 zX2 kX3 zX3 kX4 zX4 kX5 zX5 kX7 zX7 kX8 zX8
  replace XA := XA.below hb
  replace XB := XB.below hb
  replace XC := XC.below hb
  replace X1 := X1.below hb
  replace X2 := X2.below hb
  replace X3 := X3.below hb
  replace X4 := X4.below hb
  replace X5 := X5.below hb
  replace X7 := X7.below hb
  replace X8 := X8.below hb
  replace WW := WW.trans (hb.mono WW.size)
  have kXA := XA.cell
  have zXA := XA.lt
  have kXB := XB.cell
  have zXB := XB.lt
  have kXC := XC.cell
  have zXC := XC.lt
  have kX1 := X1.cell
  have zX1 := X1.lt
  have kX2 := X2.cell
  have zX2 := X2.lt
  have kX3 := X3.cell
  have zX3 := X3.lt
  have kX4 := X4.cell
  have zX4 := X4.lt
  have kX5 := X5.cell
  have zX5 := X5.lt
  have kX7 := X7.cell
  have zX7 := X7.lt
  have kX8 := X8.cell
  have zX8 := X8.lt
  clear hb
  go_wp2_with fail
  have hc := of_any 1 V22 (by omega) (by omega)
  rw [LO.out] at hc
  refine hc.mono ?_
  clear hc
  rintro e V23 ⟨v, rfl, hv, hb⟩
  clear kXA zXA kXB zXB kXC zXC kX1 zX1 kX2 zX2 kX3 zX3 kX4 zX4 kX5 zX5 kX7 zX7 kX8 zX8
  replace XA := XA.below hb
  replace XB := XB.below hb
  replace XC := XC.below hb
  replace X1 := X1.below hb
  replace X2 := X2.below hb
  replace X3 := X3.below hb
  replace X4 := X4.below hb
  replace X5 := X5.below hb
  replace X7 := X7.below hb
  replace X8 := X8.below hb
  replace WW := WW.trans (hb.mono WW.size)
  obtain ⟨D8, d8, rfl, hv'⟩ := hv.open_
  clear hv
  have kXA := XA.cell
  have zXA := XA.lt
  have kXB := XB.cell
  have zXB := XB.lt
  have kXC := XC.cell
  have zXC := XC.lt
  have kX1 := X1.cell
  have zX1 := X1.lt
  have kX2 := X2.cell
  have zX2 := X2.lt
  have kX3 := X3.cell
  have zX3 := X3.lt
  have kX4 := X4.cell
  have zX4 := X4.lt
  have kX5 := X5.cell
  have zX5 := X5.lt
  have kX7 := X7.cell
  have zX7 := X7.lt
  have kX8 := X8.cell
  have zX8 := X8.lt
  clear hb
  go_wp2_with fail
  obtain ⟨b0, bw⟩ := boxes1 V23 (.slice D8 (nw u) d8)
  clear kXA zXA kXB zXB kXC zXC kX1 zX1 kX2 zX2 kX3 zX3 kX4 zX4 kX5 zX5 kX7 zX7 kX8 zX8
  replace XA := XA.below bw
  replace XB := XB.below bw
  replace XC := XC.below bw
  replace X1 := X1.below bw
  replace X2 := X2.below bw
  replace X3 := X3.below bw
  replace X4 := X4.below bw
  replace X5 := X5.below bw
  replace X7 := X7.below bw
  replace X8 := X8.below bw
  have X9 := Box.mk b0 hv' bw
  replace WW := WW.trans (bw.mono WW.size)
  clear bw b0 hv'
  generalize hV : (V23.alloc (.cells #[.slice D8 (nw u) d8] 24)) = V24 at XA XB XC X1 X2 X3 X4 X5 X7 X8 X9 WW ⊢
  clear hV
  have kXA := XA.cell
  have zXA := XA.lt
  have kXB := XB.cell
  have zXB := XB.lt
  have kXC := XC.cell
  have zXC := XC.lt
  have kX1 := X1.cell
  have zX1 := X1.lt
  have kX2 := X2.cell
  have zX2 := X2.lt
  have kX3 := X3.cell
  have zX3 := X3.lt
  have kX4 := X4.cell
  have zX4 := X4.lt
  have kX5 := X5.cell
  have zX5 := X5.lt
  have kX7 := X7.cell
  have zX7 := X7.lt
  have kX8 := X8.cell
  have zX8 := X8.lt
  have kX9 := X9.cell
  have zX9 := X9.lt
  have hc := mul_any A D8 _ _ ca d8 a u V24 XA.num X9.num (by omega) (by omega)
  rw [bothS_yes HA.out OU.out] at hc
  rw [LU.out] at hc
  refine hc.mono ?_
  clear hc
  rintro e V25 ⟨v, rfl, hv, hb⟩
  clear kXA zXA kXB zXB kXC zXC kX1 zX1 kX2 zX2 kX3 zX3 kX4 zX4 kX5 zX5 kX7 zX7 kX8 zX8 kX9 zX9
  replace XA := XA.below hb
  replace XB := XB.below hb
  replace XC := XC.below hb
  replace X1 := X1.below hb
  replace X2 := X2.below hb
  replace X3 := X3.below hb
  replace X4 := X4.below hb
  replace X5 := X5.below hb
  replace X7 := X7.below hb
  replace X8 := X8.below hb
  replace X9 := X9.below hb
  replace WW := WW.trans (hb.mono WW.size)
  obtain ⟨D9, d9, rfl, hv'⟩ := hv.open_
  clear hv
  have kXA := XA.cell
  have zXA := XA.lt
  have kXB := XB.cell
  have zXB := XB.lt
  have kXC := XC.cell
  have zXC := XC.lt
  have kX1 := X1.cell
  have zX1 := X1.lt
  have kX2 := X2.cell
  have zX2 := X2.lt
  have kX3 := X3.cell
  have zX3 := X3.lt
  have kX4 := X4.cell
  have zX4 := X4.lt
  have kX5 := X5.cell
  have zX5 := X5.lt
  have kX7 := X7.cell
  have zX7 := X7.lt
  have kX8 := X8.cell
  have zX8 := X8.lt
  have kX9 := X9.cell
  have zX9 := X9.lt
  clear hb
  go_wp2_with fail
  obtain ⟨b0, bw⟩ := boxes1 V25 (.slice D9 (nw a) d9)
  clear kXA zXA kXB zXB kXC zXC kX1 zX1 kX2 zX2 kX3 zX3 kX4 zX4 kX5 zX5 kX7 zX7 kX8 zX8 kX9 zX9
  replace XA := XA.below bw
  replace XB := XB.below bw
  replace XC := XC.below bw
  replace X1 := X1.below bw
  replace X2 := X2.below bw
  replace X3 := X3.below bw
  replace X4 := X4.below bw
  replace X5 := X5.below bw
  replace X7 := X7.below bw
  replace X8 := X8.below bw
  replace X9 := X9.below bw
  have X10 := Box.mk b0 hv' bw
  replace WW := WW.trans (bw.mono WW.size)
  clear bw b0 hv'
  generalize hV : (V25.alloc (.cells #[.slice D9 (nw a) d9] 24)) = V26 at XA XB XC X1 X2 X3 X4 X5 X7 X8 X9 X10 WW ⊢
  clear hV
  have kXA := XA.cell
  have zXA := XA.lt
  have kXB := XB.cell
  have zXB := XB.lt
  have kXC := XC.cell
  have zXC := XC.lt
  have kX1 := X1.cell
  have zX1 := X1.lt
  have kX2 := X2.cell
  have zX2 := X2.lt
  have kX3 := X3.cell
  have zX3 := X3.lt
  have kX4 := X4.cell
  have zX4 := X4.lt
  have kX5 := X5.cell
  have zX5 := X5.lt
  have kX7 := X7.cell
  have zX7 := X7.lt
  have kX8 := X8.cell
  have zX8 := X8.lt
  have kX9 := X9.cell
  have zX9 := X9.lt
  have kX10 := X10.cell
  have zX10 := X10.lt
  have hc := add_any A none _ 0 ca 0 a 0 V26 XA.num (Num.nil _ _ _) (by omega) (by omega)
  rw [bothS_yes HA.out OZ.out] at hc
  rw [LZ.out] at hc
  refine hc.mono ?_
  clear hc
  rintro e V27 ⟨v, rfl, hv, hb⟩
  clear kXA zXA kXB zXB kXC zXC kX1 zX1 kX2 zX2 kX3 zX3 kX4 zX4 kX5 zX5 kX7 zX7 kX8 zX8 kX9 zX9 kX10 zX10
  replace XA := XA.below hb
  replace XB := XB.below hb
  replace XC := XC.below hb
  replace X1 := X1.below hb
  replace X2 := X2.below hb
  replace X3 := X3.below hb
  replace X4 := X4.below hb
  replace X5 := X5.below hb
  replace X7 := X7.below hb
  replace X8 := X8.below hb
  replace X9 := X9.below hb
  replace X10 := X10.below hb
  replace WW := WW.trans (hb.mono WW.size)
  obtain ⟨D10, d10, rfl, hv'⟩ := hv.open_
  clear hv
  have kXA := XA.cell
  have zXA := XA.lt
  have kXB := XB.cell
  have zXB := XB.lt
  have kXC := XC.cell
  have zXC := XC.lt
  have kX1 := X1.cell
  have zX1 := X1.lt
  have kX2 := X2.cell
  have zX2 := X2.lt
  have kX3 := X3.cell
  have zX3 := X3.lt
  have kX4 := X4.cell
  have zX4 := X4.lt
  have kX5 := X5.cell
  have zX5 := X5.lt
  have kX7 := X7.cell
  have zX7 := X7.lt
  have kX8 := X8.cell
  have zX8 := X8.lt
  have kX9 := X9.cell
  have zX9 := X9.lt
  have kX10 := X10.cell
  have zX10 := X10.lt
  clear hb
  go_wp2_with fail
  obtain ⟨b0, bw⟩ := boxes1 V27 (.slice D10 (nw a) d10)
  clear kXA zXA kXB zXB kXC zXC kX1 zX1 kX2 zX2 kX3 zX3 kX4 zX4 kX5 zX5 kX7 zX7 kX8 zX8 kX9 zX9 kX10 zX10
  replace XA := XA.below bw
  replace XB := XB.below bw
  replace XC := XC.below bw
  replace X1 := X1.below bw
  replace X2 := X2.below bw
  replace X3 := X3.below bw
  replace X4 := X4.below bw
  replace X5 := X5.below bw
  replace X7 := X7.below bw
  replace X8 := X8.below bw
  replace X9 := X9.below bw
  replace X10 := X10.below bw
  have X11 := Box.mk b0 hv' bw
  replace WW := WW.trans (bw.mono WW.size)
  clear bw b0 hv'
  generalize hV : (V27.alloc (.cells #[.slice D10 (nw a) d10] 24)) = V28 at XA XB XC X1 X2 X3 X4 X5 X7 X8 X9 X10 X11 WW ⊢
  clear hV
  have kXA := XA.cell
  have zXA := XA.lt
  have kXB := XB.cell
  have zXB := XB.lt
  have kXC := XC.cell
  have zXC := XC.lt
  have kX1 := X1.cell
  have zX1 := X1.lt
  have kX2 := X2.cell
  have zX2 := X2.lt
  have kX3 := X3.cell
  have zX3 := X3.lt
  have kX4 := X4.cell
  have zX4 := X4.lt
  have kX5 := X5.cell
  have zX5 := X5.lt
  have kX7 := X7.cell
  have zX7 := X7.lt
  have kX8 := X8.cell
  have zX8 := X8.lt
  have kX9 := X9.cell
  have zX9 := X9.lt
  have kX10 := X10.cell
  have zX10 := X10.lt
  have kX11 := X11.cell
  have zX11 := X11.lt
  have hc := same_any D9 A _ _ d9 ca a a V28 X10.num XA.num (by omega) (by omega)
  rw [sameB_yes] at hc
  refine hc.mono ?_
  clear hc
  rintro e V29 ⟨rfl, hb⟩
  clear kXA zXA kXB zXB kXC zXC kX1 zX1 kX2 zX2 kX3 zX3 kX4 zX4 kX5 zX5 kX7 zX7 kX8 zX8 kX9 zX9 kX10 zX10 kX11 zX11
  replace XA := XA.below hb
  replace XB := XB.below hb
  replace XC := XC.below hb
  replace X1 := X1.below hb
  replace X2 := X2.below hb
  replace X3 := X3.below hb
  replace X4 := X4.below hb
  replace X5 := X5.below hb
  replace X7 := X7.below hb
  replace X8 := X8.below hb
  replace X9 := X9.below hb
  replace X10 := X10.below hb
  replace X11 := X11.below hb
  replace WW := WW.trans (hb.mono WW.size)
  have kXA := XA.cell
  have zXA := XA.lt
  have kXB := XB.cell
  have zXB := XB.lt
  have kXC := XC.cell
  have zXC := XC.lt
  have kX1 := X1.cell
  have zX1 := X1.lt
  have kX2 := X2.cell
  have zX2 := X2.lt
  have kX3 := X3.cell
  have zX3 := X3.lt
  have kX4 := X4.cell
  have zX4 := X4.lt
  have kX5 := X5.cell
  have zX5 := X5.lt
  have kX7 := X7.cell
  have zX7 := X7.lt
  have kX8 := X8.cell
  have zX8 := X8.lt
  have kX9 := X9.cell
  have zX9 := X9.lt
  have kX10 := X10.cell
  have zX10 := X10.lt
  have kX11 := X11.cell
  have zX11 := X11.lt
  clear hb
  go_wp2_with fail
  have hc := same_any D10 A _ _ d10 ca a a V29 X11.num XA.num (by omega) (by omega)
  rw [sameB_yes] at hc
  refine hc.mono ?_
  clear hc
  rintro e V30 ⟨rfl, hb⟩
  clear kXA zXA kXB zXB kXC zXC kX1 zX1 kX2 zX2 kX3 zX3 kX4 zX4 kX5 zX5 kX7 zX7 kX8 zX8 kX9 zX9 kX10 zX10 kX11 zX11
  replace XA := XA.below hb
  replace XB := XB.below hb
  replace XC := XC.below hb
  replace X1 := X1.below hb
  replace X2 := X2.below hb
  replace X3 := X3.below hb
  replace X4 := X4.below hb
  replace X5 := X5.below hb
  replace X7 := X7.below hb
  replace X8 := X8.below hb
  replace X9 := X9.below hb
  replace X10 := X10.below hb
  replace X11 := X11.below hb
  replace WW := WW.trans (hb.mono WW.size)
  have kXA := XA.cell
  have zXA := XA.lt
  have kXB := XB.cell
  have zXB := XB.lt
  have kXC := XC.cell
  have zXC := XC.lt
  have kX1 := X1.cell
  have zX1 := X1.lt
  have kX2 := X2.cell
  have zX2 := X2.lt
  have kX3 := X3.cell
  have zX3 := X3.lt
  have kX4 := X4.cell
  have zX4 := X4.lt
  have kX5 := X5.cell
  have zX5 := X5.lt
  have kX7 := X7.cell
  have zX7 := X7.lt
  have kX8 := X8.cell
  have zX8 := X8.lt
  have kX9 := X9.cell
  have zX9 := X9.lt
  have kX10 := X10.cell
  have zX10 := X10.lt
  have kX11 := X11.cell
  have zX11 := X11.lt
  clear hb
  go_wp2_with fail
  have hc := mul_any D1 C' _ _ d1 cc (a + b) c V30 X1.num XC.num (by omega) (by omega)
  rw [bothS_yes O1.out HC.out] at hc
  rw [L7.out] at hc
  refine hc.mono ?_
  clear hc
  rintro e V31 ⟨v, rfl, hv, hb⟩
  clear kXA zXA kXB zXB kXC zXC kX1 zX1 kX2 zX2 kX3 zX3 kX4 zX4 kX5 zX5 kX7 zX7 kX8 zX8 kX9 zX9 kX10 zX10 kX11 zX11
  replace XA := XA.below hb
  replace XB := XB.below hb
  replace XC := XC.below hb
  replace X1 := X1.below hb
  replace X2 := X2.below hb
  replace X3 := X3.below hb
  replace X4 := X4.below hb
  replace X5 := X5.below hb
  replace X7 := X7.below hb
  replace X8 := X8.below hb
  replace X9 := X9.below hb
  replace X10 := X10.below hb
  replace X11 := X11.below hb
  replace WW := WW.trans (hb.mono WW.size)
  obtain ⟨D11, d11, rfl, hv'⟩ := hv.open_
  clear hv
  have kXA := XA.cell
  have zXA := XA.lt
  have kXB := XB.cell
  have zXB := XB.lt
  have kXC := XC.cell
  have zXC := XC.lt
  have kX1 := X1.cell
  have zX1 := X1.lt
  have kX2 := X2.cell
  have zX2 := X2.lt
  have kX3 := X3.cell
  have zX3 := X3.lt
  have kX4 := X4.cell
  have zX4 := X4.lt
  have kX5 := X5.cell
  have zX5 := X5.lt
  have kX7 := X7.cell
  have zX7 := X7.lt
  have kX8 := X8.cell
  have zX8 := X8.lt
  have kX9 := X9.cell
  have zX9 := X9.lt
  have kX10 := X10.cell
  have zX10 := X10.lt
  have kX11 := X11.cell
  have zX11 := X11.lt
  clear hb
  go_wp2_with fail
  obtain ⟨b0, bw⟩ := boxes1 V31 (.slice D11 (nw ((a + b) * c)) d11)
  clear kXA zXA kXB zXB kXC zXC kX1 zX1 kX2 zX2 kX3 zX3 kX4 zX4 kX5 zX5 kX7 zX7 kX8 zX8 kX9 zX9 kX10 zX10 kX11 zX11
  replace XA := XA.below bw
  replace XB := XB.below bw
  replace XC := XC.below bw
  replace X1 := X1.below bw
  replace X2 := X2.below bw
  replace X3 := X3.below bw
  replace X4 := X4.below bw
  replace X5 := X5.below bw
  replace X7 := X7.below bw
  replace X8 := X8.below bw
  replace X9 := X9.below bw
  replace X10 := X10.below bw
  replace X11 := X11.below bw
  have X15 := Box.mk b0 hv' bw
  replace WW := WW.trans (bw.mono WW.size)
  clear bw b0 hv'
  generalize hV : (V31.alloc (.cells #[.slice D11 (nw ((a + b) * c)) d11] 24)) = V32 at XA XB XC X1 X2 X3 X4 X5 X7 X8 X9 X10 X11 X15 WW ⊢
  clear hV
  have kXA := XA.cell
  have zXA := XA.lt
  have kXB := XB.cell
  have zXB := XB.lt
  have kXC := XC.cell
  have zXC := XC.lt
  have kX1 := X1.cell
  have zX1 := X1.lt
  have kX2 := X2.cell
  have zX2 := X2.lt
  have kX3 := X3.cell
  have zX3 := X3.lt
  have kX4 := X4.cell
  have zX4 := X4.lt
  have kX5 := X5.cell
  have zX5 := X5.lt
  have kX7 := X7.cell
  have zX7 := X7.lt
  have kX8 := X8.cell
  have zX8 := X8.lt
  have kX9 := X9.cell
  have zX9 := X9.lt
  have kX10 := X10.cell
  have zX10 := X10.lt
  have kX11 := X11.cell
  have zX11 := X11.lt
  have kX15 := X15.cell
  have zX15 := X15.lt
  have hc := mul_any A C' _ _ ca cc a c V32 XA.num XC.num (by omega) (by omega)
  rw [bothS_yes HA.out HC.out] at hc
  rw [L8.out] at hc
  refine hc.mono ?_
  clear hc
  rintro e V33 ⟨v, rfl, hv, hb⟩
  clear kXA zXA kXB zXB kXC zXC kX1 zX1 kX2 zX2 kX3 zX3 kX4 zX4 kX5 zX5 kX7 zX7 kX8 zX8 kX9 zX9 kX10 zX10 kX11 zX11 kX15 zX15
  replace XA := XA.below hb
  replace XB := XB.below hb
  replace XC := XC.below hb
  replace X1 := X1.below hb
  replace X2 := X2.below hb
  replace X3 := X3.below hb
  replace X4 := X4.below hb
  replace X5 := X5.below hb
  replace X7 := X7.below hb
  replace X8 := X8.below hb
  replace X9 := X9.below hb
  replace X10 := X10.below hb
  replace X11 := X11.below hb
  replace X15 := X15.below hb
  replace WW := WW.trans (hb.mono WW.size)
  obtain ⟨D12, d12, rfl, hv'⟩ := hv.open_
  clear hv
  have kXA := XA.cell
  have zXA := XA.lt
  have kXB := XB.cell
  have zXB := XB.lt
  have kXC := XC.cell
  have zXC := XC.lt
  have kX1 := X1.cell
  have zX1 := X1.lt
  have kX2 := X2.cell
  have zX2 := X2.lt
  have kX3 := X3.cell
  have zX3 := X3.lt
  have kX4 := X4.cell
  have zX4 := X4.lt
  have kX5 := X5.cell
  have zX5 := X5.lt
  have kX7 := X7.cell
  have zX7 := X7.lt
  have kX8 := X8.cell
  have zX8 := X8.lt
  have kX9 := X9.cell
  have zX9 := X9.lt
  have kX10 := X10.cell
  have zX10 := X10.lt
  have kX11 := X11.cell
  have zX11 := X11.lt
  have kX15 := X15.cell
  have zX15 := X15.lt
  clear hb
  go_wp2_with fail
  obtain ⟨b0, bw⟩ := boxes1 V33 (.slice D12 (nw (a * c)) d12)
  clear kXA zXA kXB zXB kXC zXC kX1 zX1 kX2 zX2 kX3 zX3 kX4 zX4 kX5 zX5 kX7 zX7 kX8 zX8 kX9 zX9 kX10 zX10 kX11 zX11 kX15 zX15
  replace XA := XA.below bw
  replace XB := XB.below bw
  replace XC := XC.below bw
  replace X1 := X1.below bw
  replace X2 := X2.below bw
  replace X3 := X3.below bw
  replace X4 := X4.below bw
  replace X5 := X5.below bw
  replace X7 := X7.below bw
  replace X8 := X8.below bw
  replace X9 := X9.below bw
  replace X10 := X10.below bw
  replace X11 := X11.below bw
  replace X15 := X15.below bw
  have X16 := Box.mk b0 hv' bw
  replace WW := WW.trans (bw.mono WW.size)
  clear bw b0 hv'
  generalize hV : (V33.alloc (.cells #[.slice D12 (nw (a * c)) d12] 24)) = V34 at XA XB XC X1 X2 X3 X4 X5 X7 X8 X9 X10 X11 X15 X16 WW ⊢
  clear hV
  have kXA := XA.cell
  have zXA := XA.lt
  have kXB := XB.cell
  have zXB := XB.lt
  have kXC := XC.cell
  have zXC := XC.lt
  have kX1 := X1.cell
  have zX1 := X1.lt
  have kX2 := X2.cell
  have zX2 := X2.lt
  have kX3 := X3.cell
  have zX3 := X3.lt
  have kX4 := X4.cell
  have zX4 := X4.lt
  have kX5 := X5.cell
  have zX5 := X5.lt
  have kX7 := X7.cell
  have zX7 := X7.lt
  have kX8 := X8.cell
  have zX8 := X8.lt
  have kX9 := X9.cell
  have zX9 := X9.lt
  have kX10 := X10.cell
  have zX10 := X10.lt
  have kX11 := X11.cell
  have zX11 := X11.lt
  have kX15 := X15.cell
  have zX15 := X15.lt
  have kX16 := X16.cell
  have zX16 := X16.lt
  have hc := mul_any B' C' _ _ cb cc b c V34 XB.num XC.num (by omega) (by omega)
  rw [bothS_yes HB.out HC.out] at hc
  rw [L9.out] at hc
  refine hc.mono ?_
  clear hc
  rintro e V35 ⟨v, rfl, hv, hb⟩
  clear kXA zXA kXB zXB kXC zXC kX1 zX1 kX2 zX2 kX3 zX3 kX4 zX4 kX5 zX5 kX7 zX7 kX8 zX8 kX9 zX9 kX10 zX10 kX11 zX11 kX15 zX15 kX16 zX16
  replace XA := XA.below hb
  replace XB := XB.below hb
  replace XC := XC.below hb
  replace X1 := X1.below hb
  replace X2 := X2.below hb
  replace X3 := X3.below hb
  replace X4 := X4.below hb
  replace X5 := X5.below hb
  replace X7 := X7.below hb
  replace X8 := X8.below hb
  replace X9 := X9.below hb
  replace X10 := X10.below hb
  replace X11 := X11.below hb
  replace X15 := X15.below hb
  replace X16 := X16.below hb
  replace WW := WW.trans (hb.mono WW.size)
  obtain ⟨D13, d13, rfl, hv'⟩ := hv.open_
  clear hv
  have kXA := XA.cell
  have zXA := XA.lt
  have kXB := XB.cell
  have zXB := XB.lt
  have kXC := XC.cell
  have zXC := XC.lt
  have kX1 := X1.cell
  have zX1 := X1.lt
  have kX2 := X2.cell
  have zX2 := X2.lt
  have kX3 := X3.cell
  have zX3 := X3.lt
  have kX4 := X4.cell
  have zX4 := X4.lt
  have kX5 := X5.cell
  have zX5 := X5.lt
  have kX7 := X7.cell
  have zX7 := X7.lt
  have kX8 := X8.cell
  have zX8 := X8.lt
  have kX9 := X9.cell
  have zX9 := X9.lt
  have kX10 := X10.cell
  have zX10 := X10.lt
  have kX11 := X11.cell
  have zX11 := X11.lt
  have kX15 := X15.cell
  have zX15 := X15.lt
  have kX16 := X16.cell
  have zX16 := X16.lt
  clear hb
  go_wp2_with fail
  obtain ⟨b0, bw⟩ := boxes1 V35 (.slice D13 (nw (b * c)) d13)
  clear kXA zXA kXB zXB kXC zXC kX1 zX1 kX2 zX2 kX3 zX3 kX4 zX4 kX5 zX5 kX7 zX7 kX8 zX8 kX9 zX9 kX10 zX10 kX11 zX11 kX15 zX15 kX16 zX16
  replace XA := XA.below bw
  replace XB := XB.below bw
  replace XC := XC.below bw
  replace X1 := X1.below bw
  replace X2 := X2.below bw
  replace X3 := X3.below bw
  replace X4 := X4.below bw
  replace X5 := X5.below bw
  replace X7 := X7.below bw
  replace X8 := X8.below bw
  replace X9 := X9.below bw
  replace X10 := X10.below bw
  replace X11 := X11.below bw
  replace X15 := X15.below bw
  replace X16 := X16.below bw
  have X17 := Box.mk b0 hv' bw
  replace WW := WW.trans (bw.mono WW.size)
  clear bw b0 hv'
  generalize hV : (V35.alloc (.cells #[.slice D13 (nw (b * c)) d13] 24)) = V36 at XA XB XC X1 X2 X3 X4 X5 X7 X8 X9 X10 X11 X15 X16 X17 WW ⊢
  clear hV
  have kXA := XA.cell
  have zXA := XA.lt
  have kXB := XB.cell
  have zXB := XB.lt
  have kXC := XC.cell
  have zXC := XC.lt
  have kX1 := X1.cell
  have zX1 := X1.lt
  have kX2 := X2.cell
  have zX2 := X2.lt
  have kX3 := X3.cell
  have zX3 := X3.lt
  have kX4 := X4.cell
  have zX4 := X4.lt
  have kX5 := X5.cell
  have zX5 := X5.lt
  have kX7 := X7.cell
  have zX7 := X7.lt
  have kX8 := X8.cell
  have zX8 := X8.lt
  have kX9 := X9.cell
  have zX9 := X9.lt
  have kX10 := X10.cell
  have zX10 := X10.lt
  have kX11 := X11.cell
  have zX11 := X11.lt
  have kX15 := X15.cell
  have zX15 := X15.lt
  have kX16 := X16.cell
  have zX16 := X16.lt
  have kX17 := X17.cell
  have zX17 := X17.lt
  have hc := add_any D12 D13 _ _ d12 d13 (a * c) (b * c) V36 X16.num X17.num (by omega) (by omega)
  rw [bothS_yes O8.out O9.out] at hc
  rw [LF.out] at hc
  refine hc.mono ?_
  clear hc
  rintro e V37 ⟨v, rfl, hv, hb⟩
  clear kXA zXA kXB zXB kXC zXC kX1 zX1 kX2 zX2 kX3 zX3 kX4 zX4 kX5 zX5 kX7 zX7 kX8 zX8 kX9 zX9 kX10 zX10 kX11 zX11 kX15 zX15 kX16 zX16 kX17 zX17
  replace XA := XA.below hb
  replace XB := XB.below hb
  replace XC := XC.below hb
  replace X1 := X1.below hb
  replace X2 := X2.below hb
  replace X3 := X3.below hb
  replace X4 := X4.below hb
  replace X5 := X5.below hb
  replace X7 := X7.below hb
  replace X8 := X8.below hb
  replace X9 := X9.below hb
  replace X10 := X10.below hb
  replace X11 := X11.below hb
  replace X15 := X15.below hb
  replace X16 := X16.below hb
  replace X17 := X17.below hb
  replace WW := WW.trans (hb.mono WW.size)
  obtain ⟨D15, d15, rfl, hv'⟩ := hv.open_
  clear hv
  have kXA := XA.cell
  have zXA := XA.lt
  have kXB := XB.cell
  have zXB := XB.lt
  have kXC := XC.cell
  have zXC := XC.lt
  have kX1 := X1.cell
  have zX1 := X1.lt
  have kX2 := X2.cell
  have zX2 := X2.lt
  have kX3 := X3.cell
  have zX3 := X3.lt
  have kX4 := X4.cell
  have zX4 := X4.lt
  have kX5 := X5.cell
  have zX5 := X5.lt
  have kX7 := X7.cell
  have zX7 := X7.lt
  have kX8 := X8.cell
  have zX8 := X8.lt
  have kX9 := X9.cell
  have zX9 := X9.lt
  have kX10 := X10.cell
  have zX10 := X10.lt
  have kX11 := X11.cell
  have zX11 := X11.lt
  have kX15 := X15.cell
  have zX15 := X15.lt
  have kX16 := X16.cell
  have zX16 := X16.lt
  have kX17 := X17.cell
  have zX17 := X17.lt
  clear hb
  go_wp2_with fail
  obtain ⟨b0, bw⟩ := boxes1 V37 (.slice D15 (nw ((a + b) * c)) d15)
  clear kXA zXA kXB zXB kXC zXC kX1 zX1 kX2 zX2 kX3 zX3 kX4 zX4 kX5 zX5 kX7 zX7 kX8 zX8 kX9 zX9 kX10 zX10 kX11 zX11 kX15 zX15 kX16 zX16 kX17 zX17
  replace XA := XA.below bw
  replace XB := XB.below bw
  replace XC := XC.below bw
  replace X1 := X1.below bw
  replace X2 := X2.below bw
  replace X3 := X3.below bw
  replace X4 := X4.below bw
  replace X5 := X5.below bw
  replace X7 := X7.below bw
  replace X8 := X8.below bw
  replace X9 := X9.below bw
  replace X10 := X10.below bw
  replace X11 := X11.below bw
  replace X15 := X15.below bw
  replace X16 := X16.below bw
  replace X17 := X17.below bw
  have X18 := Box.mk b0 hv' bw
  replace WW := WW.trans (bw.mono WW.size)
  clear bw b0 hv'
  generalize hV : (V37.alloc (.cells #[.slice D15 (nw ((a + b) * c)) d15] 24)) = V38 at XA XB XC X1 X2 X3 X4 X5 X7 X8 X9 X10 X11 X15 X16 X17 X18 WW ⊢
  clear hV
  have kXA := XA.cell
  have zXA := XA.lt
  have kXB := XB.cell
  have zXB := XB.lt
  have kXC := XC.cell
  have zXC := XC.lt
  have kX1 := X1.cell
  have zX1 := X1.lt
  have kX2 := X2.cell
  have zX2 := X2.lt
  have kX3 := X3.cell
  have zX3 := X3.lt
  have kX4 := X4.cell
  have zX4 := X4.lt
  have kX5 := X5.cell
  have zX5 := X5.lt
  have kX7 := X7.cell
  have zX7 := X7.lt
  have kX8 := X8.cell
  have zX8 := X8.lt
  have kX9 := X9.cell
  have zX9 := X9.lt
  have kX10 := X10.cell
  have zX10 := X10.lt
  have kX11 := X11.cell
  have zX11 := X11.lt
  have kX15 := X15.cell
  have zX15 := X15.lt
  have kX16 := X16.cell
  have zX16 := X16.lt
  have kX17 := X17.cell
  have zX17 := X17.lt
  have kX18 := X18.cell
  have zX18 := X18.lt
  have hc := same_any D11 D15 _ _ d11 d15 ((a + b) * c) ((a + b) * c) V38 X15.num X18.num (by omega) (by omega)
  rw [sameB_yes] at hc
  refine hc.mono ?_
  clear hc
  rintro e V39 ⟨rfl, hb⟩
  clear kXA zXA kXB zXB kXC zXC kX1 zX1 kX2 zX2 kX3 zX3 kX4 zX4 kX5 zX5 kX7 zX7 kX8 zX8 kX9 zX9 kX10 zX10 kX11 zX11 kX15 zX15 kX16 zX16 kX17 zX17 kX18 zX18
  replace XA := XA.below hb
  replace XB := XB.below hb
  replace XC := XC.below hb
  replace X1 := X1.below hb
  replace X2 := X2.below hb
  replace X3 := X3.below hb
  replace X4 := X4.below hb
  replace X5 := X5.below hb
  replace X7 := X7.below hb
  replace X8 := X8.below hb
  replace X9 := X9.below hb
  replace X10 := X10.below hb
  replace X11 := X11.below hb
  replace X15 := X15.below hb
  replace X16 := X16.below hb
  replace X17 := X17.below hb
  replace X18 := X18.below hb
  replace WW := WW.trans (hb.mono WW.size)
  have kXA := XA.cell
  have zXA := XA.lt
  have kXB := XB.cell
  have zXB := XB.lt
  have kXC := XC.cell
  have zXC := XC.lt
  have kX1 := X1.cell
  have zX1 := X1.lt
  have kX2 := X2.cell
  have zX2 := X2.lt
  have kX3 := X3.cell
  have zX3 := X3.lt
  have kX4 := X4.cell
  have zX4 := X4.lt
  have kX5 := X5.cell
  have zX5 := X5.lt
  have kX7 := X7.cell
  have zX7 := X7.lt
  have kX8 := X8.cell
  have zX8 := X8.lt
  have kX9 := X9.cell
  have zX9 := X9.lt
  have kX10 := X10.cell
  have zX10 := X10.lt
  have kX11 := X11.cell
  have zX11 := X11.lt
  have kX15 := X15.cell
  have zX15 := X15.lt
  have kX16 := X16.cell
  have zX16 := X16.lt
  have kX17 := X17.cell
  have zX17 := X17.lt
  have kX18 := X18.cell
  have zX18 := X18.lt
  clear hb
  go_wp2_with fail
  go_ret
  exact ⟨rfl, WW⟩

set_option maxHeartbeats 4000000 in
set_option maxRecDepth 100000 in
theorem ring_11 (A B' C' : Option Addr) (ca cb cc a b c : Nat) (w : World) (hA : Num w w.heap.size A (nw a) a) (hB : Num w w.heap.size B' (nw b) b) (hC : Num w w.heap.size C' (nw c) c) (ha : nw a ≤ 64) (hb : nw b ≤ 64) (hc : nw c ≤ 64) (s1 : nw (a + b) ≤ 64) (s2 : ¬ nw (b + c) ≤ 64) (p1 : nw (a * b) ≤ 64) (p2 : nw (a * b * c) ≤ 64) (p3 : nw (b * c) ≤ 64) (m : ¬ nw ((a + b) * c) ≤ 64) :
    Calls Try.prog 6 #[.agg #[.slice A (nw a) ca], .agg #[.slice B' (nw b) cb], .agg #[.slice C' (nw c) cc]] w (RetB (.bool true) w) := by
  have HG : Hid (decide (100 < nw a ∨ 100 < nw b ∨ 100 < nw c) = false) := decide_eq_false (by omega)
  have HA := hid (okB_nw ha)
  have HB := hid (okB_nw hb)
  have HC := hid (okB_nw hc)
  have hz0 : nw 0 ≤ 64 := by simp [nw_zero]
  have L1 := hid (limS_ok s1)
  have L1' : Hid (limS (b + a) = (a + b, 0)) := by show _ = _; rw [Nat.add_comm b a]; exact L1.out
  have O1 := hid (okB_nw s1)
  have LB : Hid (subS (a + b) b = (a, 0)) := by show _ = _; rw [subS_yes (by omega), Nat.add_sub_cancel]
  have L2 := hid (limS_big s2)
  obtain ⟨v3, e3, L3, b3⟩ := limS_some (a + b + c)
  have L4 := hid (limS_ok p1)
  have L4' : Hid (limS (b * a) = (a * b, 0)) := by show _ = _; rw [Nat.mul_comm b a]; exact L4.out
  obtain ⟨u, hu⟩ : ∃ u, u = 1 := ⟨_, rfl⟩
  have LO : Hid (ofS 1 = (u, 0)) := by show _ = _; rw [hu]; exact ofS_nat 1
  have hu1 : nw u ≤ 64 := Nat.le_trans (nw_le (n := 1) (by rw [hu]; decide)) (by omega)
  have OU := hid (okB_nw hu1)
  have LU : Hid (limS (a * u) = (a, 0)) := by show _ = _; rw [hu, Nat.mul_one]; exact limS_ok ha
  have OZ : Hid (okB 0 0 = true) := okB_nw (a := 0) (by simp [nw_zero])
  have LZ : Hid (limS (a + 0) = (a, 0)) := limS_ok ha
  have O4 := hid (okB_nw p1)
  have L5 := hid (limS_ok p2)
  have L6 := hid (limS_ok p3)
  have O6 := hid (okB_nw p3)
  have L5' : Hid (limS (a * (b * c)) = (a * b * c, 0)) := by show _ = _; rw [← Nat.mul_assoc]; exact L5.out
  have L7 := hid (limS_big m)
  obtain ⟨v8, e8, L8, b8⟩ := limS_some (a * c)
  obtain ⟨v9, e9, L9, b9⟩ := limS_some (b * c)
  clear hu
  obtain ⟨b0, b1, b2, bw⟩ := boxes3 w (.slice A (nw a) ca) (.slice B' (nw b) cb) (.slice C' (nw c) cc)
  have XA := Box.mk b0 hA bw
  have XB := Box.mk b1 hB bw
  have XC := Box.mk b2 hC bw
  have WW := bw
  clear bw b0 b1 b2
  go_enter Try.func6, Try.ntmps6
  go_wp2_with fail
  generalize hV : (((w.alloc (.cells #[.slice A (nw a) ca] 24)).alloc (.cells #[.slice B' (nw b) cb] 24)).alloc (.cells #[.slice C' (nw c) cc] 24)) = V0 at XA XB XC WW ⊢
  clear hV
  have hc := awake_any V0
  refine hc.mono ?_
  clear hc
  rintro e V1 ⟨rfl, hb⟩
  replace XA := XA.below hb
  replace XB := XB.below hb
  replace XC := XC.below hb
  replace WW := WW.trans (hb.mono WW.size)
  have kXA := XA.cell
  have zXA := XA.lt
  have kXB := XB.cell
  have zXB := XB.lt
  have kXC := XC.cell
  have zXC := XC.lt
  clear hb
  go_wp2_with fail
  have hc := great_3 V1 A B' C' (nw a) ca (nw b) cb (nw c) cc (by omega) (by omega) (by omega)
  rw [HG.out] at hc
  refine hc.mono ?_
  clear hc
  rintro e V2 ⟨rfl, hb⟩
  clear kXA zXA kXB zXB kXC zXC
  replace XA := XA.below hb
  replace XB := XB.below hb
  replace XC := XC.below hb
  replace WW := WW.trans (hb.mono WW.size)
  have kXA := XA.cell
  have zXA := XA.lt
  have kXB := XB.cell
  have zXB := XB.lt
  have kXC := XC.cell
  have zXC := XC.lt
  clear hb
  go_wp2_with fail
  have hc := rvalid_any A _ ca a _ V2 XA.num (Nat.le_refl _) (by omega)
  rw [HA.out] at hc
  refine hc.mono ?_
  clear hc
  rintro e V3 ⟨rfl, hb⟩
  clear kXA zXA kXB zXB kXC zXC
  replace XA := XA.below hb
  replace XB := XB.below hb
  replace XC := XC.below hb
  replace WW := WW.trans (hb.mono WW.size)
  have kXA := XA.cell
  have zXA := XA.lt
  have kXB := XB.cell
  have zXB := XB.lt
  have kXC := XC.cell
  have zXC := XC.lt
  clear hb
  go_wp2_with fail
  have hc := rvalid_any B' _ cb b _ V3 XB.num (Nat.le_refl _) (by omega)
  rw [HB.out] at hc
  refine hc.mono ?_
  clear hc
  rintro e V4 ⟨rfl, hb⟩
  clear kXA zXA kXB zXB kXC zXC
  replace XA := XA.below hb
  replace XB := XB.below hb
  replace XC := XC.below hb
  replace WW := WW.trans (hb.mono WW.size)
  have kXA := XA.cell
  have zXA := XA.lt
  have kXB := XB.cell
  have zXB := XB.lt
  have kXC := XC.cell
  have zXC := XC.lt
  clear hb
  go_wp2_with fail
  have hc := rvalid_any C' _ cc c _ V4 XC.num (Nat.le_refl _) (by omega)
  rw [HC.out] at hc
  refine hc.mono ?_
  clear hc
  rintro e V5 ⟨rfl, hb⟩
  clear kXA zXA kXB zXB kXC zXC
  replace XA := XA.below hb
  replace XB := XB.below hb
  replace XC := XC.below hb
  replace WW := WW.trans (hb.mono WW.size)
  have kXA := XA.cell
  have zXA := XA.lt
  have kXB := XB.cell
  have zXB := XB.lt
  have kXC := XC.cell
  have zXC := XC.lt
  clear hb
  go_wp2_with fail
  have hc := add_any A B' _ _ ca cb a b V5 XA.num XB.num (by omega) (by omega)
  rw [bothS_yes HA.out HB.out] at hc
  rw [L1.out] at hc
  refine hc.mono ?_
  clear hc
  rintro e V6 ⟨v, rfl, hv, hb⟩
  clear kXA zXA kXB zXB kXC zXC
  replace XA := XA.below hb
  replace XB := XB.below hb
  replace XC := XC.below hb
  replace WW := WW.trans (hb.mono WW.size)
  obtain ⟨D1, d1, rfl, hv'⟩ := hv.open_
  clear hv
  have kXA := XA.cell
  have zXA := XA.lt
  have kXB := XB.cell
  have zXB := XB.lt
  have kXC := XC.cell
  have zXC := XC.lt
  clear hb
  go_wp2_with fail
  obtain ⟨b0, bw⟩ := boxes1 V6 (.slice D1 (nw (a + b)) d1)
  clear kXA zXA kXB zXB kXC zXC
  replace XA := XA.below bw
  replace XB := XB.below bw
  replace XC := XC.below bw
  have X1 := Box.mk b0 hv' bw
  replace WW := WW.trans (bw.mono WW.size)
  clear bw b0 hv'
  generalize hV : (V6.alloc (.cells #[.slice D1 (nw (a + b)) d1] 24)) = V7 at XA XB XC X1 WW ⊢
  clear hV
  have kXA := XA.cell
  have zXA := XA.lt
  have kXB := XB.cell
  have zXB := XB.lt
  have kXC := XC.cell
  have zXC := XC.lt
  have kX1 := X1.cell
  have zX1 := X1.lt
  have hc := add_any B' A _ _ cb ca b a V7 XB.num XA.num (by omega) (by omega)
  rw [bothS_yes HB.out HA.out] at hc
  rw [L1'.out] at hc
  refine hc.mono ?_
  clear hc
  rintro e V8 ⟨v, rfl, hv, hb⟩
  clear kXA zXA kXB zXB kXC zXC kX1 zX1
  replace XA := XA.below hb
  replace XB := XB.below hb
  replace XC := XC.below hb
  replace X1 := X1.below hb
  replace WW := WW.trans (hb.mono WW.size)
  obtain ⟨D2, d2, rfl, hv'⟩ := hv.open_
  clear hv
  have kXA := XA.cell
  have zXA := XA.lt
  have kXB := XB.cell
  have zXB := XB.lt
  have kXC := XC.cell
  have zXC := XC.lt
  have kX1 := X1.cell
  have zX1 := X1.lt
  clear hb
  go_wp2_with fail
  obtain ⟨b0, bw⟩ := boxes1 V8 (.slice D2 (nw (a + b)) d2)
  clear kXA zXA kXB zXB kXC zXC kX1 zX1
  replace XA := XA.below bw
  replace XB := XB.below bw
  replace XC := XC.below bw
  replace X1 := X1.below bw
  have X2 := Box.mk b0 hv' bw
  replace WW := WW.trans (bw.mono WW.size)
  clear bw b0 hv'
  generalize hV : (V8.alloc (.cells #[.slice D2 (nw (a + b)) d2] 24)) = V9 at XA XB XC X1 X2 WW ⊢
  clear hV
  have kXA := XA.cell
  have zXA := XA.lt
  have kXB := XB.cell
  have zXB := XB.lt
  have kXC := XC.cell
  have zXC := XC.lt
  have kX1 := X1.cell
  have zX1 := X1.lt
  have kX2 := X2.cell
  have zX2 := X2.lt
  have hc := same_any D1 D2 _ _ d1 d2 (a + b) (a + b) V9 X1.num X2.num (by omega) (by omega)
  rw [sameB_yes] at hc
  refine hc.mono ?_
  clear hc
  rintro e V10 ⟨rfl, hb⟩
  clear kXA zXA kXB zXB kXC zXC kX1 zX1 kX2 zX2
  replace XA := XA.below hb
  replace XB := XB.below hb
  replace XC := XC.below hb
  replace X1 := X1.below hb
  replace X2 := X2.below hb
  replace WW := WW.trans (hb.mono WW.size)
  have kXA := XA.cell
  have zXA := XA.lt
  have kXB := XB.cell
  have zXB := XB.lt
  have kXC := XC.cell
  have zXC := XC.lt
  have kX1 := X1.cell
  have zX1 := X1.lt
  have kX2 := X2.cell
  have zX2 := X2.lt
  clear hb
  go_wp2_with fail
  have hc := sub_any D1 B' _ _ d1 cb (a + b) b V10 X1.num XB.num (by omega) (by omega)
  rw [bothS_yes O1.out HB.out] at hc
  rw [LB.out] at hc
  refine hc.mono ?_
  clear hc
  rintro e V11 ⟨v, rfl, hv, hb⟩
  clear kXA zXA kXB zXB kXC zXC kX1 zX1 kX2 zX2
  replace XA := XA.below hb
  replace XB := XB.below hb
  replace XC := XC.below hb
  replace X1 := X1.below hb
  replace X2 := X2.below hb
  replace WW := WW.trans (hb.mono WW.size)
  obtain ⟨D3, d3, rfl, hv'⟩ := hv.open_
  clear hv
  have kXA := XA.cell
  have zXA := XA.lt
  have kXB := XB.cell
  have zXB := XB.lt
  have kXC := XC.cell
  have zXC := XC.lt
  have kX1 := X1.cell
  have zX1 := X1.lt
  have kX2 := X2.cell
  have zX2 := X2.lt
  clear hb
  go_wp2_with fail
  obtain ⟨b0, bw⟩ := boxes1 V11 (.slice D3 (nw a) d3)
  clear kXA zXA kXB zXB kXC zXC kX1 zX1 kX2 zX2
  replace XA := XA.below bw
  replace XB := XB.below bw
  replace XC := XC.below bw
  replace X1 := X1.below bw
  replace X2 := X2.below bw
  have X3 := Box.mk b0 hv' bw
  replace WW := WW.trans (bw.mono WW.size)
  clear bw b0 hv'
  generalize hV : (V11.alloc (.cells #[.slice D3 (nw a) d3] 24)) = V12 at XA XB XC X1 X2 X3 WW ⊢
  clear hV
  have kXA := XA.cell
  have zXA := XA.lt
  have kXB := XB.cell
  have zXB := XB.lt
  have kXC := XC.cell
  have zXC := XC.lt
  have kX1 := X1.cell
  have zX1 := X1.lt
  have kX2 := X2.cell
  have zX2 := X2.lt
  have kX3 := X3.cell
  have zX3 := X3.lt
  have hc := same_any D3 A _ _ d3 ca a a V12 X3.num XA.num (by omega) (by omega)
  rw [sameB_yes] at hc
  refine hc.mono ?_
  clear hc
  rintro e V13 ⟨rfl, hb⟩
  clear kXA zXA kXB zXB kXC zXC kX1 zX1 kX2 zX2 kX3 zX3
  replace XA := XA.below hb
  replace XB := XB.below hb
  replace XC := XC.below hb
  replace X1 := X1.below hb
  replace X2 := X2.below hb
  replace X3 := X3.below hb
  replace WW := WW.trans (hb.mono WW.size)
  have kXA := XA.cell
  have zXA := XA.lt
  have kXB := XB.cell
  have zXB := XB.lt
  have kXC := XC.cell
  have zXC := XC.lt
  have kX1 := X1.cell
  have zX1 := X1.lt
  have kX2 := X2.cell
  have zX2 := X2.lt
  have kX3 := X3.cell
  have zX3 := X3.lt
  clear hb
  go_wp2_with fail
  have hc := add_any B' C' _ _ cb cc b c V13 XB.num XC.num (by omega) (by omega)
  rw [bothS_yes HB.out HC.out] at hc
  rw [L2.out] at hc
  refine hc.mono ?_
  clear hc
  rintro e V14 ⟨v, rfl, hv, hb⟩
  clear kXA zXA kXB zXB kXC zXC kX1 zX1 kX2 zX2 kX3 zX3
  replace XA := XA.below hb
  replace XB := XB.below hb
  replace XC := XC.below hb
  replace X1 := X1.below hb
  replace X2 := X2.below hb
  replace X3 := X3.below hb
  replace WW := WW.trans (hb.mono WW.size)
  obtain ⟨D4, d4, rfl, hv'⟩ := hv.open_
  clear hv
  have kXA := XA.cell
  have zXA := XA.lt
  have kXB := XB.cell
  have zXB := XB.lt
  have kXC := XC.cell
  have zXC := XC.lt
  have kX1 := X1.cell
  have zX1 := X1.lt
  have kX2 := X2.cell
  have zX2 := X2.lt
  have kX3 := X3.cell
  have zX3 := X3.lt
  clear hb
  go_wp2_with fail
  obtain ⟨b0, bw⟩ := boxes1 V14 (.slice D4 (nw 0) d4)
  clear kXA zXA kXB zXB kXC zXC kX1 zX1 kX2 zX2 kX3 zX3
  replace XA := XA.below bw
  replace XB := XB.below bw
  replace XC := XC.below bw
  replace X1 := X1.below bw
  replace X2 := X2.below bw
  replace X3 := X3.below bw
  have X4 := Box.mk b0 hv' bw
  replace WW := WW.trans (bw.mono WW.size)
  clear bw b0 hv'
  generalize hV : (V14.alloc (.cells #[.slice D4 (nw 0) d4] 24)) = V15 at XA XB XC X1 X2 X3 X4 WW ⊢
  clear hV
  have kXA := XA.cell
  have zXA := XA.lt
  have kXB := XB.cell
  have zXB := XB.lt
  have kXC := XC.cell
  have zXC := XC.lt
  have kX1 := X1.cell
  have zX1 := X1.lt
  have kX2 := X2.cell
  have zX2 := X2.lt
  have kX3 := X3.cell
  have zX3 := X3.lt
  have kX4 := X4.cell
  have zX4 := X4.lt
  have hc := add_any D1 C' _ _ d1 cc (a + b) c V15 X1.num XC.num (by omega) (by omega)
  rw [bothS_yes O1.out HC.out] at hc
  rw [L3.out] at hc
  refine hc.mono ?_
  clear hc
  rintro e V16 ⟨v, rfl, hv, hb⟩
  clear kXA zXA kXB zXB kXC zXC kX1 zX1 kX2 zX2 kX3 zX3 kX4 zX4
  replace XA := XA.below hb
  replace XB := XB.below hb
  replace XC := XC.below hb
  replace X1 := X1.below hb
  replace X2 := X2.below hb
  replace X3 := X3.below hb
  replace X4 := X4.below hb
  replace WW := WW.trans (hb.mono WW.size)
  obtain ⟨D5, d5, rfl, hv'⟩ := hv.open_
  clear hv
  have kXA := XA.cell
  have zXA := XA.lt
  have kXB := XB.cell
  have zXB := XB.lt
  have kXC := XC.cell
  have zXC := XC.lt
  have kX1 := X1.cell
  have zX1 := X1.lt
  have kX2 := X2.cell
  have zX2 := X2.lt
  have kX3 := X3.cell
  have zX3 := X3.lt
  have kX4 := X4.cell
  have zX4 := X4.lt
  clear hb
  go_wp2_with fail
  obtain ⟨b0, bw⟩ := boxes1 V16 (.slice D5 (nw v3) d5)
  clear kXA zXA kXB zXB kXC zXC kX1 zX1 kX2 zX2 kX3 zX3 kX4 zX4
  replace XA := XA.below bw
  replace XB := XB.below bw
  replace XC := XC.below bw
  replace X1 := X1.below bw
  replace X2 := X2.below bw
  replace X3 := X3.below bw
  replace X4 := X4.below bw
  have X5 := Box.mk b0 hv' bw
  replace WW := WW.trans (bw.mono WW.size)
  clear bw b0 hv'
  generalize hV : (V16.alloc (.cells #[.slice D5 (nw v3) d5] 24)) = V17 at XA XB XC X1 X2 X3 X4 X5 WW ⊢
  clear hV
  have kXA := XA.cell
  have zXA := XA.lt
  have kXB := XB.cell
  have zXB := XB.lt
  have kXC := XC.cell
  have zXC := XC.lt
  have kX1 := X1.cell
  have zX1 := X1.lt
  have kX2 := X2.cell
  have zX2 := X2.lt
  have kX3 := X3.cell
  have zX3 := X3.lt
  have kX4 := X4.cell
  have zX4 := X4.lt
  have kX5 := X5.cell
  have zX5 := X5.lt
  have hc := mul_any A B' _ _ ca cb a b V17 XA.num XB.num (by omega) (by omega)
  rw [bothS_yes HA.out HB.out] at hc
  rw [L4.out] at hc
  refine hc.mono ?_
  clear hc
  rintro e V18 ⟨v, rfl, hv, hb⟩
  clear kXA zXA kXB zXB kXC zXC kX1 zX1 kX2 zX2 kX3 zX3 kX4 zX4 kX5 zX5
  replace XA := XA.below hb
  replace XB := XB.below hb
  replace XC := XC.below hb
  replace X1 := X1.below hb
  replace X2 := X2.below hb
  replace X3 := X3.below hb
  replace X4 := X4.below hb
  replace X5 := X5.below hb
  replace WW := WW.trans (hb.mono WW.size)
  obtain ⟨D6, d6, rfl, hv'⟩ := hv.open_
  clear hv
  have kXA := XA.cell
  have zXA := XA.lt
  have kXB := XB.cell
  have zXB := XB.lt
  have kXC := XC.cell
  have zXC := XC.lt
  have kX1 := X1.cell
  have zX1 := X1.lt
  have kX2 := X2.cell
  have zX2 := X2.lt
  have kX3 := X3.cell
  have zX3 := X3.lt
  have kX4 := X4.cell
  have zX4 := X4.lt
  have kX5 := X5.cell
  have zX5 := X5.lt
  clear hb
  go_wp2_with fail
  obtain ⟨b0, bw⟩ := boxes1 V18 (.slice D6 (nw (a * b)) d6)
  clear kXA zXA kXB zXB kXC zXC kX1 zX1 kX2 zX2 kX3 zX3 kX4 zX4 kX5 zX5
  replace XA := XA.below bw
  replace XB := XB.below bw
  replace XC := XC.below bw
  replace X1 := X1.below bw
  replace X2 := X2.below bw
  replace X3 := X3.below bw
  replace X4 := X4.below bw
  replace X5 := X5.below bw
  have X7 := Box.mk b0 hv' bw
  replace WW := WW.trans (bw.mono WW.size)
  clear bw b0 hv'
  generalize hV : (V18.alloc (.cells #[.slice D6 (nw (a * b)) d6] 24)) = V19 at XA XB XC X1 X2 X3 X4 X5 X7 WW ⊢
  clear hV
  have kXA := XA.cell
  have zXA := XA.lt
  have kXB := XB.cell
  have zXB := XB.lt
  have kXC := XC.cell
  have zXC := XC.lt
  have kX1 := X1.cell
  have zX1 := X1.lt
  have kX2 := X2.cell
  have zX2 := X2.lt
  have kX3 := X3.cell
  have zX3 := X3.lt
  have kX4 := X4.cell
  have zX4 := X4.lt
  have kX5 := X5.cell
  have zX5 := X5.lt
  have kX7 := X7.cell
  have zX7 := X7.lt
  have hc := mul_any B' A _ _ cb ca b a V19 XB.num XA.num (by omega) (by omega)
  rw [bothS_yes HB.out HA.out] at hc
  rw [L4'.out] at hc
  refine hc.mono ?_
  clear hc
  rintro e V20 ⟨v, rfl, hv, hb⟩
  clear kXA zXA kXB zXB kXC zXC kX1 zX1 kX2 zX2 kX3 zX3 kX4 zX4 kX5 zX5 kX7 zX7
  replace XA := XA.below hb
  replace XB := XB.below hb
  replace XC := XC.below hb
  replace X1 := X1.below hb
  replace X2 := X2.below hb
  replace X3 := X3.below hb
  replace X4 := X4.below hb
  replace X5 := X5.below hb
  replace X7 := X7.below hb
  replace WW := WW.trans (hb.mono WW.size)
  obtain ⟨D7, d7, rfl, hv'⟩ := hv.open_
  clear hv
  have kXA := XA.cell
  have zXA := XA.lt
  have kXB := XB.cell
  have zXB := XB.lt
  have kXC := XC.cell
  have zXC := XC.lt
  have kX1 := X1.cell
  have zX1 := X1.lt
  have kX2 := X2.cell
  have zX2 := X2.lt
  have kX3 := X3.cell
  have zX3 := X3.lt
  have kX4 := X4.cell
  have zX4 := X4.lt
  have kX5 := X5.cell
  have zX5 := X5.lt
  have kX7 := X7.cell
  have zX7 := X7.lt
  clear hb
  go_wp2_with fail
  obtain ⟨b0, bw⟩ := boxes1 V20 (.slice D7 (nw (a * b)) d7)
  clear kXA zXA kXB zXB kXC zXC kX1 zX1 kX2 zX2 kX3 zX3 kX4 zX4 kX5 zX5 kX7 zX7
  replace XA := XA.below bw
  replace XB := XB.below bw
  replace XC := XC.below bw
  replace X1 := X1.below bw
  replace X2 := X2.below bw
  replace X3 := X3.below bw
  replace X4 := X4.below bw
  replace X5 := X5.below bw
  replace X7 := X7.below bw
  have X8 := Box.mk b0 hv' bw
  replace WW := WW.trans (bw.mono WW.size)
  clear bw b0 hv'
  generalize hV : (V20.alloc (.cells #[.slice D7 (nw (a * b)) d7] 24)) = V21 at XA XB XC X1 X2 X3 X4 X5 X7 X8 WW ⊢
  clear hV
  have kXA := XA.cell
  have zXA := XA.lt
  have kXB := XB.cell
  have zXB := XB.lt
  have kXC := XC.cell
  have zXC := XC.lt
  have kX1 := X1.cell
  have zX1 := X1.lt
  have kX2 := X2.cell
  have zX2 := X2.lt
  have kX3 := X3.cell
  have zX3 := X3.lt
  have kX4 := X4.cell
  have zX4 := X4.lt
  have kX5 := X5.cell
  have zX5 := X5.lt
  have kX7 := X7.cell
  have zX7 := X7.lt
  have kX8 := X8.cell
  have zX8 := X8.lt
  have hc := same_any D6 D7 _ _ d6 d7 (a * b) (a * b) V21 X7.num X8.num (by omega) (by omega)
  rw [sameB_yes] at hc
  refine hc.mono ?_
  clear hc
  rintro e V22 ⟨rfl, hb⟩
  clear kXA zXA kXB zXB kXC zXC kX1 zX1 kX2 zX2 kX3 zX3 kX4 zX4 kX5 zX5 kX7 zX7 kX8 zX8
  replace XA := XA.below hb
  replace XB := XB.below hb
  replace XC := XC.below hb
  replace X1 := X1.below hb
  replace X2 := X2.below hb
  replace X3 := X3.below hb
  replace X4 := X4.below hb
  replace X5 := X5.below hb
  replace X7 := X7.below hb
  replace X8 := X8.below hb
  replace WW := WW.trans (hb.mono WW.size)
  have kXA := XA.cell
  have zXA := XA.lt
  have kXB := XB.cell
  have zXB := XB.lt
  have kXC := XC.cell
  have zXC := XC.lt
  have kX1 := X1.cell
  have zX1 := X1.lt
  have kX2 := X2.cell
  have zX2 := X2.lt
  have kX3 := X3.cell
  have zX3 := X3.lt
  have kX4 := X4.cell
  have zX4 := X4.lt
  have kX5 := X5.cell
  have zX5 := X5.lt
  have kX7 := X7.cell
  have zX7 := X7.lt
  have kX8 := X8.cell
  have zX8 := X8.lt
  clear hb
  go_wp2_with fail
  have hc := of_any 1 V22 (by omega) (by omega)
  rw [LO.out] at hc
  refine hc.mono ?_
  clear hc
  rintro e V23 ⟨v, rfl, hv, hb⟩
  clear kXA zXA kXB zXB kXC zXC kX1 zX1 kX2 zX2 kX3 zX3 kX4 zX4 kX5 zX5 kX7 zX7 kX8 zX8
  replace XA := XA.below hb
  replace XB := XB.below hb
  replace XC := XC.below hb
  replace X1 := X1.below hb
  replace X2 := X2.below hb
  replace X3 := X3.below hb
  replace X4 := X4.below hb
  replace X5 := X5.below hb
  replace X7 := X7.below hb
  replace X8 := X8.below hb
  replace WW := WW.trans (hb.mono WW.size)
  obtain ⟨D8, d8, rfl, hv'⟩ := hv.open_
  clear hv
  have kXA := XA.cell
  have zXA := XA.lt
  have kXB := XB.cell
  have zXB := XB.lt
  have kXC := XC.cell
  have zXC := XC.lt
  have kX1 := X1.cell
  have zX1 := X1.lt
  have kX2 := X2.cell
  have zX2 := X2.lt
  have kX3 := X3.cell
  have zX3 := X3.lt
  have kX4 := X4.cell
  have zX4 := X4.lt
  have kX5 := X5.cell
  have zX5 := X5.lt
  have kX7 := X7.cell
  have zX7 := X7.lt
  have kX8 := X8.cell
  have zX8 := X8.lt
  clear hb
  go_wp2_with fail
  obtain ⟨b0, bw⟩ := boxes1 V23 (.slice D8 (nw u) d8)
  clear kXA zXA kXB zXB kXC zXC kX1 zX1 kX2 zX2 kX3 zX3 kX4 zX4 kX5 zX5 kX7 zX7 kX8 zX8
  replace XA := XA.below bw
  replace XB := XB.below bw
  replace XC := XC.below bw
  replace X1 := X1.below bw
  replace X2 := X2.below bw
  replace X3 := X3.below bw
  replace X4 := X4.below bw
  replace X5 := X5.below bw
  replace X7 := X7.below bw
  replace X8 := X8.below bw
  have X9 := Box.mk b0 hv' bw
  replace WW := WW.trans (bw.mono WW.size)
  clear bw b0 hv'
  generalize hV : (V23.alloc (.cells #[.slice D8 (nw u) d8] 24)) = V24 at XA XB XC X1 X2 X3 X4 X5 X7 X8 X9 WW ⊢
  clear hV
  have kXA := XA.cell
  have zXA := XA.lt
  have kXB := XB.cell
  have zXB := XB.lt
  have kXC := XC.cell
  have zXC := XC.lt
  have kX1 := X1.cell
  have zX1 := X1.lt
  have kX2 := X2.cell
  have zX2 := X2.lt
  have kX3 := X3.cell
  have zX3 := X3.lt
  have kX4 := X4.cell
  have zX4 := X4.lt
  have kX5 := X5.cell
  have zX5 := X5.lt
  have kX7 := X7.cell
  have zX7 := X7.lt
  have kX8 := X8.cell
  have zX8 := X8.lt
  have kX9 := X9.cell
  have zX9 := X9.lt
  have hc := mul_any A D8 _ _ ca d8 a u V24 XA.num X9.num (by omega) (by omega)
  rw [bothS_yes HA.out OU.out] at hc
  rw [LU.out] at hc
  refine hc.mono ?_
  clear hc
  rintro e V25 ⟨v, rfl, hv, hb⟩
  clear kXA zXA kXB zXB kXC zXC kX1 zX1 kX2 zX2 kX3 zX3 kX4 zX4 kX5 zX5 kX7 zX7 kX8 zX8 kX9 zX9
  replace XA := XA.below hb
  replace XB := XB.below hb
  replace XC := XC.below hb
  replace X1 := X1.below hb
  replace X2 := X2.below hb
  replace X3 := X3.below hb
  replace X4 := X4.below hb
  replace X5 := X5.below hb
  replace X7 := X7.below hb
  replace X8 := X8.below hb
  replace X9 := X9.below hb
  replace WW := WW.trans (hb.mono WW.size)
  obtain ⟨D9, d9, rfl, hv'⟩ := hv.open_
  clear hv
  have kXA := XA.cell
  have zXA := XA.lt
  have kXB := XB.cell
  have zXB := XB.lt
  have kXC := XC.cell
  have zXC := XC.lt
  have kX1 := X1.cell
  have zX1 := X1.lt
  have kX2 := X2.cell
  have zX2 := X2.lt
  have kX3 := X3.cell
  have zX3 := X3.lt
  have kX4 := X4.cell
  have zX4 := X4.lt
  have kX5 := X5.cell
  have zX5 := X5.lt
  have kX7 := X7.cell
  have zX7 := X7.lt
  have kX8 := X8.cell
  have zX8 := X8.lt
  have kX9 := X9.cell
  have zX9 := X9.lt
  clear hb
  go_wp2_with fail
  obtain ⟨b0, bw⟩ := boxes1 V25 (.slice D9 (nw a) d9)
  clear kXA zXA kXB zXB kXC zXC kX1 zX1 kX2 zX2 kX3 zX3 kX4 zX4 kX5 zX5 kX7 zX7 kX8 zX8 kX9 zX9
  replace XA := XA.below bw
  replace XB := XB.below bw
  replace XC := XC.below bw
  replace X1 := X1.below bw
  replace X2 := X2.below bw
  replace X3 := X3.below bw
  replace X4 := X4.below bw
  replace X5 := X5.below bw
  replace X7 := X7.below bw
  replace X8 := X8.below bw
  replace X9 := X9.below bw
  have X10 := Box.mk b0 hv' bw
  replace WW := WW.trans (bw.mono WW.size)
  clear bw b0 hv'
  generalize hV : (V25.alloc (.cells #[.slice D9 (nw a) d9] 24)) = V26 at XA XB XC X1 X2 X3 X4 X5 X7 X8 X9 X10 WW ⊢
  clear hV
  have kXA := XA.cell
  have zXA := XA.lt
  have kXB := XB.cell
  have zXB := XB.lt
  have kXC := XC.cell
  have zXC := XC.lt
  have kX1 := X1.cell
  have zX1 := X1.lt
  have kX2 := X2.cell
  have zX2 := X2.lt
  have kX3 := X3.cell
  have zX3 := X3.lt
  have kX4 := X4.cell
  have zX4 := X4.lt
  have kX5 := X5.cell
  have zX5 := X5.lt
  have kX7 := X7.cell
  have zX7 := X7.lt
  have kX8 := X8.cell
  have zX8 := X8.lt
  have kX9 := X9.cell
  have zX9 := X9.lt
  have kX10 := X10.cell
  have zX10 := X10.lt
  have hc := add_any A none _ 0 ca 0 a 0 V26 XA.num (Num.nil _ _ _) (by omega) (by omega)
  rw [bothS_yes HA.out OZ.out] at hc
  rw [LZ.out] at hc
  refine hc.mono ?_
  clear hc
  rintro e V27 ⟨v, rfl, hv, hb⟩
  clear kXA zXA kXB zXB kXC zXC kX1 zX1 kX2 zX2 kX3 zX3 kX4 zX4 kX5 zX5 kX7 zX7 kX8 zX8 kX9 zX9 kX10 zX10
  replace XA := XA.below hb
  replace XB := XB.below hb
  replace XC := XC.below hb
  replace X1 := X1.below hb
  replace X2 := X2.below hb
  replace X3 := X3.below hb
  replace X4 := X4.below hb
  replace X5 := X5.below hb
  replace X7 := X7.below hb
  replace X8 := X8.below hb
  replace X9 := X9.below hb
  replace X10 := X10.below hb
  replace WW := WW.trans (hb.mono WW.size)
  obtain ⟨D10, d10, rfl, hv'⟩ := hv.open_
  clear hv
  have kXA := XA.cell
  have zXA := XA.lt
  have kXB := XB.cell
  have zXB := XB.lt
  have kXC := XC.cell
  have zXC := XC.lt
  have kX1 := X1.cell
  have zX1 := X1.lt
  have kX2 := X2.cell
  have zX2 := X2.lt
  have kX3 := X3.cell
  have zX3 := X3.lt
  have kX4 := X4.cell
  have zX4 := X4.lt
  have kX5 := X5.cell
  have zX5 := X5.lt
  have kX7 := X7.cell
  have zX7 := X7.lt
  have kX8 := X8.cell
  have zX8 := X8.lt
  have kX9 := X9.cell
  have zX9 := X9.lt
  have kX10 := X10.cell
  have zX10 := X10.lt
  clear hb
  go_wp2_with fail
  obtain ⟨b0, bw⟩ := boxes1 V27 (.slice D10 (nw a) d10)
  clear kXA zXA kXB zXB kXC zXC kX1 zX1 kX2 zX2 kX3 zX3 kX4 zX4 kX5 zX5 kX7 zX7 kX8 zX8 kX9 zX9 kX10 zX10
  replace XA := XA.below bw
  replace XB := XB.below bw
  replace XC := XC.below bw
  replace X1 := X1.below bw
  replace X2 := X2.below bw
  replace X3 := X3.below bw
  replace X4 := X4.below bw
  replace X5 := X5.below bw
  replace X7 := X7.below bw
  replace X8 := X8.below bw
  replace X9 := X9.below bw
  replace X10 := X10.below bw
  have X11 := Box.mk b0 hv' bw
  replace WW := WW.trans (bw.mono WW.size)
  clear bw b0 hv'
  generalize hV : (V27.alloc (.cells #[.slice D10 (nw a) d10] 24)) = V28 at XA XB XC X1 X2 X3 X4 X5 X7 X8 X9 X10 X11 WW ⊢
  clear hV
  have kXA := XA.cell
  have zXA := XA.lt
  have kXB := XB.cell
  have zXB := XB.lt
  have kXC := XC.cell
  have zXC := XC.lt
  have kX1 := X1.cell
  have zX1 := X1.lt
  have kX2 := X2.cell
  have zX2 := X2.lt
  have kX3 := X3.cell
  have zX3 := X3.lt
  have kX4 := X4.cell
  have zX4 := X4.lt
  have kX5 := X5.cell
  have zX5 := X5.lt
  have kX7 := X7.cell
  have zX7 := X7.lt
  have kX8 := X8.cell
  have zX8 := X8.lt
  have kX9 := X9.cell
  have zX9 := X9.lt
  have kX10 := X10.cell
  have zX10 := X10.lt
  have kX11 := X11.cell
  have zX11 := X11.lt
  have hc := same_any D9 A _ _ d9 ca a a V28 X10.num XA.num (by omega) (by omega)
  rw [sameB_yes] at hc
  refine hc.mono ?_
  clear hc
  rintro e V29 ⟨rfl, hb⟩
  clear kXA zXA kXB zXB kXC zXC kX1 zX1 kX2 zX2 kX3 zX3 kX4 zX4 kX5 zX5 kX7 zX7 kX8 zX8 kX9 zX9 kX10 zX10 kX11 zX11
  replace XA := XA.below hb
  replace XB := XB.below hb
  replace XC := XC.below hb
  replace X1 := X1.below hb
  replace X2 := X2.below hb
  replace X3 := X3.below hb
  replace X4 := X4.below hb
  replace X5 := X5.below hb
  replace X7 := X7.below hb
  replace X8 := X8.below hb
  replace X9 := X9.below hb
  replace X10 := X10.below hb
  replace X11 := X11.below hb
  replace WW := WW.trans (hb.mono WW.size)
  have kXA := XA.cell
  have zXA := XA.lt
  have kXB := XB.cell
  have zXB := XB.lt
  have kXC := XC.cell
  have zXC := XC.lt
  have kX1 := X1.cell
  have zX1 := X1.lt
  have kX2 := X2.cell
  have zX2 := X2.lt
  have kX3 := X3.cell
  have zX3 := X3.lt
  have kX4 := X4.cell
  have zX4 := X4.lt
  have kX5 := X5.cell
  have zX5 := X5.lt
  have kX7 := X7.cell
  have zX7 := X7.lt
  have kX8 := X8.cell
  have zX8 := X8.lt
  have kX9 := X9.cell
  have zX9 := X9.lt
  have kX10 := X10.cell
  have zX10 := X10.lt
  have kX11 := X11.cell
  have zX11 := X11.lt
  clear hb
  go_wp2_with fail
  have hc := same_any D10 A _ _ d10 ca a a V29 X11.num XA.num (by omega) (by omega)
  rw [sameB_yes] at hc
  refine hc.mono ?_
  clear hc
  rintro e V30 ⟨rfl, hb⟩
  clear kXA zXA kXB zXB kXC zXC kX1 zX1 kX2 zX2 kX3 zX3 kX4 zX4 kX5 zX5 kX7 zX7 kX8 zX8 kX9 zX9 kX10 zX10 kX11 zX11
  replace XA := XA.below hb
  replace XB := XB.below hb
  replace XC := XC.below hb
  replace X1 := X1.below hb
  replace X2 := X2.below hb
  replace X3 := X3.below hb
  replace X4 := X4.below hb
  replace X5 := X5.below hb
  replace X7 := X7.below hb
  replace X8 := X8.below hb
  replace X9 := X9.below hb
  replace X10 := X10.below hb
  replace X11 := X11.below hb
  replace WW := WW.trans (hb.mono WW.size)
  have kXA := XA.cell
  have zXA := XA.lt
  have kXB := XB.cell
  have zXB := XB.lt
  have kXC := XC.cell
  have zXC := XC.lt
  have kX1 := X1.cell
  have zX1 := X1.lt
  have kX2 := X2.cell
  have zX2 := X2.lt
  have kX3 := X3.cell
  have zX3 := X3.lt
  have kX4 := X4.cell
  have zX4 := X4.lt
  have kX5 := X5.cell
  have zX5 := X5.lt
  have kX7 := X7.cell
  have zX7 := X7.lt
  have kX8 := X8.cell
  have zX8 := X8.lt
  have kX9 := X9.cell
  have zX9 := X9.lt
  have kX10 := X10.cell
  have zX10 := X10.lt
  have kX11 := X11.cell
  have zX11 := X11.lt
  clear hb
  go_wp2_with fail
  have hc := mul_any D6 C' _ _ d6 cc (a * b) c V30 X7.num XC.num (by omega) (by omega)
  rw [bothS_yes O4.out HC.out] at hc
  rw [L5.out] at hc
  refine hc.mono ?_
  clear hc
  rintro e V31 ⟨v, rfl, hv, hb⟩
  clear kXA zXA kXB zXB kXC zXC kX1 zX1 kX2 zX2 kX3 zX3 kX4 zX4 kX5 zX5 kX7 zX7 kX8 zX8 kX9 zX9 kX10 zX10 kX11 zX11
  replace XA := XA.below hb
  replace XB := XB.below hb
  replace XC := XC.below hb
  replace X1 := X1.below hb
  replace X2 := X2.below hb
  replace X3 := X3.below hb
  replace X4 := X4.below hb
  replace X5 := X5.below hb
  replace X7 := X7.below hb
  replace X8 := X8.below hb
  replace X9 := X9.below hb
  replace X10 := X10.below hb
  replace X11 := X11.below hb
  replace WW := WW.trans (hb.mono WW.size)
  obtain ⟨D11, d11, rfl, hv'⟩ := hv.open_
  clear hv
  have kXA := XA.cell
  have zXA := XA.lt
  have kXB := XB.cell
  have zXB := XB.lt
  have kXC := XC.cell
  have zXC := XC.lt
  have kX1 := X1.cell
  have zX1 := X1.lt
  have kX2 := X2.cell
  have zX2 := X2.lt
  have kX3 := X3.cell
  have zX3 := X3.lt
  have kX4 := X4.cell
  have zX4 := X4.lt
  have kX5 := X5.cell
  have zX5 := X5.lt
  have kX7 := X7.cell
  have zX7 := X7.lt
  have kX8 := X8.cell
  have zX8 := X8.lt
  have kX9 := X9.cell
  have zX9 := X9.lt
  have kX10 := X10.cell
  have zX10 := X10.lt
  have kX11 := X11.cell
  have zX11 := X11.lt
  clear hb
  go_wp2_with fail
  obtain ⟨b0, bw⟩ := boxes1 V31 (.slice D11 (nw (a * b * c)) d11)
  clear kXA zXA kXB zXB kXC zXC kX1 zX1 kX2 zX2 kX3 zX3 kX4 zX4 kX5 zX5 kX7 zX7 kX8 zX8 kX9 zX9 kX10 zX10 kX11 zX11
  replace XA := XA.below bw
  replace XB := XB.below bw
  replace XC := XC.below bw
  replace X1 := X1.below bw
  replace X2 := X2.below bw
  replace X3 := X3.below bw
  replace X4 := X4.below bw
  replace X5 := X5.below bw
  replace X7 := X7.below bw
  replace X8 := X8.below bw
  replace X9 := X9.below bw
  replace X10 := X10.below bw
  replace X11 := X11.below bw
  have X12 := Box.mk b0 hv' bw
  replace WW := WW.trans (bw.mono WW.size)
  clear bw b0 hv'
  generalize hV : (V31.alloc (.cells #[.slice D11 (nw (a * b * c)) d11] 24)) = V32 at XA XB XC X1 X2 X3 X4 X5 X7 X8 X9 X10 X11 X12 WW ⊢
  clear hV
  have kXA := XA.cell
  have zXA := XA.lt
  have kXB := XB.cell
  have zXB := XB.lt
  have kXC := XC.cell
  have zXC := XC.lt
  have kX1 := X1.cell
  have zX1 := X1.lt
  have kX2 := X2.cell
  have zX2 := X2.lt
  have kX3 := X3.cell
  have zX3 := X3.lt
  have kX4 := X4.cell
  have zX4 := X4.lt
  have kX5 := X5.cell
  have zX5 := X5.lt
  have kX7 := X7.cell
  have zX7 := X7.lt
  have kX8 := X8.cell
  have zX8 := X8.lt
  have kX9 := X9.cell
  have zX9 := X9.lt
  have kX10 := X10.cell
  have zX10 := X10.lt
  have kX11 := X11.cell
  have zX11 := X11.lt
  have kX12 := X12.cell
  have zX12 := X12.lt
  have hc := mul_any B' C' _ _ cb cc b c V32 XB.num XC.num (by omega) (by omega)
  rw [bothS_yes HB.out HC.out] at hc
  rw [L6.out] at hc
  refine hc.mono ?_
  clear hc
  rintro e V33 ⟨v, rfl, hv, hb⟩
  clear kXA zXA kXB zXB kXC zXC kX1 zX1 kX2 zX2 kX3 zX3 kX4 zX4 kX5 zX5 kX7 zX7 kX8 zX8 kX9 zX9 kX10 zX10 kX11 zX11 kX12 zX12
  replace XA := XA.below hb
  replace XB := XB.below hb
  replace XC := XC.below hb
  replace X1 := X1.below hb
  replace X2 := X2.below hb
  replace X3 := X3.below hb
  replace X4 := X4.below hb
  replace X5 := X5.below hb
  replace X7 := X7.below hb
  replace X8 := X8.below hb
  replace X9 := X9.below hb
  replace X10 := X10.below hb
  replace X11 := X11.below hb
  replace X12 := X12.below hb
  replace WW := WW.trans (hb.mono WW.size)
  obtain ⟨D12, d12, rfl, hv'⟩ := hv.open_
  clear hv
  have kXA := XA.cell
  have zXA := XA.lt
  have kXB := XB.cell
  have zXB := XB.lt
  have kXC := XC.cell
  have zXC := XC.lt
  have kX1 := X1.cell
  have zX1 := X1.lt
  have kX2 := X2.cell
  have zX2 := X2.lt
  have kX3 := X3.cell
  have zX3 := X3.lt
  have kX4 := X4.cell
  have zX4 := X4.lt
  have kX5 := X5.cell
  have zX5 := X5.lt
  have kX7 := X7.cell
  have zX7 := X7.lt
  have kX8 := X8.cell
  have zX8 := X8.lt
  have kX9 := X9.cell
  have zX9 := X9.lt
  have kX10 := X10.cell
  have zX10 := X10.lt
  have kX11 := X11.cell
  have zX11 := X11.lt
  have kX12 := X12.cell
  have zX12 := X12.lt
  clear hb
  go_wp2_with fail
  obtain ⟨b0, bw⟩ := boxes1 V33 (.slice D12 (nw (b * c)) d12)
  clear kXA zXA kXB zXB kXC zXC kX1 zX1 kX2 zX2 kX3 zX3 kX4 zX4 kX5 zX5 kX7 zX7 kX8 zX8 kX9 zX9 kX10 zX10 kX11 zX11 kX12 zX12
  replace XA := XA.below bw
  replace XB := XB.below bw
  replace XC := XC.below bw
  replace X1 := X1.below bw
  replace X2 := X2.below bw
  replace X3 := X3.below bw
  replace X4 := X4.below bw
  replace X5 := X5.below bw
  replace X7 := X7.below bw
  replace X8 := X8.below bw
  replace X9 := X9.below bw
  replace X10 := X10.below bw
  replace X11 := X11.below bw
  replace X12 := X12.below bw
  have X13 := Box.mk b0 hv' bw
  replace WW := WW.trans (bw.mono WW.size)
  clear bw b0 hv'
  generalize hV : (V33.alloc (.cells #[.slice D12 (nw (b * c)) d12] 24)) = V34 at XA XB XC X1 X2 X3 X4 X5 X7 X8 X9 X10 X11 X12 X13 WW ⊢
  clear hV
  have kXA := XA.cell
  have zXA := XA.lt
  have kXB := XB.cell
  have zXB := XB.lt
  have kXC := XC.cell
  have zXC := XC.lt
  have kX1 := X1.cell
  have zX1 := X1.lt
  have kX2 := X2.cell
  have zX2 := X2.lt
  have kX3 := X3.cell
  have zX3 := X3.lt
  have kX4 := X4.cell
  have zX4 := X4.lt
  have kX5 := X5.cell
  have zX5 := X5.lt
  have kX7 := X7.cell
  have zX7 := X7.lt
  have kX8 := X8.cell
  have zX8 := X8.lt
  have kX9 := X9.cell
  have zX9 := X9.lt
  have kX10 := X10.cell
  have zX10 := X10.lt
  have kX11 := X11.cell
  have zX11 := X11.lt
  have kX12 := X12.cell
  have zX12 := X12.lt
  have kX13 := X13.cell
  have zX13 := X13.lt
  have hc := mul_any A D12 _ _ ca d12 a (b * c) V34 XA.num X13.num (by omega) (by omega)
  rw [bothS_yes HA.out O6.out] at hc
  rw [L5'.out] at hc
  refine hc.mono ?_
  clear hc
  rintro e V35 ⟨v, rfl, hv, hb⟩
  clear kXA zXA kXB zXB kXC zXC kX1 zX1 kX2 zX2 kX3 zX3 kX4 zX4 kX5 zX5 kX7 zX7 kX8 zX8 kX9 zX9 kX10 zX10 kX11 zX11 kX12 zX12 kX13 zX13
  replace XA := XA.below hb
  replace XB := XB.below hb
  replace XC := XC.below hb
  replace X1 := X1.below hb
  replace X2 := X2.below hb
  replace X3 := X3.below hb
  replace X4 := X4.below hb
  replace X5 := X5.below hb
  replace X7 := X7.below hb
  replace X8 := X8.below hb
  replace X9 := X9.below hb
  replace X10 := X10.below hb
  replace X11 := X11.below hb
  replace X12 := X12.below hb
  replace X13 := X13.below hb
  replace WW := WW.trans (hb.mono WW.size)
  obtain ⟨D13, d13, rfl, hv'⟩ := hv.open_
  clear hv
  have kXA := XA.cell
  have zXA := XA.lt
  have kXB := XB.cell
  have zXB := XB.lt
  have kXC := XC.cell
  have zXC := XC.lt
  have kX1 := X1.cell
  have zX1 := X1.lt
  have kX2 := X2.cell
  have zX2 := X2.lt
  have kX3 := X3.cell
  have zX3 := X3.lt
  have kX4 := X4.cell
  have zX4 := X4.lt
  have kX5 := X5.cell
  have zX5 := X5.lt
  have kX7 := X7.cell
  have zX7 := X7.lt
  have kX8 := X8.cell
  have zX8 := X8.lt
  have kX9 := X9.cell
  have zX9 := X9.lt
  have kX10 := X10.cell
  have zX10 := X10.lt
  have kX11 := X11.cell
  have zX11 := X11.lt
  have kX12 := X12.cell
  have zX12 := X12.lt
  have kX13 := X13.cell
  have zX13 := X13.lt
  clear hb
  go_wp2_with fail
  obtain ⟨b0, bw⟩ := boxes1 V35 (.slice D13 (nw (a * b * c)) d13)
  clear kXA zXA kXB zXB kXC zXC kX1 zX1 kX2 zX2 kX3 zX3 kX4 zX4 kX5 zX5 kX7 zX7 kX8 zX8 kX9 zX9 kX10 zX10 kX11 zX11 kX12 zX12 kX13 zX13
  replace XA := XA.below bw
  replace XB := XB.below bw
  replace XC := XC.below bw
  replace X1 := X1.below bw
  replace X2 := X2.below bw
  replace X3 := X3.below bw
  replace X4 := X4.below bw
  replace X5 := X5.below bw
  replace X7 := X7.below bw
  replace X8 := X8.below bw
  replace X9 := X9.below bw
  replace X10 := X10.below bw
  replace X11 := X11.below bw
  replace X12 := X12.below bw
  replace X13 := X13.below bw
  have X14 := Box.mk b0 hv' bw
  replace WW := WW.trans (bw.mono WW.size)
  clear bw b0 hv'
  generalize hV : (V35.alloc (.cells #[.slice D13 (nw (a * b * c)) d13] 24)) = V36 at XA XB XC X1 X2 X3 X4 X5 X7 X8 X9 X10 X11 X12 X13 X14 WW ⊢
  clear hV
  have kXA := XA.cell
  have zXA := XA.lt
  have kXB := XB.cell
  have zXB := XB.lt
  have kXC := XC.cell
  have zXC := XC.lt
  have kX1 := X1.cell
  have zX1 := X1.lt
  have kX2 := X2.cell
  have zX2 := X2.lt
  have kX3 := X3.cell
  have zX3 := X3.lt
  have kX4 := X4.cell
  have zX4 := X4.lt
  have kX5 := X5.cell
  have zX5 := X5.lt
  have kX7 := X7.cell
  have zX7 := X7.lt
  have kX8 := X8.cell
  have zX8 := X8.lt
  have kX9 := X9.cell
  have zX9 := X9.lt
  have kX10 := X10.cell
  have zX10 := X10.lt
  have kX11 := X11.cell
  have zX11 := X11.lt
  have kX12 := X12.cell
  have zX12 := X12.lt
  have kX13 := X13.cell
  have zX13 := X13.lt
  have kX14 := X14.cell
  have zX14 := X14.lt
  have hc := same_any D11 D13 _ _ d11 d13 (a * b * c) (a * b * c) V36 X12.num X14.num (by omega) (by omega)
  rw [sameB_yes] at hc
  refine hc.mono ?_
  clear hc
  rintro e V37 ⟨rfl, hb⟩
  clear kXA zXA kXB zXB kXC zXC kX1 zX1 kX2 zX2 kX3 zX3 kX4 zX4 kX5 zX5 kX7 zX7 kX8 zX8 kX9 zX9 kX10 zX10 kX11 zX11 kX12 zX12 kX13 zX13 kX14 zX14
  replace XA := XA.below hb
  replace XB := XB.below hb
  replace XC := XC.below hb
  replace X1 := X1.below hb
  replace X2 := X2.below hb
  replace X3 := X3.below hb
  replace X4 := X4.below hb
  replace X5 := X5.below hb
  replace X7 := X7.below hb
  replace X8 := X8.below hb
  replace X9 := X9.below hb
  replace X10 := X10.below hb
  replace X11 := X11.below hb
  replace X12 := X12.below hb
  replace X13 := X13.below hb
  replace X14 := X14.below hb
  replace WW := WW.trans (hb.mono WW.size)
  have kXA := XA.cell
  have zXA := XA.lt
  have kXB := XB.cell
  have zXB := XB.lt
  have kXC := XC.cell
  have zXC := XC.lt
  have kX1 := X1.cell
  have zX1 := X1.lt
  have kX2 := X2.cell
  have zX2 := X2.lt
  have kX3 := X3.cell
  have zX3 := X3.lt
  have kX4 := X4.cell
  have zX4 := X4.lt
  have kX5 := X5.cell
  have zX5 := X5.lt
  have kX7 := X7.cell
  have zX7 := X7.lt
  have kX8 := X8.cell
  have zX8 := X8.lt
  have kX9 := X9.cell
  have zX9 := X9.lt
  have kX10 := X10.cell
  have zX10 := X10.lt
  have kX11 := X11.cell
  have zX11 := X11.lt
  have kX12 := X12.cell
  have zX12 := X12.lt
  have kX13 := X13.cell
  have zX13 := X13.lt
  have kX14 := X14.cell
  have zX14 := X14.lt
  clear hb
  go_wp2_with fail
  have hc := mul_any D1 C' _ _ d1 cc (a + b) c V37 X1.num XC.num (by omega) (by omega)
  rw [bothS_yes O1.out HC.out] at hc
  rw [L7.out] at hc
  refine hc.mono ?_
  clear hc
  rintro e V38 ⟨v, rfl, hv, hb⟩
  clear kXA zXA kXB zXB kXC zXC kX1 zX1 kX2 zX2 kX3 zX3 kX4 zX4 kX5 zX5 kX7 zX7 kX8 zX8 kX9 zX9 kX10 zX10 kX11 zX11 kX12 zX12 kX13 zX13 kX14 zX14
  replace XA := XA.below hb
  replace XB := XB.below hb
  replace XC := XC.below hb
  replace X1 := X1.below hb
  replace X2 := X2.below hb
  replace X3 := X3.below hb
  replace X4 := X4.below hb
  replace X5 := X5.below hb
  replace X7 := X7.below hb
  replace X8 := X8.below hb
  replace X9 := X9.below hb
  replace X10 := X10.below hb
  replace X11 := X11.below hb
  replace X12 := X12.below hb
  replace X13 := X13.below hb
  replace X14 := X14.below hb
  replace WW := WW.trans (hb.mono WW.size)
  obtain ⟨D14, d14, rfl, hv'⟩ := hv.open_
  clear hv
  have kXA := XA.cell
  have zXA := XA.lt
  have kXB := XB.cell
  have zXB := XB.lt
  have kXC := XC.cell
  have zXC := XC.lt
  have kX1 := X1.cell
  have zX1 := X1.lt
  have kX2 := X2.cell
  have zX2 := X2.lt
  have kX3 := X3.cell
  have zX3 := X3.lt
  have kX4 := X4.cell
  have zX4 := X4.lt
  have kX5 := X5.cell
  have zX5 := X5.lt
  have kX7 := X7.cell
  have zX7 := X7.lt
  have kX8 := X8.cell
  have zX8 := X8.lt
  have kX9 := X9.cell
  have zX9 := X9.lt
  have kX10 := X10.cell
  have zX10 := X10.lt
  have kX11 := X11.cell
  have zX11 := X11.lt
  have kX12 := X12.cell
  have zX12 := X12.lt
  have kX13 := X13.cell
  have zX13 := X13.lt
  have kX14 := X14.cell
  have zX14 := X14.lt
  clear hb
  go_wp2_with fail
  obtain ⟨b0, bw⟩ := boxes1 V38 (.slice D14 (nw 0) d14)
  clear kXA zXA kXB zXB kXC zXC kX1 zX1 kX2 zX2 kX3 zX3 kX4 zX4 kX5 zX5 kX7 zX7 kX8 zX8 kX9 zX9 kX10 zX10 kX11 zX11 kX12 zX12 kX13 zX13 kX14 zX14
  replace XA := XA.below bw
  replace XB := XB.below bw
  replace XC := XC.below bw
  replace X1 := X1.below bw
  replace X2 := X2.below bw
  replace X3 := X3.below bw
  replace X4 := X4.below bw
  replace X5 := X5.below bw
  replace X7 := X7.below bw
  replace X8 := X8.below bw
  replace X9 := X9.below bw
  replace X10 := X10.below bw
  replace X11 := X11.below bw
  replace X12 := X12.below bw
  replace X13 := X13.below bw
  replace X14 := X14.below bw
  have X15 := Box.mk b0 hv' bw
  replace WW := WW.trans (bw.mono WW.size)
  clear bw b0 hv'
  generalize hV : (V38.alloc (.cells #[.slice D14 (nw 0) d14] 24)) = V39 at XA XB XC X1 X2 X3 X4 X5 X7 X8 X9 X10 X11 X12 X13 X14 X15 WW ⊢
  clear hV
  have kXA := XA.cell
  have zXA := XA.lt
  have kXB := XB.cell
  have zXB := XB.lt
  have kXC := XC.cell
  have zXC := XC.lt
  have kX1 := X1.cell
  have zX1 := X1.lt
  have kX2 := X2.cell
  have zX2 := X2.lt
  have kX3 := X3.cell
  have zX3 := X3.lt
  have kX4 := X4.cell
  have zX4 := X4.lt
  have kX5 := X5.cell
  have zX5 := X5.lt
  have kX7 := X7.cell
  have zX7 := X7.lt
  have kX8 := X8.cell
  have zX8 := X8.lt
  have kX9 := X9.cell
  have zX9 := X9.lt
  have kX10 := X10.cell
  have zX10 := X10.lt
  have kX11 := X11.cell
  have zX11 := X11.lt
  have kX12 := X12.cell
  have zX12 := X12.lt
  have kX13 := X13.cell
  have zX13 := X13.lt
  have kX14 := X14.cell
  have zX14 := X14.lt
  have kX15 := X15.cell
  have zX15 := X15.lt
  have hc := mul_any A C' _ _ ca cc a c V39 XA.num XC.num (by omega) (by omega)
  rw [bothS_yes HA.out HC.out] at hc
  rw [L8.out] at hc
  refine hc.mono ?_
  clear hc
  rintro e V40 ⟨v, rfl, hv, hb⟩
  clear kXA zXA kXB zXB kXC zXC kX1 zX1 kX2 zX2 kX3 zX3 kX4 zX4 kX5 zX5 kX7 zX7 kX8 zX8 kX9 zX9 kX10 zX10 kX11 zX11 kX12 zX12 kX13 zX13 kX14 zX14 kX15 zX15
  replace XA := XA.below hb
  replace XB := XB.below hb
  replace XC := XC.below hb
  replace X1 := X1.below hb
  replace X2 := X2.below hb
  replace X3 := X3.below hb
  replace X4 := X4.below hb
  replace X5 := X5.below hb
  replace X7 := X7.below hb
  replace X8 := X8.below hb
  replace X9 := X9.below hb
  replace X10 := X10.below hb
  replace X11 := X11.below hb
  replace X12 := X12.below hb
  replace X13 := X13.below hb
  replace X14 := X14.below hb
  replace X15 := X15.below hb
  replace WW := WW.trans (hb.mono WW.size)
  obtain ⟨D15, d15, rfl, hv'⟩ := hv.open_
  clear hv
  have kXA := XA.cell
  have zXA := XA.lt
  have kXB := XB.cell
  have zXB := XB.lt
  have kXC := XC.cell
  have zXC := XC.lt
  have kX1 := X1.cell
  have zX1 := X1.lt
  have kX2 := X2.cell
  have zX2 := X2.lt
  have kX3 := X3.cell
  have zX3 := X3.lt
  have kX4 := X4.cell
  have zX4 := X4.lt
  have kX5 := X5.cell
  have zX5 := X5.lt
  have kX7 := X7.cell
  have zX7 := X7.lt
  have kX8 := X8.cell
  have zX8 := X8.lt
  have kX9 := X9.cell
  have zX9 := X9.lt
  have kX10 := X10.cell
  have zX10 := X10.lt
  have kX11 := X11.cell
  have zX11 := X11.lt
  have kX12 := X12.cell
  have zX12 := X12.lt
  have kX13 := X13.cell
  have zX13 := X13.lt
  have kX14 := X14.cell
  have zX14 := X14.lt
  have kX15 := X15.cell
  have zX15 := X15.lt
  clear hb
  go_wp2_with fail
  obtain ⟨b0, bw⟩ := boxes1 V40 (.slice D15 (nw v8) d15)
  clear kXA zXA kXB zXB kXC zXC kX1 zX1 kX2 zX2 kX3 zX3 kX4 zX4 kX5 zX5 kX7 zX7 kX8 zX8 kX9 zX9 kX10 zX10 kX11 zX11 kX12 zX12 kX13 zX13 kX14 zX14 kX15 zX15
  replace XA := XA.below bw
  replace XB := XB.below bw
  replace XC := XC.below bw
  replace X1 := X1.below bw
  replace X2 := X2.below bw
  replace X3 := X3.below bw
  replace X4 := X4.below bw
  replace X5 := X5.below bw
  replace X7 := X7.below bw
  replace X8 := X8.below bw
  replace X9 := X9.below bw
  replace X10 := X10.below bw
  replace X11 := X11.below bw
  replace X12 := X12.below bw
  replace X13 := X13.below bw
  replace X14 := X14.below bw
  replace X15 := X15.below bw
  have X16 := Box.mk b0 hv' bw
  replace WW := WW.trans (bw.mono WW.size)
  clear bw b0 hv'
  generalize hV : (V40.alloc (.cells #[.slice D15 (nw v8) d15] 24)) = V41 at XA XB XC X1 X2 X3 X4 X5 X7 X8 X9 X10 X11 X12 X13 X14 X15 X16 WW ⊢
  clear hV
  have kXA := XA.cell
  have zXA := XA.lt
  have kXB := XB.cell
  have zXB := XB.lt
  have kXC := XC.cell
  have zXC := XC.lt
  have kX1 := X1.cell
  have zX1 := X1.lt
  have kX2 := X2.cell
  have zX2 := X2.lt
  have kX3 := X3.cell
  have zX3 := X3.lt
  have kX4 := X4.cell
  have zX4 := X4.lt
  have kX5 := X5.cell
  have zX5 := X5.lt
  have kX7 := X7.cell
  have zX7 := X7.lt
  have kX8 := X8.cell
  have zX8 := X8.lt
  have kX9 := X9.cell
  have zX9 := X9.lt
  have kX10 := X10.cell
  have zX10 := X10.lt
  have kX11 := X11.cell
  have zX11 := X11.lt
  have kX12 := X12.cell
  have zX12 := X12.lt
  have kX13 := X13.cell
  have zX13 := X13.lt
  have kX14 := X14.cell
  have zX14 := X14.lt
  have kX15 := X15.cell
  have zX15 := X15.lt
  have kX16 := X16.cell
  have zX16 := X16.lt
  have hc := mul_any B' C' _ _ cb cc b c V41 XB.num XC.num (by omega) (by omega)
  rw [bothS_yes HB.out HC.out] at hc
  rw [L9.out] at hc
  refine hc.mono ?_
  clear hc
  rintro e V42 ⟨v, rfl, hv, hb⟩
  clear kXA zXA kXB zXB kXC zXC kX1 zX1 kX2 zX2 kX3 zX3 kX4 zX4 kX5 zX5 kX7 zX7 kX8 zX8 kX9 zX9 kX10 zX10 kX11 zX11 kX12 zX12 kX13 zX13 kX14 zX14 kX15 zX15 kX16 zX16
  replace XA := XA.below hb
  replace XB := XB.below hb
  replace XC := XC.below hb
  replace X1 := X1.below hb
  replace X2 := X2.below hb
  replace X3 := X3.below hb
  replace X4 := X4.below hb
  replace X5 := X5.below hb
  replace X7 := X7.below hb
  replace X8 := X8.below hb
  replace X9 := X9.below hb
  replace X10 := X10.below hb
  replace X11 := X11.below hb
  replace X12 := X12.below hb
  replace X13 := X13.below hb
  replace X14 := X14.below hb
  replace X15 := X15.below hb
  replace X16 := X16.below hb
  replace WW := WW.trans (hb.mono WW.size)
  obtain ⟨D16, d16, rfl, hv'⟩ := hv.open_
  clear hv
  have kXA := XA.cell
  have zXA := XA.lt
  have kXB := XB.cell
  have zXB := XB.lt
  have kXC := XC.cell
  have zXC := XC.lt
  have kX1 := X1.cell
  have zX1 := X1.lt
  have kX2 := X2.cell
  have zX2 := X2.lt
  have kX3 := X3.cell
  have zX3 := X3.lt
  have kX4 := X4.cell
  have zX4 := X4.lt
  have kX5 := X5.cell
  have zX5 := X5.lt
  have kX7 := X7.cell
  have zX7 := X7.lt
  have kX8 := X8.cell
  have zX8 := X8.lt
  have kX9 := X9.cell
  have zX9 := X9.lt
  have kX10 := X10.cell
  have zX10 := X10.lt
  have kX11 := X11.cell
  have zX11 := X11.lt
  have kX12 := X12.cell
  have zX12 := X12.lt
  have kX13 := X13.cell
  have zX13 := X13.lt
  have kX14 := X14.cell
  have zX14 := X14.lt
  have kX15 := X15.cell
  have zX15 := X15.lt
  have kX16 := X16.cell
  have zX16 := X16.lt
  clear hb
  go_wp2_with fail
  go_ret
  exact ⟨rfl, WW.alloc WW.size _⟩

set_option maxHeartbeats 4000000 in
set_option maxRecDepth 100000 in
theorem ring_18 (A B' C' : Option Addr) (ca cb cc a b c : Nat) (w : World) (hA : Num w w.heap.size A (nw a) a) (hB : Num w w.heap.size B' (nw b) b) (hC : Num w w.heap.size C' (nw c) c) (ha : nw a ≤ 64) (hb : nw b ≤ 64) (hc : nw c ≤ 64) (s1 : nw (a + b) ≤ 64) (s2 : nw (b + c) ≤ 64) (s3 : ¬ nw (a + b + c) ≤ 64) (p1 : nw (a * b) ≤ 64) (p2 : nw (a * b * c) ≤ 64) (p3 : nw (b * c) ≤ 64) (m : nw ((a + b) * c) ≤ 64) :
    Calls Try.prog 6 #[.agg #[.slice A (nw a) ca], .agg #[.slice B' (nw b) cb], .agg #[.slice C' (nw c) cc]] w (RetB (.bool true) w) := by
  have HG : Hid (decide (100 < nw a ∨ 100 < nw b ∨ 100 < nw c) = false) := decide_eq_false (by omega)
  have HA := hid (okB_nw ha)
  have HB := hid (okB_nw hb)
  have HC := hid (okB_nw hc)
  have hz0 : nw 0 ≤ 64 := by simp [nw_zero]
  have L1 := hid (limS_ok s1)
  have L1' : Hid (limS (b + a) = (a + b, 0)) := by show _ = _; rw [Nat.add_comm b a]; exact L1.out
  have O1 := hid (okB_nw s1)
  have LB : Hid (subS (a + b) b = (a, 0)) := by show _ = _; rw [subS_yes (by omega), Nat.add_sub_cancel]
  have L2 := hid (limS_ok s2)
  have L3 := hid (limS_big s3)
  have L4 := hid (limS_ok p1)
  have L4' : Hid (limS (b * a) = (a * b, 0)) := by show _ = _; rw [Nat.mul_comm b a]; exact L4.out
  obtain ⟨u, hu⟩ : ∃ u, u = 1 := ⟨_, rfl⟩
  have LO : Hid (ofS 1 = (u, 0)) := by show _ = _; rw [hu]; exact ofS_nat 1
  have hu1 : nw u ≤ 64 := Nat.le_trans (nw_le (n := 1) (by rw [hu]; decide)) (by omega)
  have OU := hid (okB_nw hu1)
  have LU : Hid (limS (a * u) = (a, 0)) := by show _ = _; rw [hu, Nat.mul_one]; exact limS_ok ha
  have OZ : Hid (okB 0 0 = true) := okB_nw (a := 0) (by simp [nw_zero])
  have LZ : Hid (limS (a + 0) = (a, 0)) := limS_ok ha
  have O4 := hid (okB_nw p1)
  have L5 := hid (limS_ok p2)
  have L6 := hid (limS_ok p3)
  have O6 := hid (okB_nw p3)
  have L5' : Hid (limS (a * (b * c)) = (a * b * c, 0)) := by show _ = _; rw [← Nat.mul_assoc]; exact L5.out
  have L7 := hid (limS_ok m)
  have h8 : nw (a * c) ≤ 64 := Nat.le_trans (nw_mono (Nat.mul_le_mul_right _ (Nat.le_add_right a b))) m
  have h9 : nw (b * c) ≤ 64 := Nat.le_trans (nw_mono (Nat.mul_le_mul_right _ (Nat.le_add_left b a))) m
  have L8 := hid (limS_ok h8)
  have L9 := hid (limS_ok h9)
  have O8 := hid (okB_nw h8)
  have O9 := hid (okB_nw h9)
  have LF : Hid (limS (a * c + b * c) = ((a + b) * c, 0)) := by show _ = _; rw [← Nat.add_mul]; exact L7.out
  clear hu
  obtain ⟨b0, b1, b2, bw⟩ := boxes3 w (.slice A (nw a) ca) (.slice B' (nw b) cb) (.slice C' (nw c) cc)
  have XA := Box.mk b0 hA bw
  have XB := Box.mk b1 hB bw
  have XC := Box.mk b2 hC bw
  have WW := bw
  clear bw b0 b1 b2
  go_enter Try.func6, Try.ntmps6
  go_wp2_with fail
  generalize hV : (((w.alloc (.cells #[.slice A (nw a) ca] 24)).alloc (.cells #[.slice B' (nw b) cb] 24)).alloc (.cells #[.slice C' (nw c) cc] 24)) = V0 at XA XB XC WW ⊢
  clear hV
  have hc := awake_any V0
  refine hc.mono ?_
  clear hc
  rintro e V1 ⟨rfl, hb⟩
  replace XA := XA.below hb
  replace XB := XB.below hb
  replace XC := XC.below hb
  replace WW := WW.trans (hb.mono WW.size)
  have kXA := XA.cell
  have zXA := XA.lt
  have kXB := XB.cell
  have zXB := XB.lt
  have kXC := XC.cell
  have zXC := XC.lt
  clear hb
  go_wp2_with fail
  have hc := great_3 V1 A B' C' (nw a) ca (nw b) cb (nw c) cc (by omega) (by omega) (by omega)
  rw [HG.out] at hc
  refine hc.mono ?_
  clear hc
  rintro e V2 ⟨rfl, hb⟩
  clear kXA zXA kXB zXB kXC zXC
  replace XA := XA.below hb
  replace XB := XB.below hb
  replace XC := XC.below hb
  replace WW := WW.trans (hb.mono WW.size)
  have kXA := XA.cell
  have zXA := XA.lt
  have kXB := XB.cell
  have zXB := XB.lt
  have kXC := XC.cell
  have zXC := XC.lt
  clear hb
  go_wp2_with fail
  have hc := rvalid_any A _ ca a _ V2 XA.num (Nat.le_refl _) (by omega)
  rw [HA.out] at hc
  refine hc.mono ?_
  clear hc
  rintro e V3 ⟨rfl, hb⟩
  clear kXA zXA kXB zXB kXC zXC
  replace XA := XA.below hb
  replace XB := XB.below hb
  replace XC := XC.below hb
  replace WW := WW.trans (hb.mono WW.size)
  have kXA := XA.cell
  have zXA := XA.lt
  have kXB := XB.cell
  have zXB := XB.lt
  have kXC := XC.cell
  have zXC := XC.lt
  clear hb
  go_wp2_with fail
  have hc := rvalid_any B' _ cb b _ V3 XB.num (Nat.le_refl _) (by omega)
  rw [HB.out] at hc
  refine hc.mono ?_
  clear hc
  rintro e V4 ⟨rfl, hb⟩
  clear kXA zXA kXB zXB kXC zXC
  replace XA := XA.below hb
  replace XB := XB.below hb
  replace XC := XC.below hb
  replace WW := WW.trans (hb.mono WW.size)
  have kXA := XA.cell
  have zXA := XA.lt
  have kXB := XB.cell
  have zXB := XB.lt
  have kXC := XC.cell
  have zXC := XC.lt
  clear hb
  go_wp2_with fail
  have hc := rvalid_any C' _ cc c _ V4 XC.num (Nat.le_refl _) (by omega)
  rw [HC.out] at hc
  refine hc.mono ?_
  clear hc
  rintro e V5 ⟨rfl, hb⟩
  clear kXA zXA kXB zXB kXC zXC
  replace XA := XA.below hb
  replace XB := XB.below hb
  replace XC := XC.below hb
  replace WW := WW.trans (hb.mono WW.size)
  have kXA := XA.cell
  have zXA := XA.lt
  have kXB := XB.cell
  have zXB := XB.lt
  have kXC := XC.cell
  have zXC := XC.lt
  clear hb
  go_wp2_with fail
  have hc := add_any A B' _ _ ca cb a b V5 XA.num XB.num (by omega) (by omega)
  rw [bothS_yes HA.out HB.out] at hc
  rw [L1.out] at hc
  refine hc.mono ?_
  clear hc
  rintro e V6 ⟨v, rfl, hv, hb⟩
  clear kXA zXA kXB zXB kXC zXC
  replace XA := XA.below hb
  replace XB := XB.below hb
  replace XC := XC.below hb
  replace WW := WW.trans (hb.mono WW.size)
  obtain ⟨D1, d1, rfl, hv'⟩ := hv.open_
  clear hv
  have kXA := XA.cell
  have zXA := XA.lt
  have kXB := XB.cell
  have zXB := XB.lt
  have kXC := XC.cell
  have zXC := XC.lt
  clear hb
  go_wp2_with fail
  obtain ⟨b0, bw⟩ := boxes1 V6 (.slice D1 (nw (a + b)) d1)
  clear kXA zXA kXB zXB kXC zXC
  replace XA := XA.below bw
  replace XB := XB.below bw
  replace XC := XC.below bw
  have X1 := Box.mk b0 hv' bw
  replace WW := WW.trans (bw.mono WW.size)
  clear bw b0 hv'
  generalize hV : (V6.alloc (.cells #[.slice D1 (nw (a + b)) d1] 24)) = V7 at XA XB XC X1 WW ⊢
  clear hV
  have kXA := XA.cell
  have zXA := XA.lt
  have kXB := XB.cell
  have zXB := XB.lt
  have kXC := XC.cell
  have zXC := XC.lt
  have kX1 := X1.cell
  have zX1 := X1.lt
  have hc := add_any B' A _ _ cb ca b a V7 XB.num XA.num (by omega) (by omega)
  rw [bothS_yes HB.out HA.out] at hc
  rw [L1'.out] at hc
  refine hc.mono ?_
  clear hc
  rintro e V8 ⟨v, rfl, hv, hb⟩
  clear kXA zXA kXB zXB kXC zXC kX1 zX1
  replace XA := XA.below hb
  replace XB := XB.below hb
  replace XC := XC.below hb
  replace X1 := X1.below hb
  replace WW := WW.trans (hb.mono WW.size)
  obtain ⟨D2, d2, rfl, hv'⟩ := hv.open_
  clear hv
  have kXA := XA.cell
  have zXA := XA.lt
  have kXB := XB.cell
  have zXB := XB.lt
  have kXC := XC.cell
  have zXC := XC.lt
  have kX1 := X1.cell
  have zX1 := X1.lt
  clear hb
  go_wp2_with fail
  obtain ⟨b0, bw⟩ := boxes1 V8 (.slice D2 (nw (a + b)) d2)
  clear kXA zXA kXB zXB kXC zXC kX1 zX1
  replace XA := XA.below bw
  replace XB := XB.below bw
  replace XC := XC.below bw
  replace X1 := X1.below bw
  have X2 := Box.mk b0 hv' bw
  replace WW := WW.trans (bw.mono WW.size)
  clear bw b0 hv'
  generalize hV : (V8.alloc (.cells #[.slice D2 (nw (a + b)) d2] 24)) = V9 at XA XB XC X1 X2 WW ⊢
  clear hV
  have kXA := XA.cell
  have zXA := XA.lt
  have kXB := XB.cell
  have zXB := XB.lt
  have kXC := XC.cell
  have zXC := XC.lt
  have kX1 := X1.cell
  have zX1 := X1.lt
  have kX2 := X2.cell
  have zX2 := X2.lt
  have hc := same_any D1 D2 _ _ d1 d2 (a + b) (a + b) V9 X1.num X2.num (by omega) (by omega)
  rw [sameB_yes] at hc
  refine hc.mono ?_
  clear hc
  rintro e V10 ⟨rfl, hb⟩
  clear kXA zXA kXB zXB kXC zXC kX1 zX1 kX2 zX2
  replace XA := XA.below hb
  replace XB := XB.below hb
  replace XC := XC.below hb
  replace X1 := X1.below hb
  replace X2 := X2.below hb
  replace WW := WW.trans (hb.mono WW.size)
  have kXA := XA.cell
  have zXA := XA.lt
  have kXB := XB.cell
  have zXB := XB.lt
  have kXC := XC.cell
  have zXC := XC.lt
  have kX1 := X1.cell
  have zX1 := X1.lt
  have kX2 := X2.cell
  have zX2 := X2.lt
  clear hb
  go_wp2_with fail
  have hc := sub_any D1 B' _ _ d1 cb (a + b) b V10 X1.num XB.num (by omega) (by omega)
  rw [bothS_yes O1.out HB.out] at hc
  rw [LB.out] at hc
  refine hc.mono ?_
  clear hc
  rintro e V11 ⟨v, rfl, hv, hb⟩
  clear kXA zXA kXB zXB kXC zXC kX1 zX1 kX2 zX2
  replace XA := XA.below hb
  replace XB := XB.below hb
  replace XC := XC.below hb
  replace X1 := X1.below hb
  replace X2 := X2.below hb
  replace WW := WW.trans (hb.mono WW.size)
  obtain ⟨D3, d3, rfl, hv'⟩ := hv.open_
  clear hv
  have kXA := XA.cell
  have zXA := XA.lt
  have kXB := XB.cell
  have zXB := XB.lt
  have kXC := XC.cell
  have zXC := XC.lt
  have kX1 := X1.cell
  have zX1 := X1.lt
  have kX2 := X2.cell
  have zX2 := X2.lt
  clear hb
  go_wp2_with fail
  obtain ⟨b0, bw⟩ := boxes1 V11 (.slice D3 (nw a) d3)
  clear kXA zXA kXB zXB kXC zXC kX1 zX1 kX2 zX2
  replace XA := XA.below bw
  replace XB := XB.below bw
  replace XC := XC.below bw
  replace X1 := X1.below bw
  replace X2 := X2.below bw
  have X3 := Box.mk b0 hv' bw
  replace WW := WW.trans (bw.mono WW.size)
  clear bw b0 hv'
  generalize hV : (V11.alloc (.cells #[.slice D3 (nw a) d3] 24)) = V12 at XA XB XC X1 X2 X3 WW ⊢
  clear hV
  have kXA := XA.cell
  have zXA := XA.lt
  have kXB := XB.cell
  have zXB := XB.lt
  have kXC := XC.cell
  have zXC := XC.lt
  have kX1 := X1.cell
  have zX1 := X1.lt
  have kX2 := X2.cell
  have zX2 := X2.lt
  have kX3 := X3.cell
  have zX3 := X3.lt
  have hc := same_any D3 A _ _ d3 ca a a V12 X3.num XA.num (by omega) (by omega)
  rw [sameB_yes] at hc
  refine hc.mono ?_
  clear hc
  rintro e V13 ⟨rfl, hb⟩
  clear kXA zXA kXB zXB kXC zXC kX1 zX1 kX2 zX2 kX3 zX3
  replace XA := XA.below hb
  replace XB := XB.below hb
  replace XC := XC.below hb
  replace X1 := X1.below hb
  replace X2 := X2.below hb
  replace X3 := X3.below hb
  replace WW := WW.trans (hb.mono WW.size)
  have kXA := XA.cell
  have zXA := XA.lt
  have kXB := XB.cell
  have zXB := XB.lt
  have kXC := XC.cell
  have zXC := XC.lt
  have kX1 := X1.cell
  have zX1 := X1.lt
  have kX2 := X2.cell
  have zX2 := X2.lt
  have kX3 := X3.cell
  have zX3 := X3.lt
  clear hb
  go_wp2_with fail
  have hc := add_any B' C' _ _ cb cc b c V13 XB.num XC.num (by omega) (by omega)
  rw [bothS_yes HB.out HC.out] at hc
  rw [L2.out] at hc
  refine hc.mono ?_
  clear hc
  rintro e V14 ⟨v, rfl, hv, hb⟩
  clear kXA zXA kXB zXB kXC zXC kX1 zX1 kX2 zX2 kX3 zX3
  replace XA := XA.below hb
  replace XB := XB.below hb
  replace XC := XC.below hb
  replace X1 := X1.below hb
  replace X2 := X2.below hb
  replace X3 := X3.below hb
  replace WW := WW.trans (hb.mono WW.size)
  obtain ⟨D4, d4, rfl, hv'⟩ := hv.open_
  clear hv
  have kXA := XA.cell
  have zXA := XA.lt
  have kXB := XB.cell
  have zXB := XB.lt
  have kXC := XC.cell
  have zXC := XC.lt
  have kX1 := X1.cell
  have zX1 := X1.lt
  have kX2 := X2.cell
  have zX2 := X2.lt
  have kX3 := X3.cell
  have zX3 := X3.lt
  clear hb
  go_wp2_with fail
  obtain ⟨b0, bw⟩ := boxes1 V14 (.slice D4 (nw (b + c)) d4)
  clear kXA zXA kXB zXB kXC zXC kX1 zX1 kX2 zX2 kX3 zX3
  replace XA := XA.below bw
  replace XB := XB.below bw
  replace XC := XC.below bw
  replace X1 := X1.below bw
  replace X2 := X2.below bw
  replace X3 := X3.below bw
  have X4 := Box.mk b0 hv' bw
  replace WW := WW.trans (bw.mono WW.size)
  clear bw b0 hv'
  generalize hV : (V14.alloc (.cells #[.slice D4 (nw (b + c)) d4] 24)) = V15 at XA XB XC X1 X2 X3 X4 WW ⊢
  clear hV
  have kXA := XA.cell
  have zXA := XA.lt
  have kXB := XB.cell
  have zXB := XB.lt
  have kXC := XC.cell
  have zXC := XC.lt
  have kX1 := X1.cell
  have zX1 := X1.lt
  have kX2 := X2.cell
  have zX2 := X2.lt
  have kX3 := X3.cell
  have zX3 := X3.lt
  have kX4 := X4.cell
  have zX4 := X4.lt
  have hc := add_any D1 C' _ _ d1 cc (a + b) c V15 X1.num XC.num (by omega) (by omega)
  rw [bothS_yes O1.out HC.out] at hc
  rw [L3.out] at hc
  refine hc.mono ?_
  clear hc
  rintro e V16 ⟨v, rfl, hv, hb⟩
  clear kXA zXA kXB zXB kXC zXC kX1 zX1 kX2 zX2 kX3 zX3 kX4 zX4
  replace XA := XA.below hb
  replace XB := XB.below hb
  replace XC := XC.below hb
  replace X1 := X1.below hb
  replace X2 := X2.below hb
  replace X3 := X3.below hb
  replace X4 := X4.below hb
  replace WW := WW.trans (hb.mono WW.size)
  obtain ⟨D5, d5, rfl, hv'⟩ := hv.open_
  clear hv
  have kXA := XA.cell
  have zXA := XA.lt
  have kXB := XB.cell
  have zXB := XB.lt
  have kXC := XC.cell
  have zXC := XC.lt
  have kX1 := X1.cell
  have zX1 := X1.lt
  have kX2 := X2.cell
  have zX2 := X2.lt
  have kX3 := X3.cell
  have zX3 := X3.lt
  have kX4 := X4.cell
  have zX4 := X4.lt
  clear hb
  go_wp2_with fail
  obtain ⟨b0, bw⟩ := boxes1 V16 (.slice D5 (nw 0) d5)
  clear kXA zXA kXB zXB kXC zXC kX1 zX1 kX2 zX2 kX3 zX3 kX4 zX4
  replace XA := XA.below bw
  replace XB := XB.below bw
  replace XC := XC.below bw
  replace X1 := X1.below bw
  replace X2 := X2.below bw
  replace X3 := X3.below bw
  replace X4 := X4.below bw
  have X5 := Box.mk b0 hv' bw
  replace WW := WW.trans (bw.mono WW.size)
  clear bw b0 hv'
  generalize hV : (V16.alloc (.cells #[.slice D5 (nw 0) d5] 24)) = V17 at XA XB XC X1 X2 X3 X4 X5 WW ⊢
  clear hV
  have kXA := XA.cell
  have zXA := XA.lt
  have kXB := XB.cell
  have zXB := XB.lt
  have kXC := XC.cell
  have zXC := XC.lt
  have kX1 := X1.cell
  have zX1 := X1.lt
  have kX2 := X2.cell
  have zX2 := X2.lt
  have kX3 := X3.cell
  have zX3 := X3.lt
  have kX4 := X4.cell
  have zX4 := X4.lt
  have kX5 := X5.cell
  have zX5 := X5.lt
  have hc := mul_any A B' _ _ ca cb a b V17 XA.num XB.num (by omega) (by omega)
  rw [bothS_yes HA.out HB.out] at hc
  rw [L4.out] at hc
  refine hc.mono ?_
  clear hc
  rintro e V18 ⟨v, rfl, hv, hb⟩
  clear kXA zXA kXB zXB kXC zXC kX1 zX1 kX2 zX2 kX3 zX3 kX4 zX4 kX5 zX5
  replace XA := XA.below hb
  replace XB := XB.below hb
  replace XC := XC.below hb
  replace X1 := X1.below hb
  replace X2 := X2.below hb
  replace X3 := X3.below hb
  replace X4 := X4.below hb
  replace X5 := X5.below hb
  replace WW := WW.trans (hb.mono WW.size)
  obtain ⟨D6, d6, rfl, hv'⟩ := hv.open_
  clear hv
  have kXA := XA.cell
  have zXA := XA.lt
  have kXB := XB.cell
  have zXB := XB.lt
  have kXC := XC.cell
  have zXC := XC.lt
  have kX1 := X1.cell
  have zX1 := X1.lt
  have kX2 := X2.cell
  have zX2 := X2.lt
  have kX3 := X3.cell
  have zX3 := X3.lt
  have kX4 := X4.cell
  have zX4 := X4.lt
  have kX5 := X5.cell
  have zX5 := X5.lt
  clear hb
  go_wp2_with fail
  obtain ⟨b0, bw⟩ := boxes1 V18 (.slice D6 (nw (a * b)) d6)
  clear kXA zXA kXB zXB kXC zXC kX1 zX1 kX2 zX2 kX3 zX3 kX4 zX4 kX5 zX5
  replace XA := XA.below bw
  replace XB := XB.below bw
  replace XC := XC.below bw
  replace X1 := X1.below bw
  replace X2 := X2.below bw
  replace X3 := X3.below bw
  replace X4 := X4.below bw
  replace X5 := X5.below bw
  have X7 := Box.mk b0 hv' bw
  replace WW := WW.trans (bw.mono WW.size)
  clear bw b0 hv'
  generalize hV : (V18.alloc (.cells #[.slice D6 (nw (a * b)) d6] 24)) = V19 at XA XB XC X1 X2 X3 X4 X5 X7 WW ⊢
  clear hV
  have kXA := XA.cell
  have zXA := XA.lt
  have kXB := XB.cell
  have zXB := XB.lt
  have kXC := XC.cell
  have zXC := XC.lt
  have kX1 := X1.cell
  have zX1 := X1.lt
  have kX2 := X2.cell
  have zX2 := X2.lt
  have kX3 := X3.cell
  have zX3 := X3.lt
  have kX4 := X4.cell
  have zX4 := X4.lt
  have kX5 := X5.cell
  have zX5 := X5.lt
  have kX7 := X7.cell
  have zX7 := X7.lt
  have hc := mul_any B' A _ _ cb ca b a V19 XB.num XA.num (by omega) (by omega)
  rw [bothS_yes HB.out HA.out] at hc
  rw [L4'.out] at hc
  refine hc.mono ?_
  clear hc
  rintro e V20 ⟨v, rfl, hv, hb⟩
  clear kXA zXA kXB zXB kXC zXC kX1 zX1 kX2 zX2 kX3 zX3 kX4 zX4 kX5 zX5 kX7 zX7
  replace XA := XA.below hb
  replace XB := XB.below hb
  replace XC := XC.below hb
  replace X1 := X1.below hb
  replace X2 := X2.below hb
  replace X3 := X3.below hb
  replace X4 := X4.below hb
  replace X5 := X5.below hb
  replace X7 := X7.below hb
  replace WW := WW.trans (hb.mono WW.size)
  obtain ⟨D7, d7, rfl, hv'⟩ := hv.open_
  clear hv
  have kXA := XA.cell
  have zXA := XA.lt
  have kXB := XB.cell
  have zXB := XB.lt
  have kXC := XC.cell
  have zXC := XC.lt
  have kX1 := X1.cell
  have zX1 := X1.lt
  have kX2 := X2.cell
  have zX2 := X2.lt
  have kX3 := X3.cell
  have zX3 := X3.lt
  have kX4 := X4.cell
  have zX4 := X4.lt
  have kX5 := X5.cell
  have zX5 := X5.lt
  have kX7 := X7.cell
  have zX7 := X7.lt
  clear hb
  go_wp2_with fail
  obtain ⟨b0, bw⟩ := boxes1 V20 (.slice D7 (nw (a * b)) d7)
  clear kXA zXA kXB zXB kXC zXC kX1 zX1 kX2 zX2 kX3 zX3 kX4 zX4 kX5 zX5 kX7 zX7
  replace XA := XA.below bw
  replace XB := XB.below bw
  replace XC := XC.below bw
  replace X1 := X1.below bw
  replace X2 := X2.below bw
  replace X3 := X3.below bw
  replace X4 := X4.below bw
  replace X5 := X5.below bw
  replace X7 := X7.below bw
  have X8 := Box.mk b0 hv' bw
  replace WW := WW.trans (bw.mono WW.size)
  clear bw b0 hv'
  generalize hV : (V20.alloc (.cells #[.slice D7 (nw (a * b)) d7] 24)) = V21 at XA XB XC X1 X2 X3 X4 X5 X7 X8 WW ⊢
  clear hV
  have kXA := XA.cell
  have zXA := XA.lt
  have kXB := XB.cell
  have zXB := XB.lt
  have kXC := XC.cell
  have zXC := XC.lt
  have kX1 := X1.cell
  have zX1 := X1.lt
  have kX2 := X2.cell
  have zX2 := X2.lt
  have kX3 := X3.cell
  have zX3 := X3.lt
  have kX4 := X4.cell
  have zX4 := X4.lt
  have kX5 := X5.cell
  have zX5 := X5.lt
  have kX7 := X7.cell
  have zX7 := X7.lt
  have kX8 := X8.cell
  have zX8 := X8.lt
  have hc := same_any D6 D7 _ _ d6 d7 (a * b) (a * b) V21 X7.num X8.num (by omega) (by omega)
  rw [sameB_yes] at hc
  refine hc.mono ?_
  clear hc
  rintro e V22 ⟨rfl, hb⟩
  clear kXA zXA kXB zXB kXC zXC kX1 zX1 kX2 zX2 kX3 zX3 kX4 zX4 kX5 zX5 kX7 zX7 kX8 zX8
  replace XA := XA.below hb
  replace XB := XB.below hb
  replace XC := XC.below hb
  replace X1 := X1.below hb
  replace X2 := X2.below hb
  replace X3 := X3.below hb
  replace X4 := X4.below hb
  replace X5 := X5.below hb
  replace X7 := X7.below hb
  replace X8 := X8.below hb
  replace WW := WW.trans (hb.mono WW.size)
  have kXA := XA.cell
  have zXA := XA.lt
  have kXB := XB.cell
  have zXB := XB.lt
  have kXC := XC.cell
  have zXC := XC.lt
  have kX1 := X1.cell
  have zX1 := X1.lt
  have kX2 := X2.cell
  have zX2 := X2.lt
  have kX3 := X3.cell
  have zX3 := X3.lt
  have kX4 := X4.cell
  have zX4 := X4.lt
  have kX5 := X5.cell
  have zX5 := X5.lt
  have kX7 := X7.cell
  have zX7 := X7.lt
  have kX8 := X8.cell
  have zX8 := X8.lt
  clear hb
  go_wp2_with fail
  have hc := of_any 1 V22 (by omega) (by omega)
  rw [LO.out] at hc
  refine hc.mono ?_
  clear hc
  rintro e V23 ⟨v, rfl, hv, hb⟩
  clear kXA zXA kXB zXB kXC zXC kX1 zX1 kX2 zX2 kX3 zX3 kX4 zX4 kX5 zX5 kX7 zX7 kX8 zX8
  replace XA := XA.below hb
  replace XB := XB.below hb
  replace XC := XC.below hb
  replace X1 := X1.below hb
  replace X2 := X2.below hb
  replace X3 := X3.below hb
  replace X4 := X4.below hb
  replace X5 := X5.below hb
  replace X7 := X7.below hb
  replace X8 := X8.below hb
  replace WW := WW.trans (hb.mono WW.size)
  obtain ⟨D8, d8, rfl, hv'⟩ := hv.open_
  clear hv
  have kXA := XA.cell
  have zXA := XA.lt
  have kXB := XB.cell
  have zXB := XB.lt
  have kXC := XC.cell
  have zXC := XC.lt
  have kX1 := X1.cell
  have zX1 := X1.lt
  have kX2 := X2.cell
  have zX2 := X2.lt
  have kX3 := X3.cell
  have zX3 := X3.lt
  have kX4 := X4.cell
  have zX4 := X4.lt
  have kX5 := X5.cell
  have zX5 := X5.lt
  have kX7 := X7.cell
  have zX7 := X7.lt
  have kX8 := X8.cell
  have zX8 := X8.lt
  clear hb
  go_wp2_with fail
  obtain ⟨b0, bw⟩ := boxes1 V23 (.slice D8 (nw u) d8)
  clear kXA zXA kXB zXB kXC zXC kX1 zX1 kX2 zX2 kX3 zX3 kX4 zX4 kX5 zX5 kX7 zX7 kX8 zX8
  replace XA := XA.below bw
  replace XB := XB.below bw
  replace XC := XC.below bw
  replace X1 := X1.below bw
  replace X2 := X2.below bw
  replace X3 := X3.below bw
  replace X4 := X4.below bw
  replace X5 := X5.below bw
  replace X7 := X7.below bw
  replace X8 := X8.below bw
  have X9 := Box.mk b0 hv' bw
  replace WW := WW.trans (bw.mono WW.size)
  clear bw b0 hv'
  generalize hV : (V23.alloc (.cells #[.slice D8 (nw u) d8] 24)) = V24 at XA XB XC X1 X2 X3 X4 X5 X7 X8 X9 WW ⊢
  clear hV
  have kXA := XA.cell
  have zXA := XA.lt
  have kXB := XB.cell
  have zXB := XB.lt
  have kXC := XC.cell
  have zXC := XC.lt
  have kX1 := X1.cell
  have zX1 := X1.lt
  have kX2 := X2.cell
  have zX2 := X2.lt
  have kX3 := X3.cell
  have zX3 := X3.lt
  have kX4 := X4.cell
  have zX4 := X4.lt
  have kX5 := X5.cell
  have zX5 := X5.lt
  have kX7 := X7.cell
  have zX7 := X7.lt
  have kX8 := X8.cell
  have zX8 := X8.lt
  have kX9 := X9.cell
  have zX9 := X9.lt
  have hc := mul_any A D8 _ _ ca d8 a u V24 XA.num X9.num (by omega) (by omega)
  rw [bothS_yes HA.out OU.out] at hc
  rw [LU.out] at hc
  refine hc.mono ?_
  clear hc
  rintro e V25 ⟨v, rfl, hv, hb⟩
  clear kXA zXA kXB zXB kXC zXC kX1 zX1 kX2 zX2 kX3 zX3 kX4 zX4 kX5 zX5 kX7 zX7 kX8 zX8 kX9 zX9
  replace XA := XA.below hb
  replace XB := XB.below hb
  replace XC := XC.below hb
  replace X1 := X1.below hb
  replace X2 := X2.below hb
  replace X3 := X3.below hb
  replace X4 := X4.below hb
  replace X5 := X5.below hb
  replace X7 := X7.below hb
  replace X8 := X8.below hb
  replace X9 := X9.below hb
  replace WW := WW.trans (hb.mono WW.size)
  obtain ⟨D9, d9, rfl, hv'⟩ := hv.open_
  clear hv
  have kXA := XA.cell
  have zXA := XA.lt
  have kXB := XB.cell
  have zXB := XB.lt
  have kXC := XC.cell
  have zXC := XC.lt
  have kX1 := X1.cell
  have zX1 := X1.lt
  have kX2 := X2.cell
  have zX2 := X2.lt
  have kX3 := X3.cell
  have zX3 := X3.lt
  have kX4 := X4.cell
  have zX4 := X4.lt
  have kX5 := X5.cell
  have zX5 := X5.lt
  have kX7 := X7.cell
  have zX7 := X7.lt
  have kX8 := X8.cell
  have zX8 := X8.lt
  have kX9 := X9.cell
  have zX9 := X9.lt
  clear hb
  go_wp2_with fail
  obtain ⟨b0, bw⟩ := boxes1 V25 (.slice D9 (nw a) d9)
  clear kXA zXA kXB zXB kXC zXC kX1 zX1 kX2 zX2 kX3 zX3 kX4 zX4 kX5 zX5 kX7 zX7 kX8 zX8 kX9 zX9
  replace XA := XA.below bw
  replace XB := XB.below bw
  replace XC := XC.below bw
  replace X1 := X1.below bw
  replace X2 := X2.below bw
  replace X3 := X3.below bw
  replace X4 := X4.below bw
  replace X5 := X5.below bw
  replace X7 := X7.below bw
  replace X8 := X8.below bw
  replace X9 := X9.below bw
  have X10 := Box.mk b0 hv' bw
  replace WW := WW.trans (bw.mono WW.size)
  clear bw b0 hv'
  generalize hV : (V25.alloc (.cells #[.slice D9 (nw a) d9] 24)) = V26 at XA XB XC X1 X2 X3 X4 X5 X7 X8 X9 X10 WW ⊢
  clear hV
  have kXA := XA.cell
  have zXA := XA.lt
  have kXB := XB.cell
  have zXB := XB.lt
  have kXC := XC.cell
  have zXC := XC.lt
  have kX1 := X1.cell
  have zX1 := X1.lt
  have kX2 := X2.cell
  have zX2 := X2.lt
  have kX3 := X3.cell
  have zX3 := X3.lt
  have kX4 := X4.cell
  have zX4 := X4.lt
  have kX5 := X5.cell
  have zX5 := X5.lt
  have kX7 := X7.cell
  have zX7 := X7.lt
  have kX8 := X8.cell
  have zX8 := X8.lt
  have kX9 := X9.cell
  have zX9 := X9.lt
  have kX10 := X10.cell
  have zX10 := X10.lt
  have hc := add_any A none _ 0 ca 0 a 0 V26 XA.num (Num.nil _ _ _) (by omega) (by omega)
  rw [bothS_yes HA.out OZ.out] at hc
  rw [LZ.out] at hc
  refine hc.mono ?_
  clear hc
  rintro e V27 ⟨v, rfl, hv, hb⟩
  clear kXA zXA kXB zXB kXC zXC kX1 zX1 kX2 zX2 kX3 zX3 kX4 zX4 kX5 zX5 kX7 zX7 kX8 zX8 kX9 zX9 kX10 zX10
  replace XA := XA.below hb
  replace XB := XB.below hb
  replace XC := XC.below hb
  replace X1 := X1.below hb
  replace X2 := X2.below hb
  replace X3 := X3.below hb
  replace X4 := X4.below hb
  replace X5 := X5.below hb
  replace X7 := X7.below hb
  replace X8 := X8.below hb
  replace X9 := X9.below hb
  replace X10 := X10.below hb
  replace WW := WW.trans (hb.mono WW.size)
  obtain ⟨D10, d10, rfl, hv'⟩ := hv.open_
  clear hv
  have kXA := XA.cell
  have zXA := XA.lt
  have kXB := XB.cell
  have zXB := XB.lt
  have kXC := XC.cell
  have zXC := XC.lt
  have kX1 := X1.cell
  have zX1 := X1.lt
  have kX2 := X2.cell
  have zX2 := X2.lt
  have kX3 := X3.cell
  have zX3 := X3.lt
  have kX4 := X4.cell
  have zX4 := X4.lt
  have kX5 := X5.cell
  have zX5 := X5.lt
  have kX7 := X7.cell
  have zX7 := X7.lt
  have kX8 := X8.cell
  have zX8 := X8.lt
  have kX9 := X9.cell
  have zX9 := X9.lt
  have kX10 := X10.cell
  have zX10 := X10.lt
  clear hb
  go_wp2_with fail
  obtain ⟨b0, bw⟩ := boxes1 V27 (.slice D10 (nw a) d10)
  clear kXA zXA kXB zXB kXC zXC kX1 zX1 kX2 zX2 kX3 zX3 kX4 zX4 kX5 zX5 kX7 zX7 kX8 zX8 kX9 zX9 kX10 zX10
  replace XA := XA.below bw
  replace XB := XB.below bw
  replace XC := XC.below bw
  replace X1 := X1.below bw
  replace X2 := X2.below bw
  replace X3 := X3.below bw
  replace X4 := X4.below bw
  replace X5 := X5.below bw
  replace X7 := X7.below bw
  replace X8 := X8.below bw
  replace X9 := X9.below bw
  replace X10 := X10.below bw
  have X11 := Box.mk b0 hv' bw
  replace WW := WW.trans (bw.mono WW.size)
  clear bw b0 hv'
  generalize hV : (V27.alloc (.cells #[.slice D10 (nw a) d10] 24)) = V28 at XA XB XC X1 X2 X3 X4 X5 X7 X8 X9 X10 X11 WW ⊢
  clear hV
  have kXA := XA.cell
  have zXA := XA.lt
  have kXB := XB.cell
  have zXB := XB.lt
  have kXC := XC.cell
  have zXC := XC.lt
  have kX1 := X1.cell
  have zX1 := X1.lt
  have kX2 := X2.cell
  have zX2 := X2.lt
  have kX3 := X3.cell
  have zX3 := X3.lt
  have kX4 := X4.cell
  have zX4 := X4.lt
  have kX5 := X5.cell
  have zX5 := X5.lt
  have kX7 := X7.cell
  have zX7 := X7.lt
  have kX8 := X8.cell
  have zX8 := X8.lt
  have kX9 := X9.cell
  have zX9 := X9.lt
  have kX10 := X10.cell
  have zX10 := X10.lt
  have kX11 := X11.cell
  have zX11 := X11.lt
  have hc := same_any D9 A _ _ d9 ca a a V28 X10.num XA.num (by omega) (by omega)
  rw [sameB_yes] at hc
  refine hc.mono ?_
  clear hc
  rintro e V29 ⟨rfl, hb⟩
  clear kXA zXA kXB zXB kXC zXC kX1 zX1 kX2 zX2 kX3 zX3 kX4 zX4 kX5 zX5 kX7 zX7 kX8 zX8 kX9 zX9 kX10 zX10 kX11 zX11
  replace XA := XA.below hb
  replace XB := XB.below hb
  replace XC := XC.below hb
  replace X1 := X1.below hb
  replace X2 := X2.below hb
  replace X3 := X3.below hb
  replace X4 := X4.below hb
  replace X5 := X5.below hb
  replace X7 := X7.below hb
  replace X8 := X8.below hb
  replace X9 := X9.below hb
  replace X10 := X10.below hb
  replace X11 := X11.below hb
  replace WW := WW.trans (hb.mono WW.size)
  have kXA := XA.cell
  have zXA := XA.lt
  have kXB := XB.cell
  have zXB := XB.lt
  have kXC := XC.cell
  have zXC := XC.lt
  have kX1 := X1.cell
  have zX1 := X1.lt
  have kX2 := X2.cell
  have zX2 := X2.lt
  have kX3 := X3.cell
  have zX3 := X3.lt
  have kX4 := X4.cell
  have zX4 := X4.lt
  have kX5 := X5.cell
  have zX5 := X5.lt
  have kX7 := X7.cell
  have zX7 := X7.lt
  have kX8 := X8.cell
  have zX8 := X8.lt
  have kX9 := X9.cell
  have zX9 := X9.lt
  have kX10 := X10.cell
  have zX10 := X10.lt
  have kX11 := X11.cell
  have zX11 := X11.lt
  clear hb
  go_wp2_with fail
  have hc := same_any D10 A _ _ d10 ca a a V29 X11.num XA.num (by omega) (by omega)
  rw [sameB_yes] at hc
  refine hc.mono ?_
  clear hc
  rintro e V30 ⟨rfl, hb⟩
  clear kXA zXA kXB zXB kXC zXC kX1 zX1 kX2 zX2 kX3 zX3 kX4 zX4 kX5 zX5 kX7 zX7 kX8 zX8 kX9 zX9 kX10 zX10 kX11 zX11
  replace XA := XA.below hb
  replace XB := XB.below hb
  replace XC := XC.below hb
  replace X1 := X1.below hb
  replace X2 := X2.below hb
  replace X3 := X3.below hb
  replace X4 := X4.below hb
  replace X5 := X5.below hb
  replace X7 := X7.below hb
  replace X8 := X8.below hb
  replace X9 := X9.below hb
  replace X10 := X10.below hb
  replace X11 := X11.below hb
  replace WW := WW.trans (hb.mono WW.size)
  have kXA := XA.cell
  have zXA := XA.lt
  have kXB := XB.cell
  have zXB := XB.lt
  have kXC := XC.cell
  have zXC := XC.lt
  have kX1 := X1.cell
  have zX1 := X1.lt
  have kX2 := X2.cell
  have zX2 := X2.lt
  have kX3 := X3.cell
  have zX3 := X3.lt
  have kX4 := X4.cell
  have zX4 := X4.lt
  have kX5 := X5.cell
  have zX5 := X5.lt
  have kX7 := X7.cell
  have zX7 := X7.lt
  have kX8 := X8.cell
  have zX8 := X8.lt
  have kX9 := X9.cell
  have zX9 := X9.lt
  have kX10 := X10.cell
  have zX10 := X10.lt
  have kX11 := X11.cell
  have zX11 := X11.lt
  clear hb
  go_wp2_with fail
  have hc := mul_any D6 C' _ _ d6 cc (a * b) c V30 X7.num XC.num (by omega) (by omega)
  rw [bothS_yes O4.out HC.out] at hc
  rw [L5.out] at hc
  refine hc.mono ?_
  clear hc
  rintro e V31 ⟨v, rfl, hv, hb⟩
  clear kXA zXA kXB zXB kXC zXC kX1 zX1 kX2 zX2 kX3 zX3 kX4 zX4 kX5 zX5 kX7 zX7 kX8 zX8 kX9 zX9 kX10 zX10 kX11 zX11
  replace XA := XA.below hb
  replace XB := XB.below hb
  replace XC := XC.below hb
  replace X1 := X1.below hb
  replace X2 := X2.below hb
  replace X3 := X3.below hb
  replace X4 := X4.below hb
  replace X5 := X5.below hb
  replace X7 := X7.below hb
  replace X8 := X8.below hb
  replace X9 := X9.below hb
  replace X10 := X10.below hb
  replace X11 := X11.below hb
  replace WW := WW.trans (hb.mono WW.size)
  obtain ⟨D11, d11, rfl, hv'⟩ := hv.open_
  clear hv
  have kXA := XA.cell
  have zXA := XA.lt
  have kXB := XB.cell
  have zXB := XB.lt
  have kXC := XC.cell
  have zXC := XC.lt
  have kX1 := X1.cell
  have zX1 := X1.lt
  have kX2 := X2.cell
  have zX2 := X2.lt
  have kX3 := X3.cell
  have zX3 := X3.lt
  have kX4 := X4.cell
  have zX4 := X4.lt
  have kX5 := X5.cell
  have zX5 := X5.lt
  have kX7 := X7.cell
  have zX7 := X7.lt
  have kX8 := X8.cell
  have zX8 := X8.lt
  have kX9 := X9.cell
  have zX9 := X9.lt
  have kX10 := X10.cell
  have zX10 := X10.lt
  have kX11 := X11.cell
  have zX11 := X11.lt
  clear hb
  go_wp2_with fail
  obtain ⟨b0, bw⟩ := boxes1 V31 (.slice D11 (nw (a * b * c)) d11)
  clear kXA zXA kXB zXB kXC zXC kX1 zX1 kX2 zX2 kX3 zX3 kX4 zX4 kX5 zX5 kX7 zX7 kX8 zX8 kX9 zX9 kX10 zX10 kX11 zX11
  replace XA := XA.below bw
  replace XB := XB.below bw
  replace XC := XC.below bw
  replace X1 := X1.below bw
  replace X2 := X2.below bw
  replace X3 := X3.below bw
  replace X4 := X4.below bw
  replace X5 := X5.below bw
  replace X7 := X7.below bw
  replace X8 := X8.below bw
  replace X9 := X9.below bw
  replace X10 := X10.below bw
  replace X11 := X11.below bw
  have X12 := Box.mk b0 hv' bw
  replace WW := WW.trans (bw.mono WW.size)
  clear bw b0 hv'
  generalize hV : (V31.alloc (.cells #[.slice D11 (nw (a * b * c)) d11] 24)) = V32 at XA XB XC X1 X2 X3 X4 X5 X7 X8 X9 X10 X11 X12 WW ⊢
  clear hV
  have kXA := XA.cell
  have zXA := XA.lt
  have kXB := XB.cell
  have zXB := XB.lt
  have kXC := XC.cell
  have zXC := XC.lt
  have kX1 := X1.cell
  have zX1 := X1.lt
  have kX2 := X2.cell
  have zX2 := X2.lt
  have kX3 := X3.cell
  have zX3 := X3.lt
  have kX4 := X4.cell
  have zX4 := X4.lt
  have kX5 := X5.cell
  have zX5 := X5.lt
  have kX7 := X7.cell
  have zX7 := X7.lt
  have kX8 := X8.cell
  have zX8 := X8.lt
  have kX9 := X9.cell
  have zX9 := X9.lt
  have kX10 := X10.cell
  have zX10 := X10.lt
  have kX11 := X11.cell
  have zX11 := X11.lt
  have kX12 := X12.cell
  have zX12 := X12.lt
  have hc := mul_any B' C' _ _ cb cc b c V32 XB.num XC.num (by omega) (by omega)
  rw [bothS_yes HB.out HC.out] at hc
  rw [L6.out] at hc
  refine hc.mono ?_
  clear hc
  rintro e V33 ⟨v, rfl, hv, hb⟩
  clear kXA zXA kXB zXB kXC zXC kX1 zX1 kX2 zX2 kX3 zX3 kX4 zX4 kX5 zX5 kX7 zX7 kX8 zX8 kX9 zX9 kX10 zX10 kX11 zX11 kX12 zX12
  replace XA := XA.below hb
  replace XB := XB.below hb
  replace XC := XC.below hb
  replace X1 := X1.below hb
  replace X2 := X2.below hb
  replace X3 := X3.below hb
  replace X4 := X4.below hb
  replace X5 := X5.below hb
  replace X7 := X7.below hb
  replace X8 := X8.below hb
  replace X9 := X9.below hb
  replace X10 := X10.below hb
  replace X11 := X11.below hb
  replace X12 := X12.below hb
  replace WW := WW.trans (hb.mono WW.size)
  obtain ⟨D12, d12, rfl, hv'⟩ := hv.open_
  clear hv
  have kXA := XA.cell
  have zXA := XA.lt
  have kXB := XB.cell
  have zXB := XB.lt
  have kXC := XC.cell
  have zXC := XC.lt
  have kX1 := X1.cell
  have zX1 := X1.lt
  have kX2 := X2.cell
  have zX2 := X2.lt
  have kX3 := X3.cell
  have zX3 := X3.lt
  have kX4 := X4.cell
  have zX4 := X4.lt
  have kX5 := X5.cell
  have zX5 := X5.lt
  have kX7 := X7.cell
  have zX7 := X7.lt
  have kX8 := X8.cell
  have zX8 := X8.lt
  have kX9 := X9.cell
  have zX9 := X9.lt
  have kX10 := X10.cell
  have zX10 := X10.lt
  have kX11 := X11.cell
  have zX11 := X11.lt
  have kX12 := X12.cell
  have zX12 := X12.lt
  clear hb
  go_wp2_with fail
  obtain ⟨b0, bw⟩ := boxes1 V33 (.slice D12 (nw (b * c)) d12)
  clear kXA zXA kXB zXB kXC zXC kX1 zX1 kX2 zX2 kX3 zX3 kX4 zX4 kX5 zX5 kX7 zX7 kX8 zX8 kX9 zX9 kX10 zX10 kX11 zX11 kX12 zX12
  replace XA := XA.below bw
  replace XB := XB.below bw
  replace XC := XC.below bw
  replace X1 := X1.below bw
  replace X2 := X2.below bw
  replace X3 := X3.below bw
  replace X4 := X4.below bw
  replace X5 := X5.below bw
  replace X7 := X7.below bw
  replace X8 := X8.below bw
  replace X9 := X9.below bw
  replace X10 := X10.below bw
  replace X11 := X11.below bw
  replace X12 := X12.below bw
  have X13 := Box.mk b0 hv' bw
  replace WW := WW.trans (bw.mono WW.size)
  clear bw b0 hv'
  generalize hV : (V33.alloc (.cells #[.slice D12 (nw (b * c)) d12] 24)) = V34 at XA XB XC X1 X2 X3 X4 X5 X7 X8 X9 X10 X11 X12 X13 WW ⊢
  clear hV
  have kXA := XA.cell
  have zXA := XA.lt
  have kXB := XB.cell
  have zXB := XB.lt
  have kXC := XC.cell
  have zXC := XC.lt
  have kX1 := X1.cell
  have zX1 := X1.lt
  have kX2 := X2.cell
  have zX2 := X2.lt
  have kX3 := X3.cell
  have zX3 := X3.lt
  have kX4 := X4.cell
  have zX4 := X4.lt
  have kX5 := X5.cell
  have zX5 := X5.lt
  have kX7 := X7.cell
  have zX7 := X7.lt
  have kX8 := X8.cell
  have zX8 := X8.lt
  have kX9 := X9.cell
  have zX9 := X9.lt
  have kX10 := X10.cell
  have zX10 := X10.lt
  have kX11 := X11.cell
  have zX11 := X11.lt
  have kX12 := X12.cell
  have zX12 := X12.lt
  have kX13 := X13.cell
  have zX13 := X13.lt
  have hc := mul_any A D12 _ _ ca d12 a (b * c) V34 XA.num X13.num (by omega) (by omega)
  rw [bothS_yes HA.out O6.out] at hc
  rw [L5'.out] at hc
  refine hc.mono ?_
  clear hc
  rintro e V35 ⟨v, rfl, hv, hb⟩
  clear kXA zXA kXB zXB kXC zXC kX1 zX1 kX2 zX2 kX3 zX3 kX4 zX4 kX5 zX5 kX7 zX7 kX8 zX8 kX9 zX9 kX10 zX10 kX11 zX11 kX12 zX12 kX13 zX13
  replace XA := XA.below hb
  replace XB := XB.below hb
  replace XC := XC.below hb
  replace X1 := X1.below hb
  replace X2 := X2.below hb
  replace X3 := X3.below hb
  replace X4 := X4.below hb
  replace X5 := X5.below hb
  replace X7 := X7.below hb
  replace X8 := X8.below hb
  replace X9 := X9.below hb
  replace X10 := X10.below hb
  replace X11 := X11.below hb
  replace X12 := X12.below hb
  replace X13 := X13.below hb
  replace WW := WW.trans (hb.mono WW.size)
  obtain ⟨D13, d13, rfl, hv'⟩ := hv.open_
  clear hv
  have kXA := XA.cell
  have zXA := XA.lt
  have kXB := XB.cell
  have zXB := XB.lt
  have kXC := XC.cell
  have zXC := XC.lt
  have kX1 := X1.cell
  have zX1 := X1.lt
  have kX2 := X2.cell
  have zX2 := X2.lt
  have kX3 := X3.cell
  have zX3 := X3.lt
  have kX4 := X4.cell
  have zX4 := X4.lt
  have kX5 := X5.cell
  have zX5 := X5.lt
  have kX7 := X7.cell
  have zX7 := X7.lt
  have kX8 := X8.cell
  have zX8 := X8.lt
  have kX9 := X9.cell
  have zX9 := X9.lt
  have kX10 := X10.cell
  have zX10 := X10.lt
  have kX11 := X11.cell
  have zX11 := X11.lt
  have kX12 := X12.cell
  have zX12 := X12.lt
  have kX13 := X13.cell
  have zX13 := X13.lt
  clear hb
  go_wp2_with fail
  obtain ⟨b0, bw⟩ := boxes1 V35 (.slice D13 (nw (a * b * c)) d13)
  clear kXA zXA kXB zXB kXC zXC kX1 zX1 kX2 zX2 kX3 zX3 kX4 zX4 kX5 zX5 kX7 zX7 kX8 zX8 kX9 zX9 kX10 zX10 kX11 zX11 kX12 zX12 kX13 zX13
  replace XA := XA.below bw
  replace XB := XB.below bw
  replace XC := XC.below bw
  replace X1 := X1.below bw
  replace X2 := X2.below bw
  replace X3 := X3.below bw
  replace X4 := X4.below bw
  replace X5 := X5.below bw
  replace X7 := X7.below bw
  replace X8 := X8.below bw
  replace X9 := X9.below bw
  replace X10 := X10.below bw
  replace X11 := X11.below bw
  replace X12 := X12.below bw
  replace X13 := X13.below bw
  have X14 := Box.mk b0 hv' bw
  replace WW := WW.trans (bw.mono WW.size)
  clear bw b0 hv'
  generalize hV : (V35.alloc (.cells #[.slice D13 (nw (a * b * c)) d13] 24)) = V36 at XA XB XC X1 X2 X3 X4 X5 X7 X8 X9 X10 X11 X12 X13 X14 WW ⊢
  clear hV
  have kXA := XA.cell
  have zXA := XA.lt
  have kXB := XB.cell
  have zXB := XB.lt
  have kXC := XC.cell
  have zXC := XC.lt
  have kX1 := X1.cell
  have zX1 := X1.lt
  have kX2 := X2.cell
  have zX2 := X2.lt
  have kX3 := X3.cell
  have zX3 := X3.lt
  have kX4 := X4.cell
  have zX4 := X4.lt
  have kX5 := X5.cell
  have zX5 := X5.lt
  have kX7 := X7.cell
  have zX7 := X7.lt
  have kX8 := X8.cell
  have zX8 := X8.lt
  have kX9 := X9.cell
  have zX9 := X9.lt
  have kX10 := X10.cell
  have zX10 := X10.lt
  have kX11 := X11.cell
  have zX11 := X11.lt
  have kX12 := X12.cell
  have zX12 := X12.lt
  have kX13 := X13.cell
  have zX13 := X13.lt
  have kX14 := X14.cell
  have zX14 := X14.lt
  have hc := same_any D11 D13 _ _ d11 d13 (a * b * c) (a * b * c) V36 X12.num X14.num (by omega) (by omega)
  rw [sameB_yes] at hc
  refine hc.mono ?_
  clear hc
  rintro e V37 ⟨rfl, hb⟩
  clear kXA zXA kXB zXB kXC zXC kX1 zX1 kX2 zX2 kX3 zX3 kX4 zX4 kX5 zX5 kX7 zX7 kX8 zX8 kX9 zX9 kX10 zX10 kX11 zX11 kX12 zX12 kX13 zX13 kX14 zX14
  replace XA := XA.below hb
  replace XB := XB.below hb
  replace XC := XC.below hb
  replace X1 := X1.below hb
  replace X2 := X2.below hb
  replace X3 := X3.below hb
  replace X4 := X4.below hb
  replace X5 := X5.below hb
  replace X7 := X7.below hb
  replace X8 := X8.below hb
  replace X9 := X9.below hb
  replace X10 := X10.below hb
  replace X11 := X11.below hb
  replace X12 := X12.below hb
  replace X13 := X13.below hb
  replace X14 := X14.below hb
  replace WW := WW.trans (hb.mono WW.size)
  have kXA := XA.cell
  have zXA := XA.lt
  have kXB := XB.cell
  have zXB := XB.lt
  have kXC := XC.cell
  have zXC := XC.lt
  have kX1 := X1.cell
  have zX1 := X1.lt
  have kX2 := X2.cell
  have zX2 := X2.lt
  have kX3 := X3.cell
  have zX3 := X3.lt
  have kX4 := X4.cell
  have zX4 := X4.lt
  have kX5 := X5.cell
  have zX5 := X5.lt
  have kX7 := X7.cell
  have zX7 := X7.lt
  have kX8 := X8.cell
  have zX8 := X8.lt
  have kX9 := X9.cell
  have zX9 := X9.lt
  have kX10 := X10.cell
  have zX10 := X10.lt
  have kX11 := X11.cell
  have zX11 := X11.lt
  have kX12 := X12.cell
  have zX12 := X12.lt
  have kX13 := X13.cell
  have zX13 := X13.lt
  have kX14 := X14.cell
  have zX14 := X14.lt
  clear hb
  go_wp2_with fail
  have hc := mul_any D1 C' _ _ d1 cc (a + b) c V37 X1.num XC.num (by omega) (by omega)
  rw [bothS_yes O1.out HC.out] at hc
  rw [L7.out] at hc
  refine hc.mono ?_
  clear hc
  rintro e V38 ⟨v, rfl, hv, hb⟩
  clear kXA zXA kXB zXB kXC zXC kX1 zX1 kX2 zX2 kX3 zX3 kX4 zX4 kX5 zX5 kX7 zX7 kX8 zX8 kX9 zX9 kX10 zX10 kX11 zX11 kX12 zX12 kX13 zX13 kX14 zX14
  replace XA := XA.below hb
  replace XB := XB.below hb
  replace XC := XC.below hb
  replace X1 := X1.below hb
  replace X2 := X2.below hb
  replace X3 := X3.below hb
  replace X4 := X4.below hb
  replace X5 := X5.below hb
  replace X7 := X7.below hb
  replace X8 := X8.below hb
  replace X9 := X9.below hb
  replace X10 := X10.below hb
  replace X11 := X11.below hb
  replace X12 := X12.below hb
  replace X13 := X13.below hb
  replace X14 := X14.below hb
  replace WW := WW.trans (hb.mono WW.size)
  obtain ⟨D14, d14, rfl, hv'⟩ := hv.open_
  clear hv
  have kXA := XA.cell
  have zXA := XA.lt
  have kXB := XB.cell
  have zXB := XB.lt
  have kXC := XC.cell
  have zXC := XC.lt
  have kX1 := X1.cell
  have zX1 := X1.lt
  have kX2 := X2.cell
  have zX2 := X2.lt
  have kX3 := X3.cell
  have zX3 := X3.lt
  have kX4 := X4.cell
  have zX4 := X4.lt
  have kX5 := X5.cell
  have zX5 := X5.lt
  have kX7 := X7.cell
  have zX7 := X7.lt
  have kX8 := X8.cell
  have zX8 := X8.lt
  have kX9 := X9.cell
  have zX9 := X9.lt
  have kX10 := X10.cell
  have zX10 := X10.lt
  have kX11 := X11.cell
  have zX11 := X11.lt
  have kX12 := X12.cell
  have zX12 := X12.lt
  have kX13 := X13.cell
  have zX13 := X13.lt
  have kX14 := X14.cell
  have zX14 := X14.lt
  clear hb
  go_wp2_with fail
  obtain ⟨b0, bw⟩ := boxes1 V38 (.slice D14 (nw ((a + b) * c)) d14)
  clear kXA zXA kXB zXB kXC zXC kX1 zX1 kX2 zX2 kX3 zX3 kX4 zX4 kX5 zX5 kX7 zX7 kX8 zX8 kX9 zX9 kX10 zX10 kX11 zX11 kX12 zX12 kX13 zX13 kX14 zX14
  replace XA := XA.below bw
  replace XB := XB.below bw
  replace XC := XC.below bw
  replace X1 := X1.below bw
  replace X2 := X2.below bw
  replace X3 := X3.below bw
  replace X4 := X4.below bw
  replace X5 := X5.below bw
  replace X7 := X7.below bw
  replace X8 := X8.below bw
  replace X9 := X9.below bw
  replace X10 := X10.below bw
  replace X11 := X11.below bw
  replace X12 := X12.below bw
  replace X13 := X13.below bw
  replace X14 := X14.below bw
  have X15 := Box.mk b0 hv' bw
  replace WW := WW.trans (bw.mono WW.size)
  clear bw b0 hv'
  generalize hV : (V38.alloc (.cells #[.slice D14 (nw ((a + b) * c)) d14] 24)) = V39 at XA XB XC X1 X2 X3 X4 X5 X7 X8 X9 X10 X11 X12 X13 X14 X15 WW ⊢
  clear hV
  have kXA := XA.cell
  have zXA := XA.lt
  have kXB := XB.cell
  have zXB := XB.lt
  have kXC := XC.cell
  have zXC := XC.lt
  have kX1 := X1.cell
  have zX1 := X1.lt
  have kX2 := X2.cell
  have zX2 := X2.lt
  have kX3 := X3.cell
  have zX3 := X3.lt
  have kX4 := X4.cell
  have zX4 := X4.lt
  have kX5 := X5.cell
  have zX5 := X5.lt
  have kX7 := X7.cell
  have zX7 := X7.lt
  have kX8 := X8.cell
  have zX8 := X8.lt
  have kX9 := X9.cell
  have zX9 := X9.lt
  have kX10 := X10.cell
  have zX10 := X10.lt
  have kX11 := X11.cell
  have zX11 := X11.lt
  have kX12 := X12.cell
  have zX12 := X12.lt
  have kX13 := X13.cell
  have zX13 := X13.lt
  have kX14 := X14.cell
  have zX14 := X14.lt
  have kX15 := X15.cell
  have zX15 := X15.lt
  have hc := mul_any A C' _ _ ca cc a c V39 XA.num XC.num (by omega) (by omega)
  rw [bothS_yes HA.out HC.out] at hc
  rw [L8.out] at hc
  refine hc.mono ?_
  clear hc
  rintro e V40 ⟨v, rfl, hv, hb⟩
  clear kXA zXA kXB zXB kXC zXC kX1 zX1 kX2 zX2 kX3 zX3 kX4 zX4 kX5 zX5 kX7 zX7 kX8 zX8 kX9 zX9 kX10 zX10 kX11 zX11 kX12 zX12 kX13 zX13 kX14 zX14 kX15 zX15
  replace XA := XA.below hb
  replace XB := XB.below hb
  replace XC := XC.below hb
  replace X1 := X1.below hb
  replace X2 := X2.below hb
  replace X3 := X3.below hb
  replace X4 := X4.below hb
  replace X5 := X5.below hb
  replace X7 := X7.below hb
  replace X8 := X8.below hb
  replace X9 := X9.below hb
  replace X10 := X10.below hb
  replace X11 := X11.below hb
  replace X12 := X12.below hb
  replace X13 := X13.below hb
  replace X14 := X14.below hb
  replace X15 := X15.below hb
  replace WW := WW.trans (hb.mono WW.size)
  obtain ⟨D15, d15, rfl, hv'⟩ := hv.open_
  clear hv
  have kXA := XA.cell
  have zXA := XA.lt
  have kXB := XB.cell
  have zXB := XB.lt
  have kXC := XC.cell
  have zXC := XC.lt
  have kX1 := X1.cell
  have zX1 := X1.lt
  have kX2 := X2.cell
  have zX2 := X2.lt
  have kX3 := X3.cell
  have zX3 := X3.lt
  have kX4 := X4.cell
  have zX4 := X4.lt
  have kX5 := X5.cell
  have zX5 := X5.lt
  have kX7 := X7.cell
  have zX7 := X7.lt
  have kX8 := X8.cell
  have zX8 := X8.lt
  have kX9 := X9.cell
  have zX9 := X9.lt
  have kX10 := X10.cell
  have zX10 := X10.lt
  have kX11 := X11.cell
  have zX11 := X11.lt
  have kX12 := X12.cell
  have zX12 := X12.lt
  have kX13 := X13.cell
  have zX13 := X13.lt
  have kX14 := X14.cell
  have zX14 := X14.lt
  have kX15 := X15.cell
  have zX15 := X15.lt
  clear hb
  go_wp2_with fail
  obtain ⟨b0, bw⟩ := boxes1 V40 (.slice D15 (nw (a * c)) d15)
  clear kXA zXA kXB zXB kXC zXC kX1 zX1 kX2 zX2 kX3 zX3 kX4 zX4 kX5 zX5 kX7 zX7 kX8 zX8 kX9 zX9 kX10 zX10 kX11 zX11 kX12 zX12 kX13 zX13 kX14 zX14 kX15 zX15
  replace XA := XA.below bw
  replace XB := XB.below bw
  replace XC := XC.below bw
  replace X1 := X1.below bw
  replace X2 := X2.below bw
  replace X3 := X3.below bw
  replace X4 := X4.below bw
  replace X5 := X5.below bw
  replace X7 := X7.below bw
  replace X8 := X8.below bw
  replace X9 := X9.below bw
  replace X10 := X10.below bw
  replace X11 := X11.below bw
  replace X12 := X12.below bw
  replace X13 := X13.below bw
  replace X14 := X14.below bw
  replace X15 := X15.below bw
  have X16 := Box.mk b0 hv' bw
  replace WW := WW.trans (bw.mono WW.size)
  clear bw b0 hv'
  generalize hV : (V40.alloc (.cells #[.slice D15 (nw (a * c)) d15] 24)) = V41 at XA XB XC X1 X2 X3 X4 X5 X7 X8 X9 X10 X11 X12 X13 X14 X15 X16 WW ⊢
  clear hV
  have kXA := XA.cell
  have zXA := XA.lt
  have kXB := XB.cell
  have zXB := XB.lt
  have kXC := XC.cell
  have zXC := XC.lt
  have kX1 := X1.cell
  have zX1 := X1.lt
  have kX2 := X2.cell
  have zX2 := X2.lt
  have kX3 := X3.cell
  have zX3 := X3.lt
  have kX4 := X4.cell
  have zX4 := X4.lt
  have kX5 := X5.cell
  have zX5 := X5.lt
  have kX7 := X7.cell
  have zX7 := X7.lt
  have kX8 := X8.cell
  have zX8 := X8.lt
  have kX9 := X9.cell
  have zX9 := X9.lt
  have kX10 := X10.cell
  have zX10 := X10.lt
  have kX11 := X11.cell
  have zX11 := X11.lt
  have kX12 := X12.cell
  have zX12 := X12.lt
  have kX13 := X13.cell
  have zX13 := X13.lt
  have kX14 := X14.cell
  have zX14 := X14.lt
  have kX15 := X15.cell
  have zX15 := X15.lt
  have kX16 := X16.cell
  have zX16 := X16.lt
  have hc := mul_any B' C' _ _ cb cc b c V41 XB.num XC.num (by omega) (by omega)
  rw [bothS_yes HB.out HC.out] at hc
  rw [L9.out] at hc
  refine hc.mono ?_
  clear hc
  rintro e V42 ⟨v, rfl, hv, hb⟩
  clear kXA zXA kXB zXB kXC zXC kX1 zX1 kX2 zX2 kX3 zX3 kX4 zX4 kX5 zX5 kX7 zX7 kX8 zX8 kX9 zX9 kX10 zX10 kX11 zX11 kX12 zX12 kX13 zX13 kX14 zX14 kX15 zX15 kX16 zX16
  replace XA := XA.below hb
  replace XB := XB.below hb
  replace XC := XC.below hb
  replace X1 := X1.below hb
  replace X2 := X2.below hb
  replace X3 := X3.below hb
  replace X4 := X4.below hb
  replace X5 := X5.below hb
  replace X7 := X7.below hb
  replace X8 := X8.below hb
  replace X9 := X9.below hb
  replace X10 := X10.below hb
  replace X11 := X11.below hb
  replace X12 := X12.below hb
  replace X13 := X13.below hb
  replace X14 := X14.below hb
  replace X15 := X15.below hb
  replace X16 := X16.below hb
  replace WW := WW.trans (hb.mono WW.size)
  obtain ⟨D16, d16, rfl, hv'⟩ := hv.open_
  clear hv
  have kXA := XA.cell
  have zXA := XA.lt
  have kXB := XB.cell
  have zXB := XB.lt
  have kXC := XC.cell
  have zXC := XC.lt
  have kX1 := X1.cell
  have zX1 := X1.lt
  have kX2 := X2.cell
  have zX2 := X2.lt
  have kX3 := X3.cell
  have zX3 := X3.lt
  have kX4 := X4.cell
  have zX4 := X4.lt
  have kX5 := X5.cell
  have zX5 := X5.lt
  have kX7 := X7.cell
  have zX7 := X7.lt
  have kX8 := X8.cell
  have zX8 := X8.lt
  have kX9 := X9.cell
  have zX9 := X9.lt
  have kX10 := X10.cell
  have zX10 := X10.lt
  have kX11 := X11.cell
  have zX11 := X11.lt
  have kX12 := X12.cell
  have zX12 := X12.lt
  have kX13 := X13.cell
  have zX13 := X13.lt
  have kX14 := X14.cell
  have zX14 := X14.lt
  have kX15 := X15.cell
  have zX15 := X15.lt
  have kX16 := X16.cell
  have zX16 := X16.lt
  clear hb
  go_wp2_with fail
  obtain ⟨b0, bw⟩ := boxes1 V42 (.slice D16 (nw (b * c)) d16)
  clear kXA zXA kXB zXB kXC zXC kX1 zX1 kX2 zX2 kX3 zX3 kX4 zX4 kX5 zX5 kX7 zX7 kX8 zX8 kX9 zX9 kX10 zX10 kX11 zX11 kX12 zX12 kX13 zX13 kX14 zX14 kX15 zX15 kX16 zX16
  replace XA := XA.below bw
  replace XB := XB.below bw
  replace XC := XC.below bw
  replace X1 := X1.below bw
  replace X2 := X2.below bw
  replace X3 := X3.below bw
  replace X4 := X4.below bw
  replace X5 := X5.below bw
  replace X7 := X7.below bw
  replace X8 := X8.below bw
  replace X9 := X9.below bw
  replace X10 := X10.below bw
  replace X11 := X11.below bw
  replace X12 := X12.below bw
  replace X13 := X13.below bw
  replace X14 := X14.below bw
  replace X15 := X15.below bw
  replace X16 := X16.below bw
  have X17 := Box.mk b0 hv' bw
  replace WW := WW.trans (bw.mono WW.size)
  clear bw b0 hv'
  generalize hV : (V42.alloc (.cells #[.slice D16 (nw (b * c)) d16] 24)) = V43 at XA XB XC X1 X2 X3 X4 X5 X7 X8 X9 X10 X11 X12 X13 X14 X15 X16 X17 WW ⊢
  clear hV
  have kXA := XA.cell
  have zXA := XA.lt
  have kXB := XB.cell
  have zXB := XB.lt
  have kXC := XC.cell
  have zXC := XC.lt
  have kX1 := X1.cell
  have zX1 := X1.lt
  have kX2 := X2.cell
  have zX2 := X2.lt
  have kX3 := X3.cell
  have zX3 := X3.lt
  have kX4 := X4.cell
  have zX4 := X4.lt
  have kX5 := X5.cell
  have zX5 := X5.lt
  have kX7 := X7.cell
  have zX7 := X7.lt
  have kX8 := X8.cell
  have zX8 := X8.lt
  have kX9 := X9.cell
  have zX9 := X9.lt
  have kX10 := X10.cell
  have zX10 := X10.lt
  have kX11 := X11.cell
  have zX11 := X11.lt
  have kX12 := X12.cell
  have zX12 := X12.lt
  have kX13 := X13.cell
  have zX13 := X13.lt
  have kX14 := X14.cell
  have zX14 := X14.lt
  have kX15 := X15.cell
  have zX15 := X15.lt
  have kX16 := X16.cell
  have zX16 := X16.lt
  have kX17 := X17.cell
  have zX17 := X17.lt
  have hc := add_any D15 D16 _ _ d15 d16 (a * c) (b * c) V43 X16.num X17.num (by omega) (by omega)
  rw [bothS_yes O8.out O9.out] at hc
  rw [LF.out] at hc
  refine hc.mono ?_
  clear hc
  rintro e V44 ⟨v, rfl, hv, hb⟩
  clear kXA zXA kXB zXB kXC zXC kX1 zX1 kX2 zX2 kX3 zX3 kX4 zX4 kX5 zX5 kX7 zX7 kX8 zX8 kX9 zX9 kX10 zX10 kX11 zX11 kX12 zX12 kX13 zX13 kX14 zX14 kX15 zX15 kX16 zX16 kX17 zX17
  replace XA := XA.below hb
  replace XB := XB.below hb
  replace XC := XC.below hb
  replace X1 := X1.below hb
  replace X2 := X2.below hb
  replace X3 := X3.below hb
  replace X4 := X4.below hb
  replace X5 := X5.below hb
  replace X7 := X7.below hb
  replace X8 := X8.below hb
  replace X9 := X9.below hb
  replace X10 := X10.below hb
  replace X11 := X11.below hb
  replace X12 := X12.below hb
  replace X13 := X13.below hb
  replace X14 := X14.below hb
  replace X15 := X15.below hb
  replace X16 := X16.below hb
  replace X17 := X17.below hb
  replace WW := WW.trans (hb.mono WW.size)
  obtain ⟨D18, d18, rfl, hv'⟩ := hv.open_
  clear hv
  have kXA := XA.cell
  have zXA := XA.lt
  have kXB := XB.cell
  have zXB := XB.lt
  have kXC := XC.cell
  have zXC := XC.lt
  have kX1 := X1.cell
  have zX1 := X1.lt
  have kX2 := X2.cell
  have zX2 := X2.lt
  have kX3 := X3.cell
  have zX3 := X3.lt
  have kX4 := X4.cell
  have zX4 := X4.lt
  have kX5 := X5.cell
  have zX5 := X5.lt
  have kX7 := X7.cell
  have zX7 := X7.lt
  have kX8 := X8.cell
  have zX8 := X8.lt
  have kX9 := X9.cell
  have zX9 := X9.lt
  have kX10 := X10.cell
  have zX10 := X10.lt
  have kX11 := X11.cell
  have zX11 := X11.lt
  have kX12 := X12.cell
  have zX12 := X12.lt
  have kX13 := X13.cell
  have zX13 := X13.lt
  have kX14 := X14.cell
  have zX14 := X14.lt
  have kX15 := X15.cell
  have zX15 := X15.lt
  have kX16 := X16.cell
  have zX16 := X16.lt
  have kX17 := X17.cell
  have zX17 := X17.lt
  clear hb
  go_wp2_with fail
  obtain ⟨b0, bw⟩ := boxes1 V44 (.slice D18 (nw ((a + b) * c)) d18)
  clear kXA zXA kXB zXB kXC zXC kX1 zX1 kX2 zX2 kX3 zX3 kX4 zX4 kX5 zX5 kX7 zX7 kX8 zX8 kX9 zX9 kX10 zX10 kX11 zX11 kX12 zX12 kX13 zX13 kX14 zX14 kX15 zX15 kX16 zX16 kX17 zX17
  replace XA := XA.below bw
  replace XB := XB.below bw
  replace XC := XC.below bw
  replace X1 := X1.below bw
  replace X2 := X2.below bw
  replace X3 := X3.below bw
  replace X4 := X4.below bw
  replace X5 := X5.below bw
  replace X7 := X7.below bw
  replace X8 := X8.below bw
  replace X9 := X9.below bw
  replace X10 := X10.below bw
  replace X11 := X11.below bw
  replace X12 := X12.below bw
  replace X13 := X13.below bw
  replace X14 := X14.below bw
  replace X15 := X15.below bw
  replace X16 := X16.below bw
  replace X17 := X17.below bw
  have X18 := Box.mk b0 hv' bw
  replace WW := WW.trans (bw.mono WW.size)
  clear bw b0 hv'
  generalize hV : (V44.alloc (.cells #[.slice D18 (nw ((a + b) * c)) d18] 24)) = V45 at XA XB XC X1 X2 X3 X4 X5 X7 X8 X9 X10 X11 X12 X13 X14 X15 X16 X17 X18 WW ⊢
  clear hV
  have kXA := XA.cell
  have zXA := XA.lt
  have kXB := XB.cell
  have zXB := XB.lt
  have kXC := XC.cell
  have zXC := XC.lt
  have kX1 := X1.cell
  have zX1 := X1.lt
  have kX2 := X2.cell
  have zX2 := X2.lt
  have kX3 := X3.cell
  have zX3 := X3.lt
  have kX4 := X4.cell
  have zX4 := X4.lt
  have kX5 := X5.cell
  have zX5 := X5.lt
  have kX7 := X7.cell
  have zX7 := X7.lt
  have kX8 := X8.cell
  have zX8 := X8.lt
  have kX9 := X9.cell
  have zX9 := X9.lt
  have kX10 := X10.cell
  have zX10 := X10.lt
  have kX11 := X11.cell
  have zX11 := X11.lt
  have kX12 := X12.cell
  have zX12 := X12.lt
  have kX13 := X13.cell
  have zX13 := X13.lt
  have kX14 := X14.cell
  have zX14 := X14.lt
  have kX15 := X15.cell
  have zX15 := X15.lt
  have kX16 := X16.cell
  have zX16 := X16.lt
  have kX17 := X17.cell
  have zX17 := X17.lt
  have kX18 := X18.cell
  have zX18 := X18.lt
  have hc := same_any D14 D18 _ _ d14 d18 ((a + b) * c) ((a + b) * c) V45 X15.num X18.num (by omega) (by omega)
  rw [sameB_yes] at hc
  refine hc.mono ?_
  clear hc
  rintro e V46 ⟨rfl, hb⟩
  clear kXA zXA kXB zXB kXC zXC kX1 zX1 kX2 zX2 kX3 zX3 kX4 zX4 kX5 zX5 kX7 zX7 kX8 zX8 kX9 zX9 kX10 zX10 kX11 zX11 kX12 zX12 kX13 zX13 kX14 zX14 kX15 zX15 kX16 zX16 kX17 zX17 kX18 zX18
  replace XA := XA.below hb
  replace XB := XB.below hb
  replace XC := XC.below hb
  replace X1 := X1.below hb
  replace X2 := X2.below hb
  replace X3 := X3.below hb
  replace X4 := X4.below hb
  replace X5 := X5.below hb
  replace X7 := X7.below hb
  replace X8 := X8.below hb
  replace X9 := X9.below hb
  replace X10 := X10.below hb
  replace X11 := X11.below hb
  replace X12 := X12.below hb
  replace X13 := X13.below hb
  replace X14 := X14.below hb
  replace X15 := X15.below hb
  replace X16 := X16.below hb
  replace X17 := X17.below hb
  replace X18 := X18.below hb
  replace WW := WW.trans (hb.mono WW.size)
  have kXA := XA.cell
  have zXA := XA.lt
  have kXB := XB.cell
  have zXB := XB.lt
  have kXC := XC.cell
  have zXC := XC.lt
  have kX1 := X1.cell
  have zX1 := X1.lt
  have kX2 := X2.cell
  have zX2 := X2.lt
  have kX3 := X3.cell
  have zX3 := X3.lt
  have kX4 := X4.cell
  have zX4 := X4.lt
  have kX5 := X5.cell
  have zX5 := X5.lt
  have kX7 := X7.cell
  have zX7 := X7.lt
  have kX8 := X8.cell
  have zX8 := X8.lt
  have kX9 := X9.cell
  have zX9 := X9.lt
  have kX10 := X10.cell
  have zX10 := X10.lt
  have kX11 := X11.cell
  have zX11 := X11.lt
  have kX12 := X12.cell
  have zX12 := X12.lt
  have kX13 := X13.cell
  have zX13 := X13.lt
  have kX14 := X14.cell
  have zX14 := X14.lt
  have kX15 := X15.cell
  have zX15 := X15.lt
  have kX16 := X16.cell
  have zX16 := X16.lt
  have kX17 := X17.cell
  have zX17 := X17.lt
  have kX18 := X18.cell
  have zX18 := X18.lt
  clear hb
  go_wp2_with fail
  go_ret
  exact ⟨rfl, WW⟩

set_option maxHeartbeats 4000000 in
set_option maxRecDepth 100000 in
theorem ring_25 (A B' C' : Option Addr) (ca cb cc a b c : Nat) (w : World) (hA : Num w w.heap.size A (nw a) a) (hB : Num w w.heap.size B' (nw b) b) (hC : Num w w.heap.size C' (nw c) c) (ha : nw a ≤ 64) (hb : nw b ≤ 64) (hc : nw c ≤ 64) (s1 : nw (a + b) ≤ 64) (s2 : nw (b + c) ≤ 64) (s3 : nw (a + b + c) ≤ 64) (p1 : nw (a * b) ≤ 64) (p2 : nw (a * b * c) ≤ 64) (p3 : ¬ nw (b * c) ≤ 64) (m : ¬ nw ((a + b) * c) ≤ 64) :
    Calls Try.prog 6 #[.agg #[.slice A (nw a) ca], .agg #[.slice B' (nw b) cb], .agg #[.slice C' (nw c) cc]] w (RetB (.bool true) w) := by
  have HG : Hid (decide (100 < nw a ∨ 100 < nw b ∨ 100 < nw c) = false) := decide_eq_false (by omega)
  have HA := hid (okB_nw ha)
  have HB := hid (okB_nw hb)
  have HC := hid (okB_nw hc)
  have hz0 : nw 0 ≤ 64 := by simp [nw_zero]
  have L1 := hid (limS_ok s1)
  have L1' : Hid (limS (b + a) = (a + b, 0)) := by show _ = _; rw [Nat.add_comm b a]; exact L1.out
  have O1 := hid (okB_nw s1)
  have LB : Hid (subS (a + b) b = (a, 0)) := by show _ = _; rw [subS_yes (by omega), Nat.add_sub_cancel]
  have L2 := hid (limS_ok s2)
  have L3 := hid (limS_ok s3)
  have O2 := hid (okB_nw s2)
  have L3' : Hid (limS (a + (b + c)) = (a + b + c, 0)) := by show _ = _; rw [← Nat.add_assoc]; exact L3.out
  have L4 := hid (limS_ok p1)
  have L4' : Hid (limS (b * a) = (a * b, 0)) := by show _ = _; rw [Nat.mul_comm b a]; exact L4.out
  obtain ⟨u, hu⟩ : ∃ u, u = 1 := ⟨_, rfl⟩
  have LO : Hid (ofS 1 = (u, 0)) := by show _ = _; rw [hu]; exact ofS_nat 1
  have hu1 : nw u ≤ 64 := Nat.le_trans (nw_le (n := 1) (by rw [hu]; decide)) (by omega)
  have OU := hid (okB_nw hu1)
  have LU : Hid (limS (a * u) = (a, 0)) := by show _ = _; rw [hu, Nat.mul_one]; exact limS_ok ha
  have OZ : Hid (okB 0 0 = true) := okB_nw (a := 0) (by simp [nw_zero])
  have LZ : Hid (limS (a + 0) = (a, 0)) := limS_ok ha
  have O4 := hid (okB_nw p1)
  have L5 := hid (limS_ok p2)
  have L6 := hid (limS_big p3)
  have L7 := hid (limS_big m)
  obtain ⟨v8, e8, L8, b8⟩ := limS_some (a * c)
  obtain ⟨v9, e9, L9, b9⟩ := limS_some (b * c)
  clear hu
  obtain ⟨b0, b1, b2, bw⟩ := boxes3 w (.slice A (nw a) ca) (.slice B' (nw b) cb) (.slice C' (nw c) cc)
  have XA := Box.mk b0 hA bw
  have XB := Box.mk b1 hB bw
  have XC := Box.mk b2 hC bw
  have WW := bw
  clear bw b0 b1 b2
  go_enter Try.func6, Try.ntmps6
  go_wp2_with fail
  generalize hV : (((w.alloc (.cells #[.slice A (nw a) ca] 24)).alloc (.cells #[.slice B' (nw b) cb] 24)).alloc (.cells #[.slice C' (nw c) cc] 24)) = V0 at XA XB XC WW ⊢
  clear hV
  have hc := awake_any V0
  refine hc.mono ?_
  clear hc
  rintro e V1 ⟨rfl, hb⟩
  replace XA := XA.below hb
  replace XB := XB.below hb
  replace XC := XC.below hb
  replace WW := WW.trans (hb.mono WW.size)
  have kXA := XA.cell
  have zXA := XA.lt
  have kXB := XB.cell
  have zXB := XB.lt
  have kXC := XC.cell
  have zXC := XC.lt
  clear hb
  go_wp2_with fail
  have hc := great_3 V1 A B' C' (nw a) ca (nw b) cb (nw c) cc (by omega) (by omega) (by omega)
  rw [HG.out] at hc
  refine hc.mono ?_
  clear hc
  rintro e V2 ⟨rfl, hb⟩
  clear kXA zXA kXB zXB kXC zXC
  replace XA := XA.below hb
  replace XB := XB.below hb
  replace XC := XC.below hb
  replace WW := WW.trans (hb.mono WW.size)
  have kXA := XA.cell
  have zXA := XA.lt
  have kXB := XB.cell
  have zXB := XB.lt
  have kXC := XC.cell
  have zXC := XC.lt
  clear hb
  go_wp2_with fail
  have hc := rvalid_any A _ ca a _ V2 XA.num (Nat.le_refl _) (by omega)
  rw [HA.out] at hc
  refine hc.mono ?_
  clear hc
  rintro e V3 ⟨rfl, hb⟩
  clear kXA zXA kXB zXB kXC zXC
  replace XA := XA.below hb
  replace XB := XB.below hb
  replace XC := XC.below hb
  replace WW := WW.trans (hb.mono WW.size)
  have kXA := XA.cell
  have zXA := XA.lt
  have kXB := XB.cell
  have zXB := XB.lt
  have kXC := XC.cell
  have zXC := XC.lt
  clear hb
  go_wp2_with fail
  have hc := rvalid_any B' _ cb b _ V3 XB.num (Nat.le_refl _) (by omega)
  rw [HB.out] at hc
  refine hc.mono ?_
  clear hc
  rintro e V4 ⟨rfl, hb⟩
  clear kXA zXA kXB zXB kXC zXC
  replace XA := XA.below hb
  replace XB := XB.below hb
  replace XC := XC.below hb
  replace WW := WW.trans (hb.mono WW.size)
  have kXA := XA.cell
  have zXA := XA.lt
  have kXB := XB.cell
  have zXB := XB.lt
  have kXC := XC.cell
  have zXC := XC.lt
  clear hb
  go_wp2_with fail
  have hc := rvalid_any C' _ cc c _ V4 XC.num (Nat.le_refl _) (by omega)
  rw [HC.out] at hc
  refine hc.mono ?_
  clear hc
  rintro e V5 ⟨rfl, hb⟩
  clear kXA zXA kXB zXB kXC zXC
  replace XA := XA.below hb
  replace XB := XB.below hb
  replace XC := XC.below hb
  replace WW := WW.trans (hb.mono WW.size)
  have kXA := XA.cell
  have zXA := XA.lt
  have kXB := XB.cell
  have zXB := XB.lt
  have kXC := XC.cell
  have zXC := XC.lt
  clear hb
  go_wp2_with fail
  have hc := add_any A B' _ _ ca cb a b V5 XA.num XB.num (by omega) (by omega)
  rw [bothS_yes HA.out HB.out] at hc
  rw [L1.out] at hc
  refine hc.mono ?_
  clear hc
  rintro e V6 ⟨v, rfl, hv, hb⟩
  clear kXA zXA kXB zXB kXC zXC
  replace XA := XA.below hb
  replace XB := XB.below hb
  replace XC := XC.below hb
  replace WW := WW.trans (hb.mono WW.size)
  obtain ⟨D1, d1, rfl, hv'⟩ := hv.open_
  clear hv
  have kXA := XA.cell
  have zXA := XA.lt
  have kXB := XB.cell
  have zXB := XB.lt
  have kXC := XC.cell
  have zXC := XC.lt
  clear hb
  go_wp2_with fail
  obtain ⟨b0, bw⟩ := boxes1 V6 (.slice D1 (nw (a + b)) d1)
  clear kXA zXA kXB zXB kXC zXC
  replace XA := XA.below bw
  replace XB := XB.below bw
  replace XC := XC.below bw
  have X1 := Box.mk b0 hv' bw
  replace WW := WW.trans (bw.mono WW.size)
  clear bw b0 hv'
  generalize hV : (V6.alloc (.cells #[.slice D1 (nw (a + b)) d1] 24)) = V7 at XA XB XC X1 WW ⊢
  clear hV
  have kXA := XA.cell
  have zXA := XA.lt
  have kXB := XB.cell
  have zXB := XB.lt
  have kXC := XC.cell
  have zXC := XC.lt
  have kX1 := X1.cell
  have zX1 := X1.lt
  have hc := add_any B' A _ _ cb ca b a V7 XB.num XA.num (by omega) (by omega)
  rw [bothS_yes HB.out HA.out] at hc
  rw [L1'.out] at hc
  refine hc.mono ?_
  clear hc
  rintro e V8 ⟨v, rfl, hv, hb⟩
  clear kXA zXA kXB zXB kXC zXC kX1 zX1
  replace XA := XA.below hb
  replace XB := XB.below hb
  replace XC := XC.below hb
  replace X1 := X1.below hb
  replace WW := WW.trans (hb.mono WW.size)
  obtain ⟨D2, d2, rfl, hv'⟩ := hv.open_
  clear hv
  have kXA := XA.cell
  have zXA := XA.lt
  have kXB := XB.cell
  have zXB := XB.lt
  have kXC := XC.cell
  have zXC := XC.lt
  have kX1 := X1.cell
  have zX1 := X1.lt
  clear hb
  go_wp2_with fail
  obtain ⟨b0, bw⟩ := boxes1 V8 (.slice D2 (nw (a + b)) d2)
  clear kXA zXA kXB zXB kXC zXC kX1 zX1
  replace XA := XA.below bw
  replace XB := XB.below bw
  replace XC := XC.below bw
  replace X1 := X1.below bw
  have X2 := Box.mk b0 hv' bw
  replace WW := WW.trans (bw.mono WW.size)
  clear bw b0 hv'
  generalize hV : (V8.alloc (.cells #[.slice D2 (nw (a + b)) d2] 24)) = V9 at XA XB XC X1 X2 WW ⊢
  clear hV
  have kXA := XA.cell
  have zXA := XA.lt
  have kXB := XB.cell
  have zXB := XB.lt
  have kXC := XC.cell
  have zXC := XC.lt
  have kX1 := X1.cell
  have zX1 := X1.lt
  have kX2 := X2.cell
  have zX2 := X2.lt
  have hc := same_any D1 D2 _ _ d1 d2 (a + b) (a + b) V9 X1.num X2.num (by omega) (by omega)
  rw [sameB_yes] at hc
  refine hc.mono ?_
  clear hc
  rintro e V10 ⟨rfl, hb⟩
  clear kXA zXA kXB zXB kXC zXC kX1 zX1 kX2 zX2
  replace XA := XA.below hb
  replace XB := XB.below hb
  replace XC := XC.below hb
  replace X1 := X1.below hb
  replace X2 := X2.below hb
  replace WW := WW.trans (hb.mono WW.size)
  have kXA := XA.cell
  have zXA := XA.lt
  have kXB := XB.cell
  have zXB := XB.lt
  have kXC := XC.cell
  have zXC := XC.lt
  have kX1 := X1.cell
  have zX1 := X1.lt
  have kX2 := X2.cell
  have zX2 := X2.lt
  clear hb
  go_wp2_with fail
  have hc := sub_any D1 B' _ _ d1 cb (a + b) b V10 X1.num XB.num (by omega) (by omega)
  rw [bothS_yes O1.out HB.out] at hc
  rw [LB.out] at hc
  refine hc.mono ?_
  clear hc
  rintro e V11 ⟨v, rfl, hv, hb⟩
  clear kXA zXA kXB zXB kXC zXC kX1 zX1 kX2 zX2
  replace XA := XA.below hb
  replace XB := XB.below hb
  replace XC := XC.below hb
  replace X1 := X1.below hb
  replace X2 := X2.below hb
  replace WW := WW.trans (hb.mono WW.size)
  obtain ⟨D3, d3, rfl, hv'⟩ := hv.open_
  clear hv
  have kXA := XA.cell
  have zXA := XA.lt
  have kXB := XB.cell
  have zXB := XB.lt
  have kXC := XC.cell
  have zXC := XC.lt
  have kX1 := X1.cell
  have zX1 := X1.lt
  have kX2 := X2.cell
  have zX2 := X2.lt
  clear hb
  go_wp2_with fail
  obtain ⟨b0, bw⟩ := boxes1 V11 (.slice D3 (nw a) d3)
  clear kXA zXA kXB zXB kXC zXC kX1 zX1 kX2 zX2
  replace XA := XA.below bw
  replace XB := XB.below bw
  replace XC := XC.below bw
  replace X1 := X1.below bw
  replace X2 := X2.below bw
  have X3 := Box.mk b0 hv' bw
  replace WW := WW.trans (bw.mono WW.size)
  clear bw b0 hv'
  generalize hV : (V11.alloc (.cells #[.slice D3 (nw a) d3] 24)) = V12 at XA XB XC X1 X2 X3 WW ⊢
  clear hV
  have kXA := XA.cell
  have zXA := XA.lt
  have kXB := XB.cell
  have zXB := XB.lt
  have kXC := XC.cell
  have zXC := XC.lt
  have kX1 := X1.cell
  have zX1 := X1.lt
  have kX2 := X2.cell
  have zX2 := X2.lt
  have kX3 := X3.cell
  have zX3 := X3.lt
  have hc := same_any D3 A _ _ d3 ca a a V12 X3.num XA.num (by omega) (by omega)
  rw [sameB_yes] at hc
  refine hc.mono ?_
  clear hc
  rintro e V13 ⟨rfl, hb⟩
  clear kXA zXA kXB zXB kXC zXC kX1 zX1 kX2 zX2 kX3 zX3
  replace XA := XA.below hb
  replace XB := XB.below hb
  replace XC := XC.below hb
  replace X1 := X1.below hb
  replace X2 := X2.below hb
  replace X3 := X3.below hb
  replace WW := WW.trans (hb.mono WW.size)
  have kXA := XA.cell
  have zXA := XA.lt
  have kXB := XB.cell
  have zXB := XB.lt
  have kXC := XC.cell
  have zXC := XC.lt
  have kX1 := X1.cell
  have zX1 := X1.lt
  have kX2 := X2.cell
  have zX2 := X2.lt
  have kX3 := X3.cell
  have zX3 := X3.lt
  clear hb
  go_wp2_with fail
  have hc := add_any B' C' _ _ cb cc b c V13 XB.num XC.num (by omega) (by omega)
  rw [bothS_yes HB.out HC.out] at hc
  rw [L2.out] at hc
  refine hc.mono ?_
  clear hc
  rintro e V14 ⟨v, rfl, hv, hb⟩
  clear kXA zXA kXB zXB kXC zXC kX1 zX1 kX2 zX2 kX3 zX3
  replace XA := XA.below hb
  replace XB := XB.below hb
  replace XC := XC.below hb
  replace X1 := X1.below hb
  replace X2 := X2.below hb
  replace X3 := X3.below hb
  replace WW := WW.trans (hb.mono WW.size)
  obtain ⟨D4, d4, rfl, hv'⟩ := hv.open_
  clear hv
  have kXA := XA.cell
  have zXA := XA.lt
  have kXB := XB.cell
  have zXB := XB.lt
  have kXC := XC.cell
  have zXC := XC.lt
  have kX1 := X1.cell
  have zX1 := X1.lt
  have kX2 := X2.cell
  have zX2 := X2.lt
  have kX3 := X3.cell
  have zX3 := X3.lt
  clear hb
  go_wp2_with fail
  obtain ⟨b0, bw⟩ := boxes1 V14 (.slice D4 (nw (b + c)) d4)
  clear kXA zXA kXB zXB kXC zXC kX1 zX1 kX2 zX2 kX3 zX3
  replace XA := XA.below bw
  replace XB := XB.below bw
  replace XC := XC.below bw
  replace X1 := X1.below bw
  replace X2 := X2.below bw
  replace X3 := X3.below bw
  have X4 := Box.mk b0 hv' bw
  replace WW := WW.trans (bw.mono WW.size)
  clear bw b0 hv'
  generalize hV : (V14.alloc (.cells #[.slice D4 (nw (b + c)) d4] 24)) = V15 at XA XB XC X1 X2 X3 X4 WW ⊢
  clear hV
  have kXA := XA.cell
  have zXA := XA.lt
  have kXB := XB.cell
  have zXB := XB.lt
  have kXC := XC.cell
  have zXC := XC.lt
  have kX1 := X1.cell
  have zX1 := X1.lt
  have kX2 := X2.cell
  have zX2 := X2.lt
  have kX3 := X3.cell
  have zX3 := X3.lt
  have kX4 := X4.cell
  have zX4 := X4.lt
  have hc := add_any D1 C' _ _ d1 cc (a + b) c V15 X1.num XC.num (by omega) (by omega)
  rw [bothS_yes O1.out HC.out] at hc
  rw [L3.out] at hc
  refine hc.mono ?_
  clear hc
  rintro e V16 ⟨v, rfl, hv, hb⟩
  clear kXA zXA kXB zXB kXC zXC kX1 zX1 kX2 zX2 kX3 zX3 kX4 zX4
  replace XA := XA.below hb
  replace XB := XB.below hb
  replace XC := XC.below hb
  replace X1 := X1.below hb
  replace X2 := X2.below hb
  replace X3 := X3.below hb
  replace X4 := X4.below hb
  replace WW := WW.trans (hb.mono WW.size)
  obtain ⟨D5, d5, rfl, hv'⟩ := hv.open_
  clear hv
  have kXA := XA.cell
  have zXA := XA.lt
  have kXB := XB.cell
  have zXB := XB.lt
  have kXC := XC.cell
  have zXC := XC.lt
  have kX1 := X1.cell
  have zX1 := X1.lt
  have kX2 := X2.cell
  have zX2 := X2.lt
  have kX3 := X3.cell
  have zX3 := X3.lt
  have kX4 := X4.cell
  have zX4 := X4.lt
  clear hb
  go_wp2_with fail
  obtain ⟨b0, bw⟩ := boxes1 V16 (.slice D5 (nw (a + b + c)) d5)
  clear kXA zXA kXB zXB kXC zXC kX1 zX1 kX2 zX2 kX3 zX3 kX4 zX4
  replace XA := XA.below bw
  replace XB := XB.below bw
  replace XC := XC.below bw
  replace X1 := X1.below bw
  replace X2 := X2.below bw
  replace X3 := X3.below bw
  replace X4 := X4.below bw
  have X5 := Box.mk b0 hv' bw
  replace WW := WW.trans (bw.mono WW.size)
  clear bw b0 hv'
  generalize hV : (V16.alloc (.cells #[.slice D5 (nw (a + b + c)) d5] 24)) = V17 at XA XB XC X1 X2 X3 X4 X5 WW ⊢
  clear hV
  have kXA := XA.cell
  have zXA := XA.lt
  have kXB := XB.cell
  have zXB := XB.lt
  have kXC := XC.cell
  have zXC := XC.lt
  have kX1 := X1.cell
  have zX1 := X1.lt
  have kX2 := X2.cell
  have zX2 := X2.lt
  have kX3 := X3.cell
  have zX3 := X3.lt
  have kX4 := X4.cell
  have zX4 := X4.lt
  have kX5 := X5.cell
  have zX5 := X5.lt
  have hc := add_any A D4 _ _ ca d4 a (b + c) V17 XA.num X4.num (by omega) (by omega)
  rw [bothS_yes HA.out O2.out] at hc
  rw [L3'.out] at hc
  refine hc.mono ?_
  clear hc
  rintro e V18 ⟨v, rfl, hv, hb⟩
  clear kXA zXA kXB zXB kXC zXC kX1 zX1 kX2 zX2 kX3 zX3 kX4 zX4 kX5 zX5
  replace XA := XA.below hb
  replace XB := XB.below hb
  replace XC := XC.below hb
  replace X1 := X1.below hb
  replace X2 := X2.below hb
  replace X3 := X3.below hb
  replace X4 := X4.below hb
  replace X5 := X5.below hb
  replace WW := WW.trans (hb.mono WW.size)
  obtain ⟨D6, d6, rfl, hv'⟩ := hv.open_
  clear hv
  have kXA := XA.cell
  have zXA := XA.lt
  have kXB := XB.cell
  have zXB := XB.lt
  have kXC := XC.cell
  have zXC := XC.lt
  have kX1 := X1.cell
  have zX1 := X1.lt
  have kX2 := X2.cell
  have zX2 := X2.lt
  have kX3 := X3.cell
  have zX3 := X3.lt
  have kX4 := X4.cell
  have zX4 := X4.lt
  have kX5 := X5.cell
  have zX5 := X5.lt
  clear hb
  go_wp2_with fail
  obtain ⟨b0, bw⟩ := boxes1 V18 (.slice D6 (nw (a + b + c)) d6)
  clear kXA zXA kXB zXB kXC zXC kX1 zX1 kX2 zX2 kX3 zX3 kX4 zX4 kX5 zX5
  replace XA := XA.below bw
  replace XB := XB.below bw
  replace XC := XC.below bw
  replace X1 := X1.below bw
  replace X2 := X2.below bw
  replace X3 := X3.below bw
  replace X4 := X4.below bw
  replace X5 := X5.below bw
  have X6 := Box.mk b0 hv' bw
  replace WW := WW.trans (bw.mono WW.size)
  clear bw b0 hv'
  generalize hV : (V18.alloc (.cells #[.slice D6 (nw (a + b + c)) d6] 24)) = V19 at XA XB XC X1 X2 X3 X4 X5 X6 WW ⊢
  clear hV
  have kXA := XA.cell
  have zXA := XA.lt
  have kXB := XB.cell
  have zXB := XB.lt
  have kXC := XC.cell
  have zXC := XC.lt
  have kX1 := X1.cell
  have zX1 := X1.lt
  have kX2 := X2.cell
  have zX2 := X2.lt
  have kX3 := X3.cell
  have zX3 := X3.lt
  have kX4 := X4.cell
  have zX4 := X4.lt
  have kX5 := X5.cell
  have zX5 := X5.lt
  have kX6 := X6.cell
  have zX6 := X6.lt
  have hc := same_any D5 D6 _ _ d5 d6 (a + b + c) (a + b + c) V19 X5.num X6.num (by omega) (by omega)
  rw [sameB_yes] at hc
  refine hc.mono ?_
  clear hc
  rintro e V20 ⟨rfl, hb⟩
  clear kXA zXA kXB zXB kXC zXC kX1 zX1 kX2 zX2 kX3 zX3 kX4 zX4 kX5 zX5 kX6 zX6
  replace XA := XA.below hb
  replace XB := XB.below hb
  replace XC := XC.below hb
  replace X1 := X1.below hb
  replace X2 := X2.below hb
  replace X3 := X3.below hb
  replace X4 := X4.below hb
  replace X5 := X5.below hb
  replace X6 := X6.below hb
  replace WW := WW.trans (hb.mono WW.size)
  have kXA := XA.cell
  have zXA := XA.lt
  have kXB := XB.cell
  have zXB := XB.lt
  have kXC := XC.cell
  have zXC := XC.lt
  have kX1 := X1.cell
  have zX1 := X1.lt
  have kX2 := X2.cell
  have zX2 := X2.lt
  have kX3 := X3.cell
  have zX3 := X3.lt
  have kX4 := X4.cell
  have zX4 := X4.lt
  have kX5 := X5.cell
  have zX5 := X5.lt
  have kX6 := X6.cell
  have zX6 := X6.lt
  clear hb
  go_wp2_with fail
  have hc := mul_any A B' _ _ ca cb a b V20 XA.num XB.num (by omega) (by omega)
  rw [bothS_yes HA.out HB.out] at hc
  rw [L4.out] at hc
  refine hc.mono ?_
  clear hc
  rintro e V21 ⟨v, rfl, hv, hb⟩
  clear kXA zXA kXB zXB kXC zXC kX1 zX1 kX2 zX2 kX3 zX3 kX4 zX4 kX5 zX5 kX6 zX6
  replace XA := XA.below hb
  replace XB := XB.below hb
  replace XC := XC.below hb
  replace X1 := X1.below hb
  replace X2 := X2.below hb
  replace X3 := X3.below hb
  replace X4 := X4.below hb
  replace X5 := X5.below hb
  replace X6 := X6.below hb
  replace WW := WW.trans (hb.mono WW.size)
  obtain ⟨D7, d7, rfl, hv'⟩ := hv.open_
  clear hv
  have kXA := XA.cell
  have zXA := XA.lt
  have kXB := XB.cell
  have zXB := XB.lt
  have kXC := XC.cell
  have zXC := XC.lt
  have kX1 := X1.cell
  have zX1 := X1.lt
  have kX2 := X2.cell
  have zX2 := X2.lt
  have kX3 := X3.cell
  have zX3 := X3.lt
  have kX4 := X4.cell
  have zX4 := X4.lt
  have kX5 := X5.cell
  have zX5 := X5.lt
  have kX6 := X6.cell
  have zX6 := X6.lt
  clear hb
  go_wp2_with fail
  obtain ⟨b0, bw⟩ := boxes1 V21 (.slice D7 (nw (a * b)) d7)
  clear kXA zXA kXB zXB kXC zXC kX1 zX1 kX2 zX2 kX3 zX3 kX4 zX4 kX5 zX5 kX6 zX6
  replace XA := XA.below bw
  replace XB := XB.below bw
  replace XC := XC.below bw
  replace X1 := X1.below bw
  replace X2 := X2.below bw
  replace X3 := X3.below bw
  replace X4 := X4.below bw
  replace X5 := X5.below bw
  replace X6 := X6.below bw
  have X7 := Box.mk b0 hv' bw
  replace WW := WW.trans (bw.mono WW.size)
  clear bw b0 hv'
  generalize hV : (V21.alloc (.cells #[.slice D7 (nw (a * b)) d7] 24)) = V22 at XA XB XC X1 X2 X3 X4 X5 X6 X7 WW ⊢
  clear hV
  have kXA := XA.cell
  have zXA := XA.lt
  have kXB := XB.cell
  have zXB := XB.lt
  have kXC := XC.cell
  have zXC := XC.lt
  have kX1 := X1.cell
  have zX1 := X1.lt
  have kX2 := X2.cell
  have zX2 := X2.lt
  have kX3 := X3.cell
  have zX3 := X3.lt
  have kX4 := X4.cell
  have zX4 := X4.lt
  have kX5 := X5.cell
  have zX5 := X5.lt
  have kX6 := X6.cell
  have zX6 := X6.lt
  have kX7 := X7.cell
  have zX7 := X7.lt
  have hc := mul_any B' A _ _ cb ca b a V22 XB.num XA.num (by omega) (by omega)
  rw [bothS_yes HB.out HA.out] at hc
  rw [L4'.out] at hc
  refine hc.mono ?_
  clear hc
  rintro e V23 ⟨v, rfl, hv, hb⟩
  clear kXA zXA kXB zXB kXC zXC kX1 zX1 kX2 zX2 kX3 zX3 kX4 zX4 kX5 zX5 kX6 zX6 kX7 zX7
  replace XA := XA.below hb
  replace XB := XB.below hb
  replace XC := XC.below hb
  replace X1 := X1.below hb
  replace X2 := X2.below hb
  replace X3 := X3.below hb
  replace X4 := X4.below hb
  replace X5 := X5.below hb
  replace X6 := X6.below hb
  replace X7 := X7.below hb
  replace WW := WW.trans (hb.mono WW.size)
  obtain ⟨D8, d8, rfl, hv'⟩ := hv.open_
  clear hv
  have kXA := XA.cell
  have zXA := XA.lt
  have kXB := XB.cell
  have zXB := XB.lt
  have kXC := XC.cell
  have zXC := XC.lt
  have kX1 := X1.cell
  have zX1 := X1.lt
  have kX2 := X2.cell
  have zX2 := X2.lt
  have kX3 := X3.cell
  have zX3 := X3.lt
  have kX4 := X4.cell
  have zX4 := X4.lt
  have kX5 := X5.cell
  have zX5 := X5.lt
  have kX6 := X6.cell
  have zX6 := X6.lt
  have kX7 := X7.cell
  have zX7 := X7.lt
  clear hb
  go_wp2_with fail
  obtain ⟨b0, bw⟩ := boxes1 V23 (.slice D8 (nw (a * b)) d8)
  clear kXA zXA kXB zXB kXC zXC kX1 zX1 kX2 zX2 kX3 zX3 kX4 zX4 kX5 zX5 kX6 zX6 kX7 zX7
  replace XA := XA.below bw
  replace XB := XB.below bw
  replace XC := XC.below bw
  replace X1 := X1.below bw
  replace X2 := X2.below bw
  replace X3 := X3.below bw
  replace X4 := X4.below bw
  replace X5 := X5.below bw
  replace X6 := X6.below bw
  replace X7 := X7.below bw
  have X8 := Box.mk b0 hv' bw
  replace WW := WW.trans (bw.mono WW.size)
  clear bw b0 hv'
  generalize hV : (V23.alloc (.cells #[.slice D8 (nw (a * b)) d8] 24)) = V24 at XA XB XC X1 X2 X3 X4 X5 X6 X7 X8 WW ⊢
  clear hV
  have kXA := XA.cell
  have zXA := XA.lt
  have kXB := XB.cell
  have zXB := XB.lt
  have kXC := XC.cell
  have zXC := XC.lt
  have kX1 := X1.cell
  have zX1 := X1.lt
  have kX2 := X2.cell
  have zX2 := X2.lt
  have kX3 := X3.cell
  have zX3 := X3.lt
  have kX4 := X4.cell
  have zX4 := X4.lt
  have kX5 := X5.cell
  have zX5 := X5.lt
  have kX6 := X6.cell
  have zX6 := X6.lt
  have kX7 := X7.cell
  have zX7 := X7.lt
  have kX8 := X8.cell
  have zX8 := X8.lt
  have hc := same_any D7 D8 _ _ d7 d8 (a * b) (a * b) V24 X7.num X8.num (by omega) (by omega)
  rw [sameB_yes] at hc
  refine hc.mono ?_
  clear hc
  rintro e V25 ⟨rfl, hb⟩
  clear kXA zXA kXB zXB kXC zXC kX1 zX1 kX2 zX2 kX3 zX3 kX4 zX4 kX5 zX5 kX6 zX6 kX7 zX7 kX8 zX8
  replace XA := XA.below hb
  replace XB := XB.below hb
  replace XC := XC.below hb
  replace X1 := X1.below hb
  replace X2 := X2.below hb
  replace X3 := X3.below hb
  replace X4 := X4.below hb
  replace X5 := X5.below hb
  replace X6 := X6.below hb
  replace X7 := X7.below hb
  replace X8 := X8.below hb
  replace WW := WW.trans (hb.mono WW.size)
  have kXA := XA.cell
  have zXA := XA.lt
  have kXB := XB.cell
  have zXB := XB.lt
  have kXC := XC.cell
  have zXC := XC.lt
  have kX1 := X1.cell
  have zX1 := X1.lt
  have kX2 := X2.cell
  have zX2 := X2.lt
  have kX3 := X3.cell
  have zX3 := X3.lt
  have kX4 := X4.cell
  have zX4 := X4.lt
  have kX5 := X5.cell
  have zX5 := X5.lt
  have kX6 := X6.cell
  have zX6 := X6.lt
  have kX7 := X7.cell
  have zX7 := X7.lt
  have kX8 := X8.cell
  have zX8 := X8.lt
  clear hb
  go_wp2_with fail
  have hc := of_any 1 V25 (by omega) (by omega)
  rw [LO.out] at hc
  refine hc.mono ?_
  clear hc
  rintro e V26 ⟨v, rfl, hv, hb⟩
  clear kXA zXA kXB zXB kXC zXC kX1 zX1 kX2 zX2 kX3 zX3 kX4 zX4 kX5 zX5 kX6 zX6 kX7 zX7 kX8 zX8
  replace XA := XA.below hb
  replace XB := XB.below hb
  replace XC := XC.below hb
  replace X1 := X1.below hb
  replace X2 := X2.below hb
  replace X3 := X3.below hb
  replace X4 := X4.below hb
  replace X5 := X5.below hb
  replace X6 := X6.below hb
  replace X7 := X7.below hb
  replace X8 := X8.below hb
  replace WW := WW.trans (hb.mono WW.size)
  obtain ⟨D9, d9, rfl, hv'⟩ := hv.open_
  clear hv
  have kXA := XA.cell
  have zXA := XA.lt
  have kXB := XB.cell
  have zXB := XB.lt
  have kXC := XC.cell
  have zXC := XC.lt
  have kX1 := X1.cell
  have zX1 := X1.lt
  have kX2 := X2.cell
  have zX2 := X2.lt
  have kX3 := X3.cell
  have zX3 := X3.lt
  have kX4 := X4.cell
  have zX4 := X4.lt
  have kX5 := X5.cell
  have zX5 := X5.lt
  have kX6 := X6.cell
  have zX6 := X6.lt
  have kX7 := X7.cell
  have zX7 := X7.lt
  have kX8 := X8.cell
  have zX8 := X8.lt
  clear hb
  go_wp2_with fail
  obtain ⟨b0, bw⟩ := boxes1 V26 (.slice D9 (nw u) d9)
  clear kXA zXA kXB zXB kXC zXC kX1 zX1 kX2 zX2 kX3 zX3 kX4 zX4 kX5 zX5 kX6 zX6 kX7 zX7 kX8 zX8
  replace XA := XA.below bw
  replace XB := XB.below bw
  replace XC := XC.below bw
  replace X1 := X1.below bw
  replace X2 := X2.below bw
  replace X3 := X3.below bw
  replace X4 := X4.below bw
  replace X5 := X5.below bw
  replace X6 := X6.below bw
  replace X7 := X7.below bw
  replace X8 := X8.below bw
  have X9 := Box.mk b0 hv' bw
  replace WW := WW.trans (bw.mono WW.size)
  clear bw b0 hv'
  generalize hV : (V26.alloc (.cells #[.slice D9 (nw u) d9] 24)) = V27 at XA XB XC X1 X2 X3 X4 X5 X6 X7 X8 X9 WW ⊢
  clear hV
  have kXA := XA.cell
  have zXA := XA.lt
  have kXB := XB.cell
  have zXB := XB.lt
  have kXC := XC.cell
  have zXC := XC.lt
  have kX1 := X1.cell
  have zX1 := X1.lt
  have kX2 := X2.cell
  have zX2 := X2.lt
  have kX3 := X3.cell
  have zX3 := X3.lt
  have kX4 := X4.cell
  have zX4 := X4.lt
  have kX5 := X5.cell
  have zX5 := X5.lt
  have kX6 := X6.cell
  have zX6 := X6.lt
  have kX7 := X7.cell
  have zX7 := X7.lt
  have kX8 := X8.cell
  have zX8 := X8.lt
  have kX9 := X9.cell
  have zX9 := X9.lt
  have hc := mul_any A D9 _ _ ca d9 a u V27 XA.num X9.num (by omega) (by omega)
  rw [bothS_yes HA.out OU.out] at hc
  rw [LU.out] at hc
  refine hc.mono ?_
  clear hc
  rintro e V28 ⟨v, rfl, hv, hb⟩
  clear kXA zXA kXB zXB kXC zXC kX1 zX1 kX2 zX2 kX3 zX3 kX4 zX4 kX5 zX5 kX6 zX6 kX7 zX7 kX8 zX8 kX9 zX9
  replace XA := XA.below hb
  replace XB := XB.below hb
  replace XC := XC.below hb
  replace X1 := X1.below hb
  replace X2 := X2.below hb
  replace X3 := X3.below hb
  replace X4 := X4.below hb
  replace X5 := X5.below hb
  replace X6 := X6.below hb
  replace X7 := X7.below hb
  replace X8 := X8.below hb
  replace X9 := X9.below hb
  replace WW := WW.trans (hb.mono WW.size)
  obtain ⟨D10, d10, rfl, hv'⟩ := hv.open_
  clear hv
  have kXA := XA.cell
  have zXA := XA.lt
  have kXB := XB.cell
  have zXB := XB.lt
  have kXC := XC.cell
  have zXC := XC.lt
  have kX1 := X1.cell
  have zX1 := X1.lt
  have kX2 := X2.cell
  have zX2 := X2.lt
  have kX3 := X3.cell
  have zX3 := X3.lt
  have kX4 := X4.cell
  have zX4 := X4.lt
  have kX5 := X5.cell
  have zX5 := X5.lt
  have kX6 := X6.cell
  have zX6 := X6.lt
  have kX7 := X7.cell
  have zX7 := X7.lt
  have kX8 := X8.cell
  have zX8 := X8.lt
  have kX9 := X9.cell
  have zX9 := X9.lt
  clear hb
  go_wp2_with fail
  obtain ⟨b0, bw⟩ := boxes1 V28 (.slice D10 (nw a) d10)
  clear kXA zXA kXB zXB kXC zXC kX1 zX1 kX2 zX2 kX3 zX3 kX4 zX4 kX5 zX5 kX6 zX6 kX7 zX7 kX8 zX8 kX9 zX9
  replace XA := XA.below bw
  replace XB := XB.below bw
  replace XC := XC.below bw
  replace X1 := X1.below bw
  replace X2 := X2.below bw
  replace X3 := X3.below bw
  replace X4 := X4.below bw
  replace X5 := X5.below bw
  replace X6 := X6.below bw
  replace X7 := X7.below bw
  replace X8 := X8.below bw
  replace X9 := X9.below bw
  have X10 := Box.mk b0 hv' bw
  replace WW := WW.trans (bw.mono WW.size)
  clear bw b0 hv'
  generalize hV : (V28.alloc (.cells #[.slice D10 (nw a) d10] 24)) = V29 at XA XB XC X1 X2 X3 X4 X5 X6 X7 X8 X9 X10 WW ⊢
  clear hV
  have kXA := XA.cell
  have zXA := XA.lt
  have kXB := XB.cell
  have zXB := XB.lt
  have kXC := XC.cell
  have zXC := XC.lt
  have kX1 := X1.cell
  have zX1 := X1.lt
  have kX2 := X2.cell
  have zX2 := X2.lt
  have kX3 := X3.cell
  have zX3 := X3.lt
  have kX4 := X4.cell
  have zX4 := X4.lt
  have kX5 := X5.cell
  have zX5 := X5.lt
  have kX6 := X6.cell
  have zX6 := X6.lt
  have kX7 := X7.cell
  have zX7 := X7.lt
  have kX8 := X8.cell
  have zX8 := X8.lt
  have kX9 := X9.cell
  have zX9 := X9.lt
  have kX10 := X10.cell
  have zX10 := X10.lt
  have hc := add_any A none _ 0 ca 0 a 0 V29 XA.num (Num.nil _ _ _) (by omega) (by omega)
  rw [bothS_yes HA.out OZ.out] at hc
  rw [LZ.out] at hc
  refine hc.mono ?_
  clear hc
  rintro e V30 ⟨v, rfl, hv, hb⟩
  clear kXA zXA kXB zXB kXC zXC kX1 zX1 kX2 zX2 kX3 zX3 kX4 zX4 kX5 zX5 kX6 zX6 kX7 zX7 kX8 zX8 kX9 zX9 kX10 zX10
  replace XA := XA.below hb
  replace XB := XB.below hb
  replace XC := XC.below hb
  replace X1 := X1.below hb
  replace X2 := X2.below hb
  replace X3 := X3.below hb
  replace X4 := X4.below hb
  replace X5 := X5.below hb
  replace X6 := X6.below hb
  replace X7 := X7.below hb
  replace X8 := X8.below hb
  replace X9 := X9.below hb
  replace X10 := X10.below hb
  replace WW := WW.trans (hb.mono WW.size)
  obtain ⟨D11, d11, rfl, hv'⟩ := hv.open_
  clear hv
  have kXA := XA.cell
  have zXA := XA.lt
  have kXB := XB.cell
  have zXB := XB.lt
  have kXC := XC.cell
  have zXC := XC.lt
  have kX1 := X1.cell
  have zX1 := X1.lt
  have kX2 := X2.cell
  have zX2 := X2.lt
  have kX3 := X3.cell
  have zX3 := X3.lt
  have kX4 := X4.cell
  have zX4 := X4.lt
  have kX5 := X5.cell
  have zX5 := X5.lt
  have kX6 := X6.cell
  have zX6 := X6.lt
  have kX7 := X7.cell
  have zX7 := X7.lt
  have kX8 := X8.cell
  have zX8 := X8.lt
  have kX9 := X9.cell
  have zX9 := X9.lt
  have kX10 := X10.cell
  have zX10 := X10.lt
  clear hb
  go_wp2_with fail
  obtain ⟨b0, bw⟩ := boxes1 V30 (.slice D11 (nw a) d11)
  clear kXA zXA kXB zXB kXC zXC kX1 zX1 kX2 zX2 kX3 zX3 kX4 zX4 kX5 zX5 kX6 zX6 kX7 zX7 kX8 zX8 kX9 zX9 kX10 zX10
  replace XA := XA.below bw
  replace XB := XB.below bw
  replace XC := XC.below bw
  replace X1 := X1.below bw
  replace X2 := X2.below bw
  replace X3 := X3.below bw
  replace X4 := X4.below bw
  replace X5 := X5.below bw
  replace X6 := X6.below bw
  replace X7 := X7.below bw
  replace X8 := X8.below bw
  replace X9 := X9.below bw
  replace X10 := X10.below bw
  have X11 := Box.mk b0 hv' bw
  replace WW := WW.trans (bw.mono WW.size)
  clear bw b0 hv'
  generalize hV : (V30.alloc (.cells #[.slice D11 (nw a) d11] 24)) = V31 at XA XB XC X1 X2 X3 X4 X5 X6 X7 X8 X9 X10 X11 WW ⊢
  clear hV
  have kXA := XA.cell
  have zXA := XA.lt
  have kXB := XB.cell
  have zXB := XB.lt
  have kXC := XC.cell
  have zXC := XC.lt
  have kX1 := X1.cell
  have zX1 := X1.lt
  have kX2 := X2.cell
  have zX2 := X2.lt
  have kX3 := X3.cell
  have zX3 := X3.lt
  have kX4 := X4.cell
  have zX4 := X4.lt
  have kX5 := X5.cell
  have zX5 := X5.lt
  have kX6 := X6.cell
  have zX6 := X6.lt
  have kX7 := X7.cell
  have zX7 := X7.lt
  have kX8 := X8.cell
  have zX8 := X8.lt
  have kX9 := X9.cell
  have zX9 := X9.lt
  have kX10 := X10.cell
  have zX10 := X10.lt
  have kX11 := X11.cell
  have zX11 := X11.lt
  have hc := same_any D10 A _ _ d10 ca a a V31 X10.num XA.num (by omega) (by omega)
  rw [sameB_yes] at hc
  refine hc.mono ?_
  clear hc
  rintro e V32 ⟨rfl, hb⟩
  clear kXA zXA kXB zXB kXC zXC kX1 zX1 kX2 zX2 kX3 zX3 kX4 zX4 kX5 zX5 kX6 zX6 kX7 zX7 kX8 zX8 kX9 zX9 kX10 zX10 kX11 zX11
  replace XA := XA.below hb
  replace XB := XB.below hb
  replace XC := XC.below hb
  replace X1 := X1.below hb
  replace X2 := X2.below hb
  replace X3 := X3.below hb
  replace X4 := X4.below hb
  replace X5 := X5.below hb
  replace X6 := X6.below hb
  replace X7 := X7.below hb
  replace X8 := X8.below hb
  replace X9 := X9.below hb
  replace X10 := X10.below hb
  replace X11 := X11.below hb
  replace WW := WW.trans (hb.mono WW.size)
  have kXA := XA.cell
  have zXA := XA.lt
  have kXB := XB.cell
  have zXB := XB.lt
  have kXC := XC.cell
  have zXC := XC.lt
  have kX1 := X1.cell
  have zX1 := X1.lt
  have kX2 := X2.cell
  have zX2 := X2.lt
  have kX3 := X3.cell
  have zX3 := X3.lt
  have kX4 := X4.cell
  have zX4 := X4.lt
  have kX5 := X5.cell
  have zX5 := X5.lt
  have kX6 := X6.cell
  have zX6 := X6.lt
  have kX7 := X7.cell
  have zX7 := X7.lt
  have kX8 := X8.cell
  have zX8 := X8.lt
  have kX9 := X9.cell
  have zX9 := X9.lt
  have kX10 := X10.cell
  have zX10 := X10.lt
  have kX11 := X11.cell
  have zX11 := X11.lt
  clear hb
  go_wp2_with fail
  have hc := same_any D11 A _ _ d11 ca a a V32 X11.num XA.num (by omega) (by omega)
  rw [sameB_yes] at hc
  refine hc.mono ?_
  clear hc
  rintro e V33 ⟨rfl, hb⟩
  clear kXA zXA kXB zXB kXC zXC kX1 zX1 kX2 zX2 kX3 zX3 kX4 zX4 kX5 zX5 kX6 zX6 kX7 zX7 kX8 zX8 kX9 zX9 kX10 zX10 kX11 zX11
  replace XA := XA.below hb
  replace XB := XB.below hb
  replace XC := XC.below hb
  replace X1 := X1.below hb
  replace X2 := X2.below hb
  replace X3 := X3.below hb
  replace X4 := X4.below hb
  replace X5 := X5.below hb
  replace X6 := X6.below hb
  replace X7 := X7.below hb
  replace X8 := X8.below hb
  replace X9 := X9.below hb
  replace X10 := X10.below hb
  replace X11 := X11.below hb
  replace WW := WW.trans (hb.mono WW.size)
  have kXA := XA.cell
  have zXA := XA.lt
  have kXB := XB.cell
  have zXB := XB.lt
  have kXC := XC.cell
  have zXC := XC.lt
  have kX1 := X1.cell
  have zX1 := X1.lt
  have kX2 := X2.cell
  have zX2 := X2.lt
  have kX3 := X3.cell
  have zX3 := X3.lt
  have kX4 := X4.cell
  have zX4 := X4.lt
  have kX5 := X5.cell
  have zX5 := X5.lt
  have kX6 := X6.cell
  have zX6 := X6.lt
  have kX7 := X7.cell
  have zX7 := X7.lt
  have kX8 := X8.cell
  have zX8 := X8.lt
  have kX9 := X9.cell
  have zX9 := X9.lt
  have kX10 := X10.cell
  have zX10 := X10.lt
  have kX11 := X11.cell
  have zX11 := X11.lt
  clear hb
  go_wp2_with fail
  have hc := mul_any D7 C' _ _ d7 cc (a * b) c V33 X7.num XC.num (by omega) (by omega)
  rw [bothS_yes O4.out HC.out] at hc
  rw [L5.out] at hc
  refine hc.mono ?_
  clear hc
  rintro e V34 ⟨v, rfl, hv, hb⟩
  clear kXA zXA kXB zXB kXC zXC kX1 zX1 kX2 zX2 kX3 zX3 kX4 zX4 kX5 zX5 kX6 zX6 kX7 zX7 kX8 zX8 kX9 zX9 kX10 zX10 kX11 zX11
  replace XA := XA.below hb
  replace XB := XB.below hb
  replace XC := XC.below hb
  replace X1 := X1.below hb
  replace X2 := X2.below hb
  replace X3 := X3.below hb
  replace X4 := X4.below hb
  replace X5 := X5.below hb
  replace X6 := X6.below hb
  replace X7 := X7.below hb
  replace X8 := X8.below hb
  replace X9 := X9.below hb
  replace X10 := X10.below hb
  replace X11 := X11.below hb
  replace WW := WW.trans (hb.mono WW.size)
  obtain ⟨D12, d12, rfl, hv'⟩ := hv.open_
  clear hv
  have kXA := XA.cell
  have zXA := XA.lt
  have kXB := XB.cell
  have zXB := XB.lt
  have kXC := XC.cell
  have zXC := XC.lt
  have kX1 := X1.cell
  have zX1 := X1.lt
  have kX2 := X2.cell
  have zX2 := X2.lt
  have kX3 := X3.cell
  have zX3 := X3.lt
  have kX4 := X4.cell
  have zX4 := X4.lt
  have kX5 := X5.cell
  have zX5 := X5.lt
  have kX6 := X6.cell
  have zX6 := X6.lt
  have kX7 := X7.cell
  have zX7 := X7.lt
  have kX8 := X8.cell
  have zX8 := X8.lt
  have kX9 := X9.cell
  have zX9 := X9.lt
  have kX10 := X10.cell
  have zX10 := X10.lt
  have kX11 := X11.cell
  have zX11 := X11.lt
  clear hb
  go_wp2_with fail
  obtain ⟨b0, bw⟩ := boxes1 V34 (.slice D12 (nw (a * b * c)) d12)
  clear kXA zXA kXB zXB kXC zXC kX1 zX1 kX2 zX2 kX3 zX3 kX4 zX4 kX5 zX5 kX6 zX6 kX7 zX7 kX8 zX8 kX9 zX9 kX10 zX10 kX11 zX11
  replace XA := XA.below bw
  replace XB := XB.below bw
  replace XC := XC.below bw
  replace X1 := X1.below bw
  replace X2 := X2.below bw
  replace X3 := X3.below bw
  replace X4 := X4.below bw
  replace X5 := X5.below bw
  replace X6 := X6.below bw
  replace X7 := X7.below bw
  replace X8 := X8.below bw
  replace X9 := X9.below bw
  replace X10 := X10.below bw
  replace X11 := X11.below bw
  have X12 := Box.mk b0 hv' bw
  replace WW := WW.trans (bw.mono WW.size)
  clear bw b0 hv'
  generalize hV : (V34.alloc (.cells #[.slice D12 (nw (a * b * c)) d12] 24)) = V35 at XA XB XC X1 X2 X3 X4 X5 X6 X7 X8 X9 X10 X11 X12 WW ⊢
  clear hV
  have kXA := XA.cell
  have zXA := XA.lt
  have kXB := XB.cell
  have zXB := XB.lt
  have kXC := XC.cell
  have zXC := XC.lt
  have kX1 := X1.cell
  have zX1 := X1.lt
  have kX2 := X2.cell
  have zX2 := X2.lt
  have kX3 := X3.cell
  have zX3 := X3.lt
  have kX4 := X4.cell
  have zX4 := X4.lt
  have kX5 := X5.cell
  have zX5 := X5.lt
  have kX6 := X6.cell
  have zX6 := X6.lt
  have kX7 := X7.cell
  have zX7 := X7.lt
  have kX8 := X8.cell
  have zX8 := X8.lt
  have kX9 := X9.cell
  have zX9 := X9.lt
  have kX10 := X10.cell
  have zX10 := X10.lt
  have kX11 := X11.cell
  have zX11 := X11.lt
  have kX12 := X12.cell
  have zX12 := X12.lt
  have hc := mul_any B' C' _ _ cb cc b c V35 XB.num XC.num (by omega) (by omega)
  rw [bothS_yes HB.out HC.out] at hc
  rw [L6.out] at hc
  refine hc.mono ?_
  clear hc
  rintro e V36 ⟨v, rfl, hv, hb⟩
  clear kXA zXA kXB zXB kXC zXC kX1 zX1 kX2 zX2 kX3 zX3 kX4 zX4 kX5 zX5 kX6 zX6 kX7 zX7 kX8 zX8 kX9 zX9 kX10 zX10 kX11 zX11 kX12 zX12
  replace XA := XA.below hb
  replace XB := XB.below hb
  replace XC := XC.below hb
  replace X1 := X1.below hb
  replace X2 := X2.below hb
  replace X3 := X3.below hb
  replace X4 := X4.below hb
  replace X5 := X5.below hb
  replace X6 := X6.below hb
  replace X7 := X7.below hb
  replace X8 := X8.below hb
  replace X9 := X9.below hb
  replace X10 := X10.below hb
  replace X11 := X11.below hb
  replace X12 := X12.below hb
  replace WW := WW.trans (hb.mono WW.size)
  obtain ⟨D13, d13, rfl, hv'⟩ := hv.open_
  clear hv
  have kXA := XA.cell
  have zXA := XA.lt
  have kXB := XB.cell
  have zXB := XB.lt
  have kXC := XC.cell
  have zXC := XC.lt
  have kX1 := X1.cell
  have zX1 := X1.lt
  have kX2 := X2.cell
  have zX2 := X2.lt
  have kX3 := X3.cell
  have zX3 := X3.lt
  have kX4 := X4.cell
  have zX4 := X4.lt
  have kX5 := X5.cell
  have zX5 := X5.lt
  have kX6 := X6.cell
  have zX6 := X6.lt
  have kX7 := X7.cell
  have zX7 := X7.lt
  have kX8 := X8.cell
  have zX8 := X8.lt
  have kX9 := X9.cell
  have zX9 := X9.lt
  have kX10 := X10.cell
  have zX10 := X10.lt
  have kX11 := X11.cell
  have zX11 := X11.lt
  have kX12 := X12.cell
  have zX12 := X12.lt
  clear hb
  go_wp2_with fail
  obtain ⟨b0, bw⟩ := boxes1 V36 (.slice D13 (nw 0) d13)
  clear kXA zXA kXB zXB kXC zXC kX1 zX1 kX2 zX2 kX3 zX3 kX4 zX4 kX5 zX5 kX6 zX6 kX7 zX7 kX8 zX8 kX9 zX9 kX10 zX10 kX11 zX11 kX12 zX12
  replace XA := XA.below bw
  replace XB := XB.below bw
  replace XC := XC.below bw
  replace X1 := X1.below bw
  replace X2 := X2.below bw
  replace X3 := X3.below bw
  replace X4 := X4.below bw
  replace X5 := X5.below bw
  replace X6 := X6.below bw
  replace X7 := X7.below bw
  replace X8 := X8.below bw
  replace X9 := X9.below bw
  replace X10 := X10.below bw
  replace X11 := X11.below bw
  replace X12 := X12.below bw
  have X13 := Box.mk b0 hv' bw
  replace WW := WW.trans (bw.mono WW.size)
  clear bw b0 hv'
  generalize hV : (V36.alloc (.cells #[.slice D13 (nw 0) d13] 24)) = V37 at XA XB XC X1 X2 X3 X4 X5 X6 X7 X8 X9 X10 X11 X12 X13 WW ⊢
  clear hV
  have kXA := XA.cell
  have zXA := XA.lt
  have kXB := XB.cell
  have zXB := XB.lt
  have kXC := XC.cell
  have zXC := XC.lt
  have kX1 := X1.cell
  have zX1 := X1.lt
  have kX2 := X2.cell
  have zX2 := X2.lt
  have kX3 := X3.cell
  have zX3 := X3.lt
  have kX4 := X4.cell
  have zX4 := X4.lt
  have kX5 := X5.cell
  have zX5 := X5.lt
  have kX6 := X6.cell
  have zX6 := X6.lt
  have kX7 := X7.cell
  have zX7 := X7.lt
  have kX8 := X8.cell
  have zX8 := X8.lt
  have kX9 := X9.cell
  have zX9 := X9.lt
  have kX10 := X10.cell
  have zX10 := X10.lt
  have kX11 := X11.cell
  have zX11 := X11.lt
  have kX12 := X12.cell
  have zX12 := X12.lt
  have kX13 := X13.cell
  have zX13 := X13.lt
  have hc := mul_any D1 C' _ _ d1 cc (a + b) c V37 X1.num XC.num (by omega) (by omega)
  rw [bothS_yes O1.out HC.out] at hc
  rw [L7.out] at hc
  refine hc.mono ?_
  clear hc
  rintro e V38 ⟨v, rfl, hv, hb⟩
  clear kXA zXA kXB zXB kXC zXC kX1 zX1 kX2 zX2 kX3 zX3 kX4 zX4 kX5 zX5 kX6 zX6 kX7 zX7 kX8 zX8 kX9 zX9 kX10 zX10 kX11 zX11 kX12 zX12 kX13 zX13
  replace XA := XA.below hb
  replace XB := XB.below hb
  replace XC := XC.below hb
  replace X1 := X1.below hb
  replace X2 := X2.below hb
  replace X3 := X3.below hb
  replace X4 := X4.below hb
  replace X5 := X5.below hb
  replace X6 := X6.below hb
  replace X7 := X7.below hb
  replace X8 := X8.below hb
  replace X9 := X9.below hb
  replace X10 := X10.below hb
  replace X11 := X11.below hb
  replace X12 := X12.below hb
  replace X13 := X13.below hb
  replace WW := WW.trans (hb.mono WW.size)
  obtain ⟨D14, d14, rfl, hv'⟩ := hv.open_
  clear hv
  have kXA := XA.cell
  have zXA := XA.lt
  have kXB := XB.cell
  have zXB := XB.lt
  have kXC := XC.cell
  have zXC := XC.lt
  have kX1 := X1.cell
  have zX1 := X1.lt
  have kX2 := X2.cell
  have zX2 := X2.lt
  have kX3 := X3.cell
  have zX3 := X3.lt
  have kX4 := X4.cell
  have zX4 := X4.lt
  have kX5 := X5.cell
  have zX5 := X5.lt
  have kX6 := X6.cell
  have zX6 := X6.lt
  have kX7 := X7.cell
  have zX7 := X7.lt
  have kX8 := X8.cell
  have zX8 := X8.lt
  have kX9 := X9.cell
  have zX9 := X9.lt
  have kX10 := X10.cell
  have zX10 := X10.lt
  have kX11 := X11.cell
  have zX11 := X11.lt
  have kX12 := X12.cell
  have zX12 := X12.lt
  have kX13 := X13.cell
  have zX13 := X13.lt
  clear hb
  go_wp2_with fail
  obtain ⟨b0, bw⟩ := boxes1 V38 (.slice D14 (nw 0) d14)
  clear kXA zXA kXB zXB kXC zXC kX1 zX1 kX2 zX2 kX3 zX3 kX4 zX4 kX5 zX5 kX6 zX6 kX7 zX7 kX8 zX8 kX9 zX9 kX10 zX10 kX11 zX11 kX12 zX12 kX13 zX13
  replace XA := XA.below bw
  replace XB := XB.below bw
  replace XC := XC.below bw
  replace X1 := X1.below bw
  replace X2 := X2.below bw
  replace X3 := X3.below bw
  replace X4 := X4.below bw
  replace X5 := X5.below bw
  replace X6 := X6.below bw
  replace X7 := X7.below bw
  replace X8 := X8.below bw
  replace X9 := X9.below bw
  replace X10 := X10.below bw
  replace X11 := X11.below bw
  replace X12 := X12.below bw
  replace X13 := X13.below bw
  have X15 := Box.mk b0 hv' bw
  replace WW := WW.trans (bw.mono WW.size)
  clear bw b0 hv'
  generalize hV : (V38.alloc (.cells #[.slice D14 (nw 0) d14] 24)) = V39 at XA XB XC X1 X2 X3 X4 X5 X6 X7 X8 X9 X10 X11 X12 X13 X15 WW ⊢
  clear hV
  have kXA := XA.cell
  have zXA := XA.lt
  have kXB := XB.cell
  have zXB := XB.lt
  have kXC := XC.cell
  have zXC := XC.lt
  have kX1 := X1.cell
  have zX1 := X1.lt
  have kX2 := X2.cell
  have zX2 := X2.lt
  have kX3 := X3.cell
  have zX3 := X3.lt
  have kX4 := X4.cell
  have zX4 := X4.lt
  have kX5 := X5.cell
  have zX5 := X5.lt
  have kX6 := X6.cell
  have zX6 := X6.lt
  have kX7 := X7.cell
  have zX7 := X7.lt
  have kX8 := X8.cell
  have zX8 := X8.lt
  have kX9 := X9.cell
  have zX9 := X9.lt
  have kX10 := X10.cell
  have zX10 := X10.lt
  have kX11 := X11.cell
  have zX11 := X11.lt
  have kX12 := X12.cell
  have zX12 := X12.lt
  have kX13 := X13.cell
  have zX13 := X13.lt
  have kX15 := X15.cell
  have zX15 := X15.lt
  have hc := mul_any A C' _ _ ca cc a c V39 XA.num XC.num (by omega) (by omega)
  rw [bothS_yes HA.out HC.out] at hc
  rw [L8.out] at hc
  refine hc.mono ?_
  clear hc
  rintro e V40 ⟨v, rfl, hv, hb⟩
  clear kXA zXA kXB zXB kXC zXC kX1 zX1 kX2 zX2 kX3 zX3 kX4 zX4 kX5 zX5 kX6 zX6 kX7 zX7 kX8 zX8 kX9 zX9 kX10 zX10 kX11 zX11 kX12 zX12 kX13 zX13 kX15 zX15
  replace XA := XA.below hb
  replace XB := XB.below hb
  replace XC := XC.below hb
  replace X1 := X1.below hb
  replace X2 := X2.below hb
  replace X3 := X3.below hb
  replace X4 := X4.below hb
  replace X5 := X5.below hb
  replace X6 := X6.below hb
  replace X7 := X7.below hb
  replace X8 := X8.below hb
  replace X9 := X9.below hb
  replace X10 := X10.below hb
  replace X11 := X11.below hb
  replace X12 := X12.below hb
  replace X13 := X13.below hb
  replace X15 := X15.below hb
  replace WW := WW.trans (hb.mono WW.size)
  obtain ⟨D15, d15, rfl, hv'⟩ := hv.open_
  clear hv
  have kXA := XA.cell
  have zXA := XA.lt
  have kXB := XB.cell
  have zXB := XB.lt
  have kXC := XC.cell
  have zXC := XC.lt
  have kX1 := X1.cell
  have zX1 := X1.lt
  have kX2 := X2.cell
  have zX2 := X2.lt
  have kX3 := X3.cell
  have zX3 := X3.lt
  have kX4 := X4.cell
  have zX4 := X4.lt
  have kX5 := X5.cell
  have zX5 := X5.lt
  have kX6 := X6.cell
  have zX6 := X6.lt
  have kX7 := X7.cell
  have zX7 := X7.lt
  have kX8 := X8.cell
  have zX8 := X8.lt
  have kX9 := X9.cell
  have zX9 := X9.lt
  have kX10 := X10.cell
  have zX10 := X10.lt
  have kX11 := X11.cell
  have zX11 := X11.lt
  have kX12 := X12.cell
  have zX12 := X12.lt
  have kX13 := X13.cell
  have zX13 := X13.lt
  have kX15 := X15.cell
  have zX15 := X15.lt
  clear hb
  go_wp2_with fail
  obtain ⟨b0, bw⟩ := boxes1 V40 (.slice D15 (nw v8) d15)
  clear kXA zXA kXB zXB kXC zXC kX1 zX1 kX2 zX2 kX3 zX3 kX4 zX4 kX5 zX5 kX6 zX6 kX7 zX7 kX8 zX8 kX9 zX9 kX10 zX10 kX11 zX11 kX12 zX12 kX13 zX13 kX15 zX15
  replace XA := XA.below bw
  replace XB := XB.below bw
  replace XC := XC.below bw
  replace X1 := X1.below bw
  replace X2 := X2.below bw
  replace X3 := X3.below bw
  replace X4 := X4.below bw
  replace X5 := X5.below bw
  replace X6 := X6.below bw
  replace X7 := X7.below bw
  replace X8 := X8.below bw
  replace X9 := X9.below bw
  replace X10 := X10.below bw
  replace X11 := X11.below bw
  replace X12 := X12.below bw
  replace X13 := X13.below bw
  replace X15 := X15.below bw
  have X16 := Box.mk b0 hv' bw
  replace WW := WW.trans (bw.mono WW.size)
  clear bw b0 hv'
  generalize hV : (V40.alloc (.cells #[.slice D15 (nw v8) d15] 24)) = V41 at XA XB XC X1 X2 X3 X4 X5 X6 X7 X8 X9 X10 X11 X12 X13 X15 X16 WW ⊢
  clear hV
  have kXA := XA.cell
  have zXA := XA.lt
  have kXB := XB.cell
  have zXB := XB.lt
  have kXC := XC.cell
  have zXC := XC.lt
  have kX1 := X1.cell
  have zX1 := X1.lt
  have kX2 := X2.cell
  have zX2 := X2.lt
  have kX3 := X3.cell
  have zX3 := X3.lt
  have kX4 := X4.cell
  have zX4 := X4.lt
  have kX5 := X5.cell
  have zX5 := X5.lt
  have kX6 := X6.cell
  have zX6 := X6.lt
  have kX7 := X7.cell
  have zX7 := X7.lt
  have kX8 := X8.cell
  have zX8 := X8.lt
  have kX9 := X9.cell
  have zX9 := X9.lt
  have kX10 := X10.cell
  have zX10 := X10.lt
  have kX11 := X11.cell
  have zX11 := X11.lt
  have kX12 := X12.cell
  have zX12 := X12.lt
  have kX13 := X13.cell
  have zX13 := X13.lt
  have kX15 := X15.cell
  have zX15 := X15.lt
  have kX16 := X16.cell
  have zX16 := X16.lt
  have hc := mul_any B' C' _ _ cb cc b c V41 XB.num XC.num (by omega) (by omega)
  rw [bothS_yes HB.out HC.out] at hc
  rw [L9.out] at hc
  refine hc.mono ?_
  clear hc
  rintro e V42 ⟨v, rfl, hv, hb⟩
  clear kXA zXA kXB zXB kXC zXC kX1 zX1 kX2 zX2 kX3 zX3 kX4 zX4 kX5 zX5 kX6 zX6 kX7 zX7 kX8 zX8 kX9 zX9 kX10 zX10 kX11 zX11 kX12 zX12 kX13 zX13 kX15 zX15 kX16 zX16
  replace XA := XA.below hb
  replace XB := XB.below hb
  replace XC := XC.below hb
  replace X1 := X1.below hb
  replace X2 := X2.below hb
  replace X3 := X3.below hb
  replace X4 := X4.below hb
  replace X5 := X5.below hb
  replace X6 := X6.below hb
  replace X7 := X7.below hb
  replace X8 := X8.below hb
  replace X9 := X9.below hb
  replace X10 := X10.below hb
  replace X11 := X11.below hb
  replace X12 := X12.below hb
  replace X13 := X13.below hb
  replace X15 := X15.below hb
  replace X16 := X16.below hb
  replace WW := WW.trans (hb.mono WW.size)
  obtain ⟨D16, d16, rfl, hv'⟩ := hv.open_
  clear hv
  have kXA := XA.cell
  have zXA := XA.lt
  have kXB := XB.cell
  have zXB := XB.lt
  have kXC := XC.cell
  have zXC := XC.lt
  have kX1 := X1.cell
  have zX1 := X1.lt
  have kX2 := X2.cell
  have zX2 := X2.lt
  have kX3 := X3.cell
  have zX3 := X3.lt
  have kX4 := X4.cell
  have zX4 := X4.lt
  have kX5 := X5.cell
  have zX5 := X5.lt
  have kX6 := X6.cell
  have zX6 := X6.lt
  have kX7 := X7.cell
  have zX7 := X7.lt
  have kX8 := X8.cell
  have zX8 := X8.lt
  have kX9 := X9.cell
  have zX9 := X9.lt
  have kX10 := X10.cell
  have zX10 := X10.lt
  have kX11 := X11.cell
  have zX11 := X11.lt
  have kX12 := X12.cell
  have zX12 := X12.lt
  have kX13 := X13.cell
  have zX13 := X13.lt
  have kX15 := X15.cell
  have zX15 := X15.lt
  have kX16 := X16.cell
  have zX16 := X16.lt
  clear hb
  go_wp2_with fail
  go_ret
  exact ⟨rfl, WW.alloc WW.size _⟩

end Go.Proofs.Ytlhfaaghfhiaoaa
