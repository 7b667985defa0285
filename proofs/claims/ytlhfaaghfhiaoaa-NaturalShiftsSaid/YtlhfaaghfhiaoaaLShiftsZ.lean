/- NaturalShifts: the walk, part Z. -/
import Derived.Test.YtlhfaaghfhiaoaaLShiftsP
set_option linter.unusedVariables false
set_option linter.unusedSimpArgs false
namespace Go.Proofs.Ytlhfaaghfhiaoaa
open Go.RowKit

/- The tool's notices on operations that are not wanted are no faults: they are told, not counted as errors. -/
set_option warningAsError false in
set_option maxHeartbeats 8000000 in
set_option maxRecDepth 100000 in
theorem shifts_Z (A : Option Addr) (c a xn i k : Nat) (w : World) (hA : Num w w.heap.size A (nw a) a) (hn1 : nw a ≤ 64) (HG : Hid (decide (100 < nw a) = false)) (H1 : Hid (okB (nw a) a = true)) (hx : xn ≤ 65535) (hy : i ≤ 65535) (hk : ((xn : Nat) : Int) % 2100 = (k : Int)) (hk1 : k < 2100) (ha0 : a = 0) :
    Calls Try.prog 8 #[.agg #[.slice A (nw a) c], .int .u16 ((xn : Nat) : Int), .int .u16 ((i : Nat) : Int)] w (RetB (.bool true) w) := by
  have hn : nw a ≤ 9223372036854775807 := by omega
  obtain ⟨u, hu⟩ : ∃ u, u = 1 := ⟨_, rfl⟩
  have LO : Hid (ofS 1 = (u, 0)) := by show _ = _; rw [hu]; exact ofS_nat 1
  have hu1 : nw u ≤ 64 := Nat.le_trans (nw_le (n := 1) (by rw [hu]; decide)) (by omega)
  have OU := hid (okB_nw hu1)
  have eu : u * 2 ^ k = 2 ^ k := by rw [hu, Nat.one_mul]
  have hbl : bl a ≤ 2048 := bl_nw.1 hn1
  obtain ⟨t, ht⟩ : ∃ t, t = a / 2 ^ k := ⟨_, rfl⟩
  have htn : nw t ≤ 64 := by rw [ht]; exact Nat.le_trans (nw_mono (Nat.div_le_self _ _)) hn1
  have OT := hid (okB_nw htn)
  have SR : Hid (shiftS a (-(k : Int)) = (t, 0)) := by show _ = _; rw [ht]; exact shiftS_neg (by omega) hn1
  have BT : Hid (((bl t : Nat) : Int) = max 0 ((bl a : Int) - (k : Int))) := by show _ = _; rw [ht]; exact bl_div a k
  have BI : Hid (bitN t i = bitN a (i + k)) := by show _ = _; rw [ht]; exact bitN_shift a k i
  have PU := lt_bl u
  have hp2 : bl (2 ^ k) = k + 1 := bl_pow k
  have hpk : nw (2 ^ k) ≤ 64 ↔ k < 2048 := by rw [bl_nw, hp2]; omega
  obtain ⟨p, hp⟩ : ∃ p, p = 2 ^ k := ⟨_, rfl⟩
  have hp0 : p ≠ 0 := by rw [hp]; exact Nat.ne_of_gt (Nat.pow_pos (by omega))
  rw [← hp] at hpk eu
  have BA : Hid (bitsS (nw a) a = ((bl a : Nat) : Int)) := bitsS_yes H1.out
  have y1 : IntKind.i64.wrap ((bl a : Int) + (k : Int)) = (bl a : Int) + (k : Int) := IntWalk.i64_in _ (by omega)
  have y2 : IntKind.i64.wrap ((bl a : Int) - (k : Int)) = (bl a : Int) - (k : Int) := IntWalk.i64_in _ (by omega)
  have y3 : IntKind.i64.wrap ((i : Int) + (k : Int)) = (i : Int) + (k : Int) := IntWalk.i64_in _ (by omega)
  have y4 : IntKind.i64.wrap (-(k : Int)) = -(k : Int) := IntWalk.i64_in _ (by omega)
  have y5 : IntKind.i64.wrap (i : Int) = (i : Int) := IntWalk.i64_in _ (by omega)
  have EI : Hid (bitS (nw a) a ((i : Int) + (k : Int)) = bitN a (i + k)) := by show _ = _; rw [show (i : Int) + (k : Int) = ((i + k : Nat) : Int) by omega, bitS_yes H1.out]
  by_cases hkl : k < 2048
  · have SP : Hid (shiftS u (k : Int) = (p, 0)) := by show _ = _; rw [shiftS_nat (by omega), ← hp, eu, if_pos (hpk.2 hkl)]
    have hkd : decide ((k : Int) < 2048) = true := by simp; omega
    have hpn := hpk.2 hkl
    have OP := hid (okB_nw hpn)
    obtain ⟨r, hr⟩ : ∃ r, r = a % p := ⟨_, rfl⟩
    have hrn : nw r ≤ 64 := by rw [hr]; exact Nat.le_trans (nw_mono (Nat.mod_le _ _)) hn1
    have HD : Hid (divS a p = (t, r, 0)) := by show _ = _; rw [divS_yes hp0, ht, hr, hp]
    clear hr
    by_cases hL : nw (a * 2 ^ k) ≤ 64
    · obtain ⟨ll, hll⟩ : ∃ ll, ll = a * 2 ^ k := ⟨_, rfl⟩
      have SL : Hid (shiftS a (k : Int) = (ll, 0)) := by show _ = _; rw [shiftS_nat (by omega), if_pos hL, hll]
      rw [← hll] at hL
      have OL := hid (okB_nw hL)
      have SB : Hid (shiftS ll (-(k : Int)) = (a, 0)) := by show _ = _; rw [shiftS_neg (by omega) hL, hll, Nat.mul_div_cancel _ (Nat.pow_pos (by omega))]
      by_cases h0 : a = 0
      · have hz : nw a = 0 := by rw [h0]; exact nw_zero
        have HS : Hid (sameB (nw a) a 0 a = true) := by show _ = _; rw [hz]; exact sameB_yes 0 a
        have hn0 : nw a ≤ 64 := hn1
        rw [hz] at hA HG H1 BA EI hn ⊢
        clear hz
        clear hll ht hu eu hp PU hp2 hpk h0 ha0
        obtain ⟨b0, bw⟩ := boxes1 w (.slice A 0 c)
        have XA := Box.mk b0 hA bw
        have WW := bw
        clear bw b0
        go_enter Try.func8, Try.ntmps8
        go_wp2_with fail
        generalize hV : (w.alloc (.cells #[.slice A 0 c] 24)) = V0 at XA WW ⊢
        clear hV
        have hc := awake_any V0
        refine hc.mono ?_
        clear hc
        rintro e V1 ⟨rfl, hb⟩
        replace XA := XA.below hb
        replace WW := WW.trans (hb.mono WW.size)
        have kXA := XA.cell
        have zXA := XA.lt
        clear hb
        go_wp2_with fail
        have hc := great_1 V1 A _ c hn
        rw [HG.out] at hc
        refine hc.mono ?_
        clear hc
        rintro e V2 ⟨rfl, hb⟩
        clear kXA zXA
        replace XA := XA.below hb
        replace WW := WW.trans (hb.mono WW.size)
        have kXA := XA.cell
        have zXA := XA.lt
        clear hb
        go_wp2_with fail
        have hc := rvalid_any A _ c a _ V2 XA.num (Nat.le_refl _) hn
        rw [H1.out] at hc
        refine hc.mono ?_
        clear hc
        rintro e V3 ⟨rfl, hb⟩
        clear kXA zXA
        replace XA := XA.below hb
        replace WW := WW.trans (hb.mono WW.size)
        have kXA := XA.cell
        have zXA := XA.lt
        clear hb
        go_wp2_with fail
        have hc := of_any 1 V3 (by omega) (by omega)
        rw [LO.out] at hc
        refine hc.mono ?_
        clear hc
        rintro e V4 ⟨v, rfl, hv, hb⟩
        clear kXA zXA
        replace XA := XA.below hb
        replace WW := WW.trans (hb.mono WW.size)
        obtain ⟨D1, d1, rfl, hv'⟩ := hv.open_
        clear hv
        have kXA := XA.cell
        have zXA := XA.lt
        clear hb
        go_wp2_with fail
        obtain ⟨b0, bw⟩ := boxes1 V4 (.slice D1 (nw u) d1)
        clear kXA zXA
        replace XA := XA.below bw
        have X1 := Box.mk b0 hv' bw
        replace WW := WW.trans (bw.mono WW.size)
        clear bw b0 hv'
        generalize hV : (V4.alloc (.cells #[.slice D1 (nw u) d1] 24)) = V5 at XA X1 WW ⊢
        clear hV
        have kXA := XA.cell
        have zXA := XA.lt
        have kX1 := X1.cell
        have zX1 := X1.lt
        have hc := shift_any D1 _ d1 u (k : Int) V5 X1.num (by omega) (by omega) (by omega)
        rw [shiftV_yes OU.out] at hc
        rw [SP.out] at hc
        refine hc.mono ?_
        clear hc
        rintro e V6 ⟨v, rfl, hv, hb⟩
        clear kXA zXA kX1 zX1
        replace XA := XA.below hb
        replace X1 := X1.below hb
        replace WW := WW.trans (hb.mono WW.size)
        obtain ⟨D2, d2, rfl, hv'⟩ := hv.open_
        clear hv
        have kXA := XA.cell
        have zXA := XA.lt
        have kX1 := X1.cell
        have zX1 := X1.lt
        clear hb
        go_wp2_with fail
        obtain ⟨b0, bw⟩ := boxes1 V6 (.slice D2 (nw p) d2)
        clear kXA zXA kX1 zX1
        replace XA := XA.below bw
        replace X1 := X1.below bw
        have X2 := Box.mk b0 hv' bw
        replace WW := WW.trans (bw.mono WW.size)
        clear bw b0 hv'
        generalize hV : (V6.alloc (.cells #[.slice D2 (nw p) d2] 24)) = V7 at XA X1 X2 WW ⊢
        clear hV
        have kXA := XA.cell
        have zXA := XA.lt
        have kX1 := X1.cell
        have zX1 := X1.lt
        have kX2 := X2.cell
        have zX2 := X2.lt
        have hc := shift_any A _ c a (k : Int) V7 XA.num (by omega) (by omega) (by omega)
        rw [shiftV_yes H1.out] at hc
        rw [SL.out] at hc
        refine hc.mono ?_
        clear hc
        rintro e V8 ⟨v, rfl, hv, hb⟩
        clear kXA zXA kX1 zX1 kX2 zX2
        replace XA := XA.below hb
        replace X1 := X1.below hb
        replace X2 := X2.below hb
        replace WW := WW.trans (hb.mono WW.size)
        obtain ⟨D3, d3, rfl, hv'⟩ := hv.open_
        clear hv
        have kXA := XA.cell
        have zXA := XA.lt
        have kX1 := X1.cell
        have zX1 := X1.lt
        have kX2 := X2.cell
        have zX2 := X2.lt
        clear hb
        go_wp2_with fail
        obtain ⟨b0, bw⟩ := boxes1 V8 (.slice D3 (nw ll) d3)
        clear kXA zXA kX1 zX1 kX2 zX2
        replace XA := XA.below bw
        replace X1 := X1.below bw
        replace X2 := X2.below bw
        have X3 := Box.mk b0 hv' bw
        replace WW := WW.trans (bw.mono WW.size)
        clear bw b0 hv'
        generalize hV : (V8.alloc (.cells #[.slice D3 (nw ll) d3] 24)) = V9 at XA X1 X2 X3 WW ⊢
        clear hV
        have kXA := XA.cell
        have zXA := XA.lt
        have kX1 := X1.cell
        have zX1 := X1.lt
        have kX2 := X2.cell
        have zX2 := X2.lt
        have kX3 := X3.cell
        have zX3 := X3.lt
        have hc := shift_any D3 _ d3 ll (-(k : Int)) V9 X3.num (by omega) (by omega) (by omega)
        rw [shiftV_yes OL.out] at hc
        rw [SB.out] at hc
        refine hc.mono ?_
        clear hc
        rintro e V10 ⟨v, rfl, hv, hb⟩
        clear kXA zXA kX1 zX1 kX2 zX2 kX3 zX3
        replace XA := XA.below hb
        replace X1 := X1.below hb
        replace X2 := X2.below hb
        replace X3 := X3.below hb
        replace WW := WW.trans (hb.mono WW.size)
        obtain ⟨D4, d4, rfl, hv'⟩ := hv.open_
        clear hv
        have kXA := XA.cell
        have zXA := XA.lt
        have kX1 := X1.cell
        have zX1 := X1.lt
        have kX2 := X2.cell
        have zX2 := X2.lt
        have kX3 := X3.cell
        have zX3 := X3.lt
        clear hb
        go_wp2_with fail
        obtain ⟨b0, bw⟩ := boxes1 V10 (.slice D4 (nw a) d4)
        clear kXA zXA kX1 zX1 kX2 zX2 kX3 zX3
        replace XA := XA.below bw
        replace X1 := X1.below bw
        replace X2 := X2.below bw
        replace X3 := X3.below bw
        have X4 := Box.mk b0 hv' bw
        replace WW := WW.trans (bw.mono WW.size)
        clear bw b0 hv'
        generalize hV : (V10.alloc (.cells #[.slice D4 (nw a) d4] 24)) = V11 at XA X1 X2 X3 X4 WW ⊢
        clear hV
        have kXA := XA.cell
        have zXA := XA.lt
        have kX1 := X1.cell
        have zX1 := X1.lt
        have kX2 := X2.cell
        have zX2 := X2.lt
        have kX3 := X3.cell
        have zX3 := X3.lt
        have kX4 := X4.cell
        have zX4 := X4.lt
        clear X1 X3 kX1 zX1 kX3 zX3
        have WDr := hid WW.drew
        have HX4_0 := hid X4.drew
        have HXA_0 := hid XA.drew
        have HX2_0 := hid X2.drew
        clear zX4 zXA zX2 kX2
        clear WW X4 XA X2
        apply wp_land (R := fun w1 => Box w1 (V10.heap.size) D4 (nw a) d4 a ∧ Box w1 (w.heap.size) A 0 c a ∧ Box w1 (V6.heap.size) D2 (nw p) d2 p ∧ Below w.heap.size w w1)
        case hreg =>
          first
          | (go_region_held3 (fun w' => w'.cell? ⟨V10.heap.size, 0, none⟩ = some ((.slice D4 (nw a) d4)) ∧ w'.cell? ⟨w.heap.size, 0, none⟩ = some ((.slice A 0 c))) (first | exact ⟨kX4, kXA⟩ | exact ⟨qX4_1, qXA_1⟩)
            (first
            | (go_at_call 33; (with_reducible refine (same_any D4 A _ _ d4 c a a _ HX4_0.out.num HXA_0.out.num (by omega) hn).mono ?_); rintro e w11_1 ⟨rfl, hb⟩; rw [HS.out]; have HX4_1 := hid (HX4_0.out.below hb); have HXA_1 := hid (HXA_0.out.below hb); have HX2_1 := hid (HX2_0.out.below hb); have qX4_1 := HX4_1.out.cell; have qXA_1 := HXA_1.out.cell; have WD_1 := hid (WDr.out.trans (hb.mono WDr.out.size)); clear hb)))
          | fail
          all_goals exact ⟨rfl, rfl, HX4_1.out, HXA_1.out, HX2_1.out, WD_1.out⟩
        rintro V12 ⟨X4, XA, X2, WW⟩
        clear kX4 kXA HX4_0 HXA_0 HX2_0 WDr
        have kX4 := X4.cell
        have zX4 := X4.lt
        have kXA := XA.cell
        have zXA := XA.lt
        have kX2 := X2.cell
        have zX2 := X2.lt
        go_wp2_with fail
        have hc := shift_any A _ c a (-(k : Int)) V12 XA.num (by omega) (by omega) (by omega)
        rw [shiftV_yes H1.out] at hc
        rw [SR.out] at hc
        refine hc.mono ?_
        clear hc
        rintro e V13 ⟨v, rfl, hv, hb⟩
        clear kX4 zX4 kXA zXA kX2 zX2
        replace X4 := X4.below hb
        replace XA := XA.below hb
        replace X2 := X2.below hb
        replace WW := WW.trans (hb.mono WW.size)
        obtain ⟨D5, d5, rfl, hv'⟩ := hv.open_
        clear hv
        have kX4 := X4.cell
        have zX4 := X4.lt
        have kXA := XA.cell
        have zXA := XA.lt
        have kX2 := X2.cell
        have zX2 := X2.lt
        clear hb
        go_wp2_with fail
        obtain ⟨b0, bw⟩ := boxes1 V13 (.slice D5 (nw t) d5)
        clear kX4 zX4 kXA zXA kX2 zX2
        replace X4 := X4.below bw
        replace XA := XA.below bw
        replace X2 := X2.below bw
        have X5 := Box.mk b0 hv' bw
        replace WW := WW.trans (bw.mono WW.size)
        clear bw b0 hv'
        generalize hV : (V13.alloc (.cells #[.slice D5 (nw t) d5] 24)) = V14 at X4 XA X2 X5 WW ⊢
        clear hV
        have kX4 := X4.cell
        have zX4 := X4.lt
        have kXA := XA.cell
        have zXA := XA.lt
        have kX2 := X2.cell
        have zX2 := X2.lt
        have kX5 := X5.cell
        have zX5 := X5.lt
        clear X4 kX4 zX4
        have WDr := hid WW.drew
        have HX5_0 := hid X5.drew
        have HXA_0 := hid XA.drew
        have HX2_0 := hid X2.drew
        clear zX5 zXA zX2 kX2
        clear WW X5 XA X2
        go_region_held3 (fun w' => w'.cell? ⟨V13.heap.size, 0, none⟩ = some ((.slice D5 (nw t) d5)) ∧ w'.cell? ⟨w.heap.size, 0, none⟩ = some ((.slice A 0 c))) (first | exact ⟨kX5, kXA⟩ | exact ⟨qX5_1, qXA_1⟩ | exact ⟨qX5_2, qXA_2⟩ | exact ⟨qX5_3, qXA_3⟩ | exact ⟨qX5_4, qXA_4⟩)
          (first
          | (go_at_call 19; (with_reducible refine (bits_any D5 _ d5 t _ HX5_0.out.num (by omega)).mono ?_); rintro e w14_1 ⟨rfl, hb⟩; rw [bitsS_yes OT.out]; rw [BT.out]; have HX5_1 := hid (HX5_0.out.below hb); have HXA_1 := hid (HXA_0.out.below hb); have HX2_1 := hid (HX2_0.out.below hb); have qX5_1 := HX5_1.out.cell; have qXA_1 := HXA_1.out.cell; have WD_1 := hid (WDr.out.trans (hb.mono WDr.out.size)); clear hb)
          | (go_at_call 19; (with_reducible refine (bits_any A _ c a _ HXA_1.out.num (by omega)).mono ?_); rintro e w14_2 ⟨rfl, hb⟩; rw [BA.out]; have HX5_2 := hid (HX5_1.out.below hb); have HXA_2 := hid (HXA_1.out.below hb); have HX2_2 := hid (HX2_1.out.below hb); have qX5_2 := HX5_2.out.cell; have qXA_2 := HXA_2.out.cell; have WD_2 := hid (WD_1.out.trans (hb.mono WD_1.out.size)); clear hb)
          | (go_at_call 20; (try simp only [y5, y3]); (with_reducible refine (bit_any D5 _ d5 t (i : Int) _ HX5_2.out.num (by omega) (by omega) (by omega)).mono ?_); rintro e w14_3 ⟨rfl, hb⟩; rw [bitS_yes OT.out]; rw [BI.out]; have HX5_3 := hid (HX5_2.out.below hb); have HXA_3 := hid (HXA_2.out.below hb); have HX2_3 := hid (HX2_2.out.below hb); have qX5_3 := HX5_3.out.cell; have qXA_3 := HXA_3.out.cell; have WD_3 := hid (WD_2.out.trans (hb.mono WD_2.out.size)); clear hb)
          | (go_at_call 20; (try simp only [y5, y3]); (with_reducible refine (bit_any A _ c a ((i : Int) + (k : Int)) _ HXA_3.out.num (by omega) (by omega) (by omega)).mono ?_); rintro e w14_4 ⟨rfl, hb⟩; rw [EI.out]; have HX5_4 := hid (HX5_3.out.below hb); have HXA_4 := hid (HXA_3.out.below hb); have HX2_4 := hid (HX2_3.out.below hb); have qX5_4 := HX5_4.out.cell; have qXA_4 := HXA_4.out.cell; have WD_4 := hid (WD_3.out.trans (hb.mono WD_3.out.size)); clear hb))
        clear kX5 kXA qX5_1 qXA_1 qX5_2 qXA_2 qX5_3 qXA_3 qX5_4 qXA_4
        have X5 := HX5_4.out
        have XA := HXA_4.out
        have X2 := HX2_4.out
        have WW := WD_4.out
        clear HX5_0 HXA_0 HX2_0 HX5_1 HXA_1 HX2_1 HX5_2 HXA_2 HX2_2 HX5_3 HXA_3 HX2_3 HX5_4 HXA_4 HX2_4 WDr WD_1 WD_2 WD_3 WD_4
        have kX5 := X5.cell
        have zX5 := X5.lt
        have kXA := XA.cell
        have zXA := XA.lt
        have kX2 := X2.cell
        have zX2 := X2.lt
        go_wp2_with fail
        have hc := div_any A D2 _ _ c d2 a p w14_4 XA.num X2.num hn (by omega)
        rw [bothD_yes H1.out OP.out] at hc
        rw [HD.out] at hc
        refine hc.mono ?_
        clear hc
        rintro e V15 ⟨v, u', rfl, hv, hu, hb⟩
        clear kX5 zX5 kXA zXA kX2 zX2
        replace X5 := X5.below hb
        replace XA := XA.below hb
        replace X2 := X2.below hb
        replace WW := WW.trans (hb.mono WW.size)
        obtain ⟨D6, d6, rfl, hv'⟩ := hv.open_
        obtain ⟨D7, d7, rfl, hu'⟩ := hu.open_
        clear hv hu
        have kX5 := X5.cell
        have zX5 := X5.lt
        have kXA := XA.cell
        have zXA := XA.lt
        have kX2 := X2.cell
        have zX2 := X2.lt
        clear hb
        go_wp2_with fail
        obtain ⟨b0, b1, bw⟩ := boxes2 V15 (.slice D6 (nw t) d6) (.slice D7 (nw r) d7)
        clear kX5 zX5 kXA zXA kX2 zX2
        replace X5 := X5.below bw
        replace XA := XA.below bw
        replace X2 := X2.below bw
        have X6 := Box.mk b0 hv' bw
        have X7 := Box.mk b1 hu' bw
        replace WW := WW.trans (bw.mono WW.size)
        clear bw b0 b1 hv' hu'
        generalize hV : ((V15.alloc (.cells #[.slice D6 (nw t) d6] 24)).alloc (.cells #[.slice D7 (nw r) d7] 24)) = V16 at X5 XA X2 X6 X7 WW ⊢
        clear hV
        have kX5 := X5.cell
        have zX5 := X5.lt
        have kXA := XA.cell
        have zXA := XA.lt
        have kX2 := X2.cell
        have zX2 := X2.lt
        have kX6 := X6.cell
        have zX6 := X6.lt
        have kX7 := X7.cell
        have zX7 := X7.lt
        have hc := same_any D6 D5 _ _ d6 d5 t t V16 X6.num X5.num (by omega) (by omega)
        rw [sameB_yes] at hc
        refine hc.mono ?_
        clear hc
        rintro e V17 ⟨rfl, hb⟩
        clear kX5 zX5 kXA zXA kX2 zX2 kX6 zX6 kX7 zX7
        replace X5 := X5.below hb
        replace XA := XA.below hb
        replace X2 := X2.below hb
        replace X6 := X6.below hb
        replace X7 := X7.below hb
        replace WW := WW.trans (hb.mono WW.size)
        have kX5 := X5.cell
        have zX5 := X5.lt
        have kXA := XA.cell
        have zXA := XA.lt
        have kX2 := X2.cell
        have zX2 := X2.lt
        have kX6 := X6.cell
        have zX6 := X6.lt
        have kX7 := X7.cell
        have zX7 := X7.lt
        clear hb
        go_wp2_with fail
        go_ret
        exact ⟨rfl, WW⟩
      · have BLL : Hid (((bl ll : Nat) : Int) = (bl a : Int) + (k : Int)) := by show _ = _; rw [hll, bl_mul a k h0]; omega
        have hz := nw_pos h0
        clear hll ht hu eu hp PU hp2 hpk
        exact absurd ha0 h0
    · exact absurd (by rw [ha0, Nat.zero_mul, nw_zero]; omega) hL
  · have SP : Hid (shiftS u (k : Int) = (0, 9)) := by show _ = _; rw [shiftS_nat (by omega), ← hp, eu, if_neg (fun h => hkl (hpk.1 h))]
    have hkd : decide ((k : Int) < 2048) = false := by simp; omega
    have hz0 : nw 0 ≤ 64 := by simp [nw_zero]
    have ht0 : t = 0 := by
      rw [ht]
      refine Nat.div_eq_of_lt (Nat.lt_of_lt_of_le (lt_bl a) (Nat.pow_le_pow_right (by omega) (by omega)))
    have zt : (((nw t : Nat) : Int) == 0) = true := by rw [ht0, nw_zero]; rfl
    clear ht0
    by_cases hL : nw (a * 2 ^ k) ≤ 64
    · have h0 : a = 0 := by
        by_cases h0 : a = 0
        · exact h0
        · have := bl_mul a k h0; have h5 := (bl_nw (a := a * 2 ^ k)).1 hL; have := bl_pos h0; omega
      obtain ⟨ll, hll⟩ : ∃ ll, ll = a * 2 ^ k := ⟨_, rfl⟩
      have SL : Hid (shiftS a (k : Int) = (ll, 0)) := by show _ = _; rw [shiftS_nat (by omega), if_pos hL, hll]
      rw [← hll] at hL
      have OL := hid (okB_nw hL)
      have SB : Hid (shiftS ll (-(k : Int)) = (a, 0)) := by show _ = _; rw [shiftS_neg (by omega) hL, hll, Nat.mul_div_cancel _ (Nat.pow_pos (by omega))]
      have hz : nw a = 0 := by rw [h0]; exact nw_zero
      have HS : Hid (sameB (nw a) a 0 a = true) := by show _ = _; rw [hz]; exact sameB_yes 0 a
      have hn0 : nw a ≤ 64 := hn1
      rw [hz] at hA HG H1 BA EI hn ⊢
      clear hz
      clear hll ht hu eu hp PU hp2 hpk h0 ha0
      obtain ⟨b0, bw⟩ := boxes1 w (.slice A 0 c)
      have XA := Box.mk b0 hA bw
      have WW := bw
      clear bw b0
      go_enter Try.func8, Try.ntmps8
      go_wp2_with fail
      generalize hV : (w.alloc (.cells #[.slice A 0 c] 24)) = V0 at XA WW ⊢
      clear hV
      have hc := awake_any V0
      refine hc.mono ?_
      clear hc
      rintro e V1 ⟨rfl, hb⟩
      replace XA := XA.below hb
      replace WW := WW.trans (hb.mono WW.size)
      have kXA := XA.cell
      have zXA := XA.lt
      clear hb
      go_wp2_with fail
      have hc := great_1 V1 A _ c hn
      rw [HG.out] at hc
      refine hc.mono ?_
      clear hc
      rintro e V2 ⟨rfl, hb⟩
      clear kXA zXA
      replace XA := XA.below hb
      replace WW := WW.trans (hb.mono WW.size)
      have kXA := XA.cell
      have zXA := XA.lt
      clear hb
      go_wp2_with fail
      have hc := rvalid_any A _ c a _ V2 XA.num (Nat.le_refl _) hn
      rw [H1.out] at hc
      refine hc.mono ?_
      clear hc
      rintro e V3 ⟨rfl, hb⟩
      clear kXA zXA
      replace XA := XA.below hb
      replace WW := WW.trans (hb.mono WW.size)
      have kXA := XA.cell
      have zXA := XA.lt
      clear hb
      go_wp2_with fail
      have hc := of_any 1 V3 (by omega) (by omega)
      rw [LO.out] at hc
      refine hc.mono ?_
      clear hc
      rintro e V4 ⟨v, rfl, hv, hb⟩
      clear kXA zXA
      replace XA := XA.below hb
      replace WW := WW.trans (hb.mono WW.size)
      obtain ⟨D1, d1, rfl, hv'⟩ := hv.open_
      clear hv
      have kXA := XA.cell
      have zXA := XA.lt
      clear hb
      go_wp2_with fail
      obtain ⟨b0, bw⟩ := boxes1 V4 (.slice D1 (nw u) d1)
      clear kXA zXA
      replace XA := XA.below bw
      have X1 := Box.mk b0 hv' bw
      replace WW := WW.trans (bw.mono WW.size)
      clear bw b0 hv'
      generalize hV : (V4.alloc (.cells #[.slice D1 (nw u) d1] 24)) = V5 at XA X1 WW ⊢
      clear hV
      have kXA := XA.cell
      have zXA := XA.lt
      have kX1 := X1.cell
      have zX1 := X1.lt
      have hc := shift_any D1 _ d1 u (k : Int) V5 X1.num (by omega) (by omega) (by omega)
      rw [shiftV_yes OU.out] at hc
      rw [SP.out] at hc
      refine hc.mono ?_
      clear hc
      rintro e V6 ⟨v, rfl, hv, hb⟩
      clear kXA zXA kX1 zX1
      replace XA := XA.below hb
      replace X1 := X1.below hb
      replace WW := WW.trans (hb.mono WW.size)
      obtain ⟨D2, d2, rfl, hv'⟩ := hv.open_
      clear hv
      have kXA := XA.cell
      have zXA := XA.lt
      have kX1 := X1.cell
      have zX1 := X1.lt
      clear hb
      go_wp2_with fail
      obtain ⟨b0, bw⟩ := boxes1 V6 (.slice D2 (nw 0) d2)
      clear kXA zXA kX1 zX1
      replace XA := XA.below bw
      replace X1 := X1.below bw
      have X2 := Box.mk b0 hv' bw
      replace WW := WW.trans (bw.mono WW.size)
      clear bw b0 hv'
      generalize hV : (V6.alloc (.cells #[.slice D2 (nw 0) d2] 24)) = V7 at XA X1 X2 WW ⊢
      clear hV
      have kXA := XA.cell
      have zXA := XA.lt
      have kX1 := X1.cell
      have zX1 := X1.lt
      have kX2 := X2.cell
      have zX2 := X2.lt
      have hc := shift_any A _ c a (k : Int) V7 XA.num (by omega) (by omega) (by omega)
      rw [shiftV_yes H1.out] at hc
      rw [SL.out] at hc
      refine hc.mono ?_
      clear hc
      rintro e V8 ⟨v, rfl, hv, hb⟩
      clear kXA zXA kX1 zX1 kX2 zX2
      replace XA := XA.below hb
      replace X1 := X1.below hb
      replace X2 := X2.below hb
      replace WW := WW.trans (hb.mono WW.size)
      obtain ⟨D3, d3, rfl, hv'⟩ := hv.open_
      clear hv
      have kXA := XA.cell
      have zXA := XA.lt
      have kX1 := X1.cell
      have zX1 := X1.lt
      have kX2 := X2.cell
      have zX2 := X2.lt
      clear hb
      go_wp2_with fail
      obtain ⟨b0, bw⟩ := boxes1 V8 (.slice D3 (nw ll) d3)
      clear kXA zXA kX1 zX1 kX2 zX2
      replace XA := XA.below bw
      replace X1 := X1.below bw
      replace X2 := X2.below bw
      have X3 := Box.mk b0 hv' bw
      replace WW := WW.trans (bw.mono WW.size)
      clear bw b0 hv'
      generalize hV : (V8.alloc (.cells #[.slice D3 (nw ll) d3] 24)) = V9 at XA X1 X2 X3 WW ⊢
      clear hV
      have kXA := XA.cell
      have zXA := XA.lt
      have kX1 := X1.cell
      have zX1 := X1.lt
      have kX2 := X2.cell
      have zX2 := X2.lt
      have kX3 := X3.cell
      have zX3 := X3.lt
      have hc := shift_any D3 _ d3 ll (-(k : Int)) V9 X3.num (by omega) (by omega) (by omega)
      rw [shiftV_yes OL.out] at hc
      rw [SB.out] at hc
      refine hc.mono ?_
      clear hc
      rintro e V10 ⟨v, rfl, hv, hb⟩
      clear kXA zXA kX1 zX1 kX2 zX2 kX3 zX3
      replace XA := XA.below hb
      replace X1 := X1.below hb
      replace X2 := X2.below hb
      replace X3 := X3.below hb
      replace WW := WW.trans (hb.mono WW.size)
      obtain ⟨D4, d4, rfl, hv'⟩ := hv.open_
      clear hv
      have kXA := XA.cell
      have zXA := XA.lt
      have kX1 := X1.cell
      have zX1 := X1.lt
      have kX2 := X2.cell
      have zX2 := X2.lt
      have kX3 := X3.cell
      have zX3 := X3.lt
      clear hb
      go_wp2_with fail
      obtain ⟨b0, bw⟩ := boxes1 V10 (.slice D4 (nw a) d4)
      clear kXA zXA kX1 zX1 kX2 zX2 kX3 zX3
      replace XA := XA.below bw
      replace X1 := X1.below bw
      replace X2 := X2.below bw
      replace X3 := X3.below bw
      have X4 := Box.mk b0 hv' bw
      replace WW := WW.trans (bw.mono WW.size)
      clear bw b0 hv'
      generalize hV : (V10.alloc (.cells #[.slice D4 (nw a) d4] 24)) = V11 at XA X1 X2 X3 X4 WW ⊢
      clear hV
      have kXA := XA.cell
      have zXA := XA.lt
      have kX1 := X1.cell
      have zX1 := X1.lt
      have kX2 := X2.cell
      have zX2 := X2.lt
      have kX3 := X3.cell
      have zX3 := X3.lt
      have kX4 := X4.cell
      have zX4 := X4.lt
      clear X1 X3 kX1 zX1 kX3 zX3
      have WDr := hid WW.drew
      have HX4_0 := hid X4.drew
      have HXA_0 := hid XA.drew
      have HX2_0 := hid X2.drew
      clear zX4 zXA zX2 kX2
      clear WW X4 XA X2
      apply wp_land (R := fun w1 => Box w1 (V10.heap.size) D4 (nw a) d4 a ∧ Box w1 (w.heap.size) A 0 c a ∧ Box w1 (V6.heap.size) D2 (nw 0) d2 0 ∧ Below w.heap.size w w1)
      case hreg =>
        first
        | (go_region_held3 (fun w' => w'.cell? ⟨V10.heap.size, 0, none⟩ = some ((.slice D4 (nw a) d4)) ∧ w'.cell? ⟨w.heap.size, 0, none⟩ = some ((.slice A 0 c))) (first | exact ⟨kX4, kXA⟩ | exact ⟨qX4_1, qXA_1⟩)
          (first
          | (go_at_call 33; (with_reducible refine (same_any D4 A _ _ d4 c a a _ HX4_0.out.num HXA_0.out.num (by omega) hn).mono ?_); rintro e w11_1 ⟨rfl, hb⟩; rw [HS.out]; have HX4_1 := hid (HX4_0.out.below hb); have HXA_1 := hid (HXA_0.out.below hb); have HX2_1 := hid (HX2_0.out.below hb); have qX4_1 := HX4_1.out.cell; have qXA_1 := HXA_1.out.cell; have WD_1 := hid (WDr.out.trans (hb.mono WDr.out.size)); clear hb)))
        | fail
        all_goals exact ⟨rfl, rfl, HX4_1.out, HXA_1.out, HX2_1.out, WD_1.out⟩
      rintro V12 ⟨X4, XA, X2, WW⟩
      clear kX4 kXA HX4_0 HXA_0 HX2_0 WDr
      have kX4 := X4.cell
      have zX4 := X4.lt
      have kXA := XA.cell
      have zXA := XA.lt
      have kX2 := X2.cell
      have zX2 := X2.lt
      go_wp2_with fail
      have hc := shift_any A _ c a (-(k : Int)) V12 XA.num (by omega) (by omega) (by omega)
      rw [shiftV_yes H1.out] at hc
      rw [SR.out] at hc
      refine hc.mono ?_
      clear hc
      rintro e V13 ⟨v, rfl, hv, hb⟩
      clear kX4 zX4 kXA zXA kX2 zX2
      replace X4 := X4.below hb
      replace XA := XA.below hb
      replace X2 := X2.below hb
      replace WW := WW.trans (hb.mono WW.size)
      obtain ⟨D5, d5, rfl, hv'⟩ := hv.open_
      clear hv
      have kX4 := X4.cell
      have zX4 := X4.lt
      have kXA := XA.cell
      have zXA := XA.lt
      have kX2 := X2.cell
      have zX2 := X2.lt
      clear hb
      go_wp2_with fail
      obtain ⟨b0, bw⟩ := boxes1 V13 (.slice D5 (nw t) d5)
      clear kX4 zX4 kXA zXA kX2 zX2
      replace X4 := X4.below bw
      replace XA := XA.below bw
      replace X2 := X2.below bw
      have X5 := Box.mk b0 hv' bw
      replace WW := WW.trans (bw.mono WW.size)
      clear bw b0 hv'
      generalize hV : (V13.alloc (.cells #[.slice D5 (nw t) d5] 24)) = V14 at X4 XA X2 X5 WW ⊢
      clear hV
      have kX4 := X4.cell
      have zX4 := X4.lt
      have kXA := XA.cell
      have zXA := XA.lt
      have kX2 := X2.cell
      have zX2 := X2.lt
      have kX5 := X5.cell
      have zX5 := X5.lt
      clear X4 X2 kX4 zX4 kX2 zX2
      have WDr := hid WW.drew
      have HX5_0 := hid X5.drew
      have HXA_0 := hid XA.drew
      clear zX5 zXA
      clear WW X5 XA
      go_region_held3 (fun w' => w'.cell? ⟨V13.heap.size, 0, none⟩ = some ((.slice D5 (nw t) d5)) ∧ w'.cell? ⟨w.heap.size, 0, none⟩ = some ((.slice A 0 c))) (first | exact ⟨kX5, kXA⟩ | exact ⟨qX5_1, qXA_1⟩ | exact ⟨qX5_2, qXA_2⟩ | exact ⟨qX5_3, qXA_3⟩ | exact ⟨qX5_4, qXA_4⟩)
        (first
        | (go_at_call 19; (with_reducible refine (bits_any D5 _ d5 t _ HX5_0.out.num (by omega)).mono ?_); rintro e w14_1 ⟨rfl, hb⟩; rw [bitsS_yes OT.out]; rw [BT.out]; have HX5_1 := hid (HX5_0.out.below hb); have HXA_1 := hid (HXA_0.out.below hb); have qX5_1 := HX5_1.out.cell; have qXA_1 := HXA_1.out.cell; have WD_1 := hid (WDr.out.trans (hb.mono WDr.out.size)); clear hb)
        | (go_at_call 19; (with_reducible refine (bits_any A _ c a _ HXA_1.out.num (by omega)).mono ?_); rintro e w14_2 ⟨rfl, hb⟩; rw [BA.out]; have HX5_2 := hid (HX5_1.out.below hb); have HXA_2 := hid (HXA_1.out.below hb); have qX5_2 := HX5_2.out.cell; have qXA_2 := HXA_2.out.cell; have WD_2 := hid (WD_1.out.trans (hb.mono WD_1.out.size)); clear hb)
        | (go_at_call 20; (try simp only [y5, y3]); (with_reducible refine (bit_any D5 _ d5 t (i : Int) _ HX5_2.out.num (by omega) (by omega) (by omega)).mono ?_); rintro e w14_3 ⟨rfl, hb⟩; rw [bitS_yes OT.out]; rw [BI.out]; have HX5_3 := hid (HX5_2.out.below hb); have HXA_3 := hid (HXA_2.out.below hb); have qX5_3 := HX5_3.out.cell; have qXA_3 := HXA_3.out.cell; have WD_3 := hid (WD_2.out.trans (hb.mono WD_2.out.size)); clear hb)
        | (go_at_call 20; (try simp only [y5, y3]); (with_reducible refine (bit_any A _ c a ((i : Int) + (k : Int)) _ HXA_3.out.num (by omega) (by omega) (by omega)).mono ?_); rintro e w14_4 ⟨rfl, hb⟩; rw [EI.out]; have HX5_4 := hid (HX5_3.out.below hb); have HXA_4 := hid (HXA_3.out.below hb); have qX5_4 := HX5_4.out.cell; have qXA_4 := HXA_4.out.cell; have WD_4 := hid (WD_3.out.trans (hb.mono WD_3.out.size)); clear hb))
      clear kX5 kXA qX5_1 qXA_1 qX5_2 qXA_2 qX5_3 qXA_3 qX5_4 qXA_4
      have X5 := HX5_4.out
      have XA := HXA_4.out
      have WW := WD_4.out
      clear HX5_0 HXA_0 HX5_1 HXA_1 HX5_2 HXA_2 HX5_3 HXA_3 HX5_4 HXA_4 WDr WD_1 WD_2 WD_3 WD_4
      have kX5 := X5.cell
      have zX5 := X5.lt
      have kXA := XA.cell
      have zXA := XA.lt
      go_wp2_with fail
      go_ret
      exact ⟨rfl, WW⟩
    · exact absurd (by rw [ha0, Nat.zero_mul, nw_zero]; omega) hL

end Go.Proofs.Ytlhfaaghfhiaoaa
