/- The reference: Shift. -/
import Derived.Test.YtlhfaaghfhiaoaaRef7
set_option linter.unusedVariables false
set_option linter.unusedSimpArgs false
namespace Go.Proofs.Ytlhfaaghfhiaoaa
open Go.RowKit

theorem bitN_shN (a i : Nat) (x : Int) : rbitS a ((i : Int) - x) = bitN (shN a x) i := by
  unfold rbitS
  by_cases hx : 0 ≤ x
  · obtain ⟨y, rfl⟩ := Int.eq_ofNat_of_zero_le hx
    rw [shN_nat]
    by_cases h : i < y
    · rw [decide_eq_false (by omega), Bool.false_and]
      unfold bitN
      have e : a * 2 ^ y / 2 ^ i % 2 = 0 := by
        obtain ⟨z, rfl⟩ : ∃ z, y = i + (z + 1) := ⟨y - i - 1, by omega⟩
        rw [Nat.pow_add, Nat.mul_left_comm, Nat.mul_div_cancel_left _ (Nat.pow_pos (by omega)), Nat.pow_succ, ← Nat.mul_assoc, Nat.mul_mod_left]
      rw [e]; rfl
    · obtain ⟨z, rfl⟩ : ∃ z, i = z + y := ⟨i - y, by omega⟩
      rw [decide_eq_true (by omega), Bool.true_and, show ((((z + y : Nat)) : Int) - ((y : Nat) : Int)).toNat = z by omega]
      unfold bitN
      rw [Nat.pow_add, Nat.mul_div_mul_right _ _ (Nat.pow_pos (by omega))]
  · obtain ⟨y, hy⟩ := Int.eq_ofNat_of_zero_le (show 0 ≤ -x by omega)
    obtain rfl : x = -((y : Nat) : Int) := by omega
    rw [shN_neg, bitN_shift, decide_eq_true (by omega), Bool.true_and]
    congr 1
    omega
theorem mod_bit (y i : Nat) : y % 2 ^ (i + 1) = y % 2 ^ i + (if bitN y i = true then 2 ^ i else 0) := by
  rw [Nat.pow_succ, Nat.mod_mul]
  unfold bitN
  have h := Nat.mod_lt (y / 2 ^ i) (show 0 < 2 by omega)
  by_cases h1 : y / 2 ^ i % 2 = 1
  · rw [h1]; simp
  · rw [show y / 2 ^ i % 2 = 0 by omega]; simp
theorem room_low (y i : Nat) : dig (y % 2 ^ i) (i / 32) + 2 ^ (i % 32) < 4294967296 := by
  have h1 : dig (y % 2 ^ i) (i / 32) < 2 ^ (i % 32) := by
    refine Nat.lt_of_le_of_lt (Nat.mod_le _ _) ?_
    rw [Nat.div_lt_iff_lt_mul (pw_pos _), ← Nat.pow_add, show i % 32 + 32 * (i / 32) = i by omega]
    exact Nat.mod_lt _ (Nat.pow_pos (by omega))
  have h2 : 2 ^ (i % 32) ≤ 2 ^ 31 := Nat.pow_le_pow_right (by omega) (by have := Nat.mod_lt i (show 0 < 32 by omega); omega)
  rw [show 2 ^ 31 = 2147483648 from rfl] at h2
  omega
set_option maxHeartbeats 8000000 in
theorem rshift_any (A : Option Addr) (c a : Nat) (x : Int) (w : World) (hA : Num w w.heap.size A (nw a) a) (hn : nw a ≤ 64) (hx : ¬ (x < -10000 ∨ 10000 < x)) :
    Calls Try.prog 34 #[.agg #[.slice A (nw a) c], .int .i64 x] w (RetTwo w.heap.size (shiftS a x).1 (shiftS a x).2 w) := by
  obtain ⟨b0, b1, bw⟩ := boxes2 w (.slice A (nw a) c) (.slice none 0 0)
  have HXA := hid (Box.mk b0 hA bw)
  have HB2 := hid b1
  have HWW := hid bw
  have hbl : bl a ≤ 2048 := bl_nw.1 hn
  have x0 : -10000 ≤ x := by omega
  have x1 : x ≤ 10000 := by omega
  obtain ⟨sz, hsz⟩ : ∃ sz : Int, ((bl a : Nat) : Int) + x = sz := ⟨_, rfl⟩
  have z0 : IntKind.i64.wrap (((bl a : Nat) : Int) + x) = sz := by rw [IntWalk.i64_in _ (by omega)]; exact hsz
  have z1 : -10000 ≤ sz := by omega
  have z2 : sz ≤ 12048 := by omega
  obtain ⟨bb, hbb⟩ : ∃ bb : Int, ((bl a : Nat) : Int) = bb := ⟨_, rfl⟩
  have HBB := hid hbb
  rw [hbb] at z0
  clear b0 b1 bw hA
  have finish : ∀ (f : Int) V1, Below w.heap.size w V1 → Blk V1 (w.heap.size + 1) 24 #[.slice none 0 0] → RetTwo w.heap.size 0 f w (.returned (.tuple #[.agg #[.slice none 0 0], .int .i64 f])) (V1.setCell ⟨w.heap.size + 1, 0, none⟩ (.slice none 0 0)) :=
    fun f V1 h _ => ⟨_, rfl, NatV.nil _ _, h.setCell (by simp) _⟩
  have FIN := hid finish
  clear finish
  by_cases h0 : a = 0
  · rw [shiftS_none hx (.inl h0)]
    have l0 : (((nw a : Nat) : Int) == 0) = true := by rw [h0]; rfl
    clear h0 hx hsz hbb z1 z2
    go_enter Try.func34, Try.ntmps34
    go_wp2_with fail
    generalize hV : (w.alloc (.cells #[.slice A (nw a) c] 24)).alloc (.cells #[.slice none 0 0] 24) = V at HXA HB2 HWW ⊢
    clear hV
    have kA := HXA.out.cell
    have hc := rbits_any A _ c a V HXA.out.num (by omega)
    rw [HBB.out] at hc
    refine hc.mono ?_
    clear hc kA
    rintro e V1 ⟨rfl, hb⟩
    have HX1 := hid (HXA.out.below hb)
    have B1 := hid (HB2.out.below hb HB2.out.lt)
    have W1 := hid (HWW.out.trans (hb.mono HWW.out.size))
    have kA := HX1.out.cell
    have cB := B1.out.cell0
    have fB := B1.out.frozen 0
    clear hb
    go_wp2_with fail
    exact bodyPost_ret (v := .tuple #[.agg #[.slice none 0 0], .int .i64 0]) (by simp [results, Try.results34, go_sem, cB]) rfl (FIN.out 0 V1 W1.out B1.out)
  · have l0 : (((nw a : Nat) : Int) == 0) = false := by have := nw_pos h0; simp; omega
    by_cases h1 : sz ≤ 0
    · rw [shiftS_none hx (.inr (by omega))]
      have l1 : decide (sz ≤ 0) = true := by simpa using h1
      clear h0 hx hsz hbb z1 z2 h1
      go_enter Try.func34, Try.ntmps34
      go_wp2_with fail
      generalize hV : (w.alloc (.cells #[.slice A (nw a) c] 24)).alloc (.cells #[.slice none 0 0] 24) = V at HXA HB2 HWW ⊢
      clear hV
      have kA := HXA.out.cell
      have hc := rbits_any A _ c a V HXA.out.num (by omega)
      rw [HBB.out] at hc
      refine hc.mono ?_
      clear hc kA
      rintro e V1 ⟨rfl, hb⟩
      have HX1 := hid (HXA.out.below hb)
      have B1 := hid (HB2.out.below hb HB2.out.lt)
      have W1 := hid (HWW.out.trans (hb.mono HWW.out.size))
      have kA := HX1.out.cell
      have cB := B1.out.cell0
      have fB := B1.out.frozen 0
      clear hb
      go_wp2_with fail
      exact bodyPost_ret (v := .tuple #[.agg #[.slice none 0 0], .int .i64 0]) (by simp [results, Try.results34, go_sem, cB]) rfl (FIN.out 0 V1 W1.out B1.out)
    · have l1 : decide (sz ≤ 0) = false := by simpa using h1
      by_cases h2 : 2048 < sz
      · rw [shiftS_big hx h0 (by omega)]
        have l2 : decide (2048 < sz) = true := by simpa using h2
        clear h0 hx hsz hbb z1 z2 h1 h2
        go_enter Try.func34, Try.ntmps34
        go_wp2_with fail
        generalize hV : (w.alloc (.cells #[.slice A (nw a) c] 24)).alloc (.cells #[.slice none 0 0] 24) = V at HXA HB2 HWW ⊢
        clear hV
        have kA := HXA.out.cell
        have hc := rbits_any A _ c a V HXA.out.num (by omega)
        rw [HBB.out] at hc
        refine hc.mono ?_
        clear hc kA
        rintro e V1 ⟨rfl, hb⟩
        have HX1 := hid (HXA.out.below hb)
        have B1 := hid (HB2.out.below hb HB2.out.lt)
        have W1 := hid (HWW.out.trans (hb.mono HWW.out.size))
        have kA := HX1.out.cell
        have cB := B1.out.cell0
        have fB := B1.out.frozen 0
        clear hb
        go_wp2_with fail
        exact bodyPost_ret (v := .tuple #[.agg #[.slice none 0 0], .int .i64 9]) (by simp [results, Try.results34, go_sem, cB]) rfl (FIN.out 9 V1 W1.out B1.out)
      · obtain ⟨s, rfl⟩ := Int.eq_ofNat_of_zero_le (show 0 ≤ sz by omega)
        obtain ⟨y, hy⟩ : ∃ y, y = shN a x := ⟨_, rfl⟩
        have hys : bl y = s := by have := bl_shN a x h0; rw [hy]; omega
        rw [shiftS_ok hx h0 (by omega), ← hy]
        have HYB : Hid (y % 2 ^ s = y) := (show y % 2 ^ s = y by rw [← hys]; exact Nat.mod_eq_of_lt (lt_bl y))
        have HY : Hid (∀ i : Nat, rbitS a ((i : Int) - x) = bitN y i) := (show ∀ i : Nat, rbitS a ((i : Int) - x) = bitN y i from fun i => by rw [hy]; exact bitN_shN a i x)
        have l2 : decide (2048 < ((s : Nat) : Int)) = false := by simpa using h2
        have hs1 : s ≤ 2048 := by omega
        have hs0 : 0 < s := by omega
        have l1b : decide (s = 0) = false := by simp; omega
        have l1c : ¬ s = 0 := by omega
        obtain ⟨sd, hsd⟩ : ∃ sd : Nat, sd = s / 32 := ⟨_, rfl⟩
        obtain ⟨N, HN⟩ := named (sd + 1)
        have hN1 : N ≤ sd + 1 := by have := HN.out; omega
        have hN2 : sd + 1 ≤ N := by have := HN.out; omega
        have d1 : ((s : Nat) : Int) / 32 = (sd : Int) := by omega
        have d2 : Int.tdiv ((s : Nat) : Int) 32 = (sd : Int) := by rw [Int.tdiv_eq_ediv_of_nonneg (by omega)]; exact d1
        have d3 : IntKind.i64.wrap (sd : Int) = (sd : Int) := IntWalk.i64_in _ (by omega)
        have d4 : IntKind.i64.wrap ((sd : Int) + 1) = (sd : Int) + 1 := IntWalk.i64_in _ (by omega)
        have hmk : ∀ w, (Instr.makeSlice 22 (.int .i64 ((sd : Int) + 1)) (.int .i64 ((sd : Int) + 1))).run Try.prog w = .ok (.slice (some ⟨w.heap.size, 0, none⟩) N N) (w.alloc (.cells (words N 0) 62)) := by
          have e : (sd : Int) + 1 = (N : Int) := by have := HN.out; omega
          rw [e]
          exact make_words N (by omega)
        have hsd2 : s < 32 * N := by omega
        have hN3 : N ≤ 100 := by omega
        clear h0 hx hsz hbb z1 z2 h1 h2 hy hys hsd
        go_enter Try.func34, Try.ntmps34
        go_wp2_with fail
        generalize hV : (w.alloc (.cells #[.slice A (nw a) c] 24)).alloc (.cells #[.slice none 0 0] 24) = V at HXA HB2 HWW ⊢
        clear hV
        have kA := HXA.out.cell
        have hc := rbits_any A _ c a V HXA.out.num (by omega)
        rw [HBB.out] at hc
        refine hc.mono ?_
        clear hc kA
        rintro e V1 ⟨rfl, hb⟩
        have HX1 := hid (HXA.out.below hb)
        have B1 := hid (HB2.out.below hb HB2.out.lt)
        have W1 := hid (HWW.out.trans (hb.mono HWW.out.size))
        have kA := HX1.out.cell
        have zA := HX1.out.lt
        clear hb
        go_wp2_with fail
        have HR0 := hid (Row.new V1 N)
        have HB0 := hid ((Below.refl V1.heap.size V1).alloc (Nat.le_refl _) (.cells (words N 0) 62))
        generalize hV2 : V1.alloc (.cells (words N 0) 62) = V2 at HR0 HB0 ⊢
        clear hV2 hmk kA zA d1 d2 d3 d4
        go_loopw [8] (fun i wr => ∃ k : Nat, k ≤ s ∧ i = .int .i64 k ∧ Row wr V1.heap.size N (y % 2 ^ k) ∧ Below V1.heap.size V1 wr) (fun i _ => s - (intOf i).toNat)
        case atStart => exact ⟨0, by omega, rfl, by rw [Nat.pow_zero, Nat.mod_one]; exact HR0.out, HB0.out⟩
        case round =>
          obtain ⟨i, hi, rfl, hR, hW⟩ := hrel
          have HR := hid hR
          have HW := hid hW
          have HXi := hid (HX1.out.below hW)
          have kA := HXi.out.cell
          clear hR hW HR0 HB0
          by_cases hlt : i < s
          · have l5 : ((i : Nat) : Int) < ((s : Nat) : Int) := by omega
            have u1 : IntKind.i64.wrap ((i : Int) - x) = (i : Int) - x := IntWalk.i64_in _ (by omega)
            have j1 : IntKind.i64.wrap ((i : Int) + 1) = ((i + 1 : Nat) : Int) := by rw [IntWalk.i64_in _ (by omega)]; omega
            have hc := rbit_any A _ c a ((i : Int) - x) wr HXi.out.num (by omega) (by omega) (by omega)
            rw [HY.out] at hc
            have HMB := hid (mod_bit y i)
            cases hbit : bitN y i
            · rw [hbit] at hc HMB
              have HC := hid hc
              clear hc hbit
              go_wp2_with fail
              refine HC.out.mono ?_
              rintro e w1 ⟨rfl, hb⟩
              have HR1 := hid (HR.out.below hb HR.out.blk)
              have HW1 := hid (HW.out.trans (hb.mono HW.out.size))
              clear hb
              go_wp2_with fail
              go_roundw
              case rel => exact ⟨i + 1, by omega, by go_num, by rw [HMB.out]; exact HR1.out, HW1.out⟩
              case measure => simp [intOf] <;> omega
            · rw [hbit] at hc HMB
              have HC := hid hc
              have hq32 := room_low y i
              have HQ2 : Hid (put (y % 2 ^ i) (i / 32) (dig (y % 2 ^ i) (i / 32) + 2 ^ (i % 32)) = y % 2 ^ (i + 1)) := by
                show _ = _
                rw [add_bit hq32, HMB.out]; rfl
              obtain ⟨j, hj⟩ : ∃ j : Nat, j = i / 32 := ⟨_, rfl⟩
              obtain ⟨r, hr⟩ : ∃ r : Nat, r = i % 32 := ⟨_, rfl⟩
              obtain ⟨dg, hdg⟩ : ∃ dg : Nat, dg = dig (y % 2 ^ i) j := ⟨_, rfl⟩
              obtain ⟨p2, hp2⟩ : ∃ p2 : Nat, p2 = 2 ^ r := ⟨_, rfl⟩
              obtain ⟨z, hz⟩ : ∃ z : Nat, z = dg + p2 := ⟨_, rfl⟩
              rw [← hj, ← hr, ← hdg, ← hp2, ← hz] at HQ2
              rw [← hj, ← hr, ← hdg, ← hp2, ← hz] at hq32
              have hjn : j < N := by omega
              have hr32 : r < 32 := by omega
              have x1 : ((i : Nat) : Int) / 32 = (j : Int) := by omega
              have x2 : ((i : Nat) : Int) % 32 = (r : Int) := by omega
              have x3 : Int.tdiv ((i : Nat) : Int) 32 = (j : Int) := by rw [Int.tdiv_eq_ediv_of_nonneg (by omega)]; exact x1
              have x4 : Int.tmod ((i : Nat) : Int) 32 = (r : Int) := by rw [Int.tmod_eq_emod_of_nonneg (by omega)]; exact x2
              have x5 : IntKind.i64.wrap (j : Int) = (j : Int) := IntWalk.i64_in _ (by omega)
              have x6 : IntKind.i64.wrap (r : Int) = (r : Int) := IntWalk.i64_in _ (by omega)
              have x7 : (1 : Int) * 2 ^ r = (p2 : Int) := by rw [hp2]; simp
              have x8 : IntKind.u32.wrap (p2 : Int) = (p2 : Int) := by rw [IntKind.wrap_u32]; omega
              have x9 : IntKind.u32.wrap ((dg : Int) + (p2 : Int)) = (z : Int) := by rw [IntKind.wrap_u32]; omega
              have x10 : ((2 : Int) ^ r) = (p2 : Int) := by rw [hp2]; simp
              have l6 : (j : Int) < (N : Int) := by omega
              have HDG := hid hdg
              clear hc hbit hj hr hdg hp2 hz
              go_wp2_with fail
              refine HC.out.mono ?_
              rintro e w1 ⟨rfl, hb⟩
              have HR1 := hid (HR.out.below hb HR.out.blk)
              have HW1 := hid (HW.out.trans (hb.mono HW.out.size))
              clear hb
              have cq := ((HR1.out.drewN 1).cell hjn)
              rw [← HDG.out] at cq
              have cq2 := HR1.out.cell hjn
              rw [← HDG.out] at cq2
              have fq2 := HR1.out.frozen j
              go_wp2_with fail
              go_region_with fail
              go_wp2_with fail
              go_roundw
              case rel => exact ⟨i + 1, by omega, by go_num, by rw [← HQ2.out]; exact Row.set_ (w := w1.drew) HR1.out hjn hq32, HW1.out.drew.setCell (Nat.le_refl _) _⟩
              case measure => simp [intOf] <;> omega
          · obtain rfl : i = s := by omega
            have l5 : decide (((i : Nat) : Int) < ((i : Nat) : Int)) = false := by simp
            rw [HYB.out] at HR
            have HNM := hid (HR.out.num HR.out.blk)
            clear hlt
            go_wp2_with fail
            refine (rtrim_any _ N N y _ wr HNM.out (Nat.le_refl _) (by omega) (Nat.le_refl _)).mono ?_
            rintro e w9 ⟨v, rfl, ⟨A', c', rfl, ho⟩, hb⟩
            have HBW := hid (HW.out.trans (hb.mono HW.out.size))
            have HO9 := hid (ho.weak (b := w.heap.size) (Nat.le_trans W1.out.size HW.out.size))
            have B9 := hid (B1.out.below HBW.out B1.out.lt)
            have W9 := hid (W1.out.trans (HBW.out.mono W1.out.size))
            have cB := B9.out.cell0
            have fB := B9.out.frozen 0
            clear hb ho
            go_wp2_with fail
            have ho2 := HO9.out.box (p := ⟨w.heap.size + 1, 0, none⟩) B9.out (by decide) (.slice A' (nw y) c')
            exact bodyPost_ret (v := .tuple #[.agg #[.slice A' (nw y) c'], .int .i64 0]) (by simp [results, Try.results34, go_sem, cB]) rfl ⟨_, rfl, ⟨A', c', rfl, ho2⟩, W9.out.setCell (by simp <;> omega) _⟩

end Go.Proofs.Ytlhfaaghfhiaoaa
