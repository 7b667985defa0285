/- Rf6, Rf7, Rf8, Rf9: merged. -/
import Derived.Test.YtomkmkjkeihodaaDoorRfA
import Derived.Test.YtomkmkjkeihodaaDoorVb
set_option linter.unusedVariables false
set_option linter.unusedSimpArgs false
namespace Go.Proofs.YtomkmkjkeihodaaDoor
open Go.RowKit

theorem shr_mod_two (x r : Nat) (hx : x < 4294967296) : Int.tmod (((x : Nat) : Int) / 2 ^ r) 2 = ((x / 2 ^ r % 2 : Nat) : Int) := by
  have e : ((x : Nat) : Int) / 2 ^ r = ((x / 2 ^ r : Nat) : Int) := by simp
  rw [e, Int.tmod_eq_emod_of_nonneg (Int.natCast_nonneg _)]; exact (Int.natCast_emod _ _).symm

theorem rbit_any (A : Option Addr) (c a k : Nat) (w : World) (hA : Num w w.heap.size A (nw a) a) (hn : nw a ≤ 1000000) (hk : k ≤ 100000000) :
    Calls Tryd.prog 76 #[.agg #[.slice A (nw a) c], .int .i64 (k : Int)] w (RetB (.bool (bitN a k)) w) := by
  have HA := hid (hA.alloc (Nat.le_refl _) (.cells #[.slice A (nw a) c] 37))
  obtain ⟨q, hq⟩ : ∃ q : Nat, q = k / 32 := ⟨_, rfl⟩
  obtain ⟨r, hr⟩ : ∃ r : Nat, r = k % 32 := ⟨_, rfl⟩
  have hr1 : r < 32 := by omega
  have e1 : ((k : Nat) : Int) / 32 = ((q : Nat) : Int) := by omega
  have e2 : ((k : Nat) : Int) % 32 = ((r : Nat) : Int) := by omega
  by_cases hlt : q < nw a
  · obtain ⟨ad, rfl, h1, h2⟩ := HA.out.at_ hlt
    have l1 : (q : Int) < ((nw a : Nat) : Int) := by omega
    have hd := dig_lt a q
    have e3 := shr_mod_two (dig a q) r hd
    have HF : bitN a k = (((dig a q / 2 ^ r % 2 : Nat) : Int) == 1) := by
      unfold bitN
      rw [← bitN_dig, ← hq, ← hr]
      generalize dig a q / 2 ^ r % 2 = v
      rw [Bool.eq_iff_iff]; simp only [decide_eq_true_eq, beq_iff_eq]; omega
    generalize dig a q / 2 ^ r % 2 = v at e3 HF
    replace HF := hid HF
    rw [HF.out]
    clear hA hq hr
    go_enter Tryd.func76, Tryd.ntmps76
    go_wp2_with fail
    go_ret
    exact ⟨rfl, (Below.refl _ _).alloc (Nat.le_refl _) _⟩
  · have l1 : ((nw a : Nat) : Int) ≤ (q : Int) := by omega
    have HF : Hid (bitN a k = false) := by
      show _ = _
      unfold bitN
      rw [← bitN_dig, ← hq, ← hr, dig_above (lt_nw a) (by omega)]
      simp
    rw [HF.out]
    clear hA hq hr
    go_enter Tryd.func76, Tryd.ntmps76
    go_wp2_with fail
    go_ret
    exact ⟨rfl, (Below.refl _ _).alloc (Nat.le_refl _) _⟩

theorem bl_of_bit {a k : Nat} (h1 : bl a ≤ k + 1) (h2 : bitN a k = true) : bl a = k + 1 := by
  rcases Nat.lt_or_ge k (bl a) with h | h
  · omega
  · rw [bitN_above h] at h2; cases h2
theorem bl_no_bit {a k : Nat} (h1 : bl a ≤ k + 1) (h2 : bitN a k = false) : bl a ≤ k := by
  rcases Nat.lt_or_ge k (bl a) with h | h
  · have e : bl a = k + 1 := by omega
    have h0 : a ≠ 0 := by rintro rfl; rw [bl_zero] at e; omega
    have := bitN_top h0
    rw [e, show k + 1 - 1 = k by omega, h2] at this
    cases this
  · exact h

theorem rbits_any (A : Option Addr) (c a : Nat) (w : World) (hA : Num w w.heap.size A (nw a) a) (hn : nw a ≤ 1000000) :
    Calls Tryd.prog 75 #[.agg #[.slice A (nw a) c]] w (RetB (.int .i64 ((bl a : Nat) : Int)) w) := by
  obtain ⟨b0, bw⟩ := boxes1 w (.slice A (nw a) c)
  have XA := hid (Box.mk b0 hA bw)
  have WW := hid bw
  have HBL := hid (bl_le_nw a)
  clear b0 bw hA
  obtain ⟨N, hN⟩ : ∃ N : Nat, N = nw a * 32 := ⟨_, rfl⟩
  have j0 : IntKind.i64.wrap (32 * ((nw a : Nat) : Int)) = ((N : Nat) : Int) := by rw [IntWalk.i64_in _ (by omega)]; omega
  have hN1 : N ≤ 32000000 := by omega
  have HNN := hid hN
  clear hN
  go_enter Tryd.func75, Tryd.ntmps75
  go_wp2_with fail
  generalize hV : w.alloc (.cells #[.slice A (nw a) c] 37) = V at XA WW ⊢
  clear hV
  go_loopw [3] (fun i wr => ∃ k : Nat, k ≤ N ∧ i = .int .i64 k ∧ bl a ≤ k ∧ Below w.heap.size w wr ∧ Box wr w.heap.size A (nw a) c a) (fun i _ => (intOf i).toNat)
  case atStart => exact ⟨N, by omega, by go_num, by have := HBL.out; have := HNN.out; omega, WW.out, XA.out⟩
  case round =>
    obtain ⟨k, hk, rfl, hI, hW, hX⟩ := hrel
    have HW := hid hW
    have HX := hid hX
    have HI := hid hI
    have kX := hX.cell
    clear hW hX XA WW hI
    by_cases h0 : k = 0
    · subst h0
      go_wp2_with fail
      go_ret
      exact ⟨ret_int (by have := HI.out; omega), HW.out⟩
    · obtain ⟨j, rfl⟩ : ∃ j, k = j + 1 := ⟨k - 1, by omega⟩
      have e1 : ((j + 1 : Nat) : Int) - 1 = ((j : Nat) : Int) := by omega
      have l1 : (0 : Int) < ((j + 1 : Nat) : Int) := by omega
      clear h0
      cases hb : bitN a j
      · have HB := hid hb
        have HI2 := hid (bl_no_bit HI.out hb)
        clear hb
        go_wp2_with fail
        have hc := rbit_any A c a j wr HX.out.num hn (by omega)
        rw [HB.out] at hc
        refine hc.mono ?_
        clear hc
        rintro e w1 ⟨rfl, hb⟩
        have HW1 := hid (HW.out.trans (hb.mono HW.out.size))
        have HX1 := hid (HX.out.below hb)
        clear hb
        go_wp2_with fail
        go_roundw
        case rel => exact ⟨j, by omega, by go_num, HI2.out, HW1.out, HX1.out⟩
        case measure => simp [intOf] <;> omega
      · have HB := hid hb
        have HI2 := hid (bl_of_bit HI.out hb)
        clear hb
        go_wp2_with fail
        have hc := rbit_any A c a j wr HX.out.num hn (by omega)
        rw [HB.out] at hc
        refine hc.mono ?_
        clear hc
        rintro e w1 ⟨rfl, hb⟩
        have HW1 := hid (HW.out.trans (hb.mono HW.out.size))
        clear hb
        go_wp2_with fail
        go_ret
        exact ⟨ret_int (by have := HI2.out; omega), HW1.out⟩
end Go.Proofs.YtomkmkjkeihodaaDoor

namespace Go.Proofs.YtomkmkjkeihodaaDoor
open Go.RowKit

/-! ### Numbers by their bits -/
theorem half_no {b j : Nat} (h : bitN b j = false) : b / 2 ^ j = 2 * (b / 2 ^ (j + 1)) := by
  unfold bitN at h
  have h1 : ¬ b / 2 ^ j % 2 = 1 := of_decide_eq_false h
  rw [Nat.pow_succ, ← Nat.div_div_eq_div_mul]
  generalize b / 2 ^ j = x at *
  omega
theorem half_yes {b j : Nat} (h : bitN b j = true) : b / 2 ^ j = 2 * (b / 2 ^ (j + 1)) + 1 := by
  unfold bitN at h
  have h1 : b / 2 ^ j % 2 = 1 := of_decide_eq_true h
  rw [Nat.pow_succ, ← Nat.div_div_eq_div_mul]
  generalize b / 2 ^ j = x at *
  omega
theorem bits_top (b : Nat) : b / 2 ^ bl b = 0 := Nat.div_eq_of_lt (lt_bl b)
theorem bits_all (b : Nat) : b / 2 ^ 0 = b := by simp
theorem mul_even (a B m : Nat) : a * (2 * B) % m = (a * B % m + a * B % m) % m := by
  rw [← Nat.add_mod]; congr 1; rw [Nat.mul_left_comm]; omega
theorem mul_odd (a B m : Nat) : a * (2 * B + 1) % m = ((a * B % m + a * B % m) % m + a) % m := by
  rw [Nat.mul_add, Nat.mul_one, ← mul_even, Nat.mod_add_mod]
theorem mod_even (B m : Nat) : 2 * B % m = (B % m + B % m) % m := by
  have := mul_even 1 B m; rwa [Nat.one_mul, Nat.one_mul] at this
theorem mod_odd (B m : Nat) : (2 * B + 1) % m = ((B % m + B % m) % m + 1) % m := by
  have := mul_odd 1 B m; rwa [Nat.one_mul, Nat.one_mul] at this
theorem pow_even (a B m : Nat) : a ^ (2 * B) % m = (a ^ B % m * (a ^ B % m)) % m := by
  rw [← Nat.mul_mod, ← Nat.pow_add]; congr 2; omega
theorem pow_odd (a B m : Nat) : a ^ (2 * B + 1) % m = ((a ^ B % m * (a ^ B % m)) % m * a) % m := by
  rw [← pow_even, Nat.pow_succ, Nat.mod_mul_mod]
set_option maxHeartbeats 8000000 in
theorem rmul3_any (A B' C' : Option Addr) (c d p a b m : Nat) (w : World) (hA : Num w w.heap.size A (nw a) a) (hB : Num w w.heap.size B' (nw b) b) (hC : Num w w.heap.size C' (nw m) m) (ha : nw a ≤ 70) (hb : nw b ≤ 70) (hm : nw m ≤ 70) (h1 : a < m) :
    Calls Tryd.prog 57 #[.agg #[.slice A (nw a) c], .agg #[.slice B' (nw b) d], .agg #[.slice C' (nw m) p]] w (RetNat w.heap.size (a * b % m) w) := by
  have HAM := hid h1
  have hm0 : 0 < m := by omega
  have HM0 := hid hm0
  clear h1
  have hbl := bl_le_nw b
  have h00 : nw 0 = 0 := rfl
  obtain ⟨b0, b1, b2, b3, b4, bw⟩ := boxes5 w (.slice A (nw a) c) (.slice B' (nw b) d) (.slice C' (nw m) p) (.slice none 0 0) (.slice none 0 0)
  have XA := VB.mk (B := w.heap.size) (a := a) b0 (.inl hA) bw (Nat.le_refl _) (by omega)
  have XB := VB.mk (B := w.heap.size) (a := b) b1 (.inl hB) bw (Nat.le_refl _) (by omega)
  have XC := VB.mk (B := w.heap.size) (a := m) b2 (.inl hC) bw (Nat.le_refl _) (by omega)
  have XR := VB.mk (B := w.heap.size) (a := 0) b3 (.inr (Own.nil _ _ _ _ (Nat.zero_le _))) bw (Nat.le_refl _) (by omega)
  have XO := VB.mk (B := w.heap.size) (a := 0) b4 (.inr (Own.nil _ _ _ _ (Nat.zero_le _))) bw (Nat.le_refl _) (by omega)
  have WW := bw
  clear bw b0 b1 b2 b3 b4
  go_enter Tryd.func57, Tryd.ntmps57
  go_wp2_with fail
  generalize hV : (((((w.alloc (.cells #[.slice A (nw a) c] 37)).alloc (.cells #[.slice B' (nw b) d] 37)).alloc (.cells #[.slice C' (nw m) p] 37)).alloc (.cells #[.slice none 0 0] 37)).alloc (.cells #[.slice none 0 0] 37)) = V0 at XA XB XC XR XO WW ⊢
  clear hV
  have OO : Own V0 w.heap.size none 0 0 0 := Own.nil _ _ _ _ (Nat.zero_le _)
  have hbs : w.heap.size ≤ V0.heap.size := WW.size
  have hc := rbits_any B' d b V0 XB.num (by omega)
  refine hc.mono ?_
  clear hc
  rintro e V1 ⟨rfl, hb⟩
  replace XA := XA.below hb
  replace XB := XB.below hb
  replace XC := XC.below hb
  replace XR := XR.below hb
  replace XO := XO.below hb
  replace OO := OO.below hb (Nat.le_refl _)
  replace WW := WW.trans (hb.mono WW.size)
  have kXA := XA.cell
  have zXA := XA.lt
  have kXB := XB.cell
  have zXB := XB.lt
  have kXC := XC.cell
  have zXC := XC.lt
  have kXR := XR.cell
  have zXR := XR.lt
  have kXO := XO.cell
  have zXO := XO.lt
  clear hb hbs
  go_wp2_with fail
  go_loopw [8] (fun i wr => ∃ (k s : Nat) (z : Int) (O : Option Addr) (oc : Nat), k ≤ bl b ∧ i = .int .i64 z ∧ z + 1 = (k : Int) ∧ Hid (s = a * (b / 2 ^ k) % m) ∧ Below w.heap.size w wr ∧ VB w.heap.size wr (w.heap.size) A (nw a) c a ∧ VB w.heap.size wr (w.heap.size + 1) B' (nw b) d b ∧ VB w.heap.size wr (w.heap.size + 1 + 1) C' (nw m) p m ∧ VB w.heap.size wr (w.heap.size + 1 + 1 + 1) none 0 0 0 ∧ VB w.heap.size wr (w.heap.size + 1 + 1 + 1 + 1) O (nw s) oc s ∧ Own wr w.heap.size O (nw s) oc s) (fun i wr => ((intOf i) + 1).toNat)
  case atStart => exact ⟨bl b, 0, ((bl b : Nat) : Int) - 1, none, 0, Nat.le_refl _, by go_num, by omega, (show 0 = a * (b / 2 ^ bl b) % m by rw [bits_top, Nat.mul_zero, Nat.zero_mod]), WW, XA, XB, XC, XR, XO, OO⟩
  case round =>
    clear WW kXA zXA kXB zXB kXC zXC kXR zXR kXO zXO XA XB XC XR XO OO
    obtain ⟨k, s, z, O, oc, hk, rfl, hz, HS, WW, XA, XB, XC, XR, XO, OO⟩ := hrel
    have kXA := XA.cell
    have zXA := XA.lt
    have kXB := XB.cell
    have zXB := XB.lt
    have kXC := XC.cell
    have zXC := XC.lt
    have kXR := XR.cell
    have zXR := XR.lt
    have kXO := XO.cell
    have zXO := XO.lt
    by_cases h0 : k = 0
    · subst h0
      have HF : Hid (a * b % m = s) := (show a * b % m = s by rw [HS.out, bits_all])
      obtain rfl : z = -1 := by omega
      have fXR := XR.1.frozen 0
      clear HS
      go_wp2_with fail
      have ho2 := OO.box (p := ⟨w.heap.size + 1 + 1 + 1, 0, none⟩) XR.1 (by decide) (.slice O (nw s) oc)
      exact bodyPost_ret (v := .agg #[.slice O (nw s) oc]) (by simp [results, Tryd.results57, go_sem, kXR, zXR]) rfl ⟨_, rfl, by rw [HF.out]; exact ⟨O, oc, rfl, ho2⟩, WW.setCell (by simp <;> omega) _⟩
    · obtain ⟨j, rfl⟩ : ∃ j, k = j + 1 := ⟨k - 1, by omega⟩
      obtain rfl : z = (j : Int) := by omega
      clear h0 hz
      have HSM : Hid (s < m) := (show s < m by rw [HS.out]; exact Nat.mod_lt _ HM0.out)
      have nws : nw s ≤ 70 := Nat.le_trans (nw_mono (Nat.le_of_lt HSM.out)) hm
      obtain ⟨s1, hs1⟩ : ∃ x, x = (s + s) % m := ⟨_, rfl⟩
      have H1 := hid hs1
      have l1 : (0 : Int) ≤ ((j : Nat) : Int) := by omega
      cases hbt : bitN b j
      · have HB := hid hbt
        have H2 : Hid (s1 = a * (b / 2 ^ j) % m) := (show s1 = a * (b / 2 ^ j) % m by rw [half_no hbt, hs1, HS.out]; exact (mul_even a (b / 2 ^ (j + 1)) m).symm)
        have HSMs1 : Hid (s1 < m) := (show s1 < m by rw [hs1]; exact Nat.mod_lt _ HM0.out)
        have nws1 : nw s1 ≤ 70 := Nat.le_trans (nw_mono (Nat.le_of_lt HSMs1.out)) hm
        clear hbt hs1
        go_wp2_with fail
        have hbs : w.heap.size ≤ wr.heap.size := WW.size
        have hc := radd3_any O O C' oc oc p s s m wr XO.num XO.num XC.num nws nws hm HSM.out HSM.out
        rw [← H1.out] at hc
        refine hc.mono ?_
        clear hc
        rintro e V2 ⟨v, rfl, hv, hb⟩
        clear kXA zXA kXB zXB kXC zXC kXR zXR kXO zXO
        replace XA := XA.below hb
        replace XB := XB.below hb
        replace XC := XC.below hb
        replace XR := XR.below hb
        replace XO := XO.below hb
        replace OO := OO.below hb (Nat.le_refl _)
        replace WW := WW.trans (hb.mono WW.size)
        obtain ⟨D1, d1, rfl, ho⟩ := hv
        have O1 := ho.weak (b := w.heap.size) hbs
        clear ho
        have kXA := XA.cell
        have zXA := XA.lt
        have kXB := XB.cell
        have zXB := XB.lt
        have kXC := XC.cell
        have zXC := XC.lt
        have kXR := XR.cell
        have zXR := XR.lt
        have kXO := XO.cell
        have zXO := XO.lt
        clear hb hbs
        have fXO := XO.1.frozen 0
        have XAn := XA.far (p := ⟨w.heap.size + 1 + 1 + 1 + 1, 0, none⟩) XO.1 XO.2.2 (by simp <;> omega) (.slice D1 (nw s1) d1)
        have XBn := XB.far (p := ⟨w.heap.size + 1 + 1 + 1 + 1, 0, none⟩) XO.1 XO.2.2 (by simp <;> omega) (.slice D1 (nw s1) d1)
        have XCn := XC.far (p := ⟨w.heap.size + 1 + 1 + 1 + 1, 0, none⟩) XO.1 XO.2.2 (by simp <;> omega) (.slice D1 (nw s1) d1)
        have XRn := XR.far (p := ⟨w.heap.size + 1 + 1 + 1 + 1, 0, none⟩) XO.1 XO.2.2 (by simp <;> omega) (.slice D1 (nw s1) d1)
        have XOn := XO.set_ (A' := D1) (n' := (nw s1)) (c' := d1) (a' := s1) (.inr O1)
        have OOn := OO.box (p := ⟨w.heap.size + 1 + 1 + 1 + 1, 0, none⟩) XO.1 (by decide) (.slice D1 (nw s1) d1)
        have O1n := O1.box (p := ⟨w.heap.size + 1 + 1 + 1 + 1, 0, none⟩) XO.1 (by decide) (.slice D1 (nw s1) d1)
        have WWn := WW.setCell (p := ⟨w.heap.size + 1 + 1 + 1 + 1, 0, none⟩) (by simp <;> omega) (.slice D1 (nw s1) d1)
        go_wp2_with fail
        clear kXA zXA kXB zXB kXC zXC kXR zXR kXO zXO fXO WW XA XB XC XR XO OO O1
        generalize hV : V2.setCell ⟨w.heap.size + 1 + 1 + 1 + 1, 0, none⟩ (.slice D1 (nw s1) d1) = V3 at XAn XBn XCn XRn XOn OOn O1n WWn ⊢
        clear hV
        have XA := XAn
        have XB := XBn
        have XC := XCn
        have XR := XRn
        have XO := XOn
        have OO := OOn
        have O1 := O1n
        have WW := WWn
        clear XAn XBn XCn XRn XOn OOn O1n WWn
        have kXA := XA.cell
        have zXA := XA.lt
        have kXB := XB.cell
        have zXB := XB.lt
        have kXC := XC.cell
        have zXC := XC.lt
        have kXR := XR.cell
        have zXR := XR.lt
        have kXO := XO.cell
        have zXO := XO.lt
        try go_wp2_with fail
        have hbs : w.heap.size ≤ V3.heap.size := WW.size
        have hc := rbit_any B' d b j V3 XB.num (by omega) (by omega)
        rw [HB.out] at hc
        refine hc.mono ?_
        clear hc
        rintro e V4 ⟨rfl, hb⟩
        clear kXA zXA kXB zXB kXC zXC kXR zXR kXO zXO
        replace XA := XA.below hb
        replace XB := XB.below hb
        replace XC := XC.below hb
        replace XR := XR.below hb
        replace XO := XO.below hb
        replace OO := OO.below hb (Nat.le_refl _)
        replace O1 := O1.below hb (Nat.le_refl _)
        replace WW := WW.trans (hb.mono WW.size)
        have kXA := XA.cell
        have zXA := XA.lt
        have kXB := XB.cell
        have zXB := XB.lt
        have kXC := XC.cell
        have zXC := XC.lt
        have kXR := XR.cell
        have zXR := XR.lt
        have kXO := XO.cell
        have zXO := XO.lt
        clear hb hbs
        go_wp2_with fail
        go_roundw
        case rel => exact ⟨j, s1, ((j : Int) - 1), D1, d1, by omega, by go_num, by omega, H2.out, WW, XA, XB, XC, XR, XO, O1⟩
        case measure => simp [intOf] <;> omega
      · have HB := hid hbt
        obtain ⟨s2, hs2⟩ : ∃ x, x = (s1 + a) % m := ⟨_, rfl⟩
        have H3 := hid hs2
        have H2 : Hid (s2 = a * (b / 2 ^ j) % m) := (show s2 = a * (b / 2 ^ j) % m by rw [half_yes hbt, hs2, hs1, HS.out]; exact (mul_odd a (b / 2 ^ (j + 1)) m).symm)
        have HSMs1 : Hid (s1 < m) := (show s1 < m by rw [hs1]; exact Nat.mod_lt _ HM0.out)
        have nws1 : nw s1 ≤ 70 := Nat.le_trans (nw_mono (Nat.le_of_lt HSMs1.out)) hm
        have HSMs2 : Hid (s2 < m) := (show s2 < m by rw [hs2]; exact Nat.mod_lt _ HM0.out)
        have nws2 : nw s2 ≤ 70 := Nat.le_trans (nw_mono (Nat.le_of_lt HSMs2.out)) hm
        clear hbt hs1 hs2
        go_wp2_with fail
        have hbs : w.heap.size ≤ wr.heap.size := WW.size
        have hc := radd3_any O O C' oc oc p s s m wr XO.num XO.num XC.num nws nws hm HSM.out HSM.out
        rw [← H1.out] at hc
        refine hc.mono ?_
        clear hc
        rintro e V2 ⟨v, rfl, hv, hb⟩
        clear kXA zXA kXB zXB kXC zXC kXR zXR kXO zXO
        replace XA := XA.below hb
        replace XB := XB.below hb
        replace XC := XC.below hb
        replace XR := XR.below hb
        replace XO := XO.below hb
        replace OO := OO.below hb (Nat.le_refl _)
        replace WW := WW.trans (hb.mono WW.size)
        obtain ⟨D1, d1, rfl, ho⟩ := hv
        have O1 := ho.weak (b := w.heap.size) hbs
        clear ho
        have kXA := XA.cell
        have zXA := XA.lt
        have kXB := XB.cell
        have zXB := XB.lt
        have kXC := XC.cell
        have zXC := XC.lt
        have kXR := XR.cell
        have zXR := XR.lt
        have kXO := XO.cell
        have zXO := XO.lt
        clear hb hbs
        have fXO := XO.1.frozen 0
        have XAn := XA.far (p := ⟨w.heap.size + 1 + 1 + 1 + 1, 0, none⟩) XO.1 XO.2.2 (by simp <;> omega) (.slice D1 (nw s1) d1)
        have XBn := XB.far (p := ⟨w.heap.size + 1 + 1 + 1 + 1, 0, none⟩) XO.1 XO.2.2 (by simp <;> omega) (.slice D1 (nw s1) d1)
        have XCn := XC.far (p := ⟨w.heap.size + 1 + 1 + 1 + 1, 0, none⟩) XO.1 XO.2.2 (by simp <;> omega) (.slice D1 (nw s1) d1)
        have XRn := XR.far (p := ⟨w.heap.size + 1 + 1 + 1 + 1, 0, none⟩) XO.1 XO.2.2 (by simp <;> omega) (.slice D1 (nw s1) d1)
        have XOn := XO.set_ (A' := D1) (n' := (nw s1)) (c' := d1) (a' := s1) (.inr O1)
        have OOn := OO.box (p := ⟨w.heap.size + 1 + 1 + 1 + 1, 0, none⟩) XO.1 (by decide) (.slice D1 (nw s1) d1)
        have O1n := O1.box (p := ⟨w.heap.size + 1 + 1 + 1 + 1, 0, none⟩) XO.1 (by decide) (.slice D1 (nw s1) d1)
        have WWn := WW.setCell (p := ⟨w.heap.size + 1 + 1 + 1 + 1, 0, none⟩) (by simp <;> omega) (.slice D1 (nw s1) d1)
        go_wp2_with fail
        clear kXA zXA kXB zXB kXC zXC kXR zXR kXO zXO fXO WW XA XB XC XR XO OO O1
        generalize hV : V2.setCell ⟨w.heap.size + 1 + 1 + 1 + 1, 0, none⟩ (.slice D1 (nw s1) d1) = V3 at XAn XBn XCn XRn XOn OOn O1n WWn ⊢
        clear hV
        have XA := XAn
        have XB := XBn
        have XC := XCn
        have XR := XRn
        have XO := XOn
        have OO := OOn
        have O1 := O1n
        have WW := WWn
        clear XAn XBn XCn XRn XOn OOn O1n WWn
        have kXA := XA.cell
        have zXA := XA.lt
        have kXB := XB.cell
        have zXB := XB.lt
        have kXC := XC.cell
        have zXC := XC.lt
        have kXR := XR.cell
        have zXR := XR.lt
        have kXO := XO.cell
        have zXO := XO.lt
        try go_wp2_with fail
        have hbs : w.heap.size ≤ V3.heap.size := WW.size
        have hc := rbit_any B' d b j V3 XB.num (by omega) (by omega)
        rw [HB.out] at hc
        refine hc.mono ?_
        clear hc
        rintro e V4 ⟨rfl, hb⟩
        clear kXA zXA kXB zXB kXC zXC kXR zXR kXO zXO
        replace XA := XA.below hb
        replace XB := XB.below hb
        replace XC := XC.below hb
        replace XR := XR.below hb
        replace XO := XO.below hb
        replace OO := OO.below hb (Nat.le_refl _)
        replace O1 := O1.below hb (Nat.le_refl _)
        replace WW := WW.trans (hb.mono WW.size)
        have kXA := XA.cell
        have zXA := XA.lt
        have kXB := XB.cell
        have zXB := XB.lt
        have kXC := XC.cell
        have zXC := XC.lt
        have kXR := XR.cell
        have zXR := XR.lt
        have kXO := XO.cell
        have zXO := XO.lt
        clear hb hbs
        go_wp2_with fail
        have hbs : w.heap.size ≤ V4.heap.size := WW.size
        have hc := radd3_any D1 A C' d1 c p s1 a m V4 XO.num XA.num XC.num nws1 ha hm HSMs1.out HAM.out
        rw [← H3.out] at hc
        refine hc.mono ?_
        clear hc
        rintro e V5 ⟨v, rfl, hv, hb⟩
        clear kXA zXA kXB zXB kXC zXC kXR zXR kXO zXO
        replace XA := XA.below hb
        replace XB := XB.below hb
        replace XC := XC.below hb
        replace XR := XR.below hb
        replace XO := XO.below hb
        replace OO := OO.below hb (Nat.le_refl _)
        replace O1 := O1.below hb (Nat.le_refl _)
        replace WW := WW.trans (hb.mono WW.size)
        obtain ⟨D2, d2, rfl, ho⟩ := hv
        have O2 := ho.weak (b := w.heap.size) hbs
        clear ho
        have kXA := XA.cell
        have zXA := XA.lt
        have kXB := XB.cell
        have zXB := XB.lt
        have kXC := XC.cell
        have zXC := XC.lt
        have kXR := XR.cell
        have zXR := XR.lt
        have kXO := XO.cell
        have zXO := XO.lt
        clear hb hbs
        have fXO := XO.1.frozen 0
        have XAn := XA.far (p := ⟨w.heap.size + 1 + 1 + 1 + 1, 0, none⟩) XO.1 XO.2.2 (by simp <;> omega) (.slice D2 (nw s2) d2)
        have XBn := XB.far (p := ⟨w.heap.size + 1 + 1 + 1 + 1, 0, none⟩) XO.1 XO.2.2 (by simp <;> omega) (.slice D2 (nw s2) d2)
        have XCn := XC.far (p := ⟨w.heap.size + 1 + 1 + 1 + 1, 0, none⟩) XO.1 XO.2.2 (by simp <;> omega) (.slice D2 (nw s2) d2)
        have XRn := XR.far (p := ⟨w.heap.size + 1 + 1 + 1 + 1, 0, none⟩) XO.1 XO.2.2 (by simp <;> omega) (.slice D2 (nw s2) d2)
        have XOn := XO.set_ (A' := D2) (n' := (nw s2)) (c' := d2) (a' := s2) (.inr O2)
        have OOn := OO.box (p := ⟨w.heap.size + 1 + 1 + 1 + 1, 0, none⟩) XO.1 (by decide) (.slice D2 (nw s2) d2)
        have O1n := O1.box (p := ⟨w.heap.size + 1 + 1 + 1 + 1, 0, none⟩) XO.1 (by decide) (.slice D2 (nw s2) d2)
        have O2n := O2.box (p := ⟨w.heap.size + 1 + 1 + 1 + 1, 0, none⟩) XO.1 (by decide) (.slice D2 (nw s2) d2)
        have WWn := WW.setCell (p := ⟨w.heap.size + 1 + 1 + 1 + 1, 0, none⟩) (by simp <;> omega) (.slice D2 (nw s2) d2)
        go_wp2_with fail
        clear kXA zXA kXB zXB kXC zXC kXR zXR kXO zXO fXO WW XA XB XC XR XO OO O1 O2
        generalize hV : V5.setCell ⟨w.heap.size + 1 + 1 + 1 + 1, 0, none⟩ (.slice D2 (nw s2) d2) = V6 at XAn XBn XCn XRn XOn OOn O1n O2n WWn ⊢
        clear hV
        have XA := XAn
        have XB := XBn
        have XC := XCn
        have XR := XRn
        have XO := XOn
        have OO := OOn
        have O1 := O1n
        have O2 := O2n
        have WW := WWn
        clear XAn XBn XCn XRn XOn OOn O1n O2n WWn
        have kXA := XA.cell
        have zXA := XA.lt
        have kXB := XB.cell
        have zXB := XB.lt
        have kXC := XC.cell
        have zXC := XC.lt
        have kXR := XR.cell
        have zXR := XR.lt
        have kXO := XO.cell
        have zXO := XO.lt
        try go_wp2_with fail
        go_roundw
        case rel => exact ⟨j, s2, ((j : Int) - 1), D2, d2, by omega, by go_num, by omega, H2.out, WW, XA, XB, XC, XR, XO, O2⟩
        case measure => simp [intOf] <;> omega

end Go.Proofs.YtomkmkjkeihodaaDoor

namespace Go.Proofs.YtomkmkjkeihodaaDoor
open Go.RowKit

set_option maxHeartbeats 8000000 in
theorem rsame_ne (A B' : Option Addr) (c d a b : Nat) (w : World) (hA : Num w w.heap.size A (nw a) a) (hB : Num w w.heap.size B' (nw b) b) (ha : nw a ≤ 140) (hb : nw b ≤ 140) (h : ¬ a < b) (h2 : ¬ b < a) :
    Calls Tryd.prog 90 #[.agg #[.slice A (nw a) c], .agg #[.slice B' (nw b) d]] w (RetB (.bool true) w) := by
  have G1 : Hid (decide (a < b) = false) := decide_eq_false h
  have G2 : Hid (decide (b < a) = false) := decide_eq_false h2
  clear h2
  clear h
  obtain ⟨b0, b1, bw⟩ := boxes2 w (.slice A (nw a) c) (.slice B' (nw b) d)
  have XA := VB.mk (B := w.heap.size) (a := a) b0 (.inl hA) bw (Nat.le_refl _) (by omega)
  have XB := VB.mk (B := w.heap.size) (a := b) b1 (.inl hB) bw (Nat.le_refl _) (by omega)
  have WW := bw
  clear bw b0 b1
  go_enter Tryd.func90, Tryd.ntmps90
  go_wp2_with fail
  generalize hV : ((w.alloc (.cells #[.slice A (nw a) c] 37)).alloc (.cells #[.slice B' (nw b) d] 37)) = V0 at XA XB WW ⊢
  clear hV
  have hbs : w.heap.size ≤ V0.heap.size := WW.size
  have hc := less3_any A B' c d a b V0 XA.num XB.num (by omega) (by omega)
  rw [G1.out] at hc
  refine hc.mono ?_
  clear hc
  rintro e V1 ⟨rfl, hb⟩
  replace XA := XA.below hb
  replace XB := XB.below hb
  replace WW := WW.trans (hb.mono WW.size)
  have kXA := XA.cell
  have zXA := XA.lt
  have kXB := XB.cell
  have zXB := XB.lt
  clear hb hbs
  go_wp2_with fail
  have hbs : w.heap.size ≤ V1.heap.size := WW.size
  have hc := less3_any B' A d c b a V1 XB.num XA.num (by omega) (by omega)
  rw [G2.out] at hc
  refine hc.mono ?_
  clear hc
  rintro e V2 ⟨rfl, hb⟩
  clear kXA zXA kXB zXB
  replace XA := XA.below hb
  replace XB := XB.below hb
  replace WW := WW.trans (hb.mono WW.size)
  have kXA := XA.cell
  have zXA := XA.lt
  have kXB := XB.cell
  have zXB := XB.lt
  clear hb hbs
  go_wp2_with fail
  go_ret
  exact ⟨rfl, WW⟩

set_option maxHeartbeats 8000000 in
theorem rsame_lt (A B' : Option Addr) (c d a b : Nat) (w : World) (hA : Num w w.heap.size A (nw a) a) (hB : Num w w.heap.size B' (nw b) b) (ha : nw a ≤ 140) (hb : nw b ≤ 140) (h : a < b) :
    Calls Tryd.prog 90 #[.agg #[.slice A (nw a) c], .agg #[.slice B' (nw b) d]] w (RetB (.bool false) w) := by
  have G1 : Hid (decide (a < b) = true) := decide_eq_true h
  clear h
  obtain ⟨b0, b1, bw⟩ := boxes2 w (.slice A (nw a) c) (.slice B' (nw b) d)
  have XA := VB.mk (B := w.heap.size) (a := a) b0 (.inl hA) bw (Nat.le_refl _) (by omega)
  have XB := VB.mk (B := w.heap.size) (a := b) b1 (.inl hB) bw (Nat.le_refl _) (by omega)
  have WW := bw
  clear bw b0 b1
  go_enter Tryd.func90, Tryd.ntmps90
  go_wp2_with fail
  generalize hV : ((w.alloc (.cells #[.slice A (nw a) c] 37)).alloc (.cells #[.slice B' (nw b) d] 37)) = V0 at XA XB WW ⊢
  clear hV
  have hbs : w.heap.size ≤ V0.heap.size := WW.size
  have hc := less3_any A B' c d a b V0 XA.num XB.num (by omega) (by omega)
  rw [G1.out] at hc
  refine hc.mono ?_
  clear hc
  rintro e V1 ⟨rfl, hb⟩
  replace XA := XA.below hb
  replace XB := XB.below hb
  replace WW := WW.trans (hb.mono WW.size)
  have kXA := XA.cell
  have zXA := XA.lt
  have kXB := XB.cell
  have zXB := XB.lt
  clear hb hbs
  go_wp2_with fail
  go_ret
  exact ⟨rfl, WW⟩

set_option maxHeartbeats 8000000 in
theorem rsame_gt (A B' : Option Addr) (c d a b : Nat) (w : World) (hA : Num w w.heap.size A (nw a) a) (hB : Num w w.heap.size B' (nw b) b) (ha : nw a ≤ 140) (hb : nw b ≤ 140) (h : ¬ a < b) (h2 : b < a) :
    Calls Tryd.prog 90 #[.agg #[.slice A (nw a) c], .agg #[.slice B' (nw b) d]] w (RetB (.bool false) w) := by
  have G1 : Hid (decide (a < b) = false) := decide_eq_false h
  have G2 : Hid (decide (b < a) = true) := decide_eq_true h2
  clear h2
  clear h
  obtain ⟨b0, b1, bw⟩ := boxes2 w (.slice A (nw a) c) (.slice B' (nw b) d)
  have XA := VB.mk (B := w.heap.size) (a := a) b0 (.inl hA) bw (Nat.le_refl _) (by omega)
  have XB := VB.mk (B := w.heap.size) (a := b) b1 (.inl hB) bw (Nat.le_refl _) (by omega)
  have WW := bw
  clear bw b0 b1
  go_enter Tryd.func90, Tryd.ntmps90
  go_wp2_with fail
  generalize hV : ((w.alloc (.cells #[.slice A (nw a) c] 37)).alloc (.cells #[.slice B' (nw b) d] 37)) = V0 at XA XB WW ⊢
  clear hV
  have hbs : w.heap.size ≤ V0.heap.size := WW.size
  have hc := less3_any A B' c d a b V0 XA.num XB.num (by omega) (by omega)
  rw [G1.out] at hc
  refine hc.mono ?_
  clear hc
  rintro e V1 ⟨rfl, hb⟩
  replace XA := XA.below hb
  replace XB := XB.below hb
  replace WW := WW.trans (hb.mono WW.size)
  have kXA := XA.cell
  have zXA := XA.lt
  have kXB := XB.cell
  have zXB := XB.lt
  clear hb hbs
  go_wp2_with fail
  have hbs : w.heap.size ≤ V1.heap.size := WW.size
  have hc := less3_any B' A d c b a V1 XB.num XA.num (by omega) (by omega)
  rw [G2.out] at hc
  refine hc.mono ?_
  clear hc
  rintro e V2 ⟨rfl, hb⟩
  clear kXA zXA kXB zXB
  replace XA := XA.below hb
  replace XB := XB.below hb
  replace WW := WW.trans (hb.mono WW.size)
  have kXA := XA.cell
  have zXA := XA.lt
  have kXB := XB.cell
  have zXB := XB.lt
  clear hb hbs
  go_wp2_with fail
  go_ret
  exact ⟨rfl, WW⟩

theorem rsame31_any (A B' : Option Addr) (c d a b : Nat) (w : World) (hA : Num w w.heap.size A (nw a) a) (hB : Num w w.heap.size B' (nw b) b) (ha : nw a ≤ 140) (hb : nw b ≤ 140) :
    Calls Tryd.prog 90 #[.agg #[.slice A (nw a) c], .agg #[.slice B' (nw b) d]] w (RetB (.bool (decide (a = b))) w) := by
  by_cases h1 : a < b
  · rw [decide_eq_false (by omega)]; exact rsame_lt A B' c d a b w hA hB ha hb h1
  · by_cases h2 : b < a
    · rw [decide_eq_false (by omega)]; exact rsame_gt A B' c d a b w hA hB ha hb h1 h2
    · rw [decide_eq_true (by omega)]; exact rsame_ne A B' c d a b w hA hB ha hb h1 h2

theorem of3_1 (w : World) : Calls Tryd.prog 74 #[.int .u64 1] w (RetNat w.heap.size 1 w) := of3_any 1 w (by omega)
set_option maxHeartbeats 8000000 in
theorem rmod_one (B' C' : Option Addr) (d p b m : Nat) (w : World) (hB : Num w w.heap.size B' (nw b) b) (hC : Num w w.heap.size C' (nw m) m) (hb : nw b ≤ 140) (hm : nw m ≤ 70) (h1 : m = 1) :
    Calls Tryd.prog 73 #[.agg #[.slice B' (nw b) d], .agg #[.slice C' (nw m) p]] w (RetNat w.heap.size (b % m) w) := by
  have G1 : Hid (decide (m = 1) = true) := decide_eq_true h1
  have HF : Hid (b % m = 0) := (show b % m = 0 by rw [h1]; exact Nat.mod_one b)
  clear h1
  have h01 : nw 1 ≤ 70 := by decide
  obtain ⟨b0, b1, b2, bw⟩ := boxes3 w (.slice B' (nw b) d) (.slice C' (nw m) p) (.slice none 0 0)
  have XB := VB.mk (B := w.heap.size) (a := b) b0 (.inl hB) bw (Nat.le_refl _) (by omega)
  have XC := VB.mk (B := w.heap.size) (a := m) b1 (.inl hC) bw (Nat.le_refl _) (by omega)
  have XR := VB.mk (B := w.heap.size) (a := 0) b2 (.inr (Own.nil _ _ _ _ (Nat.zero_le _))) bw (Nat.le_refl _) (by omega)
  have WW := bw
  clear bw b0 b1 b2
  go_enter Tryd.func73, Tryd.ntmps73
  go_wp2_with fail
  generalize hV : (((w.alloc (.cells #[.slice B' (nw b) d] 37)).alloc (.cells #[.slice C' (nw m) p] 37)).alloc (.cells #[.slice none 0 0] 37)) = V0 at XB XC XR WW ⊢
  clear hV
  have OE : Own V0 w.heap.size none 0 0 0 := Own.nil _ _ _ _ (Nat.zero_le _)
  have hbs : w.heap.size ≤ V0.heap.size := WW.size
  have hc := of3_1 V0
  refine hc.mono ?_
  clear hc
  rintro e V1 ⟨v, rfl, hv, hb⟩
  replace XB := XB.below hb
  replace XC := XC.below hb
  replace XR := XR.below hb
  replace OE := OE.below hb (Nat.le_refl _)
  replace WW := WW.trans (hb.mono WW.size)
  obtain ⟨D7, d7, rfl, ho⟩ := hv
  have O7 := ho.weak (b := w.heap.size) hbs
  clear ho
  have kXB := XB.cell
  have zXB := XB.lt
  have kXC := XC.cell
  have zXC := XC.lt
  have kXR := XR.cell
  have zXR := XR.lt
  clear hb hbs
  go_wp2_with fail
  obtain ⟨b0, b1, bw⟩ := boxes2 V1 (.slice D7 (nw 1) d7) (.slice none 0 0)
  have hbs := WW.size
  clear kXB zXB kXC zXC kXR zXR
  have qXR2 := XR.lt
  have XN := VB.mk (B := w.heap.size) (a := 1) b0 (.inr O7) bw hbs (by omega)
  have XO := VB.mk (B := w.heap.size) (a := 0) b1 (.inr (Own.nil _ _ _ _ (Nat.zero_le _))) bw hbs (by omega)
  replace XB := XB.below bw
  replace XC := XC.below bw
  replace XR := XR.below bw
  replace OE := OE.below bw (Nat.le_refl _)
  replace O7 := O7.below bw (Nat.le_refl _)
  replace WW := WW.trans (bw.mono WW.size)
  clear bw hbs b0 b1
  generalize hV : ((V1.alloc (.cells #[.slice D7 (nw 1) d7] 37)).alloc (.cells #[.slice none 0 0] 37)) = V2 at XB XC XR XN XO OE O7 WW ⊢
  clear hV
  have kXB := XB.cell
  have zXB := XB.lt
  have kXC := XC.cell
  have zXC := XC.lt
  have kXR := XR.cell
  have zXR := XR.lt
  have kXN := XN.cell
  have zXN := XN.lt
  have kXO := XO.cell
  have zXO := XO.lt
  have hbs : w.heap.size ≤ V2.heap.size := WW.size
  have hc := rsame31_any C' D7 p d7 m 1 V2 XC.num XN.num (by omega) (by omega)
  rw [G1.out] at hc
  refine hc.mono ?_
  clear hc
  rintro e V3 ⟨rfl, hb⟩
  clear kXB zXB kXC zXC kXR zXR kXN zXN kXO zXO
  replace XB := XB.below hb
  replace XC := XC.below hb
  replace XR := XR.below hb
  replace XN := XN.below hb
  replace XO := XO.below hb
  replace OE := OE.below hb (Nat.le_refl _)
  replace O7 := O7.below hb (Nat.le_refl _)
  replace WW := WW.trans (hb.mono WW.size)
  have fXR := XR.1.frozen 0
  have kXB := XB.cell
  have zXB := XB.lt
  have kXC := XC.cell
  have zXC := XC.lt
  have kXR := XR.cell
  have zXR := XR.lt
  have kXN := XN.cell
  have zXN := XN.lt
  have kXO := XO.cell
  have zXO := XO.lt
  clear hb hbs
  go_wp2_with fail
  have ho2 := OE.box (p := ⟨w.heap.size + 1 + 1, 0, none⟩) XR.1 (by decide) (.slice none 0 0)
  exact bodyPost_ret (v := .agg #[.slice none 0 0]) (by simp [results, Tryd.results73, go_sem, kXR, zXR]) rfl ⟨_, rfl, by rw [HF.out]; exact ⟨none, 0, rfl, ho2⟩, WW.setCell (by simp <;> omega) _⟩

set_option maxHeartbeats 8000000 in
theorem rmod_more (B' C' : Option Addr) (d p b m : Nat) (w : World) (hB : Num w w.heap.size B' (nw b) b) (hC : Num w w.heap.size C' (nw m) m) (hb : nw b ≤ 140) (hm : nw m ≤ 70) (h1 : ¬ m = 1) (h0 : 0 < m) :
    Calls Tryd.prog 73 #[.agg #[.slice B' (nw b) d], .agg #[.slice C' (nw m) p]] w (RetNat w.heap.size (b % m) w) := by
  have G1 : Hid (decide (m = 1) = false) := decide_eq_false h1
  have H1M : Hid (1 < m) := (show 1 < m by omega)
  have HM0 := hid h0
  clear h1 h0
  have hbl := bl_le_nw b
  have h01 : nw 1 ≤ 70 := by decide
  obtain ⟨b0, b1, b2, bw⟩ := boxes3 w (.slice B' (nw b) d) (.slice C' (nw m) p) (.slice none 0 0)
  have XB := VB.mk (B := w.heap.size) (a := b) b0 (.inl hB) bw (Nat.le_refl _) (by omega)
  have XC := VB.mk (B := w.heap.size) (a := m) b1 (.inl hC) bw (Nat.le_refl _) (by omega)
  have XR := VB.mk (B := w.heap.size) (a := 0) b2 (.inr (Own.nil _ _ _ _ (Nat.zero_le _))) bw (Nat.le_refl _) (by omega)
  have WW := bw
  clear bw b0 b1 b2
  go_enter Tryd.func73, Tryd.ntmps73
  go_wp2_with fail
  generalize hV : (((w.alloc (.cells #[.slice B' (nw b) d] 37)).alloc (.cells #[.slice C' (nw m) p] 37)).alloc (.cells #[.slice none 0 0] 37)) = V0 at XB XC XR WW ⊢
  clear hV
  have OO : Own V0 w.heap.size none 0 0 0 := Own.nil _ _ _ _ (Nat.zero_le _)
  have hbs : w.heap.size ≤ V0.heap.size := WW.size
  have hc := of3_1 V0
  refine hc.mono ?_
  clear hc
  rintro e V1 ⟨v, rfl, hv, hb⟩
  replace XB := XB.below hb
  replace XC := XC.below hb
  replace XR := XR.below hb
  replace OO := OO.below hb (Nat.le_refl _)
  replace WW := WW.trans (hb.mono WW.size)
  obtain ⟨D7, d7, rfl, ho⟩ := hv
  have O7 := ho.weak (b := w.heap.size) hbs
  clear ho
  have kXB := XB.cell
  have zXB := XB.lt
  have kXC := XC.cell
  have zXC := XC.lt
  have kXR := XR.cell
  have zXR := XR.lt
  clear hb hbs
  go_wp2_with fail
  obtain ⟨b0, b1, bw⟩ := boxes2 V1 (.slice D7 (nw 1) d7) (.slice none 0 0)
  have hbs := WW.size
  clear kXB zXB kXC zXC kXR zXR
  have qXR2 := XR.lt
  have XN := VB.mk (B := w.heap.size) (a := 1) b0 (.inr O7) bw hbs (by omega)
  have XO := VB.mk (B := w.heap.size) (a := 0) b1 (.inr (Own.nil _ _ _ _ (Nat.zero_le _))) bw hbs (by omega)
  replace XB := XB.below bw
  replace XC := XC.below bw
  replace XR := XR.below bw
  replace OO := OO.below bw (Nat.le_refl _)
  replace O7 := O7.below bw (Nat.le_refl _)
  replace WW := WW.trans (bw.mono WW.size)
  clear bw hbs b0 b1
  generalize hV : ((V1.alloc (.cells #[.slice D7 (nw 1) d7] 37)).alloc (.cells #[.slice none 0 0] 37)) = V2 at XB XC XR XN XO OO O7 WW ⊢
  clear hV
  have kXB := XB.cell
  have zXB := XB.lt
  have kXC := XC.cell
  have zXC := XC.lt
  have kXR := XR.cell
  have zXR := XR.lt
  have kXN := XN.cell
  have zXN := XN.lt
  have kXO := XO.cell
  have zXO := XO.lt
  have hbs : w.heap.size ≤ V2.heap.size := WW.size
  have hc := rsame31_any C' D7 p d7 m 1 V2 XC.num XN.num (by omega) (by omega)
  rw [G1.out] at hc
  refine hc.mono ?_
  clear hc
  rintro e V3 ⟨rfl, hb⟩
  clear kXB zXB kXC zXC kXR zXR kXN zXN kXO zXO
  replace XB := XB.below hb
  replace XC := XC.below hb
  replace XR := XR.below hb
  replace XN := XN.below hb
  replace XO := XO.below hb
  replace OO := OO.below hb (Nat.le_refl _)
  replace O7 := O7.below hb (Nat.le_refl _)
  replace WW := WW.trans (hb.mono WW.size)
  have kXB := XB.cell
  have zXB := XB.lt
  have kXC := XC.cell
  have zXC := XC.lt
  have kXR := XR.cell
  have zXR := XR.lt
  have kXN := XN.cell
  have zXN := XN.lt
  have kXO := XO.cell
  have zXO := XO.lt
  clear hb hbs
  go_wp2_with fail
  have hbs : w.heap.size ≤ V3.heap.size := WW.size
  have hc := rbits_any B' d b V3 XB.num (by omega)
  refine hc.mono ?_
  clear hc
  rintro e V4 ⟨rfl, hb⟩
  clear kXB zXB kXC zXC kXR zXR kXN zXN kXO zXO
  replace XB := XB.below hb
  replace XC := XC.below hb
  replace XR := XR.below hb
  replace XN := XN.below hb
  replace XO := XO.below hb
  replace OO := OO.below hb (Nat.le_refl _)
  replace O7 := O7.below hb (Nat.le_refl _)
  replace WW := WW.trans (hb.mono WW.size)
  have kXB := XB.cell
  have zXB := XB.lt
  have kXC := XC.cell
  have zXC := XC.lt
  have kXR := XR.cell
  have zXR := XR.lt
  have kXN := XN.cell
  have zXN := XN.lt
  have kXO := XO.cell
  have zXO := XO.lt
  clear hb hbs
  go_wp2_with fail
  go_loopw [7] (fun i wr => ∃ (k s : Nat) (z : Int) (O : Option Addr) (oc : Nat), k ≤ bl b ∧ i = .int .i64 z ∧ z + 1 = (k : Int) ∧ Hid (s = (b / 2 ^ k) % m) ∧ Below w.heap.size w wr ∧ VB w.heap.size wr (w.heap.size) B' (nw b) d b ∧ VB w.heap.size wr (w.heap.size + 1) C' (nw m) p m ∧ VB w.heap.size wr (w.heap.size + 1 + 1) none 0 0 0 ∧ VB w.heap.size wr (V1.heap.size) D7 (nw 1) d7 1 ∧ VB w.heap.size wr (V1.heap.size + 1) O (nw s) oc s ∧ Own wr w.heap.size O (nw s) oc s) (fun i wr => ((intOf i) + 1).toNat)
  case atStart => exact ⟨bl b, 0, ((bl b : Nat) : Int) - 1, none, 0, Nat.le_refl _, by go_num, by omega, (show 0 = (b / 2 ^ bl b) % m by rw [bits_top, Nat.zero_mod]), WW, XB, XC, XR, XN, XO, OO⟩
  case round =>
    clear WW kXB zXB kXC zXC kXR zXR kXN zXN kXO zXO XB XC XR XN XO OO O7
    obtain ⟨k, s, z, O, oc, hk, rfl, hz, HS, WW, XB, XC, XR, XN, XO, OO⟩ := hrel
    have kXB := XB.cell
    have zXB := XB.lt
    have kXC := XC.cell
    have zXC := XC.lt
    have kXR := XR.cell
    have zXR := XR.lt
    have kXN := XN.cell
    have zXN := XN.lt
    have kXO := XO.cell
    have zXO := XO.lt
    by_cases h0 : k = 0
    · subst h0
      have HF : Hid (b % m = s) := (show b % m = s by rw [HS.out, bits_all])
      obtain rfl : z = -1 := by omega
      have fXR := XR.1.frozen 0
      clear HS
      go_wp2_with fail
      have ho2 := OO.box (p := ⟨w.heap.size + 1 + 1, 0, none⟩) XR.1 (by decide) (.slice O (nw s) oc)
      exact bodyPost_ret (v := .agg #[.slice O (nw s) oc]) (by simp [results, Tryd.results73, go_sem, kXR, zXR]) rfl ⟨_, rfl, by rw [HF.out]; exact ⟨O, oc, rfl, ho2⟩, WW.setCell (by simp <;> omega) _⟩
    · obtain ⟨j, rfl⟩ : ∃ j, k = j + 1 := ⟨k - 1, by omega⟩
      obtain rfl : z = (j : Int) := by omega
      clear h0 hz
      have HSM : Hid (s < m) := (show s < m by rw [HS.out]; exact Nat.mod_lt _ HM0.out)
      have nws : nw s ≤ 70 := Nat.le_trans (nw_mono (Nat.le_of_lt HSM.out)) hm
      obtain ⟨s1, hs1⟩ : ∃ x, x = (s + s) % m := ⟨_, rfl⟩
      have H1 := hid hs1
      have l1 : (0 : Int) ≤ ((j : Nat) : Int) := by omega
      cases hbt : bitN b j
      · have HB := hid hbt
        have H2 : Hid (s1 = (b / 2 ^ j) % m) := (show s1 = (b / 2 ^ j) % m by rw [half_no hbt, hs1, HS.out]; exact (mod_even (b / 2 ^ (j + 1)) m).symm)
        have HSMs1 : Hid (s1 < m) := (show s1 < m by rw [hs1]; exact Nat.mod_lt _ HM0.out)
        have nws1 : nw s1 ≤ 70 := Nat.le_trans (nw_mono (Nat.le_of_lt HSMs1.out)) hm
        clear hbt hs1
        go_wp2_with fail
        have hbs : w.heap.size ≤ wr.heap.size := WW.size
        have hc := radd3_any O O C' oc oc p s s m wr XO.num XO.num XC.num nws nws hm HSM.out HSM.out
        rw [← H1.out] at hc
        refine hc.mono ?_
        clear hc
        rintro e V5 ⟨v, rfl, hv, hb⟩
        clear kXB zXB kXC zXC kXR zXR kXN zXN kXO zXO
        replace XB := XB.below hb
        replace XC := XC.below hb
        replace XR := XR.below hb
        replace XN := XN.below hb
        replace XO := XO.below hb
        replace OO := OO.below hb (Nat.le_refl _)
        replace WW := WW.trans (hb.mono WW.size)
        obtain ⟨D1, d1, rfl, ho⟩ := hv
        have O1 := ho.weak (b := w.heap.size) hbs
        clear ho
        have kXB := XB.cell
        have zXB := XB.lt
        have kXC := XC.cell
        have zXC := XC.lt
        have kXR := XR.cell
        have zXR := XR.lt
        have kXN := XN.cell
        have zXN := XN.lt
        have kXO := XO.cell
        have zXO := XO.lt
        clear hb hbs
        have fXO := XO.1.frozen 0
        have XBn := XB.far (p := ⟨V1.heap.size + 1, 0, none⟩) XO.1 XO.2.2 (by simp <;> omega) (.slice D1 (nw s1) d1)
        have XCn := XC.far (p := ⟨V1.heap.size + 1, 0, none⟩) XO.1 XO.2.2 (by simp <;> omega) (.slice D1 (nw s1) d1)
        have XRn := XR.far (p := ⟨V1.heap.size + 1, 0, none⟩) XO.1 XO.2.2 (by simp <;> omega) (.slice D1 (nw s1) d1)
        have XNn := XN.far (p := ⟨V1.heap.size + 1, 0, none⟩) XO.1 XO.2.2 (by simp <;> omega) (.slice D1 (nw s1) d1)
        have XOn := XO.set_ (A' := D1) (n' := (nw s1)) (c' := d1) (a' := s1) (.inr O1)
        have OOn := OO.box (p := ⟨V1.heap.size + 1, 0, none⟩) XO.1 (by decide) (.slice D1 (nw s1) d1)
        have O1n := O1.box (p := ⟨V1.heap.size + 1, 0, none⟩) XO.1 (by decide) (.slice D1 (nw s1) d1)
        have WWn := WW.setCell (p := ⟨V1.heap.size + 1, 0, none⟩) (by simp <;> omega) (.slice D1 (nw s1) d1)
        go_wp2_with fail
        clear kXB zXB kXC zXC kXR zXR kXN zXN kXO zXO fXO WW XB XC XR XN XO OO O1
        generalize hV : V5.setCell ⟨V1.heap.size + 1, 0, none⟩ (.slice D1 (nw s1) d1) = V6 at XBn XCn XRn XNn XOn OOn O1n WWn ⊢
        clear hV
        have XB := XBn
        have XC := XCn
        have XR := XRn
        have XN := XNn
        have XO := XOn
        have OO := OOn
        have O1 := O1n
        have WW := WWn
        clear XBn XCn XRn XNn XOn OOn O1n WWn
        have kXB := XB.cell
        have zXB := XB.lt
        have kXC := XC.cell
        have zXC := XC.lt
        have kXR := XR.cell
        have zXR := XR.lt
        have kXN := XN.cell
        have zXN := XN.lt
        have kXO := XO.cell
        have zXO := XO.lt
        try go_wp2_with fail
        have hbs : w.heap.size ≤ V6.heap.size := WW.size
        have hc := rbit_any B' d b j V6 XB.num (by omega) (by omega)
        rw [HB.out] at hc
        refine hc.mono ?_
        clear hc
        rintro e V7 ⟨rfl, hb⟩
        clear kXB zXB kXC zXC kXR zXR kXN zXN kXO zXO
        replace XB := XB.below hb
        replace XC := XC.below hb
        replace XR := XR.below hb
        replace XN := XN.below hb
        replace XO := XO.below hb
        replace OO := OO.below hb (Nat.le_refl _)
        replace O1 := O1.below hb (Nat.le_refl _)
        replace WW := WW.trans (hb.mono WW.size)
        have kXB := XB.cell
        have zXB := XB.lt
        have kXC := XC.cell
        have zXC := XC.lt
        have kXR := XR.cell
        have zXR := XR.lt
        have kXN := XN.cell
        have zXN := XN.lt
        have kXO := XO.cell
        have zXO := XO.lt
        clear hb hbs
        go_wp2_with fail
        go_roundw
        case rel => exact ⟨j, s1, ((j : Int) - 1), D1, d1, by omega, by go_num, by omega, H2.out, WW, XB, XC, XR, XN, XO, O1⟩
        case measure => simp [intOf] <;> omega
      · have HB := hid hbt
        obtain ⟨s2, hs2⟩ : ∃ x, x = (s1 + 1) % m := ⟨_, rfl⟩
        have H3 := hid hs2
        have H2 : Hid (s2 = (b / 2 ^ j) % m) := (show s2 = (b / 2 ^ j) % m by rw [half_yes hbt, hs2, hs1, HS.out]; exact (mod_odd (b / 2 ^ (j + 1)) m).symm)
        have HSMs1 : Hid (s1 < m) := (show s1 < m by rw [hs1]; exact Nat.mod_lt _ HM0.out)
        have nws1 : nw s1 ≤ 70 := Nat.le_trans (nw_mono (Nat.le_of_lt HSMs1.out)) hm
        have HSMs2 : Hid (s2 < m) := (show s2 < m by rw [hs2]; exact Nat.mod_lt _ HM0.out)
        have nws2 : nw s2 ≤ 70 := Nat.le_trans (nw_mono (Nat.le_of_lt HSMs2.out)) hm
        clear hbt hs1 hs2
        go_wp2_with fail
        have hbs : w.heap.size ≤ wr.heap.size := WW.size
        have hc := radd3_any O O C' oc oc p s s m wr XO.num XO.num XC.num nws nws hm HSM.out HSM.out
        rw [← H1.out] at hc
        refine hc.mono ?_
        clear hc
        rintro e V5 ⟨v, rfl, hv, hb⟩
        clear kXB zXB kXC zXC kXR zXR kXN zXN kXO zXO
        replace XB := XB.below hb
        replace XC := XC.below hb
        replace XR := XR.below hb
        replace XN := XN.below hb
        replace XO := XO.below hb
        replace OO := OO.below hb (Nat.le_refl _)
        replace WW := WW.trans (hb.mono WW.size)
        obtain ⟨D1, d1, rfl, ho⟩ := hv
        have O1 := ho.weak (b := w.heap.size) hbs
        clear ho
        have kXB := XB.cell
        have zXB := XB.lt
        have kXC := XC.cell
        have zXC := XC.lt
        have kXR := XR.cell
        have zXR := XR.lt
        have kXN := XN.cell
        have zXN := XN.lt
        have kXO := XO.cell
        have zXO := XO.lt
        clear hb hbs
        have fXO := XO.1.frozen 0
        have XBn := XB.far (p := ⟨V1.heap.size + 1, 0, none⟩) XO.1 XO.2.2 (by simp <;> omega) (.slice D1 (nw s1) d1)
        have XCn := XC.far (p := ⟨V1.heap.size + 1, 0, none⟩) XO.1 XO.2.2 (by simp <;> omega) (.slice D1 (nw s1) d1)
        have XRn := XR.far (p := ⟨V1.heap.size + 1, 0, none⟩) XO.1 XO.2.2 (by simp <;> omega) (.slice D1 (nw s1) d1)
        have XNn := XN.far (p := ⟨V1.heap.size + 1, 0, none⟩) XO.1 XO.2.2 (by simp <;> omega) (.slice D1 (nw s1) d1)
        have XOn := XO.set_ (A' := D1) (n' := (nw s1)) (c' := d1) (a' := s1) (.inr O1)
        have OOn := OO.box (p := ⟨V1.heap.size + 1, 0, none⟩) XO.1 (by decide) (.slice D1 (nw s1) d1)
        have O1n := O1.box (p := ⟨V1.heap.size + 1, 0, none⟩) XO.1 (by decide) (.slice D1 (nw s1) d1)
        have WWn := WW.setCell (p := ⟨V1.heap.size + 1, 0, none⟩) (by simp <;> omega) (.slice D1 (nw s1) d1)
        go_wp2_with fail
        clear kXB zXB kXC zXC kXR zXR kXN zXN kXO zXO fXO WW XB XC XR XN XO OO O1
        generalize hV : V5.setCell ⟨V1.heap.size + 1, 0, none⟩ (.slice D1 (nw s1) d1) = V6 at XBn XCn XRn XNn XOn OOn O1n WWn ⊢
        clear hV
        have XB := XBn
        have XC := XCn
        have XR := XRn
        have XN := XNn
        have XO := XOn
        have OO := OOn
        have O1 := O1n
        have WW := WWn
        clear XBn XCn XRn XNn XOn OOn O1n WWn
        have kXB := XB.cell
        have zXB := XB.lt
        have kXC := XC.cell
        have zXC := XC.lt
        have kXR := XR.cell
        have zXR := XR.lt
        have kXN := XN.cell
        have zXN := XN.lt
        have kXO := XO.cell
        have zXO := XO.lt
        try go_wp2_with fail
        have hbs : w.heap.size ≤ V6.heap.size := WW.size
        have hc := rbit_any B' d b j V6 XB.num (by omega) (by omega)
        rw [HB.out] at hc
        refine hc.mono ?_
        clear hc
        rintro e V7 ⟨rfl, hb⟩
        clear kXB zXB kXC zXC kXR zXR kXN zXN kXO zXO
        replace XB := XB.below hb
        replace XC := XC.below hb
        replace XR := XR.below hb
        replace XN := XN.below hb
        replace XO := XO.below hb
        replace OO := OO.below hb (Nat.le_refl _)
        replace O1 := O1.below hb (Nat.le_refl _)
        replace WW := WW.trans (hb.mono WW.size)
        have kXB := XB.cell
        have zXB := XB.lt
        have kXC := XC.cell
        have zXC := XC.lt
        have kXR := XR.cell
        have zXR := XR.lt
        have kXN := XN.cell
        have zXN := XN.lt
        have kXO := XO.cell
        have zXO := XO.lt
        clear hb hbs
        go_wp2_with fail
        have hbs : w.heap.size ≤ V7.heap.size := WW.size
        have hc := radd3_any D1 D7 C' d1 d7 p s1 1 m V7 XO.num XN.num XC.num nws1 h01 hm HSMs1.out H1M.out
        rw [← H3.out] at hc
        refine hc.mono ?_
        clear hc
        rintro e V8 ⟨v, rfl, hv, hb⟩
        clear kXB zXB kXC zXC kXR zXR kXN zXN kXO zXO
        replace XB := XB.below hb
        replace XC := XC.below hb
        replace XR := XR.below hb
        replace XN := XN.below hb
        replace XO := XO.below hb
        replace OO := OO.below hb (Nat.le_refl _)
        replace O1 := O1.below hb (Nat.le_refl _)
        replace WW := WW.trans (hb.mono WW.size)
        obtain ⟨D2, d2, rfl, ho⟩ := hv
        have O2 := ho.weak (b := w.heap.size) hbs
        clear ho
        have kXB := XB.cell
        have zXB := XB.lt
        have kXC := XC.cell
        have zXC := XC.lt
        have kXR := XR.cell
        have zXR := XR.lt
        have kXN := XN.cell
        have zXN := XN.lt
        have kXO := XO.cell
        have zXO := XO.lt
        clear hb hbs
        have fXO := XO.1.frozen 0
        have XBn := XB.far (p := ⟨V1.heap.size + 1, 0, none⟩) XO.1 XO.2.2 (by simp <;> omega) (.slice D2 (nw s2) d2)
        have XCn := XC.far (p := ⟨V1.heap.size + 1, 0, none⟩) XO.1 XO.2.2 (by simp <;> omega) (.slice D2 (nw s2) d2)
        have XRn := XR.far (p := ⟨V1.heap.size + 1, 0, none⟩) XO.1 XO.2.2 (by simp <;> omega) (.slice D2 (nw s2) d2)
        have XNn := XN.far (p := ⟨V1.heap.size + 1, 0, none⟩) XO.1 XO.2.2 (by simp <;> omega) (.slice D2 (nw s2) d2)
        have XOn := XO.set_ (A' := D2) (n' := (nw s2)) (c' := d2) (a' := s2) (.inr O2)
        have OOn := OO.box (p := ⟨V1.heap.size + 1, 0, none⟩) XO.1 (by decide) (.slice D2 (nw s2) d2)
        have O1n := O1.box (p := ⟨V1.heap.size + 1, 0, none⟩) XO.1 (by decide) (.slice D2 (nw s2) d2)
        have O2n := O2.box (p := ⟨V1.heap.size + 1, 0, none⟩) XO.1 (by decide) (.slice D2 (nw s2) d2)
        have WWn := WW.setCell (p := ⟨V1.heap.size + 1, 0, none⟩) (by simp <;> omega) (.slice D2 (nw s2) d2)
        go_wp2_with fail
        clear kXB zXB kXC zXC kXR zXR kXN zXN kXO zXO fXO WW XB XC XR XN XO OO O1 O2
        generalize hV : V8.setCell ⟨V1.heap.size + 1, 0, none⟩ (.slice D2 (nw s2) d2) = V9 at XBn XCn XRn XNn XOn OOn O1n O2n WWn ⊢
        clear hV
        have XB := XBn
        have XC := XCn
        have XR := XRn
        have XN := XNn
        have XO := XOn
        have OO := OOn
        have O1 := O1n
        have O2 := O2n
        have WW := WWn
        clear XBn XCn XRn XNn XOn OOn O1n O2n WWn
        have kXB := XB.cell
        have zXB := XB.lt
        have kXC := XC.cell
        have zXC := XC.lt
        have kXR := XR.cell
        have zXR := XR.lt
        have kXN := XN.cell
        have zXN := XN.lt
        have kXO := XO.cell
        have zXO := XO.lt
        try go_wp2_with fail
        go_roundw
        case rel => exact ⟨j, s2, ((j : Int) - 1), D2, d2, by omega, by go_num, by omega, H2.out, WW, XB, XC, XR, XN, XO, O2⟩
        case measure => simp [intOf] <;> omega

theorem rmod3_any (B' C' : Option Addr) (d p b m : Nat) (w : World) (hB : Num w w.heap.size B' (nw b) b) (hC : Num w w.heap.size C' (nw m) m) (hb : nw b ≤ 140) (hm : nw m ≤ 70) (h0 : 0 < m) :
    Calls Tryd.prog 73 #[.agg #[.slice B' (nw b) d], .agg #[.slice C' (nw m) p]] w (RetNat w.heap.size (b % m) w) := by
  by_cases h1 : m = 1
  · exact rmod_one B' C' d p b m w hB hC hb hm h1
  · exact rmod_more B' C' d p b m w hB hC hb hm h1 h0

end Go.Proofs.YtomkmkjkeihodaaDoor

namespace Go.Proofs.YtomkmkjkeihodaaDoor
open Go.RowKit

def oq24_1_0 : Oper := { dst := some 9, op := Op.call { callee := Callee.value (Operand.func 74), args := #[Operand.const (Value.int IntKind.u64 1)], argTypes := #[76] }, type := 37, pos := "ref.go:138", after := #[], guard := none }
def oq24_1_1 : Oper := { dst := some 10, op := Op.load 37 (Operand.tmp 5), type := 37, pos := "ref.go:138", after := #[], guard := none }
def oq24_1_2 : Oper := { dst := some 11, op := Op.call { callee := Callee.value (Operand.func 73), args := #[Operand.tmp 9, Operand.tmp 10], argTypes := #[37, 37] }, type := 37, pos := "ref.go:138", after := #[{ on := 0, ground := Ground.data }, { on := 1, ground := Ground.data }, { on := 0, ground := Ground.chain }], guard := none }
def oq24_1_3 : Oper := { dst := some 7, op := Op.alloc 37, type := 0, pos := "ref.go:138", after := #[], guard := none }
def oq24_1_4 : Oper := { dst := none, op := Op.store 37 (Operand.tmp 7) (Operand.tmp 11), type := 0, pos := "ref.go:138", after := #[{ on := 3, ground := Ground.data }, { on := 2, ground := Ground.data }, { on := 2, ground := Ground.chain }, { on := 0, ground := Ground.phase }, { on := 1, ground := Ground.phase }, { on := 2, ground := Ground.phase }, { on := 3, ground := Ground.phase }], guard := none }
theorem wp_landP {P : Program} {c : Code} {Q : Exit → Act → World → Prop} {a : Act} {w : World} {F : Nat → Option Addr → Nat → Option Addr → Nat → Act} (R : Nat → Option Addr → Nat → Option Addr → Nat → World → Prop)
    (hreg : c.wp P (fun e a1 w1 => e = Exit.normal ∧ ∃ x0 x1 x2 x3 x4, a1 = F x0 x1 x2 x3 x4 ∧ R x0 x1 x2 x3 x4 w1) a w) (himp : ∀ x0 x1 x2 x3 x4 w1, R x0 x1 x2 x3 x4 w1 → Q Exit.normal (F x0 x1 x2 x3 x4) w1) : c.wp P Q a w :=
  Code.wp_mono (fun e a1 w1 h => by obtain ⟨rfl, x0, x1, x2, x3, x4, rfl, hR⟩ := h; exact himp _ _ _ _ _ w1 hR) hreg
set_option maxHeartbeats 8000000 in
theorem rpow3_any (A B' C' : Option Addr) (c d p a b m : Nat) (w : World) (hA : Num w w.heap.size A (nw a) a) (hB : Num w w.heap.size B' (nw b) b) (hC : Num w w.heap.size C' (nw m) m) (ha : nw a ≤ 70) (hb : nw b ≤ 70) (hm : nw m ≤ 70) (h1 : a < m) :
    Calls Tryd.prog 56 #[.agg #[.slice A (nw a) c], .agg #[.slice B' (nw b) d], .agg #[.slice C' (nw m) p]] w (RetNat w.heap.size (a ^ b % m) w) := by
  have HAM := hid h1
  have hm0 : 0 < m := by omega
  have HM0 := hid hm0
  clear h1
  have hbl := bl_le_nw b
  have h01 : nw 1 ≤ 140 := by decide
  obtain ⟨t, ht⟩ : ∃ t, t = 1 % m := ⟨_, rfl⟩
  have HT := hid ht
  clear ht
  obtain ⟨b0, b1, b2, b3, bw⟩ := boxes4 w (.slice A (nw a) c) (.slice B' (nw b) d) (.slice C' (nw m) p) (.slice none 0 0)
  have XA := VB.mk (B := w.heap.size) (a := a) b0 (.inl hA) bw (Nat.le_refl _) (by omega)
  have XB := VB.mk (B := w.heap.size) (a := b) b1 (.inl hB) bw (Nat.le_refl _) (by omega)
  have XC := VB.mk (B := w.heap.size) (a := m) b2 (.inl hC) bw (Nat.le_refl _) (by omega)
  have XR := VB.mk (B := w.heap.size) (a := 0) b3 (.inr (Own.nil _ _ _ _ (Nat.zero_le _))) bw (Nat.le_refl _) (by omega)
  have WW := bw
  clear bw b0 b1 b2 b3
  go_enter Tryd.func56, Tryd.ntmps56
  go_wp2_with fail
  generalize hV : ((((w.alloc (.cells #[.slice A (nw a) c] 37)).alloc (.cells #[.slice B' (nw b) d] 37)).alloc (.cells #[.slice C' (nw m) p] 37)).alloc (.cells #[.slice none 0 0] 37)) = V0 at XA XB XC XR WW ⊢
  clear hV
  apply wp_landP (R := fun gXO D7 d7 D8 d8 w1 => Below w.heap.size w w1 ∧ VB w.heap.size w1 (w.heap.size) A (nw a) c a ∧ VB w.heap.size w1 (w.heap.size + 1) B' (nw b) d b ∧ VB w.heap.size w1 (w.heap.size + 1 + 1) C' (nw m) p m ∧ VB w.heap.size w1 (w.heap.size + 1 + 1 + 1) none 0 0 0 ∧ VB w.heap.size w1 (gXO) D8 (nw t) d8 t ∧ Own w1 w.heap.size D7 (nw 1) d7 1 ∧ Own w1 w.heap.size D8 (nw t) d8 t ∧ w.heap.size + 1 + 1 + 1 < gXO)
  case hreg =>
    refine wp_region_noPanic ?_
    have WWd := WW.drew
    have XAd := XA.drew
    have XBd := XB.drew
    have XCd := XC.drew
    have XRd := XR.drew
    have hst : (fun w' => w'.cell? ⟨w.heap.size + 1 + 1, 0, none⟩ = some (.slice C' (nw m) p)) V0.drew := XC.cell
    have qq0 := XRd.lt
    refine region_L 12 (fun w' => w'.cell? ⟨w.heap.size + 1 + 1, 0, none⟩ = some (.slice C' (nw m) p)) (by kernel_rfl) hst (fun hHeld => ?_)
    clear hst
    refine AnyL_name (fun W' => Below w.heap.size w W' ∧ VB w.heap.size W' (w.heap.size) A (nw a) c a ∧ VB w.heap.size W' (w.heap.size + 1) B' (nw b) d b ∧ VB w.heap.size W' (w.heap.size + 1 + 1) C' (nw m) p m ∧ VB w.heap.size W' (w.heap.size + 1 + 1 + 1) none 0 0 0 ∧ V0.drew.heap.size ≤ W'.heap.size ∧ (fun w' => w'.cell? ⟨w.heap.size + 1 + 1, 0, none⟩ = some (.slice C' (nw m) p)) W') ⟨WWd, XAd, XBd, XCd, XRd, Nat.le_refl _, hHeld⟩ ?_
    clear hHeld WWd XAd XBd XCd XRd
    rintro U0x0 ⟨WW, XA, XB, XC, XR, sz0, hHeld⟩
    refine AnyL_take (i := 1) (oi := oq24_1_1) (v := ?_) rfl (by kernel_rfl) (by kernel_rfl) (by kernel_rfl) (by kernel_rfl) (fun _ _ _ h => h) (Or.inl ⟨by rfl, ?_⟩) (by assumption) ?_
    rotate_left
    · (delta oq24_1_1; intro ws hSw; (try dsimp only at hSw); (try go_simp); (try with_reducible rfl))
    (try simp only [oq24_1_1, Act.put, List.setIfInBounds_toArray, List.set_cons_zero, List.set_cons_succ])
    refine AnyL_ready (rs := [0, 3]) (by kernel_rfl) (by simp) ?_
    refine ReadyL.cons (o := oq24_1_0) rfl (fun K hK => ?_) ?_
    · delta oq24_1_0
      go_simp
      have hbs : w.heap.size ≤ U0x0.heap.size := WW.size
      have hc := of3_1 U0x0
      refine hc.mono ?_
      clear hc
      rintro e V2 ⟨v, rfl, hv, hb⟩
      replace XA := XA.below hb
      replace XB := XB.below hb
      replace XC := XC.below hb
      replace XR := XR.below hb
      replace WW := WW.trans (hb.mono WW.size)
      have sz2 := hb.size
      obtain ⟨D7, d7, rfl, ho⟩ := hv
      have O7 := ho.weak (b := w.heap.size) hbs
      clear ho
      clear hb hbs
      refine hK.out _ _ (XC.cell) (fun hHeld2 => ?_)
      clear hK K hHeld
      have hHeld := hHeld2
      clear hHeld2
      (try simp only [oq24_1_0, Act.put, List.setIfInBounds_toArray, List.set_cons_zero, List.set_cons_succ])
      refine AnyL_ready (rs := [2, 3]) (by kernel_rfl) (by simp) ?_
      refine ReadyL.cons (o := oq24_1_2) rfl (fun K hK => ?_) ?_
      · delta oq24_1_2
        go_simp
        have hbs : w.heap.size ≤ V2.heap.size := WW.size
        have hc := rmod3_any D7 C' d7 p 1 m V2 O7.num XC.num h01 hm HM0.out
        rw [← HT.out] at hc
        refine hc.mono ?_
        clear hc
        rintro e V3 ⟨v, rfl, hv, hb⟩
        replace XA := XA.below hb
        replace XB := XB.below hb
        replace XC := XC.below hb
        replace XR := XR.below hb
        replace O7 := O7.below hb (Nat.le_refl _)
        replace WW := WW.trans (hb.mono WW.size)
        have sz3 := hb.size
        obtain ⟨D8, d8, rfl, ho⟩ := hv
        have O8 := ho.weak (b := w.heap.size) hbs
        clear ho
        clear hb hbs
        refine hK.out _ _ (XC.cell) (fun hHeld2 => ?_)
        clear hK K hHeld
        have hHeld := hHeld2
        clear hHeld2
        (try simp only [oq24_1_2, Act.put, List.setIfInBounds_toArray, List.set_cons_zero, List.set_cons_succ])
        refine AnyL_ready (rs := [3]) (by kernel_rfl) (by simp) ?_
        refine ReadyL.cons (o := oq24_1_3) rfl (fun K hK => ?_) ReadyL.nil
        delta oq24_1_3
        have lqXR : w.heap.size + 1 + 1 + 1 < V3.heap.size := XR.lt
        go_simp
        have ba := (Below.refl V3.heap.size V3).alloc (Nat.le_refl _) (.cells #[.slice none 0 0] 37)
        have XAn := XA.below ba
        have XBn := XB.below ba
        have XCn := XC.below ba
        have XRn := XR.below ba
        have O7n := O7.below ba (Nat.le_refl _)
        have O8n := O8.below ba (Nat.le_refl _)
        have bn := Blk.new V3 37 #[.slice none 0 0]
        have XOn := VB.mk (B := w.heap.size) (a := 0) bn (.inr (Own.nil _ _ _ _ (Nat.zero_le _))) ba WW.size WW.size
        have WWn := WW.trans (ba.mono WW.size)
        have sn : V3.heap.size < (V3.alloc (.cells #[.slice none 0 0] 37)).heap.size := bn.lt
        refine hK.out _ _ (XCn.cell) (fun hHeld2 => ?_)
        clear hK K hHeld
        (try simp only [oq24_1_3, Act.put, List.setIfInBounds_toArray, List.set_cons_zero, List.set_cons_succ])
        refine AnyL_name (fun W' => Below w.heap.size w W' ∧ VB w.heap.size W' (w.heap.size) A (nw a) c a ∧ VB w.heap.size W' (w.heap.size + 1) B' (nw b) d b ∧ VB w.heap.size W' (w.heap.size + 1 + 1) C' (nw m) p m ∧ VB w.heap.size W' (w.heap.size + 1 + 1 + 1) none 0 0 0 ∧ VB w.heap.size W' (V3.heap.size) none 0 0 0 ∧ Own W' w.heap.size D7 (nw 1) d7 1 ∧ Own W' w.heap.size D8 (nw t) d8 t ∧ V3.heap.size < W'.heap.size ∧ (fun w' => w'.cell? ⟨w.heap.size + 1 + 1, 0, none⟩ = some (.slice C' (nw m) p)) W') ⟨WWn, XAn, XBn, XCn, XRn, XOn, O7n, O8n, sn, hHeld2⟩ ?_
        clear hHeld2 sn ba bn WWn XAn XBn XCn XRn XOn O7n O8n WW XA XB XC XR O7 O8
        rintro V4 ⟨WW, XA, XB, XC, XR, XO, O7, O8, sz4, hHeld⟩
        obtain ⟨gXO, hg⟩ : ∃ x, x = V3.heap.size := ⟨_, rfl⟩
        have mXOXR : w.heap.size + 1 + 1 + 1 < gXO := by omega
        rw [← hg] at XO sz4 ⊢
        clear hg lqXR
        refine AnyL_ready (rs := [4]) (by kernel_rfl) (by simp) ?_
        refine ReadyL.cons (o := oq24_1_4) rfl (fun K hK => ?_) ReadyL.nil
        delta oq24_1_4
        have fz := XO.1.frozen 0
        have cz := XO.cell
        have lz := XO.lt
        go_simp
        have XAn := XA.far (p := ⟨gXO, 0, none⟩) XO.1 XO.2.2 (by simp <;> omega) (.slice D8 (nw t) d8)
        have XBn := XB.far (p := ⟨gXO, 0, none⟩) XO.1 XO.2.2 (by simp <;> omega) (.slice D8 (nw t) d8)
        have XCn := XC.far (p := ⟨gXO, 0, none⟩) XO.1 XO.2.2 (by simp <;> omega) (.slice D8 (nw t) d8)
        have XRn := XR.far (p := ⟨gXO, 0, none⟩) XO.1 XO.2.2 (by simp <;> omega) (.slice D8 (nw t) d8)
        have XOn := XO.set_ (A' := D8) (n' := (nw t)) (c' := d8) (a' := t) (.inr O8)
        have O7n := O7.box (p := ⟨gXO, 0, none⟩) XO.1 (by decide) (.slice D8 (nw t) d8)
        have O8n := O8.box (p := ⟨gXO, 0, none⟩) XO.1 (by decide) (.slice D8 (nw t) d8)
        have WWn := WW.setCell (p := ⟨gXO, 0, none⟩) (by simp <;> omega) (.slice D8 (nw t) d8)
        refine hK.out _ _ (XCn.cell) (fun hHeld2 => ?_)
        clear hK K hHeld
        (try simp only [oq24_1_4, Act.put, List.setIfInBounds_toArray, List.set_cons_zero, List.set_cons_succ])
        refine AnyL_name (fun W' => Below w.heap.size w W' ∧ VB w.heap.size W' (w.heap.size) A (nw a) c a ∧ VB w.heap.size W' (w.heap.size + 1) B' (nw b) d b ∧ VB w.heap.size W' (w.heap.size + 1 + 1) C' (nw m) p m ∧ VB w.heap.size W' (w.heap.size + 1 + 1 + 1) none 0 0 0 ∧ VB w.heap.size W' (gXO) D8 (nw t) d8 t ∧ Own W' w.heap.size D7 (nw 1) d7 1 ∧ Own W' w.heap.size D8 (nw t) d8 t ∧ (fun w' => w'.cell? ⟨w.heap.size + 1 + 1, 0, none⟩ = some (.slice C' (nw m) p)) W') ⟨WWn, XAn, XBn, XCn, XRn, XOn, O7n, O8n, hHeld2⟩ ?_
        clear fz cz lz hHeld2 WWn XAn XBn XCn XRn XOn O7n O8n WW XA XB XC XR XO O7 O8
        rintro V5 ⟨WW, XA, XB, XC, XR, XO, O7, O8, hHeld⟩
        refine AnyL_done (by kernel_rfl) ?_ _
        clear hHeld
        refine NoPanic.normal ?_
        exact ⟨rfl, gXO, D7, d7, D8, d8, rfl, WW, XA, XB, XC, XR, XO, O7, O8, (by first | exact mXOXR | omega)⟩
      refine ReadyL.cons (o := oq24_1_3) rfl (fun K hK => ?_) ReadyL.nil
      · delta oq24_1_3
        have lqXR : w.heap.size + 1 + 1 + 1 < V2.heap.size := XR.lt
        go_simp
        have ba := (Below.refl V2.heap.size V2).alloc (Nat.le_refl _) (.cells #[.slice none 0 0] 37)
        have XAn := XA.below ba
        have XBn := XB.below ba
        have XCn := XC.below ba
        have XRn := XR.below ba
        have O7n := O7.below ba (Nat.le_refl _)
        have bn := Blk.new V2 37 #[.slice none 0 0]
        have XOn := VB.mk (B := w.heap.size) (a := 0) bn (.inr (Own.nil _ _ _ _ (Nat.zero_le _))) ba WW.size WW.size
        have WWn := WW.trans (ba.mono WW.size)
        have sn : V2.heap.size < (V2.alloc (.cells #[.slice none 0 0] 37)).heap.size := bn.lt
        refine hK.out _ _ (XCn.cell) (fun hHeld2 => ?_)
        clear hK K hHeld
        (try simp only [oq24_1_3, Act.put, List.setIfInBounds_toArray, List.set_cons_zero, List.set_cons_succ])
        refine AnyL_name (fun W' => Below w.heap.size w W' ∧ VB w.heap.size W' (w.heap.size) A (nw a) c a ∧ VB w.heap.size W' (w.heap.size + 1) B' (nw b) d b ∧ VB w.heap.size W' (w.heap.size + 1 + 1) C' (nw m) p m ∧ VB w.heap.size W' (w.heap.size + 1 + 1 + 1) none 0 0 0 ∧ VB w.heap.size W' (V2.heap.size) none 0 0 0 ∧ Own W' w.heap.size D7 (nw 1) d7 1 ∧ V2.heap.size < W'.heap.size ∧ (fun w' => w'.cell? ⟨w.heap.size + 1 + 1, 0, none⟩ = some (.slice C' (nw m) p)) W') ⟨WWn, XAn, XBn, XCn, XRn, XOn, O7n, sn, hHeld2⟩ ?_
        clear hHeld2 sn ba bn WWn XAn XBn XCn XRn XOn O7n WW XA XB XC XR O7
        rintro V3 ⟨WW, XA, XB, XC, XR, XO, O7, sz3, hHeld⟩
        obtain ⟨gXO, hg⟩ : ∃ x, x = V2.heap.size := ⟨_, rfl⟩
        have mXOXR : w.heap.size + 1 + 1 + 1 < gXO := by omega
        rw [← hg] at XO sz3 ⊢
        clear hg lqXR
        refine AnyL_ready (rs := [2]) (by kernel_rfl) (by simp) ?_
        refine ReadyL.cons (o := oq24_1_2) rfl (fun K hK => ?_) ReadyL.nil
        delta oq24_1_2
        go_simp
        have hbs : w.heap.size ≤ V3.heap.size := WW.size
        have hc := rmod3_any D7 C' d7 p 1 m V3 O7.num XC.num h01 hm HM0.out
        rw [← HT.out] at hc
        refine hc.mono ?_
        clear hc
        rintro e V4 ⟨v, rfl, hv, hb⟩
        replace XA := XA.below hb
        replace XB := XB.below hb
        replace XC := XC.below hb
        replace XR := XR.below hb
        replace XO := XO.below hb
        replace O7 := O7.below hb (Nat.le_refl _)
        replace WW := WW.trans (hb.mono WW.size)
        have sz4 := hb.size
        obtain ⟨D8, d8, rfl, ho⟩ := hv
        have O8 := ho.weak (b := w.heap.size) hbs
        clear ho
        clear hb hbs
        refine hK.out _ _ (XC.cell) (fun hHeld2 => ?_)
        clear hK K hHeld
        have hHeld := hHeld2
        clear hHeld2
        (try simp only [oq24_1_2, Act.put, List.setIfInBounds_toArray, List.set_cons_zero, List.set_cons_succ])
        refine AnyL_ready (rs := [4]) (by kernel_rfl) (by simp) ?_
        refine ReadyL.cons (o := oq24_1_4) rfl (fun K hK => ?_) ReadyL.nil
        delta oq24_1_4
        have fz := XO.1.frozen 0
        have cz := XO.cell
        have lz := XO.lt
        go_simp
        have XAn := XA.far (p := ⟨gXO, 0, none⟩) XO.1 XO.2.2 (by simp <;> omega) (.slice D8 (nw t) d8)
        have XBn := XB.far (p := ⟨gXO, 0, none⟩) XO.1 XO.2.2 (by simp <;> omega) (.slice D8 (nw t) d8)
        have XCn := XC.far (p := ⟨gXO, 0, none⟩) XO.1 XO.2.2 (by simp <;> omega) (.slice D8 (nw t) d8)
        have XRn := XR.far (p := ⟨gXO, 0, none⟩) XO.1 XO.2.2 (by simp <;> omega) (.slice D8 (nw t) d8)
        have XOn := XO.set_ (A' := D8) (n' := (nw t)) (c' := d8) (a' := t) (.inr O8)
        have O7n := O7.box (p := ⟨gXO, 0, none⟩) XO.1 (by decide) (.slice D8 (nw t) d8)
        have O8n := O8.box (p := ⟨gXO, 0, none⟩) XO.1 (by decide) (.slice D8 (nw t) d8)
        have WWn := WW.setCell (p := ⟨gXO, 0, none⟩) (by simp <;> omega) (.slice D8 (nw t) d8)
        refine hK.out _ _ (XCn.cell) (fun hHeld2 => ?_)
        clear hK K hHeld
        (try simp only [oq24_1_4, Act.put, List.setIfInBounds_toArray, List.set_cons_zero, List.set_cons_succ])
        refine AnyL_name (fun W' => Below w.heap.size w W' ∧ VB w.heap.size W' (w.heap.size) A (nw a) c a ∧ VB w.heap.size W' (w.heap.size + 1) B' (nw b) d b ∧ VB w.heap.size W' (w.heap.size + 1 + 1) C' (nw m) p m ∧ VB w.heap.size W' (w.heap.size + 1 + 1 + 1) none 0 0 0 ∧ VB w.heap.size W' (gXO) D8 (nw t) d8 t ∧ Own W' w.heap.size D7 (nw 1) d7 1 ∧ Own W' w.heap.size D8 (nw t) d8 t ∧ (fun w' => w'.cell? ⟨w.heap.size + 1 + 1, 0, none⟩ = some (.slice C' (nw m) p)) W') ⟨WWn, XAn, XBn, XCn, XRn, XOn, O7n, O8n, hHeld2⟩ ?_
        clear fz cz lz hHeld2 WWn XAn XBn XCn XRn XOn O7n O8n WW XA XB XC XR XO O7 O8
        rintro V5 ⟨WW, XA, XB, XC, XR, XO, O7, O8, hHeld⟩
        refine AnyL_done (by kernel_rfl) ?_ _
        clear hHeld
        refine NoPanic.normal ?_
        exact ⟨rfl, gXO, D7, d7, D8, d8, rfl, WW, XA, XB, XC, XR, XO, O7, O8, (by first | exact mXOXR | omega)⟩
    refine ReadyL.cons (o := oq24_1_3) rfl (fun K hK => ?_) ReadyL.nil
    · delta oq24_1_3
      have lqXR : w.heap.size + 1 + 1 + 1 < U0x0.heap.size := XR.lt
      go_simp
      have ba := (Below.refl U0x0.heap.size U0x0).alloc (Nat.le_refl _) (.cells #[.slice none 0 0] 37)
      have XAn := XA.below ba
      have XBn := XB.below ba
      have XCn := XC.below ba
      have XRn := XR.below ba
      have bn := Blk.new U0x0 37 #[.slice none 0 0]
      have XOn := VB.mk (B := w.heap.size) (a := 0) bn (.inr (Own.nil _ _ _ _ (Nat.zero_le _))) ba WW.size WW.size
      have WWn := WW.trans (ba.mono WW.size)
      have sn : U0x0.heap.size < (U0x0.alloc (.cells #[.slice none 0 0] 37)).heap.size := bn.lt
      refine hK.out _ _ (XCn.cell) (fun hHeld2 => ?_)
      clear hK K hHeld
      (try simp only [oq24_1_3, Act.put, List.setIfInBounds_toArray, List.set_cons_zero, List.set_cons_succ])
      refine AnyL_name (fun W' => Below w.heap.size w W' ∧ VB w.heap.size W' (w.heap.size) A (nw a) c a ∧ VB w.heap.size W' (w.heap.size + 1) B' (nw b) d b ∧ VB w.heap.size W' (w.heap.size + 1 + 1) C' (nw m) p m ∧ VB w.heap.size W' (w.heap.size + 1 + 1 + 1) none 0 0 0 ∧ VB w.heap.size W' (U0x0.heap.size) none 0 0 0 ∧ U0x0.heap.size < W'.heap.size ∧ (fun w' => w'.cell? ⟨w.heap.size + 1 + 1, 0, none⟩ = some (.slice C' (nw m) p)) W') ⟨WWn, XAn, XBn, XCn, XRn, XOn, sn, hHeld2⟩ ?_
      clear hHeld2 sn ba bn WWn XAn XBn XCn XRn XOn WW XA XB XC XR
      rintro V2 ⟨WW, XA, XB, XC, XR, XO, sz2, hHeld⟩
      obtain ⟨gXO, hg⟩ : ∃ x, x = U0x0.heap.size := ⟨_, rfl⟩
      have mXOXR : w.heap.size + 1 + 1 + 1 < gXO := by omega
      rw [← hg] at XO sz2 ⊢
      clear hg lqXR
      refine AnyL_ready (rs := [0]) (by kernel_rfl) (by simp) ?_
      refine ReadyL.cons (o := oq24_1_0) rfl (fun K hK => ?_) ReadyL.nil
      delta oq24_1_0
      go_simp
      have hbs : w.heap.size ≤ V2.heap.size := WW.size
      have hc := of3_1 V2
      refine hc.mono ?_
      clear hc
      rintro e V3 ⟨v, rfl, hv, hb⟩
      replace XA := XA.below hb
      replace XB := XB.below hb
      replace XC := XC.below hb
      replace XR := XR.below hb
      replace XO := XO.below hb
      replace WW := WW.trans (hb.mono WW.size)
      have sz3 := hb.size
      obtain ⟨D7, d7, rfl, ho⟩ := hv
      have O7 := ho.weak (b := w.heap.size) hbs
      clear ho
      clear hb hbs
      refine hK.out _ _ (XC.cell) (fun hHeld2 => ?_)
      clear hK K hHeld
      have hHeld := hHeld2
      clear hHeld2
      (try simp only [oq24_1_0, Act.put, List.setIfInBounds_toArray, List.set_cons_zero, List.set_cons_succ])
      refine AnyL_ready (rs := [2]) (by kernel_rfl) (by simp) ?_
      refine ReadyL.cons (o := oq24_1_2) rfl (fun K hK => ?_) ReadyL.nil
      delta oq24_1_2
      go_simp
      have hbs : w.heap.size ≤ V3.heap.size := WW.size
      have hc := rmod3_any D7 C' d7 p 1 m V3 O7.num XC.num h01 hm HM0.out
      rw [← HT.out] at hc
      refine hc.mono ?_
      clear hc
      rintro e V4 ⟨v, rfl, hv, hb⟩
      replace XA := XA.below hb
      replace XB := XB.below hb
      replace XC := XC.below hb
      replace XR := XR.below hb
      replace XO := XO.below hb
      replace O7 := O7.below hb (Nat.le_refl _)
      replace WW := WW.trans (hb.mono WW.size)
      have sz4 := hb.size
      obtain ⟨D8, d8, rfl, ho⟩ := hv
      have O8 := ho.weak (b := w.heap.size) hbs
      clear ho
      clear hb hbs
      refine hK.out _ _ (XC.cell) (fun hHeld2 => ?_)
      clear hK K hHeld
      have hHeld := hHeld2
      clear hHeld2
      (try simp only [oq24_1_2, Act.put, List.setIfInBounds_toArray, List.set_cons_zero, List.set_cons_succ])
      refine AnyL_ready (rs := [4]) (by kernel_rfl) (by simp) ?_
      refine ReadyL.cons (o := oq24_1_4) rfl (fun K hK => ?_) ReadyL.nil
      delta oq24_1_4
      have fz := XO.1.frozen 0
      have cz := XO.cell
      have lz := XO.lt
      go_simp
      have XAn := XA.far (p := ⟨gXO, 0, none⟩) XO.1 XO.2.2 (by simp <;> omega) (.slice D8 (nw t) d8)
      have XBn := XB.far (p := ⟨gXO, 0, none⟩) XO.1 XO.2.2 (by simp <;> omega) (.slice D8 (nw t) d8)
      have XCn := XC.far (p := ⟨gXO, 0, none⟩) XO.1 XO.2.2 (by simp <;> omega) (.slice D8 (nw t) d8)
      have XRn := XR.far (p := ⟨gXO, 0, none⟩) XO.1 XO.2.2 (by simp <;> omega) (.slice D8 (nw t) d8)
      have XOn := XO.set_ (A' := D8) (n' := (nw t)) (c' := d8) (a' := t) (.inr O8)
      have O7n := O7.box (p := ⟨gXO, 0, none⟩) XO.1 (by decide) (.slice D8 (nw t) d8)
      have O8n := O8.box (p := ⟨gXO, 0, none⟩) XO.1 (by decide) (.slice D8 (nw t) d8)
      have WWn := WW.setCell (p := ⟨gXO, 0, none⟩) (by simp <;> omega) (.slice D8 (nw t) d8)
      refine hK.out _ _ (XCn.cell) (fun hHeld2 => ?_)
      clear hK K hHeld
      (try simp only [oq24_1_4, Act.put, List.setIfInBounds_toArray, List.set_cons_zero, List.set_cons_succ])
      refine AnyL_name (fun W' => Below w.heap.size w W' ∧ VB w.heap.size W' (w.heap.size) A (nw a) c a ∧ VB w.heap.size W' (w.heap.size + 1) B' (nw b) d b ∧ VB w.heap.size W' (w.heap.size + 1 + 1) C' (nw m) p m ∧ VB w.heap.size W' (w.heap.size + 1 + 1 + 1) none 0 0 0 ∧ VB w.heap.size W' (gXO) D8 (nw t) d8 t ∧ Own W' w.heap.size D7 (nw 1) d7 1 ∧ Own W' w.heap.size D8 (nw t) d8 t ∧ (fun w' => w'.cell? ⟨w.heap.size + 1 + 1, 0, none⟩ = some (.slice C' (nw m) p)) W') ⟨WWn, XAn, XBn, XCn, XRn, XOn, O7n, O8n, hHeld2⟩ ?_
      clear fz cz lz hHeld2 WWn XAn XBn XCn XRn XOn O7n O8n WW XA XB XC XR XO O7 O8
      rintro V5 ⟨WW, XA, XB, XC, XR, XO, O7, O8, hHeld⟩
      refine AnyL_done (by kernel_rfl) ?_ _
      clear hHeld
      refine NoPanic.normal ?_
      exact ⟨rfl, gXO, D7, d7, D8, d8, rfl, WW, XA, XB, XC, XR, XO, O7, O8, (by first | exact mXOXR | omega)⟩
  rintro gXO D7 d7 D8 d8 V50 ⟨WW, XA, XB, XC, XR, XO, O7, O8, mXOXR⟩
  have kXA := XA.cell
  have zXA := XA.lt
  have kXB := XB.cell
  have zXB := XB.lt
  have kXC := XC.cell
  have zXC := XC.lt
  have kXR := XR.cell
  have zXR := XR.lt
  have kXO := XO.cell
  have zXO := XO.lt
  go_wp2_with fail
  have hbs : w.heap.size ≤ V50.heap.size := WW.size
  have hc := rbits_any B' d b V50 XB.num (by omega)
  refine hc.mono ?_
  clear hc
  rintro e V51 ⟨rfl, hb⟩
  clear kXA zXA kXB zXB kXC zXC kXR zXR kXO zXO
  replace XA := XA.below hb
  replace XB := XB.below hb
  replace XC := XC.below hb
  replace XR := XR.below hb
  replace XO := XO.below hb
  replace O7 := O7.below hb (Nat.le_refl _)
  replace O8 := O8.below hb (Nat.le_refl _)
  replace WW := WW.trans (hb.mono WW.size)
  have kXA := XA.cell
  have zXA := XA.lt
  have kXB := XB.cell
  have zXB := XB.lt
  have kXC := XC.cell
  have zXC := XC.lt
  have kXR := XR.cell
  have zXR := XR.lt
  have kXO := XO.cell
  have zXO := XO.lt
  clear hb hbs
  go_wp2_with fail
  go_loopw [8] (fun i wr => ∃ (k s : Nat) (z : Int) (O : Option Addr) (oc : Nat), k ≤ bl b ∧ i = .int .i64 z ∧ z + 1 = (k : Int) ∧ Hid (s = a ^ (b / 2 ^ k) % m) ∧ Below w.heap.size w wr ∧ VB w.heap.size wr (w.heap.size) A (nw a) c a ∧ VB w.heap.size wr (w.heap.size + 1) B' (nw b) d b ∧ VB w.heap.size wr (w.heap.size + 1 + 1) C' (nw m) p m ∧ VB w.heap.size wr (w.heap.size + 1 + 1 + 1) none 0 0 0 ∧ VB w.heap.size wr (gXO) O (nw s) oc s ∧ Own wr w.heap.size O (nw s) oc s) (fun i wr => ((intOf i) + 1).toNat)
  case atStart => exact ⟨bl b, t, ((bl b : Nat) : Int) - 1, D8, d8, Nat.le_refl _, by go_num, by omega, (show t = a ^ (b / 2 ^ bl b) % m by rw [bits_top, Nat.pow_zero]; exact HT.out), WW, XA, XB, XC, XR, XO, O8⟩
  case round =>
    clear WW kXA zXA kXB zXB kXC zXC kXR zXR kXO zXO XA XB XC XR XO O7 O8
    obtain ⟨k, s, z, O, oc, hk, rfl, hz, HS, WW, XA, XB, XC, XR, XO, OO⟩ := hrel
    have kXA := XA.cell
    have zXA := XA.lt
    have kXB := XB.cell
    have zXB := XB.lt
    have kXC := XC.cell
    have zXC := XC.lt
    have kXR := XR.cell
    have zXR := XR.lt
    have kXO := XO.cell
    have zXO := XO.lt
    by_cases h0 : k = 0
    · subst h0
      have HF : Hid (a ^ b % m = s) := (show a ^ b % m = s by rw [HS.out, bits_all])
      obtain rfl : z = -1 := by omega
      have fXR := XR.1.frozen 0
      clear HS
      go_wp2_with fail
      have ho2 := OO.box (p := ⟨w.heap.size + 1 + 1 + 1, 0, none⟩) XR.1 (by decide) (.slice O (nw s) oc)
      exact bodyPost_ret (v := .agg #[.slice O (nw s) oc]) (by simp [results, Tryd.results56, go_sem, kXR, zXR]) rfl ⟨_, rfl, by rw [HF.out]; exact ⟨O, oc, rfl, ho2⟩, WW.setCell (by simp <;> omega) _⟩
    · obtain ⟨j, rfl⟩ : ∃ j, k = j + 1 := ⟨k - 1, by omega⟩
      obtain rfl : z = (j : Int) := by omega
      clear h0 hz
      have HSM : Hid (s < m) := (show s < m by rw [HS.out]; exact Nat.mod_lt _ HM0.out)
      have nws : nw s ≤ 70 := Nat.le_trans (nw_mono (Nat.le_of_lt HSM.out)) hm
      obtain ⟨s1, hs1⟩ : ∃ x, x = (s * s) % m := ⟨_, rfl⟩
      have H1 := hid hs1
      have l1 : (0 : Int) ≤ ((j : Nat) : Int) := by omega
      cases hbt : bitN b j
      · have HB := hid hbt
        have H2 : Hid (s1 = a ^ (b / 2 ^ j) % m) := (show s1 = a ^ (b / 2 ^ j) % m by rw [half_no hbt, hs1, HS.out]; exact (pow_even a (b / 2 ^ (j + 1)) m).symm)
        have HSMs1 : Hid (s1 < m) := (show s1 < m by rw [hs1]; exact Nat.mod_lt _ HM0.out)
        have nws1 : nw s1 ≤ 70 := Nat.le_trans (nw_mono (Nat.le_of_lt HSMs1.out)) hm
        clear hbt hs1
        go_wp2_with fail
        have hbs : w.heap.size ≤ wr.heap.size := WW.size
        have hc := rmul3_any O O C' oc oc p s s m wr XO.num XO.num XC.num nws nws hm HSM.out
        rw [← H1.out] at hc
        refine hc.mono ?_
        clear hc
        rintro e V52 ⟨v, rfl, hv, hb⟩
        clear kXA zXA kXB zXB kXC zXC kXR zXR kXO zXO
        replace XA := XA.below hb
        replace XB := XB.below hb
        replace XC := XC.below hb
        replace XR := XR.below hb
        replace XO := XO.below hb
        replace OO := OO.below hb (Nat.le_refl _)
        replace WW := WW.trans (hb.mono WW.size)
        obtain ⟨D1, d1, rfl, ho⟩ := hv
        have O1 := ho.weak (b := w.heap.size) hbs
        clear ho
        have kXA := XA.cell
        have zXA := XA.lt
        have kXB := XB.cell
        have zXB := XB.lt
        have kXC := XC.cell
        have zXC := XC.lt
        have kXR := XR.cell
        have zXR := XR.lt
        have kXO := XO.cell
        have zXO := XO.lt
        clear hb hbs
        have fXO := XO.1.frozen 0
        have XAn := XA.far (p := ⟨gXO, 0, none⟩) XO.1 XO.2.2 (by simp <;> omega) (.slice D1 (nw s1) d1)
        have XBn := XB.far (p := ⟨gXO, 0, none⟩) XO.1 XO.2.2 (by simp <;> omega) (.slice D1 (nw s1) d1)
        have XCn := XC.far (p := ⟨gXO, 0, none⟩) XO.1 XO.2.2 (by simp <;> omega) (.slice D1 (nw s1) d1)
        have XRn := XR.far (p := ⟨gXO, 0, none⟩) XO.1 XO.2.2 (by simp <;> omega) (.slice D1 (nw s1) d1)
        have XOn := XO.set_ (A' := D1) (n' := (nw s1)) (c' := d1) (a' := s1) (.inr O1)
        have OOn := OO.box (p := ⟨gXO, 0, none⟩) XO.1 (by decide) (.slice D1 (nw s1) d1)
        have O1n := O1.box (p := ⟨gXO, 0, none⟩) XO.1 (by decide) (.slice D1 (nw s1) d1)
        have WWn := WW.setCell (p := ⟨gXO, 0, none⟩) (by simp <;> omega) (.slice D1 (nw s1) d1)
        go_wp2_with fail
        clear kXA zXA kXB zXB kXC zXC kXR zXR kXO zXO fXO WW XA XB XC XR XO OO O1
        generalize hV : V52.setCell ⟨gXO, 0, none⟩ (.slice D1 (nw s1) d1) = V53 at XAn XBn XCn XRn XOn OOn O1n WWn ⊢
        clear hV
        have XA := XAn
        have XB := XBn
        have XC := XCn
        have XR := XRn
        have XO := XOn
        have OO := OOn
        have O1 := O1n
        have WW := WWn
        clear XAn XBn XCn XRn XOn OOn O1n WWn
        have kXA := XA.cell
        have zXA := XA.lt
        have kXB := XB.cell
        have zXB := XB.lt
        have kXC := XC.cell
        have zXC := XC.lt
        have kXR := XR.cell
        have zXR := XR.lt
        have kXO := XO.cell
        have zXO := XO.lt
        try go_wp2_with fail
        have hbs : w.heap.size ≤ V53.heap.size := WW.size
        have hc := rbit_any B' d b j V53 XB.num (by omega) (by omega)
        rw [HB.out] at hc
        refine hc.mono ?_
        clear hc
        rintro e V54 ⟨rfl, hb⟩
        clear kXA zXA kXB zXB kXC zXC kXR zXR kXO zXO
        replace XA := XA.below hb
        replace XB := XB.below hb
        replace XC := XC.below hb
        replace XR := XR.below hb
        replace XO := XO.below hb
        replace OO := OO.below hb (Nat.le_refl _)
        replace O1 := O1.below hb (Nat.le_refl _)
        replace WW := WW.trans (hb.mono WW.size)
        have kXA := XA.cell
        have zXA := XA.lt
        have kXB := XB.cell
        have zXB := XB.lt
        have kXC := XC.cell
        have zXC := XC.lt
        have kXR := XR.cell
        have zXR := XR.lt
        have kXO := XO.cell
        have zXO := XO.lt
        clear hb hbs
        go_wp2_with fail
        go_roundw
        case rel => exact ⟨j, s1, ((j : Int) - 1), D1, d1, by omega, by go_num, by omega, H2.out, WW, XA, XB, XC, XR, XO, O1⟩
        case measure => simp [intOf] <;> omega
      · have HB := hid hbt
        obtain ⟨s2, hs2⟩ : ∃ x, x = (s1 * a) % m := ⟨_, rfl⟩
        have H3 := hid hs2
        have H2 : Hid (s2 = a ^ (b / 2 ^ j) % m) := (show s2 = a ^ (b / 2 ^ j) % m by rw [half_yes hbt, hs2, hs1, HS.out]; exact (pow_odd a (b / 2 ^ (j + 1)) m).symm)
        have HSMs1 : Hid (s1 < m) := (show s1 < m by rw [hs1]; exact Nat.mod_lt _ HM0.out)
        have nws1 : nw s1 ≤ 70 := Nat.le_trans (nw_mono (Nat.le_of_lt HSMs1.out)) hm
        have HSMs2 : Hid (s2 < m) := (show s2 < m by rw [hs2]; exact Nat.mod_lt _ HM0.out)
        have nws2 : nw s2 ≤ 70 := Nat.le_trans (nw_mono (Nat.le_of_lt HSMs2.out)) hm
        clear hbt hs1 hs2
        go_wp2_with fail
        have hbs : w.heap.size ≤ wr.heap.size := WW.size
        have hc := rmul3_any O O C' oc oc p s s m wr XO.num XO.num XC.num nws nws hm HSM.out
        rw [← H1.out] at hc
        refine hc.mono ?_
        clear hc
        rintro e V52 ⟨v, rfl, hv, hb⟩
        clear kXA zXA kXB zXB kXC zXC kXR zXR kXO zXO
        replace XA := XA.below hb
        replace XB := XB.below hb
        replace XC := XC.below hb
        replace XR := XR.below hb
        replace XO := XO.below hb
        replace OO := OO.below hb (Nat.le_refl _)
        replace WW := WW.trans (hb.mono WW.size)
        obtain ⟨D1, d1, rfl, ho⟩ := hv
        have O1 := ho.weak (b := w.heap.size) hbs
        clear ho
        have kXA := XA.cell
        have zXA := XA.lt
        have kXB := XB.cell
        have zXB := XB.lt
        have kXC := XC.cell
        have zXC := XC.lt
        have kXR := XR.cell
        have zXR := XR.lt
        have kXO := XO.cell
        have zXO := XO.lt
        clear hb hbs
        have fXO := XO.1.frozen 0
        have XAn := XA.far (p := ⟨gXO, 0, none⟩) XO.1 XO.2.2 (by simp <;> omega) (.slice D1 (nw s1) d1)
        have XBn := XB.far (p := ⟨gXO, 0, none⟩) XO.1 XO.2.2 (by simp <;> omega) (.slice D1 (nw s1) d1)
        have XCn := XC.far (p := ⟨gXO, 0, none⟩) XO.1 XO.2.2 (by simp <;> omega) (.slice D1 (nw s1) d1)
        have XRn := XR.far (p := ⟨gXO, 0, none⟩) XO.1 XO.2.2 (by simp <;> omega) (.slice D1 (nw s1) d1)
        have XOn := XO.set_ (A' := D1) (n' := (nw s1)) (c' := d1) (a' := s1) (.inr O1)
        have OOn := OO.box (p := ⟨gXO, 0, none⟩) XO.1 (by decide) (.slice D1 (nw s1) d1)
        have O1n := O1.box (p := ⟨gXO, 0, none⟩) XO.1 (by decide) (.slice D1 (nw s1) d1)
        have WWn := WW.setCell (p := ⟨gXO, 0, none⟩) (by simp <;> omega) (.slice D1 (nw s1) d1)
        go_wp2_with fail
        clear kXA zXA kXB zXB kXC zXC kXR zXR kXO zXO fXO WW XA XB XC XR XO OO O1
        generalize hV : V52.setCell ⟨gXO, 0, none⟩ (.slice D1 (nw s1) d1) = V53 at XAn XBn XCn XRn XOn OOn O1n WWn ⊢
        clear hV
        have XA := XAn
        have XB := XBn
        have XC := XCn
        have XR := XRn
        have XO := XOn
        have OO := OOn
        have O1 := O1n
        have WW := WWn
        clear XAn XBn XCn XRn XOn OOn O1n WWn
        have kXA := XA.cell
        have zXA := XA.lt
        have kXB := XB.cell
        have zXB := XB.lt
        have kXC := XC.cell
        have zXC := XC.lt
        have kXR := XR.cell
        have zXR := XR.lt
        have kXO := XO.cell
        have zXO := XO.lt
        try go_wp2_with fail
        have hbs : w.heap.size ≤ V53.heap.size := WW.size
        have hc := rbit_any B' d b j V53 XB.num (by omega) (by omega)
        rw [HB.out] at hc
        refine hc.mono ?_
        clear hc
        rintro e V54 ⟨rfl, hb⟩
        clear kXA zXA kXB zXB kXC zXC kXR zXR kXO zXO
        replace XA := XA.below hb
        replace XB := XB.below hb
        replace XC := XC.below hb
        replace XR := XR.below hb
        replace XO := XO.below hb
        replace OO := OO.below hb (Nat.le_refl _)
        replace O1 := O1.below hb (Nat.le_refl _)
        replace WW := WW.trans (hb.mono WW.size)
        have kXA := XA.cell
        have zXA := XA.lt
        have kXB := XB.cell
        have zXB := XB.lt
        have kXC := XC.cell
        have zXC := XC.lt
        have kXR := XR.cell
        have zXR := XR.lt
        have kXO := XO.cell
        have zXO := XO.lt
        clear hb hbs
        go_wp2_with fail
        have hbs : w.heap.size ≤ V54.heap.size := WW.size
        have hc := rmul3_any D1 A C' d1 c p s1 a m V54 XO.num XA.num XC.num nws1 ha hm HSMs1.out
        rw [← H3.out] at hc
        refine hc.mono ?_
        clear hc
        rintro e V55 ⟨v, rfl, hv, hb⟩
        clear kXA zXA kXB zXB kXC zXC kXR zXR kXO zXO
        replace XA := XA.below hb
        replace XB := XB.below hb
        replace XC := XC.below hb
        replace XR := XR.below hb
        replace XO := XO.below hb
        replace OO := OO.below hb (Nat.le_refl _)
        replace O1 := O1.below hb (Nat.le_refl _)
        replace WW := WW.trans (hb.mono WW.size)
        obtain ⟨D2, d2, rfl, ho⟩ := hv
        have O2 := ho.weak (b := w.heap.size) hbs
        clear ho
        have kXA := XA.cell
        have zXA := XA.lt
        have kXB := XB.cell
        have zXB := XB.lt
        have kXC := XC.cell
        have zXC := XC.lt
        have kXR := XR.cell
        have zXR := XR.lt
        have kXO := XO.cell
        have zXO := XO.lt
        clear hb hbs
        have fXO := XO.1.frozen 0
        have XAn := XA.far (p := ⟨gXO, 0, none⟩) XO.1 XO.2.2 (by simp <;> omega) (.slice D2 (nw s2) d2)
        have XBn := XB.far (p := ⟨gXO, 0, none⟩) XO.1 XO.2.2 (by simp <;> omega) (.slice D2 (nw s2) d2)
        have XCn := XC.far (p := ⟨gXO, 0, none⟩) XO.1 XO.2.2 (by simp <;> omega) (.slice D2 (nw s2) d2)
        have XRn := XR.far (p := ⟨gXO, 0, none⟩) XO.1 XO.2.2 (by simp <;> omega) (.slice D2 (nw s2) d2)
        have XOn := XO.set_ (A' := D2) (n' := (nw s2)) (c' := d2) (a' := s2) (.inr O2)
        have OOn := OO.box (p := ⟨gXO, 0, none⟩) XO.1 (by decide) (.slice D2 (nw s2) d2)
        have O1n := O1.box (p := ⟨gXO, 0, none⟩) XO.1 (by decide) (.slice D2 (nw s2) d2)
        have O2n := O2.box (p := ⟨gXO, 0, none⟩) XO.1 (by decide) (.slice D2 (nw s2) d2)
        have WWn := WW.setCell (p := ⟨gXO, 0, none⟩) (by simp <;> omega) (.slice D2 (nw s2) d2)
        go_wp2_with fail
        clear kXA zXA kXB zXB kXC zXC kXR zXR kXO zXO fXO WW XA XB XC XR XO OO O1 O2
        generalize hV : V55.setCell ⟨gXO, 0, none⟩ (.slice D2 (nw s2) d2) = V56 at XAn XBn XCn XRn XOn OOn O1n O2n WWn ⊢
        clear hV
        have XA := XAn
        have XB := XBn
        have XC := XCn
        have XR := XRn
        have XO := XOn
        have OO := OOn
        have O1 := O1n
        have O2 := O2n
        have WW := WWn
        clear XAn XBn XCn XRn XOn OOn O1n O2n WWn
        have kXA := XA.cell
        have zXA := XA.lt
        have kXB := XB.cell
        have zXB := XB.lt
        have kXC := XC.cell
        have zXC := XC.lt
        have kXR := XR.cell
        have zXR := XR.lt
        have kXO := XO.cell
        have zXO := XO.lt
        try go_wp2_with fail
        go_roundw
        case rel => exact ⟨j, s2, ((j : Int) - 1), D2, d2, by omega, by go_num, by omega, H2.out, WW, XA, XB, XC, XR, XO, O2⟩
        case measure => simp [intOf] <;> omega

end Go.Proofs.YtomkmkjkeihodaaDoor
