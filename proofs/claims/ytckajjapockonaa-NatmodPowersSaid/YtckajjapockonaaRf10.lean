/- the reference of layer 3: Times. -/
import Derived.Test.YtckajjapockonaaRf7
set_option linter.unusedVariables false
set_option linter.unusedSimpArgs false
namespace Go.Proofs.Ytckajjapockonaa
open Go.RowKit

theorem times_even (a B : Nat) : a * (2 * B) = a * B + a * B := by rw [Nat.mul_left_comm]; omega
theorem times_odd (a B : Nat) : a * (2 * B + 1) = a * B + a * B + a := by rw [Nat.mul_add, Nat.mul_one, times_even]
theorem times_le {a b j : Nat} : a * (b / 2 ^ j) ≤ a * b := Nat.mul_le_mul_left a (Nat.div_le_self _ _)
set_option maxHeartbeats 8000000 in
theorem rtimes_any (A B' : Option Addr) (c d a b : Nat) (w : World) (hA : Num w w.heap.size A (nw a) a) (hB : Num w w.heap.size B' (nw b) b) (ha : nw a ≤ 70) (hb : nw b ≤ 70) :
    Calls Try.prog 38 #[.agg #[.slice A (nw a) c], .agg #[.slice B' (nw b) d]] w (RetNat w.heap.size (a * b) w) := by
  have hbl := bl_le_nw b
  have hab : nw (a * b) ≤ 140 := nw_prod (j := 70) (k := 70) ha hb
  obtain ⟨b0, b1, b2, b3, bw⟩ := boxes4 w (.slice A (nw a) c) (.slice B' (nw b) d) (.slice none 0 0) (.slice none 0 0)
  have XA := VB.mk (B := w.heap.size) (a := a) b0 (.inl hA) bw (Nat.le_refl _) (by omega)
  have XB := VB.mk (B := w.heap.size) (a := b) b1 (.inl hB) bw (Nat.le_refl _) (by omega)
  have XR := VB.mk (B := w.heap.size) (a := 0) b2 (.inr (Own.nil _ _ _ _ (Nat.zero_le _))) bw (Nat.le_refl _) (by omega)
  have XO := VB.mk (B := w.heap.size) (a := 0) b3 (.inr (Own.nil _ _ _ _ (Nat.zero_le _))) bw (Nat.le_refl _) (by omega)
  have WW := bw
  clear bw b0 b1 b2 b3
  go_enter Try.func38, Try.ntmps38
  go_wp2_with fail
  generalize hV : ((((w.alloc (.cells #[.slice A (nw a) c] 24)).alloc (.cells #[.slice B' (nw b) d] 24)).alloc (.cells #[.slice none 0 0] 24)).alloc (.cells #[.slice none 0 0] 24)) = V0 at XA XB XR XO WW ⊢
  clear hV
  have OO : Own V0 w.heap.size none 0 0 0 := Own.nil _ _ _ _ (Nat.zero_le _)
  have hbs : w.heap.size ≤ V0.heap.size := WW.size
  have hc := rbits_any B' d b V0 XB.num (by omega)
  refine hc.mono ?_
  clear hc
  rintro e V1 ⟨rfl, hb⟩
  replace XA := XA.below hb
  replace XB := XB.below hb
  replace XR := XR.below hb
  replace XO := XO.below hb
  replace OO := OO.below hb (Nat.le_refl _)
  replace WW := WW.trans (hb.mono WW.size)
  have kXA := XA.cell
  have zXA := XA.lt
  have kXB := XB.cell
  have zXB := XB.lt
  have kXR := XR.cell
  have zXR := XR.lt
  have kXO := XO.cell
  have zXO := XO.lt
  clear hb hbs
  go_wp2_with fail
  go_loopw [6] (fun i wr => ∃ (k s : Nat) (z : Int) (O : Option Addr) (oc : Nat), k ≤ bl b ∧ i = .int .i64 z ∧ z + 1 = (k : Int) ∧ Hid (s = a * (b / 2 ^ k)) ∧ Below w.heap.size w wr ∧ VB w.heap.size wr (w.heap.size) A (nw a) c a ∧ VB w.heap.size wr (w.heap.size + 1) B' (nw b) d b ∧ VB w.heap.size wr (w.heap.size + 1 + 1) none 0 0 0 ∧ VB w.heap.size wr (w.heap.size + 1 + 1 + 1) O (nw s) oc s ∧ Own wr w.heap.size O (nw s) oc s) (fun i wr => ((intOf i) + 1).toNat)
  case atStart => exact ⟨bl b, 0, ((bl b : Nat) : Int) - 1, none, 0, Nat.le_refl _, by go_num, by omega, (show 0 = a * (b / 2 ^ bl b) by rw [bits_top, Nat.mul_zero]), WW, XA, XB, XR, XO, OO⟩
  case round =>
    clear WW kXA zXA kXB zXB kXR zXR kXO zXO XA XB XR XO OO
    obtain ⟨k, s, z, O, oc, hk, rfl, hz, HS, WW, XA, XB, XR, XO, OO⟩ := hrel
    have kXA := XA.cell
    have zXA := XA.lt
    have kXB := XB.cell
    have zXB := XB.lt
    have kXR := XR.cell
    have zXR := XR.lt
    have kXO := XO.cell
    have zXO := XO.lt
    by_cases h0 : k = 0
    · subst h0
      have HF : Hid (a * b = s) := (show a * b = s by rw [HS.out, bits_all])
      obtain rfl : z = -1 := by omega
      have fXR := XR.1.frozen 0
      clear HS
      go_wp2_with fail
      have ho2 := OO.box (p := ⟨w.heap.size + 1 + 1, 0, none⟩) XR.1 (by decide) (.slice O (nw s) oc)
      exact bodyPost_ret (v := .agg #[.slice O (nw s) oc]) (by simp [results, Try.results38, go_sem, kXR, zXR]) rfl ⟨_, rfl, by rw [HF.out]; exact ⟨O, oc, rfl, ho2⟩, WW.setCell (by simp <;> omega) _⟩
    · obtain ⟨j, rfl⟩ : ∃ j, k = j + 1 := ⟨k - 1, by omega⟩
      obtain rfl : z = (j : Int) := by omega
      clear h0 hz
      have nws : nw s ≤ 140 := by rw [HS.out]; exact Nat.le_trans (nw_mono times_le) hab
      obtain ⟨s1, hs1⟩ : ∃ x, x = s + s := ⟨_, rfl⟩
      have H1 := hid hs1
      have l1 : (0 : Int) ≤ ((j : Nat) : Int) := by omega
      cases hbt : bitN b j
      · have HB := hid hbt
        have H2 : Hid (s1 = a * (b / 2 ^ j)) := (show s1 = a * (b / 2 ^ j) by rw [half_no hbt, hs1, HS.out]; exact (times_even a (b / 2 ^ (j + 1))).symm)
        have nws1 : nw s1 ≤ 10000 := by first | (rw [hs1]; exact Nat.le_trans (nw_sum (k := 140) nws nws) (by omega)) | (rw [hs2]; exact Nat.le_trans (nw_sum (k := 10000) nws1 (Nat.le_trans ha (by omega))) (by omega))
        clear hbt hs1
        go_wp2_with fail
        have hbs : w.heap.size ≤ wr.heap.size := WW.size
        have hc := plus_any O O _ _ oc oc s s wr XO.num XO.num (by omega) (by omega)
        rw [← H1.out] at hc
        refine hc.mono ?_
        clear hc
        rintro e V2 ⟨v, rfl, hv, hb⟩
        clear kXA zXA kXB zXB kXR zXR kXO zXO
        replace XA := XA.below hb
        replace XB := XB.below hb
        replace XR := XR.below hb
        replace XO := XO.below hb
        replace OO := OO.below hb (Nat.le_refl _)
        replace WW := WW.trans (hb.mono WW.size)
        obtain ⟨D1, d1, rfl, ho⟩ := hv
        have O1 := ho.weak (b := w.heap.size) hbs
        clear ho
        have kXA := XA.cell
        have zXA := XA.lt
        have kXB := XB.cell
        have zXB := XB.lt
        have kXR := XR.cell
        have zXR := XR.lt
        have kXO := XO.cell
        have zXO := XO.lt
        clear hb hbs
        have fXO := XO.1.frozen 0
        have XAn := XA.far (p := ⟨w.heap.size + 1 + 1 + 1, 0, none⟩) XO.1 XO.2.2 (by simp <;> omega) (.slice D1 (nw s1) d1)
        have XBn := XB.far (p := ⟨w.heap.size + 1 + 1 + 1, 0, none⟩) XO.1 XO.2.2 (by simp <;> omega) (.slice D1 (nw s1) d1)
        have XRn := XR.far (p := ⟨w.heap.size + 1 + 1 + 1, 0, none⟩) XO.1 XO.2.2 (by simp <;> omega) (.slice D1 (nw s1) d1)
        have XOn := XO.set_ (A' := D1) (n' := (nw s1)) (c' := d1) (a' := s1) (.inr O1)
        have OOn := OO.box (p := ⟨w.heap.size + 1 + 1 + 1, 0, none⟩) XO.1 (by decide) (.slice D1 (nw s1) d1)
        have O1n := O1.box (p := ⟨w.heap.size + 1 + 1 + 1, 0, none⟩) XO.1 (by decide) (.slice D1 (nw s1) d1)
        have WWn := WW.setCell (p := ⟨w.heap.size + 1 + 1 + 1, 0, none⟩) (by simp <;> omega) (.slice D1 (nw s1) d1)
        go_wp2_with fail
        clear kXA zXA kXB zXB kXR zXR kXO zXO fXO WW XA XB XR XO OO O1
        generalize hV : V2.setCell ⟨w.heap.size + 1 + 1 + 1, 0, none⟩ (.slice D1 (nw s1) d1) = V3 at XAn XBn XRn XOn OOn O1n WWn ⊢
        clear hV
        have XA := XAn
        have XB := XBn
        have XR := XRn
        have XO := XOn
        have OO := OOn
        have O1 := O1n
        have WW := WWn
        clear XAn XBn XRn XOn OOn O1n WWn
        have kXA := XA.cell
        have zXA := XA.lt
        have kXB := XB.cell
        have zXB := XB.lt
        have kXR := XR.cell
        have zXR := XR.lt
        have kXO := XO.cell
        have zXO := XO.lt
        try go_wp2_with fail
        have hbs : w.heap.size ≤ V3.heap.size := WW.size
        have hc := rbit_any B' d b j V3 XB.num (by omega) (by omega)
        rw [HB.out] at hc
        refine hc.mono ?_
        clear hc
        rintro e V4 ⟨rfl, hb⟩
        clear kXA zXA kXB zXB kXR zXR kXO zXO
        replace XA := XA.below hb
        replace XB := XB.below hb
        replace XR := XR.below hb
        replace XO := XO.below hb
        replace OO := OO.below hb (Nat.le_refl _)
        replace O1 := O1.below hb (Nat.le_refl _)
        replace WW := WW.trans (hb.mono WW.size)
        have kXA := XA.cell
        have zXA := XA.lt
        have kXB := XB.cell
        have zXB := XB.lt
        have kXR := XR.cell
        have zXR := XR.lt
        have kXO := XO.cell
        have zXO := XO.lt
        clear hb hbs
        go_wp2_with fail
        go_roundw
        case rel => exact ⟨j, s1, ((j : Int) - 1), D1, d1, by omega, by go_num, by omega, H2.out, WW, XA, XB, XR, XO, O1⟩
        case measure => simp [intOf] <;> omega
      · have HB := hid hbt
        obtain ⟨s2, hs2⟩ : ∃ x, x = s1 + a := ⟨_, rfl⟩
        have H3 := hid hs2
        have H2 : Hid (s2 = a * (b / 2 ^ j)) := (show s2 = a * (b / 2 ^ j) by rw [half_yes hbt, hs2, hs1, HS.out]; exact (times_odd a (b / 2 ^ (j + 1))).symm)
        have nws1 : nw s1 ≤ 10000 := by first | (rw [hs1]; exact Nat.le_trans (nw_sum (k := 140) nws nws) (by omega)) | (rw [hs2]; exact Nat.le_trans (nw_sum (k := 10000) nws1 (Nat.le_trans ha (by omega))) (by omega))
        have nws2 : nw s2 ≤ 10001 := by first | (rw [hs1]; exact Nat.le_trans (nw_sum (k := 140) nws nws) (by omega)) | (rw [hs2]; exact Nat.le_trans (nw_sum (k := 10000) nws1 (Nat.le_trans ha (by omega))) (by omega))
        clear hbt hs1 hs2
        go_wp2_with fail
        have hbs : w.heap.size ≤ wr.heap.size := WW.size
        have hc := plus_any O O _ _ oc oc s s wr XO.num XO.num (by omega) (by omega)
        rw [← H1.out] at hc
        refine hc.mono ?_
        clear hc
        rintro e V2 ⟨v, rfl, hv, hb⟩
        clear kXA zXA kXB zXB kXR zXR kXO zXO
        replace XA := XA.below hb
        replace XB := XB.below hb
        replace XR := XR.below hb
        replace XO := XO.below hb
        replace OO := OO.below hb (Nat.le_refl _)
        replace WW := WW.trans (hb.mono WW.size)
        obtain ⟨D1, d1, rfl, ho⟩ := hv
        have O1 := ho.weak (b := w.heap.size) hbs
        clear ho
        have kXA := XA.cell
        have zXA := XA.lt
        have kXB := XB.cell
        have zXB := XB.lt
        have kXR := XR.cell
        have zXR := XR.lt
        have kXO := XO.cell
        have zXO := XO.lt
        clear hb hbs
        have fXO := XO.1.frozen 0
        have XAn := XA.far (p := ⟨w.heap.size + 1 + 1 + 1, 0, none⟩) XO.1 XO.2.2 (by simp <;> omega) (.slice D1 (nw s1) d1)
        have XBn := XB.far (p := ⟨w.heap.size + 1 + 1 + 1, 0, none⟩) XO.1 XO.2.2 (by simp <;> omega) (.slice D1 (nw s1) d1)
        have XRn := XR.far (p := ⟨w.heap.size + 1 + 1 + 1, 0, none⟩) XO.1 XO.2.2 (by simp <;> omega) (.slice D1 (nw s1) d1)
        have XOn := XO.set_ (A' := D1) (n' := (nw s1)) (c' := d1) (a' := s1) (.inr O1)
        have OOn := OO.box (p := ⟨w.heap.size + 1 + 1 + 1, 0, none⟩) XO.1 (by decide) (.slice D1 (nw s1) d1)
        have O1n := O1.box (p := ⟨w.heap.size + 1 + 1 + 1, 0, none⟩) XO.1 (by decide) (.slice D1 (nw s1) d1)
        have WWn := WW.setCell (p := ⟨w.heap.size + 1 + 1 + 1, 0, none⟩) (by simp <;> omega) (.slice D1 (nw s1) d1)
        go_wp2_with fail
        clear kXA zXA kXB zXB kXR zXR kXO zXO fXO WW XA XB XR XO OO O1
        generalize hV : V2.setCell ⟨w.heap.size + 1 + 1 + 1, 0, none⟩ (.slice D1 (nw s1) d1) = V3 at XAn XBn XRn XOn OOn O1n WWn ⊢
        clear hV
        have XA := XAn
        have XB := XBn
        have XR := XRn
        have XO := XOn
        have OO := OOn
        have O1 := O1n
        have WW := WWn
        clear XAn XBn XRn XOn OOn O1n WWn
        have kXA := XA.cell
        have zXA := XA.lt
        have kXB := XB.cell
        have zXB := XB.lt
        have kXR := XR.cell
        have zXR := XR.lt
        have kXO := XO.cell
        have zXO := XO.lt
        try go_wp2_with fail
        have hbs : w.heap.size ≤ V3.heap.size := WW.size
        have hc := rbit_any B' d b j V3 XB.num (by omega) (by omega)
        rw [HB.out] at hc
        refine hc.mono ?_
        clear hc
        rintro e V4 ⟨rfl, hb⟩
        clear kXA zXA kXB zXB kXR zXR kXO zXO
        replace XA := XA.below hb
        replace XB := XB.below hb
        replace XR := XR.below hb
        replace XO := XO.below hb
        replace OO := OO.below hb (Nat.le_refl _)
        replace O1 := O1.below hb (Nat.le_refl _)
        replace WW := WW.trans (hb.mono WW.size)
        have kXA := XA.cell
        have zXA := XA.lt
        have kXB := XB.cell
        have zXB := XB.lt
        have kXR := XR.cell
        have zXR := XR.lt
        have kXO := XO.cell
        have zXO := XO.lt
        clear hb hbs
        go_wp2_with fail
        have hbs : w.heap.size ≤ V4.heap.size := WW.size
        have hc := plus_any D1 A _ _ d1 c s1 a V4 XO.num XA.num (by omega) (by omega)
        rw [← H3.out] at hc
        refine hc.mono ?_
        clear hc
        rintro e V5 ⟨v, rfl, hv, hb⟩
        clear kXA zXA kXB zXB kXR zXR kXO zXO
        replace XA := XA.below hb
        replace XB := XB.below hb
        replace XR := XR.below hb
        replace XO := XO.below hb
        replace OO := OO.below hb (Nat.le_refl _)
        replace O1 := O1.below hb (Nat.le_refl _)
        replace WW := WW.trans (hb.mono WW.size)
        obtain ⟨D2, d2, rfl, ho⟩ := hv
        have O2 := ho.weak (b := w.heap.size) hbs
        clear ho
        have kXA := XA.cell
        have zXA := XA.lt
        have kXB := XB.cell
        have zXB := XB.lt
        have kXR := XR.cell
        have zXR := XR.lt
        have kXO := XO.cell
        have zXO := XO.lt
        clear hb hbs
        have fXO := XO.1.frozen 0
        have XAn := XA.far (p := ⟨w.heap.size + 1 + 1 + 1, 0, none⟩) XO.1 XO.2.2 (by simp <;> omega) (.slice D2 (nw s2) d2)
        have XBn := XB.far (p := ⟨w.heap.size + 1 + 1 + 1, 0, none⟩) XO.1 XO.2.2 (by simp <;> omega) (.slice D2 (nw s2) d2)
        have XRn := XR.far (p := ⟨w.heap.size + 1 + 1 + 1, 0, none⟩) XO.1 XO.2.2 (by simp <;> omega) (.slice D2 (nw s2) d2)
        have XOn := XO.set_ (A' := D2) (n' := (nw s2)) (c' := d2) (a' := s2) (.inr O2)
        have OOn := OO.box (p := ⟨w.heap.size + 1 + 1 + 1, 0, none⟩) XO.1 (by decide) (.slice D2 (nw s2) d2)
        have O1n := O1.box (p := ⟨w.heap.size + 1 + 1 + 1, 0, none⟩) XO.1 (by decide) (.slice D2 (nw s2) d2)
        have O2n := O2.box (p := ⟨w.heap.size + 1 + 1 + 1, 0, none⟩) XO.1 (by decide) (.slice D2 (nw s2) d2)
        have WWn := WW.setCell (p := ⟨w.heap.size + 1 + 1 + 1, 0, none⟩) (by simp <;> omega) (.slice D2 (nw s2) d2)
        go_wp2_with fail
        clear kXA zXA kXB zXB kXR zXR kXO zXO fXO WW XA XB XR XO OO O1 O2
        generalize hV : V5.setCell ⟨w.heap.size + 1 + 1 + 1, 0, none⟩ (.slice D2 (nw s2) d2) = V6 at XAn XBn XRn XOn OOn O1n O2n WWn ⊢
        clear hV
        have XA := XAn
        have XB := XBn
        have XR := XRn
        have XO := XOn
        have OO := OOn
        have O1 := O1n
        have O2 := O2n
        have WW := WWn
        clear XAn XBn XRn XOn OOn O1n O2n WWn
        have kXA := XA.cell
        have zXA := XA.lt
        have kXB := XB.cell
        have zXB := XB.lt
        have kXR := XR.cell
        have zXR := XR.lt
        have kXO := XO.cell
        have zXO := XO.lt
        try go_wp2_with fail
        go_roundw
        case rel => exact ⟨j, s2, ((j : Int) - 1), D2, d2, by omega, by go_num, by omega, H2.out, WW, XA, XB, XR, XO, O2⟩
        case measure => simp [intOf] <;> omega

end Go.Proofs.Ytckajjapockonaa
