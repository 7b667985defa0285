/- the reference of layer 3: Same, Mod. -/
import Derived.Test.YtckajjapockonaaRf7
set_option linter.unusedVariables false
set_option linter.unusedSimpArgs false
namespace Go.Proofs.Ytckajjapockonaa
open Go.RowKit

set_option maxHeartbeats 8000000 in
theorem rsame_ne (A B' : Option Addr) (c d a b : Nat) (w : World) (hA : Num w w.heap.size A (nw a) a) (hB : Num w w.heap.size B' (nw b) b) (ha : nw a ≤ 140) (hb : nw b ≤ 140) (h : ¬ a < b) (h2 : ¬ b < a) :
    Calls Try.prog 31 #[.agg #[.slice A (nw a) c], .agg #[.slice B' (nw b) d]] w (RetB (.bool true) w) := by
  have G1 : Hid (decide (a < b) = false) := decide_eq_false h
  have G2 : Hid (decide (b < a) = false) := decide_eq_false h2
  clear h2
  clear h
  obtain ⟨b0, b1, bw⟩ := boxes2 w (.slice A (nw a) c) (.slice B' (nw b) d)
  have XA := VB.mk (B := w.heap.size) (a := a) b0 (.inl hA) bw (Nat.le_refl _) (by omega)
  have XB := VB.mk (B := w.heap.size) (a := b) b1 (.inl hB) bw (Nat.le_refl _) (by omega)
  have WW := bw
  clear bw b0 b1
  go_enter Try.func31, Try.ntmps31
  go_wp2_with fail
  generalize hV : ((w.alloc (.cells #[.slice A (nw a) c] 24)).alloc (.cells #[.slice B' (nw b) d] 24)) = V0 at XA XB WW ⊢
  clear hV
  have hbs : w.heap.size ≤ V0.heap.size := WW.size
  have hc := less3_any A B' c d a b V0 XA.num XB.num (by omega) (by omega)
  rw [G1.out] at hc
  refine hc.mono ?_
  clear hc
  rintro e V1 ⟨rfl, hb⟩
  replace XA := XA.below hb
  replace XB := XB.below hb
  replace WW := WW.trans (hb.mono WW.size)
  have kXA := XA.cell
  have zXA := XA.lt
  have kXB := XB.cell
  have zXB := XB.lt
  clear hb hbs
  go_wp2_with fail
  have hbs : w.heap.size ≤ V1.heap.size := WW.size
  have hc := less3_any B' A d c b a V1 XB.num XA.num (by omega) (by omega)
  rw [G2.out] at hc
  refine hc.mono ?_
  clear hc
  rintro e V2 ⟨rfl, hb⟩
  clear kXA zXA kXB zXB
  replace XA := XA.below hb
  replace XB := XB.below hb
  replace WW := WW.trans (hb.mono WW.size)
  have kXA := XA.cell
  have zXA := XA.lt
  have kXB := XB.cell
  have zXB := XB.lt
  clear hb hbs
  go_wp2_with fail
  go_ret
  exact ⟨rfl, WW⟩

set_option maxHeartbeats 8000000 in
theorem rsame_lt (A B' : Option Addr) (c d a b : Nat) (w : World) (hA : Num w w.heap.size A (nw a) a) (hB : Num w w.heap.size B' (nw b) b) (ha : nw a ≤ 140) (hb : nw b ≤ 140) (h : a < b) :
    Calls Try.prog 31 #[.agg #[.slice A (nw a) c], .agg #[.slice B' (nw b) d]] w (RetB (.bool false) w) := by
  have G1 : Hid (decide (a < b) = true) := decide_eq_true h
  clear h
  obtain ⟨b0, b1, bw⟩ := boxes2 w (.slice A (nw a) c) (.slice B' (nw b) d)
  have XA := VB.mk (B := w.heap.size) (a := a) b0 (.inl hA) bw (Nat.le_refl _) (by omega)
  have XB := VB.mk (B := w.heap.size) (a := b) b1 (.inl hB) bw (Nat.le_refl _) (by omega)
  have WW := bw
  clear bw b0 b1
  go_enter Try.func31, Try.ntmps31
  go_wp2_with fail
  generalize hV : ((w.alloc (.cells #[.slice A (nw a) c] 24)).alloc (.cells #[.slice B' (nw b) d] 24)) = V0 at XA XB WW ⊢
  clear hV
  have hbs : w.heap.size ≤ V0.heap.size := WW.size
  have hc := less3_any A B' c d a b V0 XA.num XB.num (by omega) (by omega)
  rw [G1.out] at hc
  refine hc.mono ?_
  clear hc
  rintro e V1 ⟨rfl, hb⟩
  replace XA := XA.below hb
  replace XB := XB.below hb
  replace WW := WW.trans (hb.mono WW.size)
  have kXA := XA.cell
  have zXA := XA.lt
  have kXB := XB.cell
  have zXB := XB.lt
  clear hb hbs
  go_wp2_with fail
  go_ret
  exact ⟨rfl, WW⟩

set_option maxHeartbeats 8000000 in
theorem rsame_gt (A B' : Option Addr) (c d a b : Nat) (w : World) (hA : Num w w.heap.size A (nw a) a) (hB : Num w w.heap.size B' (nw b) b) (ha : nw a ≤ 140) (hb : nw b ≤ 140) (h : ¬ a < b) (h2 : b < a) :
    Calls Try.prog 31 #[.agg #[.slice A (nw a) c], .agg #[.slice B' (nw b) d]] w (RetB (.bool false) w) := by
  have G1 : Hid (decide (a < b) = false) := decide_eq_false h
  have G2 : Hid (decide (b < a) = true) := decide_eq_true h2
  clear h2
  clear h
  obtain ⟨b0, b1, bw⟩ := boxes2 w (.slice A (nw a) c) (.slice B' (nw b) d)
  have XA := VB.mk (B := w.heap.size) (a := a) b0 (.inl hA) bw (Nat.le_refl _) (by omega)
  have XB := VB.mk (B := w.heap.size) (a := b) b1 (.inl hB) bw (Nat.le_refl _) (by omega)
  have WW := bw
  clear bw b0 b1
  go_enter Try.func31, Try.ntmps31
  go_wp2_with fail
  generalize hV : ((w.alloc (.cells #[.slice A (nw a) c] 24)).alloc (.cells #[.slice B' (nw b) d] 24)) = V0 at XA XB WW ⊢
  clear hV
  have hbs : w.heap.size ≤ V0.heap.size := WW.size
  have hc := less3_any A B' c d a b V0 XA.num XB.num (by omega) (by omega)
  rw [G1.out] at hc
  refine hc.mono ?_
  clear hc
  rintro e V1 ⟨rfl, hb⟩
  replace XA := XA.below hb
  replace XB := XB.below hb
  replace WW := WW.trans (hb.mono WW.size)
  have kXA := XA.cell
  have zXA := XA.lt
  have kXB := XB.cell
  have zXB := XB.lt
  clear hb hbs
  go_wp2_with fail
  have hbs : w.heap.size ≤ V1.heap.size := WW.size
  have hc := less3_any B' A d c b a V1 XB.num XA.num (by omega) (by omega)
  rw [G2.out] at hc
  refine hc.mono ?_
  clear hc
  rintro e V2 ⟨rfl, hb⟩
  clear kXA zXA kXB zXB
  replace XA := XA.below hb
  replace XB := XB.below hb
  replace WW := WW.trans (hb.mono WW.size)
  have kXA := XA.cell
  have zXA := XA.lt
  have kXB := XB.cell
  have zXB := XB.lt
  clear hb hbs
  go_wp2_with fail
  go_ret
  exact ⟨rfl, WW⟩

theorem rsame31_any (A B' : Option Addr) (c d a b : Nat) (w : World) (hA : Num w w.heap.size A (nw a) a) (hB : Num w w.heap.size B' (nw b) b) (ha : nw a ≤ 140) (hb : nw b ≤ 140) :
    Calls Try.prog 31 #[.agg #[.slice A (nw a) c], .agg #[.slice B' (nw b) d]] w (RetB (.bool (decide (a = b))) w) := by
  by_cases h1 : a < b
  · rw [decide_eq_false (by omega)]; exact rsame_lt A B' c d a b w hA hB ha hb h1
  · by_cases h2 : b < a
    · rw [decide_eq_false (by omega)]; exact rsame_gt A B' c d a b w hA hB ha hb h1 h2
    · rw [decide_eq_true (by omega)]; exact rsame_ne A B' c d a b w hA hB ha hb h1 h2

theorem of3_1 (w : World) : Calls Try.prog 32 #[.int .u64 1] w (RetNat w.heap.size 1 w) := of3_any 1 w (by omega)
set_option maxHeartbeats 8000000 in
theorem rmod_one (B' C' : Option Addr) (d p b m : Nat) (w : World) (hB : Num w w.heap.size B' (nw b) b) (hC : Num w w.heap.size C' (nw m) m) (hb : nw b ≤ 140) (hm : nw m ≤ 70) (h1 : m = 1) :
    Calls Try.prog 41 #[.agg #[.slice B' (nw b) d], .agg #[.slice C' (nw m) p]] w (RetNat w.heap.size (b % m) w) := by
  have G1 : Hid (decide (m = 1) = true) := decide_eq_true h1
  have HF : Hid (b % m = 0) := (show b % m = 0 by rw [h1]; exact Nat.mod_one b)
  clear h1
  have h01 : nw 1 ≤ 70 := by decide
  obtain ⟨b0, b1, b2, bw⟩ := boxes3 w (.slice B' (nw b) d) (.slice C' (nw m) p) (.slice none 0 0)
  have XB := VB.mk (B := w.heap.size) (a := b) b0 (.inl hB) bw (Nat.le_refl _) (by omega)
  have XC := VB.mk (B := w.heap.size) (a := m) b1 (.inl hC) bw (Nat.le_refl _) (by omega)
  have XR := VB.mk (B := w.heap.size) (a := 0) b2 (.inr (Own.nil _ _ _ _ (Nat.zero_le _))) bw (Nat.le_refl _) (by omega)
  have WW := bw
  clear bw b0 b1 b2
  go_enter Try.func41, Try.ntmps41
  go_wp2_with fail
  generalize hV : (((w.alloc (.cells #[.slice B' (nw b) d] 24)).alloc (.cells #[.slice C' (nw m) p] 24)).alloc (.cells #[.slice none 0 0] 24)) = V0 at XB XC XR WW ⊢
  clear hV
  have OE : Own V0 w.heap.size none 0 0 0 := Own.nil _ _ _ _ (Nat.zero_le _)
  have hbs : w.heap.size ≤ V0.heap.size := WW.size
  have hc := of3_1 V0
  refine hc.mono ?_
  clear hc
  rintro e V1 ⟨v, rfl, hv, hb⟩
  replace XB := XB.below hb
  replace XC := XC.below hb
  replace XR := XR.below hb
  replace OE := OE.below hb (Nat.le_refl _)
  replace WW := WW.trans (hb.mono WW.size)
  obtain ⟨D7, d7, rfl, ho⟩ := hv
  have O7 := ho.weak (b := w.heap.size) hbs
  clear ho
  have kXB := XB.cell
  have zXB := XB.lt
  have kXC := XC.cell
  have zXC := XC.lt
  have kXR := XR.cell
  have zXR := XR.lt
  clear hb hbs
  go_wp2_with fail
  obtain ⟨b0, b1, bw⟩ := boxes2 V1 (.slice D7 (nw 1) d7) (.slice none 0 0)
  have hbs := WW.size
  clear kXB zXB kXC zXC kXR zXR
  have qXR2 := XR.lt
  have XN := VB.mk (B := w.heap.size) (a := 1) b0 (.inr O7) bw hbs (by omega)
  have XO := VB.mk (B := w.heap.size) (a := 0) b1 (.inr (Own.nil _ _ _ _ (Nat.zero_le _))) bw hbs (by omega)
  replace XB := XB.below bw
  replace XC := XC.below bw
  replace XR := XR.below bw
  replace OE := OE.below bw (Nat.le_refl _)
  replace O7 := O7.below bw (Nat.le_refl _)
  replace WW := WW.trans (bw.mono WW.size)
  clear bw hbs b0 b1
  generalize hV : ((V1.alloc (.cells #[.slice D7 (nw 1) d7] 24)).alloc (.cells #[.slice none 0 0] 24)) = V2 at XB XC XR XN XO OE O7 WW ⊢
  clear hV
  have kXB := XB.cell
  have zXB := XB.lt
  have kXC := XC.cell
  have zXC := XC.lt
  have kXR := XR.cell
  have zXR := XR.lt
  have kXN := XN.cell
  have zXN := XN.lt
  have kXO := XO.cell
  have zXO := XO.lt
  have hbs : w.heap.size ≤ V2.heap.size := WW.size
  have hc := rsame31_any C' D7 p d7 m 1 V2 XC.num XN.num (by omega) (by omega)
  rw [G1.out] at hc
  refine hc.mono ?_
  clear hc
  rintro e V3 ⟨rfl, hb⟩
  clear kXB zXB kXC zXC kXR zXR kXN zXN kXO zXO
  replace XB := XB.below hb
  replace XC := XC.below hb
  replace XR := XR.below hb
  replace XN := XN.below hb
  replace XO := XO.below hb
  replace OE := OE.below hb (Nat.le_refl _)
  replace O7 := O7.below hb (Nat.le_refl _)
  replace WW := WW.trans (hb.mono WW.size)
  have fXR := XR.1.frozen 0
  have kXB := XB.cell
  have zXB := XB.lt
  have kXC := XC.cell
  have zXC := XC.lt
  have kXR := XR.cell
  have zXR := XR.lt
  have kXN := XN.cell
  have zXN := XN.lt
  have kXO := XO.cell
  have zXO := XO.lt
  clear hb hbs
  go_wp2_with fail
  have ho2 := OE.box (p := ⟨w.heap.size + 1 + 1, 0, none⟩) XR.1 (by decide) (.slice none 0 0)
  exact bodyPost_ret (v := .agg #[.slice none 0 0]) (by simp [results, Try.results41, go_sem, kXR, zXR]) rfl ⟨_, rfl, by rw [HF.out]; exact ⟨none, 0, rfl, ho2⟩, WW.setCell (by simp <;> omega) _⟩

set_option maxHeartbeats 8000000 in
theorem rmod_more (B' C' : Option Addr) (d p b m : Nat) (w : World) (hB : Num w w.heap.size B' (nw b) b) (hC : Num w w.heap.size C' (nw m) m) (hb : nw b ≤ 140) (hm : nw m ≤ 70) (h1 : ¬ m = 1) (h0 : 0 < m) :
    Calls Try.prog 41 #[.agg #[.slice B' (nw b) d], .agg #[.slice C' (nw m) p]] w (RetNat w.heap.size (b % m) w) := by
  have G1 : Hid (decide (m = 1) = false) := decide_eq_false h1
  have H1M : Hid (1 < m) := (show 1 < m by omega)
  have HM0 := hid h0
  clear h1 h0
  have hbl := bl_le_nw b
  have h01 : nw 1 ≤ 70 := by decide
  obtain ⟨b0, b1, b2, bw⟩ := boxes3 w (.slice B' (nw b) d) (.slice C' (nw m) p) (.slice none 0 0)
  have XB := VB.mk (B := w.heap.size) (a := b) b0 (.inl hB) bw (Nat.le_refl _) (by omega)
  have XC := VB.mk (B := w.heap.size) (a := m) b1 (.inl hC) bw (Nat.le_refl _) (by omega)
  have XR := VB.mk (B := w.heap.size) (a := 0) b2 (.inr (Own.nil _ _ _ _ (Nat.zero_le _))) bw (Nat.le_refl _) (by omega)
  have WW := bw
  clear bw b0 b1 b2
  go_enter Try.func41, Try.ntmps41
  go_wp2_with fail
  generalize hV : (((w.alloc (.cells #[.slice B' (nw b) d] 24)).alloc (.cells #[.slice C' (nw m) p] 24)).alloc (.cells #[.slice none 0 0] 24)) = V0 at XB XC XR WW ⊢
  clear hV
  have OO : Own V0 w.heap.size none 0 0 0 := Own.nil _ _ _ _ (Nat.zero_le _)
  have hbs : w.heap.size ≤ V0.heap.size := WW.size
  have hc := of3_1 V0
  refine hc.mono ?_
  clear hc
  rintro e V1 ⟨v, rfl, hv, hb⟩
  replace XB := XB.below hb
  replace XC := XC.below hb
  replace XR := XR.below hb
  replace OO := OO.below hb (Nat.le_refl _)
  replace WW := WW.trans (hb.mono WW.size)
  obtain ⟨D7, d7, rfl, ho⟩ := hv
  have O7 := ho.weak (b := w.heap.size) hbs
  clear ho
  have kXB := XB.cell
  have zXB := XB.lt
  have kXC := XC.cell
  have zXC := XC.lt
  have kXR := XR.cell
  have zXR := XR.lt
  clear hb hbs
  go_wp2_with fail
  obtain ⟨b0, b1, bw⟩ := boxes2 V1 (.slice D7 (nw 1) d7) (.slice none 0 0)
  have hbs := WW.size
  clear kXB zXB kXC zXC kXR zXR
  have qXR2 := XR.lt
  have XN := VB.mk (B := w.heap.size) (a := 1) b0 (.inr O7) bw hbs (by omega)
  have XO := VB.mk (B := w.heap.size) (a := 0) b1 (.inr (Own.nil _ _ _ _ (Nat.zero_le _))) bw hbs (by omega)
  replace XB := XB.below bw
  replace XC := XC.below bw
  replace XR := XR.below bw
  replace OO := OO.below bw (Nat.le_refl _)
  replace O7 := O7.below bw (Nat.le_refl _)
  replace WW := WW.trans (bw.mono WW.size)
  clear bw hbs b0 b1
  generalize hV : ((V1.alloc (.cells #[.slice D7 (nw 1) d7] 24)).alloc (.cells #[.slice none 0 0] 24)) = V2 at XB XC XR XN XO OO O7 WW ⊢
  clear hV
  have kXB := XB.cell
  have zXB := XB.lt
  have kXC := XC.cell
  have zXC := XC.lt
  have kXR := XR.cell
  have zXR := XR.lt
  have kXN := XN.cell
  have zXN := XN.lt
  have kXO := XO.cell
  have zXO := XO.lt
  have hbs : w.heap.size ≤ V2.heap.size := WW.size
  have hc := rsame31_any C' D7 p d7 m 1 V2 XC.num XN.num (by omega) (by omega)
  rw [G1.out] at hc
  refine hc.mono ?_
  clear hc
  rintro e V3 ⟨rfl, hb⟩
  clear kXB zXB kXC zXC kXR zXR kXN zXN kXO zXO
  replace XB := XB.below hb
  replace XC := XC.below hb
  replace XR := XR.below hb
  replace XN := XN.below hb
  replace XO := XO.below hb
  replace OO := OO.below hb (Nat.le_refl _)
  replace O7 := O7.below hb (Nat.le_refl _)
  replace WW := WW.trans (hb.mono WW.size)
  have kXB := XB.cell
  have zXB := XB.lt
  have kXC := XC.cell
  have zXC := XC.lt
  have kXR := XR.cell
  have zXR := XR.lt
  have kXN := XN.cell
  have zXN := XN.lt
  have kXO := XO.cell
  have zXO := XO.lt
  clear hb hbs
  go_wp2_with fail
  have hbs : w.heap.size ≤ V3.heap.size := WW.size
  have hc := rbits_any B' d b V3 XB.num (by omega)
  refine hc.mono ?_
  clear hc
  rintro e V4 ⟨rfl, hb⟩
  clear kXB zXB kXC zXC kXR zXR kXN zXN kXO zXO
  replace XB := XB.below hb
  replace XC := XC.below hb
  replace XR := XR.below hb
  replace XN := XN.below hb
  replace XO := XO.below hb
  replace OO := OO.below hb (Nat.le_refl _)
  replace O7 := O7.below hb (Nat.le_refl _)
  replace WW := WW.trans (hb.mono WW.size)
  have kXB := XB.cell
  have zXB := XB.lt
  have kXC := XC.cell
  have zXC := XC.lt
  have kXR := XR.cell
  have zXR := XR.lt
  have kXN := XN.cell
  have zXN := XN.lt
  have kXO := XO.cell
  have zXO := XO.lt
  clear hb hbs
  go_wp2_with fail
  go_loopw [7] (fun i wr => ∃ (k s : Nat) (z : Int) (O : Option Addr) (oc : Nat), k ≤ bl b ∧ i = .int .i64 z ∧ z + 1 = (k : Int) ∧ Hid (s = (b / 2 ^ k) % m) ∧ Below w.heap.size w wr ∧ VB w.heap.size wr (w.heap.size) B' (nw b) d b ∧ VB w.heap.size wr (w.heap.size + 1) C' (nw m) p m ∧ VB w.heap.size wr (w.heap.size + 1 + 1) none 0 0 0 ∧ VB w.heap.size wr (V1.heap.size) D7 (nw 1) d7 1 ∧ VB w.heap.size wr (V1.heap.size + 1) O (nw s) oc s ∧ Own wr w.heap.size O (nw s) oc s) (fun i wr => ((intOf i) + 1).toNat)
  case atStart => exact ⟨bl b, 0, ((bl b : Nat) : Int) - 1, none, 0, Nat.le_refl _, by go_num, by omega, (show 0 = (b / 2 ^ bl b) % m by rw [bits_top, Nat.zero_mod]), WW, XB, XC, XR, XN, XO, OO⟩
  case round =>
    clear WW kXB zXB kXC zXC kXR zXR kXN zXN kXO zXO XB XC XR XN XO OO O7
    obtain ⟨k, s, z, O, oc, hk, rfl, hz, HS, WW, XB, XC, XR, XN, XO, OO⟩ := hrel
    have kXB := XB.cell
    have zXB := XB.lt
    have kXC := XC.cell
    have zXC := XC.lt
    have kXR := XR.cell
    have zXR := XR.lt
    have kXN := XN.cell
    have zXN := XN.lt
    have kXO := XO.cell
    have zXO := XO.lt
    by_cases h0 : k = 0
    · subst h0
      have HF : Hid (b % m = s) := (show b % m = s by rw [HS.out, bits_all])
      obtain rfl : z = -1 := by omega
      have fXR := XR.1.frozen 0
      clear HS
      go_wp2_with fail
      have ho2 := OO.box (p := ⟨w.heap.size + 1 + 1, 0, none⟩) XR.1 (by decide) (.slice O (nw s) oc)
      exact bodyPost_ret (v := .agg #[.slice O (nw s) oc]) (by simp [results, Try.results41, go_sem, kXR, zXR]) rfl ⟨_, rfl, by rw [HF.out]; exact ⟨O, oc, rfl, ho2⟩, WW.setCell (by simp <;> omega) _⟩
    · obtain ⟨j, rfl⟩ : ∃ j, k = j + 1 := ⟨k - 1, by omega⟩
      obtain rfl : z = (j : Int) := by omega
      clear h0 hz
      have HSM : Hid (s < m) := (show s < m by rw [HS.out]; exact Nat.mod_lt _ HM0.out)
      have nws : nw s ≤ 70 := Nat.le_trans (nw_mono (Nat.le_of_lt HSM.out)) hm
      obtain ⟨s1, hs1⟩ : ∃ x, x = (s + s) % m := ⟨_, rfl⟩
      have H1 := hid hs1
      have l1 : (0 : Int) ≤ ((j : Nat) : Int) := by omega
      cases hbt : bitN b j
      · have HB := hid hbt
        have H2 : Hid (s1 = (b / 2 ^ j) % m) := (show s1 = (b / 2 ^ j) % m by rw [half_no hbt, hs1, HS.out]; exact (mod_even (b / 2 ^ (j + 1)) m).symm)
        have HSMs1 : Hid (s1 < m) := (show s1 < m by rw [hs1]; exact Nat.mod_lt _ HM0.out)
        have nws1 : nw s1 ≤ 70 := Nat.le_trans (nw_mono (Nat.le_of_lt HSMs1.out)) hm
        clear hbt hs1
        go_wp2_with fail
        have hbs : w.heap.size ≤ wr.heap.size := WW.size
        have hc := radd3_any O O C' oc oc p s s m wr XO.num XO.num XC.num nws nws hm HSM.out HSM.out
        rw [← H1.out] at hc
        refine hc.mono ?_
        clear hc
        rintro e V5 ⟨v, rfl, hv, hb⟩
        clear kXB zXB kXC zXC kXR zXR kXN zXN kXO zXO
        replace XB := XB.below hb
        replace XC := XC.below hb
        replace XR := XR.below hb
        replace XN := XN.below hb
        replace XO := XO.below hb
        replace OO := OO.below hb (Nat.le_refl _)
        replace WW := WW.trans (hb.mono WW.size)
        obtain ⟨D1, d1, rfl, ho⟩ := hv
        have O1 := ho.weak (b := w.heap.size) hbs
        clear ho
        have kXB := XB.cell
        have zXB := XB.lt
        have kXC := XC.cell
        have zXC := XC.lt
        have kXR := XR.cell
        have zXR := XR.lt
        have kXN := XN.cell
        have zXN := XN.lt
        have kXO := XO.cell
        have zXO := XO.lt
        clear hb hbs
        have fXO := XO.1.frozen 0
        have XBn := XB.far (p := ⟨V1.heap.size + 1, 0, none⟩) XO.1 XO.2.2 (by simp <;> omega) (.slice D1 (nw s1) d1)
        have XCn := XC.far (p := ⟨V1.heap.size + 1, 0, none⟩) XO.1 XO.2.2 (by simp <;> omega) (.slice D1 (nw s1) d1)
        have XRn := XR.far (p := ⟨V1.heap.size + 1, 0, none⟩) XO.1 XO.2.2 (by simp <;> omega) (.slice D1 (nw s1) d1)
        have XNn := XN.far (p := ⟨V1.heap.size + 1, 0, none⟩) XO.1 XO.2.2 (by simp <;> omega) (.slice D1 (nw s1) d1)
        have XOn := XO.set_ (A' := D1) (n' := (nw s1)) (c' := d1) (a' := s1) (.inr O1)
        have OOn := OO.box (p := ⟨V1.heap.size + 1, 0, none⟩) XO.1 (by decide) (.slice D1 (nw s1) d1)
        have O1n := O1.box (p := ⟨V1.heap.size + 1, 0, none⟩) XO.1 (by decide) (.slice D1 (nw s1) d1)
        have WWn := WW.setCell (p := ⟨V1.heap.size + 1, 0, none⟩) (by simp <;> omega) (.slice D1 (nw s1) d1)
        go_wp2_with fail
        clear kXB zXB kXC zXC kXR zXR kXN zXN kXO zXO fXO WW XB XC XR XN XO OO O1
        generalize hV : V5.setCell ⟨V1.heap.size + 1, 0, none⟩ (.slice D1 (nw s1) d1) = V6 at XBn XCn XRn XNn XOn OOn O1n WWn ⊢
        clear hV
        have XB := XBn
        have XC := XCn
        have XR := XRn
        have XN := XNn
        have XO := XOn
        have OO := OOn
        have O1 := O1n
        have WW := WWn
        clear XBn XCn XRn XNn XOn OOn O1n WWn
        have kXB := XB.cell
        have zXB := XB.lt
        have kXC := XC.cell
        have zXC := XC.lt
        have kXR := XR.cell
        have zXR := XR.lt
        have kXN := XN.cell
        have zXN := XN.lt
        have kXO := XO.cell
        have zXO := XO.lt
        try go_wp2_with fail
        have hbs : w.heap.size ≤ V6.heap.size := WW.size
        have hc := rbit_any B' d b j V6 XB.num (by omega) (by omega)
        rw [HB.out] at hc
        refine hc.mono ?_
        clear hc
        rintro e V7 ⟨rfl, hb⟩
        clear kXB zXB kXC zXC kXR zXR kXN zXN kXO zXO
        replace XB := XB.below hb
        replace XC := XC.below hb
        replace XR := XR.below hb
        replace XN := XN.below hb
        replace XO := XO.below hb
        replace OO := OO.below hb (Nat.le_refl _)
        replace O1 := O1.below hb (Nat.le_refl _)
        replace WW := WW.trans (hb.mono WW.size)
        have kXB := XB.cell
        have zXB := XB.lt
        have kXC := XC.cell
        have zXC := XC.lt
        have kXR := XR.cell
        have zXR := XR.lt
        have kXN := XN.cell
        have zXN := XN.lt
        have kXO := XO.cell
        have zXO := XO.lt
        clear hb hbs
        go_wp2_with fail
        go_roundw
        case rel => exact ⟨j, s1, ((j : Int) - 1), D1, d1, by omega, by go_num, by omega, H2.out, WW, XB, XC, XR, XN, XO, O1⟩
        case measure => simp [intOf] <;> omega
      · have HB := hid hbt
        obtain ⟨s2, hs2⟩ : ∃ x, x = (s1 + 1) % m := ⟨_, rfl⟩
        have H3 := hid hs2
        have H2 : Hid (s2 = (b / 2 ^ j) % m) := (show s2 = (b / 2 ^ j) % m by rw [half_yes hbt, hs2, hs1, HS.out]; exact (mod_odd (b / 2 ^ (j + 1)) m).symm)
        have HSMs1 : Hid (s1 < m) := (show s1 < m by rw [hs1]; exact Nat.mod_lt _ HM0.out)
        have nws1 : nw s1 ≤ 70 := Nat.le_trans (nw_mono (Nat.le_of_lt HSMs1.out)) hm
        have HSMs2 : Hid (s2 < m) := (show s2 < m by rw [hs2]; exact Nat.mod_lt _ HM0.out)
        have nws2 : nw s2 ≤ 70 := Nat.le_trans (nw_mono (Nat.le_of_lt HSMs2.out)) hm
        clear hbt hs1 hs2
        go_wp2_with fail
        have hbs : w.heap.size ≤ wr.heap.size := WW.size
        have hc := radd3_any O O C' oc oc p s s m wr XO.num XO.num XC.num nws nws hm HSM.out HSM.out
        rw [← H1.out] at hc
        refine hc.mono ?_
        clear hc
        rintro e V5 ⟨v, rfl, hv, hb⟩
        clear kXB zXB kXC zXC kXR zXR kXN zXN kXO zXO
        replace XB := XB.below hb
        replace XC := XC.below hb
        replace XR := XR.below hb
        replace XN := XN.below hb
        replace XO := XO.below hb
        replace OO := OO.below hb (Nat.le_refl _)
        replace WW := WW.trans (hb.mono WW.size)
        obtain ⟨D1, d1, rfl, ho⟩ := hv
        have O1 := ho.weak (b := w.heap.size) hbs
        clear ho
        have kXB := XB.cell
        have zXB := XB.lt
        have kXC := XC.cell
        have zXC := XC.lt
        have kXR := XR.cell
        have zXR := XR.lt
        have kXN := XN.cell
        have zXN := XN.lt
        have kXO := XO.cell
        have zXO := XO.lt
        clear hb hbs
        have fXO := XO.1.frozen 0
        have XBn := XB.far (p := ⟨V1.heap.size + 1, 0, none⟩) XO.1 XO.2.2 (by simp <;> omega) (.slice D1 (nw s1) d1)
        have XCn := XC.far (p := ⟨V1.heap.size + 1, 0, none⟩) XO.1 XO.2.2 (by simp <;> omega) (.slice D1 (nw s1) d1)
        have XRn := XR.far (p := ⟨V1.heap.size + 1, 0, none⟩) XO.1 XO.2.2 (by simp <;> omega) (.slice D1 (nw s1) d1)
        have XNn := XN.far (p := ⟨V1.heap.size + 1, 0, none⟩) XO.1 XO.2.2 (by simp <;> omega) (.slice D1 (nw s1) d1)
        have XOn := XO.set_ (A' := D1) (n' := (nw s1)) (c' := d1) (a' := s1) (.inr O1)
        have OOn := OO.box (p := ⟨V1.heap.size + 1, 0, none⟩) XO.1 (by decide) (.slice D1 (nw s1) d1)
        have O1n := O1.box (p := ⟨V1.heap.size + 1, 0, none⟩) XO.1 (by decide) (.slice D1 (nw s1) d1)
        have WWn := WW.setCell (p := ⟨V1.heap.size + 1, 0, none⟩) (by simp <;> omega) (.slice D1 (nw s1) d1)
        go_wp2_with fail
        clear kXB zXB kXC zXC kXR zXR kXN zXN kXO zXO fXO WW XB XC XR XN XO OO O1
        generalize hV : V5.setCell ⟨V1.heap.size + 1, 0, none⟩ (.slice D1 (nw s1) d1) = V6 at XBn XCn XRn XNn XOn OOn O1n WWn ⊢
        clear hV
        have XB := XBn
        have XC := XCn
        have XR := XRn
        have XN := XNn
        have XO := XOn
        have OO := OOn
        have O1 := O1n
        have WW := WWn
        clear XBn XCn XRn XNn XOn OOn O1n WWn
        have kXB := XB.cell
        have zXB := XB.lt
        have kXC := XC.cell
        have zXC := XC.lt
        have kXR := XR.cell
        have zXR := XR.lt
        have kXN := XN.cell
        have zXN := XN.lt
        have kXO := XO.cell
        have zXO := XO.lt
        try go_wp2_with fail
        have hbs : w.heap.size ≤ V6.heap.size := WW.size
        have hc := rbit_any B' d b j V6 XB.num (by omega) (by omega)
        rw [HB.out] at hc
        refine hc.mono ?_
        clear hc
        rintro e V7 ⟨rfl, hb⟩
        clear kXB zXB kXC zXC kXR zXR kXN zXN kXO zXO
        replace XB := XB.below hb
        replace XC := XC.below hb
        replace XR := XR.below hb
        replace XN := XN.below hb
        replace XO := XO.below hb
        replace OO := OO.below hb (Nat.le_refl _)
        replace O1 := O1.below hb (Nat.le_refl _)
        replace WW := WW.trans (hb.mono WW.size)
        have kXB := XB.cell
        have zXB := XB.lt
        have kXC := XC.cell
        have zXC := XC.lt
        have kXR := XR.cell
        have zXR := XR.lt
        have kXN := XN.cell
        have zXN := XN.lt
        have kXO := XO.cell
        have zXO := XO.lt
        clear hb hbs
        go_wp2_with fail
        have hbs : w.heap.size ≤ V7.heap.size := WW.size
        have hc := radd3_any D1 D7 C' d1 d7 p s1 1 m V7 XO.num XN.num XC.num nws1 h01 hm HSMs1.out H1M.out
        rw [← H3.out] at hc
        refine hc.mono ?_
        clear hc
        rintro e V8 ⟨v, rfl, hv, hb⟩
        clear kXB zXB kXC zXC kXR zXR kXN zXN kXO zXO
        replace XB := XB.below hb
        replace XC := XC.below hb
        replace XR := XR.below hb
        replace XN := XN.below hb
        replace XO := XO.below hb
        replace OO := OO.below hb (Nat.le_refl _)
        replace O1 := O1.below hb (Nat.le_refl _)
        replace WW := WW.trans (hb.mono WW.size)
        obtain ⟨D2, d2, rfl, ho⟩ := hv
        have O2 := ho.weak (b := w.heap.size) hbs
        clear ho
        have kXB := XB.cell
        have zXB := XB.lt
        have kXC := XC.cell
        have zXC := XC.lt
        have kXR := XR.cell
        have zXR := XR.lt
        have kXN := XN.cell
        have zXN := XN.lt
        have kXO := XO.cell
        have zXO := XO.lt
        clear hb hbs
        have fXO := XO.1.frozen 0
        have XBn := XB.far (p := ⟨V1.heap.size + 1, 0, none⟩) XO.1 XO.2.2 (by simp <;> omega) (.slice D2 (nw s2) d2)
        have XCn := XC.far (p := ⟨V1.heap.size + 1, 0, none⟩) XO.1 XO.2.2 (by simp <;> omega) (.slice D2 (nw s2) d2)
        have XRn := XR.far (p := ⟨V1.heap.size + 1, 0, none⟩) XO.1 XO.2.2 (by simp <;> omega) (.slice D2 (nw s2) d2)
        have XNn := XN.far (p := ⟨V1.heap.size + 1, 0, none⟩) XO.1 XO.2.2 (by simp <;> omega) (.slice D2 (nw s2) d2)
        have XOn := XO.set_ (A' := D2) (n' := (nw s2)) (c' := d2) (a' := s2) (.inr O2)
        have OOn := OO.box (p := ⟨V1.heap.size + 1, 0, none⟩) XO.1 (by decide) (.slice D2 (nw s2) d2)
        have O1n := O1.box (p := ⟨V1.heap.size + 1, 0, none⟩) XO.1 (by decide) (.slice D2 (nw s2) d2)
        have O2n := O2.box (p := ⟨V1.heap.size + 1, 0, none⟩) XO.1 (by decide) (.slice D2 (nw s2) d2)
        have WWn := WW.setCell (p := ⟨V1.heap.size + 1, 0, none⟩) (by simp <;> omega) (.slice D2 (nw s2) d2)
        go_wp2_with fail
        clear kXB zXB kXC zXC kXR zXR kXN zXN kXO zXO fXO WW XB XC XR XN XO OO O1 O2
        generalize hV : V8.setCell ⟨V1.heap.size + 1, 0, none⟩ (.slice D2 (nw s2) d2) = V9 at XBn XCn XRn XNn XOn OOn O1n O2n WWn ⊢
        clear hV
        have XB := XBn
        have XC := XCn
        have XR := XRn
        have XN := XNn
        have XO := XOn
        have OO := OOn
        have O1 := O1n
        have O2 := O2n
        have WW := WWn
        clear XBn XCn XRn XNn XOn OOn O1n O2n WWn
        have kXB := XB.cell
        have zXB := XB.lt
        have kXC := XC.cell
        have zXC := XC.lt
        have kXR := XR.cell
        have zXR := XR.lt
        have kXN := XN.cell
        have zXN := XN.lt
        have kXO := XO.cell
        have zXO := XO.lt
        try go_wp2_with fail
        go_roundw
        case rel => exact ⟨j, s2, ((j : Int) - 1), D2, d2, by omega, by go_num, by omega, H2.out, WW, XB, XC, XR, XN, XO, O2⟩
        case measure => simp [intOf] <;> omega

theorem rmod3_any (B' C' : Option Addr) (d p b m : Nat) (w : World) (hB : Num w w.heap.size B' (nw b) b) (hC : Num w w.heap.size C' (nw m) m) (hb : nw b ≤ 140) (hm : nw m ≤ 70) (h0 : 0 < m) :
    Calls Try.prog 41 #[.agg #[.slice B' (nw b) d], .agg #[.slice C' (nw m) p]] w (RetNat w.heap.size (b % m) w) := by
  by_cases h1 : m = 1
  · exact rmod_one B' C' d p b m w hB hC hb hm h1
  · exact rmod_more B' C' d p b m w hB hC hb hm h1 h0

end Go.Proofs.Ytckajjapockonaa
