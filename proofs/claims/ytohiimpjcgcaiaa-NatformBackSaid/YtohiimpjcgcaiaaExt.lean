/- natform.extended. -/
import Derived.Test.YtohiimpjcgcaiaaVb
import Derived.Test.YtohiimpjcgcaiaaPwr
set_option linter.unusedVariables false
set_option linter.unusedSimpArgs false
namespace Go.Proofs.Ytohiimpjcgcaiaa
open Go.RowKit

theorem limS_ok {a : Nat} (h : nw a ≤ 64) : limS a = (a, 0) := by unfold limS; rw [if_pos h]
theorem limS_big {a : Nat} (h : ¬ nw a ≤ 64) : limS a = (0, 9) := by unfold limS; rw [if_neg h]
theorem okB_nw {a : Nat} (h : nw a ≤ 64) : okB (nw a) a = true := okB_yes.2 ⟨rfl, h⟩
theorem nw_i63 {a : Nat} (h : a ≤ 9223372036854775807) : nw a ≤ 64 := Nat.le_trans (nw_mono h) (by decide)
set_option maxHeartbeats 4000000 in
theorem extended_any (A : Option Addr) (c a s x : Nat) (w : World) (hA : Num w w.heap.size A (nw a) a) (ha : nw a ≤ 64) (hs : s ≤ 9223372036854775807) (hx : x ≤ 9223372036854775807) :
    Calls Try.prog 41 #[.agg #[.slice A (nw a) c], .int .i64 ((s : Nat) : Int), .int .i64 ((x : Nat) : Int)] w (RetTwo w.heap.size (limS (a * s + x)).1 (limS (a * s + x)).2 w) := by
  have ns := nw_i63 hs
  have nx := nw_i63 hx
  have K1 := hid (okB_nw ha)
  have K2 := hid (okB_nw ns)
  have K3 := hid (okB_nw nx)
  obtain ⟨p, hp⟩ : ∃ p, p = a * s := ⟨_, rfl⟩
  have HP := hid hp
  rw [← hp]
  clear hp
  obtain ⟨r, hr⟩ : ∃ r, r = limS (p + x) := ⟨_, rfl⟩
  have HR := hid hr
  rw [← hr]
  clear hr
  obtain ⟨b0, b1, bw⟩ := boxes2 w (.slice A (nw a) c) (.slice none 0 0)
  have XA := VB.mk (B := w.heap.size) (a := a) b0 (.inl hA) bw (Nat.le_refl _) (by omega)
  have XR := VB.mk (B := w.heap.size) (a := 0) b1 (.inr (Own.nil _ _ _ _ (Nat.zero_le _))) bw (Nat.le_refl _) (by omega)
  have WW := bw
  clear bw b0 b1
  go_enter Try.func41, Try.ntmps41
  go_wp2_with fail
  generalize hV : ((w.alloc (.cells #[.slice A (nw a) c] 24)).alloc (.cells #[.slice none 0 0] 24)) = V0 at XA XR WW ⊢
  clear hV
  have hbs : w.heap.size ≤ V0.heap.size := WW.size
  have hc := of_any ((s : Nat) : Int) V0 (by omega) (by omega)
  rw [ofS_nat] at hc
  refine hc.mono ?_
  clear hc
  rintro e V1 ⟨v, rfl, hv, hb⟩
  replace XA := XA.below hb
  replace XR := XR.below hb
  replace WW := WW.trans (hb.mono WW.size)
  obtain ⟨D1, d1, rfl, ho⟩ := hv
  have O1 := ho.weak (b := w.heap.size) hbs
  clear ho
  have kXA := XA.cell
  have zXA := XA.lt
  have kXR := XR.cell
  have zXR := XR.lt
  clear hb hbs
  go_wp2_with fail
  obtain ⟨b0, bw⟩ := boxes1 V1 (.slice D1 (nw s) d1)
  have hbs := WW.size
  clear kXA zXA kXR zXR
  have qXR2 := XR.lt
  have XS := VB.mk (B := w.heap.size) (a := s) b0 (.inr O1) bw hbs (by omega)
  replace XA := XA.below bw
  replace XR := XR.below bw
  replace O1 := O1.below bw (Nat.le_refl _)
  replace WW := WW.trans (bw.mono WW.size)
  clear bw hbs b0
  generalize hV : (V1.alloc (.cells #[.slice D1 (nw s) d1] 24)) = V2 at XA XR XS O1 WW ⊢
  clear hV
  have kXA := XA.cell
  have zXA := XA.lt
  have kXR := XR.cell
  have zXR := XR.lt
  have kXS := XS.cell
  have zXS := XS.lt
  have hbs : w.heap.size ≤ V2.heap.size := WW.size
  have hc := of_any ((x : Nat) : Int) V2 (by omega) (by omega)
  rw [ofS_nat] at hc
  refine hc.mono ?_
  clear hc
  rintro e V3 ⟨v, rfl, hv, hb⟩
  clear kXA zXA kXR zXR kXS zXS
  replace XA := XA.below hb
  replace XR := XR.below hb
  replace XS := XS.below hb
  replace O1 := O1.below hb (Nat.le_refl _)
  replace WW := WW.trans (hb.mono WW.size)
  obtain ⟨D2, d2, rfl, ho⟩ := hv
  have O2 := ho.weak (b := w.heap.size) hbs
  clear ho
  have kXA := XA.cell
  have zXA := XA.lt
  have kXR := XR.cell
  have zXR := XR.lt
  have kXS := XS.cell
  have zXS := XS.lt
  clear hb hbs
  go_wp2_with fail
  obtain ⟨b0, bw⟩ := boxes1 V3 (.slice D2 (nw x) d2)
  have hbs := WW.size
  clear kXA zXA kXR zXR kXS zXS
  have qXS4 := XS.lt
  have qXR4 := XR.lt
  have XX := VB.mk (B := w.heap.size) (a := x) b0 (.inr O2) bw hbs (by omega)
  replace XA := XA.below bw
  replace XR := XR.below bw
  replace XS := XS.below bw
  replace O1 := O1.below bw (Nat.le_refl _)
  replace O2 := O2.below bw (Nat.le_refl _)
  replace WW := WW.trans (bw.mono WW.size)
  clear bw hbs b0
  generalize hV : (V3.alloc (.cells #[.slice D2 (nw x) d2] 24)) = V4 at XA XR XS XX O1 O2 WW ⊢
  clear hV
  have kXA := XA.cell
  have zXA := XA.lt
  have kXR := XR.cell
  have zXR := XR.lt
  have kXS := XS.cell
  have zXS := XS.lt
  have kXX := XX.cell
  have zXX := XX.lt
  by_cases hq : nw p ≤ 64
  · have HL := hid (limS_ok hq)
    have K4 := hid (okB_nw hq)
    have hbs : w.heap.size ≤ V4.heap.size := WW.size
    have hc := mul_any A D1 _ _ c d1 a s V4 XA.num XS.num (by omega) (by omega)
    rw [bothS_yes K1.out K2.out] at hc
    rw [← HP.out] at hc
    rw [HL.out] at hc
    refine hc.mono ?_
    clear hc
    rintro e V5 ⟨v, rfl, hv, hb⟩
    clear kXA zXA kXR zXR kXS zXS kXX zXX
    replace XA := XA.below hb
    replace XR := XR.below hb
    replace XS := XS.below hb
    replace XX := XX.below hb
    replace O1 := O1.below hb (Nat.le_refl _)
    replace O2 := O2.below hb (Nat.le_refl _)
    replace WW := WW.trans (hb.mono WW.size)
    obtain ⟨D3, d3, rfl, ho⟩ := hv
    have O3 := ho.weak (b := w.heap.size) hbs
    clear ho
    have kXA := XA.cell
    have zXA := XA.lt
    have kXR := XR.cell
    have zXR := XR.lt
    have kXS := XS.cell
    have zXS := XS.lt
    have kXX := XX.cell
    have zXX := XX.lt
    clear hb hbs
    go_wp2_with fail
    obtain ⟨b0, bw⟩ := boxes1 V5 (.slice D3 (nw p) d3)
    have hbs := WW.size
    clear kXA zXA kXR zXR kXS zXS kXX zXX
    have qXS6 := XS.lt
    have qXX6 := XX.lt
    have qXR6 := XR.lt
    have XP := VB.mk (B := w.heap.size) (a := p) b0 (.inr O3) bw hbs (by omega)
    replace XA := XA.below bw
    replace XR := XR.below bw
    replace XS := XS.below bw
    replace XX := XX.below bw
    replace O1 := O1.below bw (Nat.le_refl _)
    replace O2 := O2.below bw (Nat.le_refl _)
    replace O3 := O3.below bw (Nat.le_refl _)
    replace WW := WW.trans (bw.mono WW.size)
    clear bw hbs b0
    generalize hV : (V5.alloc (.cells #[.slice D3 (nw p) d3] 24)) = V6 at XA XR XS XX XP O1 O2 O3 WW ⊢
    clear hV
    have kXA := XA.cell
    have zXA := XA.lt
    have kXR := XR.cell
    have zXR := XR.lt
    have kXS := XS.cell
    have zXS := XS.lt
    have kXX := XX.cell
    have zXX := XX.lt
    have kXP := XP.cell
    have zXP := XP.lt
    have hbs : w.heap.size ≤ V6.heap.size := WW.size
    have hc := add_any D3 D2 _ _ d3 d2 p x V6 XP.num XX.num (by omega) (by omega)
    rw [bothS_yes K4.out K3.out] at hc
    rw [← HR.out] at hc
    refine hc.mono ?_
    clear hc
    rintro e V7 ⟨v, rfl, hv, hb⟩
    clear kXA zXA kXR zXR kXS zXS kXX zXX kXP zXP
    replace XA := XA.below hb
    replace XR := XR.below hb
    replace XS := XS.below hb
    replace XX := XX.below hb
    replace XP := XP.below hb
    replace O1 := O1.below hb (Nat.le_refl _)
    replace O2 := O2.below hb (Nat.le_refl _)
    replace O3 := O3.below hb (Nat.le_refl _)
    replace WW := WW.trans (hb.mono WW.size)
    obtain ⟨D4, d4, rfl, ho⟩ := hv
    have O4 := ho.weak (b := w.heap.size) hbs
    clear ho
    have kXA := XA.cell
    have zXA := XA.lt
    have kXR := XR.cell
    have zXR := XR.lt
    have kXS := XS.cell
    have zXS := XS.lt
    have kXX := XX.cell
    have zXX := XX.lt
    have kXP := XP.cell
    have zXP := XP.lt
    clear hb hbs
    have fXR := XR.1.frozen 0
    go_wp2_with fail
    have ho2 := O4.box (p := ⟨w.heap.size + 1, 0, none⟩) XR.1 (by decide) (.slice D4 (nw r.1) d4)
    exact bodyPost_ret (v := .tuple #[.agg #[.slice D4 (nw r.1) d4], (.int .i64 r.2)]) (by simp [results, Try.results41, go_sem, kXR, zXR]) rfl ⟨_, rfl, ⟨D4, d4, rfl, ho2⟩, WW.setCell (by simp <;> omega) _⟩
  · have HL := hid (limS_big hq)
    have HX : Hid (r = (0, 9)) := (show r = (0, 9) by rw [HR.out]; exact limS_big (fun h => hq (Nat.le_trans (nw_mono (Nat.le_add_right p x)) h)))
    have hbs : w.heap.size ≤ V4.heap.size := WW.size
    have hc := mul_any A D1 _ _ c d1 a s V4 XA.num XS.num (by omega) (by omega)
    rw [bothS_yes K1.out K2.out] at hc
    rw [← HP.out] at hc
    rw [HL.out] at hc
    refine hc.mono ?_
    clear hc
    rintro e V5 ⟨v, rfl, hv, hb⟩
    clear kXA zXA kXR zXR kXS zXS kXX zXX
    replace XA := XA.below hb
    replace XR := XR.below hb
    replace XS := XS.below hb
    replace XX := XX.below hb
    replace O1 := O1.below hb (Nat.le_refl _)
    replace O2 := O2.below hb (Nat.le_refl _)
    replace WW := WW.trans (hb.mono WW.size)
    obtain ⟨D3, d3, rfl, ho⟩ := hv
    have O3 := ho.weak (b := w.heap.size) hbs
    clear ho
    have kXA := XA.cell
    have zXA := XA.lt
    have kXR := XR.cell
    have zXR := XR.lt
    have kXS := XS.cell
    have zXS := XS.lt
    have kXX := XX.cell
    have zXX := XX.lt
    clear hb hbs
    have fXR := XR.1.frozen 0
    go_wp2_with fail
    have hw2 := WW.setCell (p := ⟨w.heap.size + 1, 0, none⟩) (by simp <;> omega) (.slice none 0 0)
    have hk : ((V5.setCell ⟨w.heap.size + 1, 0, none⟩ (.slice none 0 0)).alloc (.cells #[.slice D3 (nw 0) d3] 24)).cell? ⟨w.heap.size + 1, 0, none⟩ = some (.slice none 0 0) := (((XR.1.set_ 0 (.slice none 0 0)).alloc _).cell 0).trans rfl
    exact bodyPost_ret (v := .tuple #[.agg #[.slice none 0 0], .int .i64 9]) (by simp [results, Try.results41, go_sem, hk]) rfl (by show RetTwo _ _ _ _ _ _; rw [HX.out]; exact ⟨_, rfl, NatV.nil _ _, hw2.alloc hw2.size _⟩)

end Go.Proofs.Ytohiimpjcgcaiaa
