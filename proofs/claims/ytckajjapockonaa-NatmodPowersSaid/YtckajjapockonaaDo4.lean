/- the closures of NatmodPowers. -/
import Derived.Test.YtckajjapockonaaDo3
import Derived.Test.YtckajjapockonaaNpow
set_option linter.unusedVariables false
set_option linter.unusedSimpArgs false
namespace Go.Proofs.Ytckajjapockonaa
open Go.RowKit

set_option maxHeartbeats 8000000 in
theorem do_pow (gm gg : Nat) (A B' C' : Option Addr) (c d p a b m : Nat) (w : World) (hA : Num w w.heap.size A (nw a) a) (hB : Num w w.heap.size B' (nw b) b) (hC : Num w w.heap.size C' (nw m) m) (hm : nw m ≤ 32) (h1 : a < m) (h2 : nw b ≤ 64) (bm : Blk w gm 24 #[.slice C' (nw m) p]) (bg : Blk w gg 4 #[.bool true]) :
    Calls Try.prog 35 #[.agg #[.slice A (nw a) c], .agg #[.slice B' (nw b) d], .pointer (some ⟨gm, 0, none⟩), .pointer (some ⟨gg, 0, none⟩)] w (RetNat w.heap.size ((a ^ b) % m) w) := by
  have hm0 : 0 < m := by omega
  have na : nw a ≤ 32 := Nat.le_trans (nw_mono (Nat.le_of_lt h1)) hm
  have HC0 : chkS (nw a) a 0 0 (nw m) m = 0 := chk_ok rfl rfl rfl (by omega) (by omega) ⟨nw_pos (by omega), hm⟩ h1 hm0
  obtain ⟨x, hx⟩ : ∃ x, x = (a ^ b) % m := ⟨_, rfl⟩
  have HP : Hid (powV (nw a) a (nw b) b (nw m) m = (x, 0)) := (show _ = (x, 0) by rw [powV_yes (okB_nw h2), HC0, modS_ok, hx])
  clear HC0
  have HX := hid hx
  have hxm : x < m := by rw [hx]; exact Nat.mod_lt _ hm0
  have nx : nw x ≤ 32 := Nat.le_trans (nw_mono (Nat.le_of_lt hxm)) hm
  have G1 := hid (okB_nw (Nat.le_trans nx (show 32 ≤ 64 by omega)))
  have G2 : Hid (decide (x < m) = true) := decide_eq_true hxm
  have HNC := hid hC
  have HBM := hid bm
  have HBG := hid bg
  have hgm := bm.lt
  have hgg := bg.lt
  rw [← hx]
  clear hx hxm hm0 h1 bm bg
  obtain ⟨b0, b1, b2, bw⟩ := boxes3 w (.slice A (nw a) c) (.slice B' (nw b) d) (.slice none 0 0)
  have XA := VB.mk (B := w.heap.size) (a := a) b0 (.inl hA) bw (Nat.le_refl _) (by omega)
  have XB := VB.mk (B := w.heap.size) (a := b) b1 (.inl hB) bw (Nat.le_refl _) (by omega)
  have XR := VB.mk (B := w.heap.size) (a := 0) b2 (.inr (Own.nil _ _ _ _ (Nat.zero_le _))) bw (Nat.le_refl _) (by omega)
  have WW := bw
  clear bw b0 b1 b2
  have kpre1 : (((w.alloc (.cells #[.slice A (nw a) c] 24)).alloc (.cells #[.slice B' (nw b) d] 24)).alloc (.cells #[.slice none 0 0] 24)).cell? ⟨gm, 0, none⟩ = some (.slice C' (nw m) p) := (HBM.out.below WW hgm).cell0
  have kpre2 : (((w.alloc (.cells #[.slice A (nw a) c] 24)).alloc (.cells #[.slice B' (nw b) d] 24)).alloc (.cells #[.slice none 0 0] 24)).cell? ⟨gg, 0, none⟩ = some (.bool true) := (HBG.out.below WW hgg).cell0
  go_enter Try.func35, Try.ntmps35
  go_wp2_with fail
  clear kpre1 kpre2
  generalize hV : (((w.alloc (.cells #[.slice A (nw a) c] 24)).alloc (.cells #[.slice B' (nw b) d] 24)).alloc (.cells #[.slice none 0 0] 24)) = V0 at XA XB XR WW ⊢
  clear hV
  have BM : Blk V0 gm 24 #[.slice C' (nw m) p] := HBM.out.below WW hgm
  have BG : Blk V0 gg 4 #[.bool true] := HBG.out.below WW hgg
  have NC : Num V0 V0.heap.size C' (nw m) m := (HNC.out.below WW).more WW.size
  have hbs : w.heap.size ≤ V0.heap.size := WW.size
  have hc := npow_any A B' C' _ _ _ c d p a b m V0 XA.num XB.num NC (by omega) (by omega) (by omega)
  rw [HP.out] at hc
  refine hc.mono ?_
  clear hc
  rintro e V1 ⟨v, rfl, hv, hb⟩
  replace XA := XA.below hb
  replace XB := XB.below hb
  replace XR := XR.below hb
  replace BM := BM.below hb BM.lt
  replace BG := BG.below hb BG.lt
  replace NC := (NC.below hb).more hb.size
  replace WW := WW.trans (hb.mono WW.size)
  obtain ⟨D1, d1, rfl, ho⟩ := hv
  have O1 := ho.weak (b := w.heap.size) hbs
  clear ho
  have kXA := XA.cell
  have zXA := XA.lt
  have kXB := XB.cell
  have zXB := XB.lt
  have kXR := XR.cell
  have zXR := XR.lt
  have kBM := BM.cell0
  have zBM := BM.lt
  have kBG := BG.cell0
  have zBG := BG.lt
  clear hb hbs
  go_wp2_with fail
  obtain ⟨b0, bw⟩ := boxes1 V1 (.slice D1 (nw x) d1)
  have hbs := WW.size
  clear kXA zXA kXB zXB kXR zXR kBM zBM kBG zBG
  have qXR2 := XR.lt
  have qBM2 := BM.lt
  have qBG2 := BG.lt
  have X1 := VB.mk (B := w.heap.size) (a := x) b0 (.inr O1) bw hbs (by omega)
  replace XA := XA.below bw
  replace XB := XB.below bw
  replace XR := XR.below bw
  replace O1 := O1.below bw (Nat.le_refl _)
  replace BM := BM.below bw BM.lt
  replace BG := BG.below bw BG.lt
  replace NC := (NC.below bw).more bw.size
  replace WW := WW.trans (bw.mono WW.size)
  clear bw hbs b0
  generalize hV : (V1.alloc (.cells #[.slice D1 (nw x) d1] 24)) = V2 at XA XB XR X1 O1 BM BG NC WW ⊢
  clear hV
  have kXA := XA.cell
  have zXA := XA.lt
  have kXB := XB.cell
  have zXB := XB.lt
  have kXR := XR.cell
  have zXR := XR.lt
  have kX1 := X1.cell
  have zX1 := X1.lt
  have kBM := BM.cell0
  have zBM := BM.lt
  have kBG := BG.cell0
  have zBG := BG.lt
  have hbs : w.heap.size ≤ V2.heap.size := WW.size
  have hc := rvalid_any D1 _ d1 x _ V2 X1.num (Nat.le_refl _) (by omega)
  rw [G1.out] at hc
  refine hc.mono ?_
  clear hc
  rintro e V3 ⟨rfl, hb⟩
  clear kXA zXA kXB zXB kXR zXR kX1 zX1 kBM zBM kBG zBG
  replace XA := XA.below hb
  replace XB := XB.below hb
  replace XR := XR.below hb
  replace X1 := X1.below hb
  replace O1 := O1.below hb (Nat.le_refl _)
  replace BM := BM.below hb BM.lt
  replace BG := BG.below hb BG.lt
  replace NC := (NC.below hb).more hb.size
  replace WW := WW.trans (hb.mono WW.size)
  have kXA := XA.cell
  have zXA := XA.lt
  have kXB := XB.cell
  have zXB := XB.lt
  have kXR := XR.cell
  have zXR := XR.lt
  have kX1 := X1.cell
  have zX1 := X1.lt
  have kBM := BM.cell0
  have zBM := BM.lt
  have kBG := BG.cell0
  have zBG := BG.lt
  clear hb hbs
  go_wp2_with fail
  have hbs : w.heap.size ≤ V3.heap.size := WW.size
  have hc := less3_any D1 C' d1 p x m V3 X1.num NC (by omega) (by omega)
  rw [G2.out] at hc
  refine hc.mono ?_
  clear hc
  rintro e V4 ⟨rfl, hb⟩
  clear kXA zXA kXB zXB kXR zXR kX1 zX1 kBM zBM kBG zBG
  replace XA := XA.below hb
  replace XB := XB.below hb
  replace XR := XR.below hb
  replace X1 := X1.below hb
  replace O1 := O1.below hb (Nat.le_refl _)
  replace BM := BM.below hb BM.lt
  replace BG := BG.below hb BG.lt
  replace NC := (NC.below hb).more hb.size
  replace WW := WW.trans (hb.mono WW.size)
  have fBG := BG.frozen 0
  have fXR := XR.1.frozen 0
  have kXA := XA.cell
  have zXA := XA.lt
  have kXB := XB.cell
  have zXB := XB.lt
  have kXR := XR.cell
  have zXR := XR.lt
  have kX1 := X1.cell
  have zX1 := X1.lt
  have kBM := BM.cell0
  have zBM := BM.lt
  have kBG := BG.cell0
  have zBG := BG.lt
  clear hb hbs
  go_wp2_with fail
  rw [setCell_same BG]
  try go_wp2_with fail
  have ho2 := O1.box (p := ⟨w.heap.size + 1 + 1, 0, none⟩) XR.1 (by decide) (.slice D1 (nw x) d1)
  exact bodyPost_ret (v := .agg #[.slice D1 (nw x) d1]) (by simp [results, Try.results35, go_sem, kXR, zXR]) rfl ⟨_, rfl, ⟨D1, d1, rfl, ho2⟩, WW.setCell (by simp <;> omega) _⟩

set_option maxHeartbeats 8000000 in
theorem do_pmul (gm gg : Nat) (A B' C' : Option Addr) (c d p a b m : Nat) (w : World) (hA : Num w w.heap.size A (nw a) a) (hB : Num w w.heap.size B' (nw b) b) (hC : Num w w.heap.size C' (nw m) m) (hm : nw m ≤ 32) (h1 : a < m) (h2 : b < m) (bm : Blk w gm 24 #[.slice C' (nw m) p]) (bg : Blk w gg 4 #[.bool true]) :
    Calls Try.prog 36 #[.agg #[.slice A (nw a) c], .agg #[.slice B' (nw b) d], .pointer (some ⟨gm, 0, none⟩), .pointer (some ⟨gg, 0, none⟩)] w (RetNat w.heap.size ((a * b) % m) w) := by
  have hm0 : 0 < m := by omega
  have na : nw a ≤ 32 := Nat.le_trans (nw_mono (Nat.le_of_lt h1)) hm
  have nb : nw b ≤ 32 := Nat.le_trans (nw_mono (Nat.le_of_lt h2)) hm
  have HC : Hid (chkS (nw a) a (nw b) b (nw m) m = 0) := chk_ok rfl rfl rfl (by omega) (by omega) ⟨nw_pos (by omega), hm⟩ h1 h2
  obtain ⟨x, hx⟩ : ∃ x, x = (a * b) % m := ⟨_, rfl⟩
  have M1 := hid (modS_ok x)
  have HX := hid hx
  have hxm : x < m := by rw [hx]; exact Nat.mod_lt _ hm0
  have nx : nw x ≤ 32 := Nat.le_trans (nw_mono (Nat.le_of_lt hxm)) hm
  have G1 := hid (okB_nw (Nat.le_trans nx (show 32 ≤ 64 by omega)))
  have G2 : Hid (decide (x < m) = true) := decide_eq_true hxm
  have HNC := hid hC
  have HBM := hid bm
  have HBG := hid bg
  have hgm := bm.lt
  have hgg := bg.lt
  rw [← hx]
  clear hx hxm hm0 h1 bm bg h2
  obtain ⟨b0, b1, b2, bw⟩ := boxes3 w (.slice A (nw a) c) (.slice B' (nw b) d) (.slice none 0 0)
  have XA := VB.mk (B := w.heap.size) (a := a) b0 (.inl hA) bw (Nat.le_refl _) (by omega)
  have XB := VB.mk (B := w.heap.size) (a := b) b1 (.inl hB) bw (Nat.le_refl _) (by omega)
  have XR := VB.mk (B := w.heap.size) (a := 0) b2 (.inr (Own.nil _ _ _ _ (Nat.zero_le _))) bw (Nat.le_refl _) (by omega)
  have WW := bw
  clear bw b0 b1 b2
  have kpre1 : (((w.alloc (.cells #[.slice A (nw a) c] 24)).alloc (.cells #[.slice B' (nw b) d] 24)).alloc (.cells #[.slice none 0 0] 24)).cell? ⟨gm, 0, none⟩ = some (.slice C' (nw m) p) := (HBM.out.below WW hgm).cell0
  have kpre2 : (((w.alloc (.cells #[.slice A (nw a) c] 24)).alloc (.cells #[.slice B' (nw b) d] 24)).alloc (.cells #[.slice none 0 0] 24)).cell? ⟨gg, 0, none⟩ = some (.bool true) := (HBG.out.below WW hgg).cell0
  go_enter Try.func36, Try.ntmps36
  go_wp2_with fail
  clear kpre1 kpre2
  generalize hV : (((w.alloc (.cells #[.slice A (nw a) c] 24)).alloc (.cells #[.slice B' (nw b) d] 24)).alloc (.cells #[.slice none 0 0] 24)) = V0 at XA XB XR WW ⊢
  clear hV
  have BM : Blk V0 gm 24 #[.slice C' (nw m) p] := HBM.out.below WW hgm
  have BG : Blk V0 gg 4 #[.bool true] := HBG.out.below WW hgg
  have NC : Num V0 V0.heap.size C' (nw m) m := (HNC.out.below WW).more WW.size
  have hbs : w.heap.size ≤ V0.heap.size := WW.size
  have hc := nmul_any A B' C' _ _ _ c d p a b m V0 XA.num XB.num NC (by omega) (by omega) (by omega)
  rw [HC.out] at hc
  rw [← HX.out] at hc
  rw [M1.out] at hc
  refine hc.mono ?_
  clear hc
  rintro e V1 ⟨v, rfl, hv, hb⟩
  replace XA := XA.below hb
  replace XB := XB.below hb
  replace XR := XR.below hb
  replace BM := BM.below hb BM.lt
  replace BG := BG.below hb BG.lt
  replace NC := (NC.below hb).more hb.size
  replace WW := WW.trans (hb.mono WW.size)
  obtain ⟨D1, d1, rfl, ho⟩ := hv
  have O1 := ho.weak (b := w.heap.size) hbs
  clear ho
  have kXA := XA.cell
  have zXA := XA.lt
  have kXB := XB.cell
  have zXB := XB.lt
  have kXR := XR.cell
  have zXR := XR.lt
  have kBM := BM.cell0
  have zBM := BM.lt
  have kBG := BG.cell0
  have zBG := BG.lt
  clear hb hbs
  go_wp2_with fail
  obtain ⟨b0, bw⟩ := boxes1 V1 (.slice D1 (nw x) d1)
  have hbs := WW.size
  clear kXA zXA kXB zXB kXR zXR kBM zBM kBG zBG
  have qXR2 := XR.lt
  have qBM2 := BM.lt
  have qBG2 := BG.lt
  have X1 := VB.mk (B := w.heap.size) (a := x) b0 (.inr O1) bw hbs (by omega)
  replace XA := XA.below bw
  replace XB := XB.below bw
  replace XR := XR.below bw
  replace O1 := O1.below bw (Nat.le_refl _)
  replace BM := BM.below bw BM.lt
  replace BG := BG.below bw BG.lt
  replace NC := (NC.below bw).more bw.size
  replace WW := WW.trans (bw.mono WW.size)
  clear bw hbs b0
  generalize hV : (V1.alloc (.cells #[.slice D1 (nw x) d1] 24)) = V2 at XA XB XR X1 O1 BM BG NC WW ⊢
  clear hV
  have kXA := XA.cell
  have zXA := XA.lt
  have kXB := XB.cell
  have zXB := XB.lt
  have kXR := XR.cell
  have zXR := XR.lt
  have kX1 := X1.cell
  have zX1 := X1.lt
  have kBM := BM.cell0
  have zBM := BM.lt
  have kBG := BG.cell0
  have zBG := BG.lt
  have hbs : w.heap.size ≤ V2.heap.size := WW.size
  have hc := rvalid_any D1 _ d1 x _ V2 X1.num (Nat.le_refl _) (by omega)
  rw [G1.out] at hc
  refine hc.mono ?_
  clear hc
  rintro e V3 ⟨rfl, hb⟩
  clear kXA zXA kXB zXB kXR zXR kX1 zX1 kBM zBM kBG zBG
  replace XA := XA.below hb
  replace XB := XB.below hb
  replace XR := XR.below hb
  replace X1 := X1.below hb
  replace O1 := O1.below hb (Nat.le_refl _)
  replace BM := BM.below hb BM.lt
  replace BG := BG.below hb BG.lt
  replace NC := (NC.below hb).more hb.size
  replace WW := WW.trans (hb.mono WW.size)
  have kXA := XA.cell
  have zXA := XA.lt
  have kXB := XB.cell
  have zXB := XB.lt
  have kXR := XR.cell
  have zXR := XR.lt
  have kX1 := X1.cell
  have zX1 := X1.lt
  have kBM := BM.cell0
  have zBM := BM.lt
  have kBG := BG.cell0
  have zBG := BG.lt
  clear hb hbs
  go_wp2_with fail
  have hbs : w.heap.size ≤ V3.heap.size := WW.size
  have hc := less3_any D1 C' d1 p x m V3 X1.num NC (by omega) (by omega)
  rw [G2.out] at hc
  refine hc.mono ?_
  clear hc
  rintro e V4 ⟨rfl, hb⟩
  clear kXA zXA kXB zXB kXR zXR kX1 zX1 kBM zBM kBG zBG
  replace XA := XA.below hb
  replace XB := XB.below hb
  replace XR := XR.below hb
  replace X1 := X1.below hb
  replace O1 := O1.below hb (Nat.le_refl _)
  replace BM := BM.below hb BM.lt
  replace BG := BG.below hb BG.lt
  replace NC := (NC.below hb).more hb.size
  replace WW := WW.trans (hb.mono WW.size)
  have fBG := BG.frozen 0
  have fXR := XR.1.frozen 0
  have kXA := XA.cell
  have zXA := XA.lt
  have kXB := XB.cell
  have zXB := XB.lt
  have kXR := XR.cell
  have zXR := XR.lt
  have kX1 := X1.cell
  have zX1 := X1.lt
  have kBM := BM.cell0
  have zBM := BM.lt
  have kBG := BG.cell0
  have zBG := BG.lt
  clear hb hbs
  go_wp2_with fail
  rw [setCell_same BG]
  try go_wp2_with fail
  have ho2 := O1.box (p := ⟨w.heap.size + 1 + 1, 0, none⟩) XR.1 (by decide) (.slice D1 (nw x) d1)
  exact bodyPost_ret (v := .agg #[.slice D1 (nw x) d1]) (by simp [results, Try.results36, go_sem, kXR, zXR]) rfl ⟨_, rfl, ⟨D1, d1, rfl, ho2⟩, WW.setCell (by simp <;> omega) _⟩

end Go.Proofs.Ytckajjapockonaa
