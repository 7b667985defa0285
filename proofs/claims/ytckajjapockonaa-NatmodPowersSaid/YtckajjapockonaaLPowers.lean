/- NatmodPowers: the walk. -/
import Derived.Test.YtckajjapockonaaLPowers0
set_option linter.unusedVariables false
set_option linter.unusedSimpArgs false
namespace Go.Proofs.Ytckajjapockonaa
open Go.RowKit

set_option maxHeartbeats 16000000 in
set_option maxRecDepth 100000 in
theorem powl_ok (A B' C' E E2 : Option Addr) (n k q l s c d p f f2 a b m e e2 : Nat) (w : World) (hA : Num w w.heap.size A n a) (hB : Num w w.heap.size B' k b) (hC : Num w w.heap.size C' q m) (hE : Num w w.heap.size E l e) (hF : Num w w.heap.size E2 s e2) (hn : n ≤ 9223372036854775807) (hk : k ≤ 9223372036854775807) (hq : q ≤ 9223372036854775807) (hl : l ≤ 9223372036854775807) (hs : s ≤ 9223372036854775807) (hg : n ≤ 8 ∧ k ≤ 8 ∧ q ≤ 8) (hg2 : l ≤ 2 ∧ s ≤ 2) (h0 : chkS n a k b q m = 0) (h1 : okB l e = true) (h2 : okB s e2 = true) :
    Calls Try.prog 8 #[.agg #[.slice A n c], .agg #[.slice B' k d], .agg #[.slice C' q p], .agg #[.slice E l f], .agg #[.slice E2 s f2]] w (RetB (.bool true) w) := by
  have HG : Hid (decide (n ≤ 8 ∧ k ≤ 8 ∧ q ≤ 8) = true) := decide_eq_true hg
  have HG2 : Hid (decide (l ≤ 2 ∧ s ≤ 2) = true) := decide_eq_true hg2
  have HC := hid h0
  have K1 := hid h1
  have K2 := hid h2
  obtain ⟨hna, hkb, hqm, hm, hm0, ha, hb_⟩ := chk0 h0
  obtain ⟨hle, -⟩ := okB_yes.1 h1
  obtain ⟨hse, -⟩ := okB_yes.1 h2
  subst hna hkb hqm hle hse
  have ne := hg2.1
  have ne2 := hg2.2
  obtain ⟨x, hx⟩ : ∃ z, z = (a ^ e) % m := ⟨_, rfl⟩
  have Hx := hid hx
  have lx : x < m := by rw [hx]; exact Nat.mod_lt _ hm0
  have nx : nw x ≤ 32 := Nat.le_trans (nw_mono (Nat.le_of_lt lx)) hm
  obtain ⟨y, hy⟩ : ∃ z, z = (a ^ e2) % m := ⟨_, rfl⟩
  have Hy := hid hy
  have ly : y < m := by rw [hy]; exact Nat.mod_lt _ hm0
  have ny : nw y ≤ 32 := Nat.le_trans (nw_mono (Nat.le_of_lt ly)) hm
  obtain ⟨z, hz⟩ : ∃ z, z = (b ^ e) % m := ⟨_, rfl⟩
  have Hz := hid hz
  have lz : z < m := by rw [hz]; exact Nat.mod_lt _ hm0
  have nz : nw z ≤ 32 := Nat.le_trans (nw_mono (Nat.le_of_lt lz)) hm
  obtain ⟨v1, hv1⟩ : ∃ z, z = (a ^ (e + e2)) % m := ⟨_, rfl⟩
  have Hv1 := hid hv1
  have lv1 : v1 < m := by rw [hv1]; exact Nat.mod_lt _ hm0
  have nv1 : nw v1 ≤ 32 := Nat.le_trans (nw_mono (Nat.le_of_lt lv1)) hm
  obtain ⟨v2, hv2⟩ : ∃ z, z = (x ^ e2) % m := ⟨_, rfl⟩
  have Hv2 := hid hv2
  have lv2 : v2 < m := by rw [hv2]; exact Nat.mod_lt _ hm0
  have nv2 : nw v2 ≤ 32 := Nat.le_trans (nw_mono (Nat.le_of_lt lv2)) hm
  obtain ⟨ab, hab⟩ : ∃ z, z = (a * b) % m := ⟨_, rfl⟩
  have Hab := hid hab
  have lab : ab < m := by rw [hab]; exact Nat.mod_lt _ hm0
  have nab : nw ab ≤ 32 := Nat.le_trans (nw_mono (Nat.le_of_lt lab)) hm
  obtain ⟨v3, hv3⟩ : ∃ z, z = (ab ^ e) % m := ⟨_, rfl⟩
  have Hv3 := hid hv3
  have lv3 : v3 < m := by rw [hv3]; exact Nat.mod_lt _ hm0
  have nv3 : nw v3 ≤ 32 := Nat.le_trans (nw_mono (Nat.le_of_lt lv3)) hm
  obtain ⟨t1, ht1⟩ : ∃ z, z = e + e2 := ⟨_, rfl⟩
  have Ht1 := hid ht1
  have nt1 : nw t1 ≤ 3 := by rw [ht1]; exact nw_sum ne ne2
  obtain ⟨t2, ht2⟩ : ∃ z, z = e * e2 := ⟨_, rfl⟩
  have Ht2 := hid ht2
  have nt2 : nw t2 ≤ 4 := by rw [ht2]; exact nw_prod (j := 2) (k := 2) ne ne2
  have E1 : Hid (a ^ t1 % m = v1) := (show a ^ t1 % m = v1 by rw [hv1, ht1])
  have E2_ : Hid (x * y % m = v1) := (show x * y % m = v1 by rw [hv1, hx, hy, pows_add])
  have E3 : Hid (a ^ t2 % m = v2) := (show a ^ t2 % m = v2 by rw [hv2, hx, ht2, pows_mul])
  have E4 : Hid (x * z % m = v3) := (show x * z % m = v3 by rw [hv3, hx, hz, hab, pows_prod])
  have E5 : Hid (a ^ 1 % m = a) := (show a ^ 1 % m = a by rw [Nat.pow_one, Nat.mod_eq_of_lt ha])
  have na : nw a ≤ 32 := Nat.le_trans (nw_mono (Nat.le_of_lt ha)) hm
  have nb : nw b ≤ 32 := Nat.le_trans (nw_mono (Nat.le_of_lt hb_)) hm
  have n1 : nw 1 ≤ 64 := by decide
  clear h0 h1 h2 hx hy hz hv1 hv2 hab hv3 ht1 ht2 hm0
  clear hg hg2
  obtain ⟨b0, b1, b2, b3, b4, bw⟩ := boxes5 w (.slice A (nw a) c) (.slice B' (nw b) d) (.slice C' (nw m) p) (.slice E (nw e) f) (.slice E2 (nw e2) f2)
  have XA := VB.mk (B := w.heap.size) (a := a) b0 (.inl hA) bw (Nat.le_refl _) (by omega)
  have XB := VB.mk (B := w.heap.size) (a := b) b1 (.inl hB) bw (Nat.le_refl _) (by omega)
  have XC := VB.mk (B := w.heap.size) (a := m) b2 (.inl hC) bw (Nat.le_refl _) (by omega)
  have XE := VB.mk (B := w.heap.size) (a := e) b3 (.inl hE) bw (Nat.le_refl _) (by omega)
  have XF := VB.mk (B := w.heap.size) (a := e2) b4 (.inl hF) bw (Nat.le_refl _) (by omega)
  have WW := bw
  clear bw b0 b1 b2 b3 b4
  go_enter Try.func8, Try.ntmps8
  go_wp2_with fail
  generalize hV : (((((w.alloc (.cells #[.slice A (nw a) c] 24)).alloc (.cells #[.slice B' (nw b) d] 24)).alloc (.cells #[.slice C' (nw m) p] 24)).alloc (.cells #[.slice E (nw e) f] 24)).alloc (.cells #[.slice E2 (nw e2) f2] 24)) = V0 at XA XB XC XE XF WW ⊢
  clear hV
  have hbs : w.heap.size ≤ V0.heap.size := WW.size
  have hc := awake_any V0
  refine hc.mono ?_
  clear hc
  rintro e V1 ⟨rfl, hb⟩
  replace XA := XA.below hb
  replace XB := XB.below hb
  replace XC := XC.below hb
  replace XE := XE.below hb
  replace XF := XF.below hb
  replace WW := WW.trans (hb.mono WW.size)
  have kXA := XA.cell
  have zXA := XA.lt
  have kXB := XB.cell
  have zXB := XB.lt
  have kXC := XC.cell
  have zXC := XC.lt
  have kXE := XE.cell
  have zXE := XE.lt
  have kXF := XF.cell
  have zXF := XF.lt
  clear hb hbs
  go_wp2_with fail
  have hbs : w.heap.size ≤ V1.heap.size := WW.size
  have hc := few_n3 8 (by omega) V1 A B' C' (nw a) (nw b) (nw m) c d p (by omega) (by omega) (by omega)
  rw [HG.out] at hc
  refine hc.mono ?_
  clear hc
  rintro e V2 ⟨rfl, hb⟩
  clear kXA zXA kXB zXB kXC zXC kXE zXE kXF zXF
  replace XA := XA.below hb
  replace XB := XB.below hb
  replace XC := XC.below hb
  replace XE := XE.below hb
  replace XF := XF.below hb
  replace WW := WW.trans (hb.mono WW.size)
  have kXA := XA.cell
  have zXA := XA.lt
  have kXB := XB.cell
  have zXB := XB.lt
  have kXC := XC.cell
  have zXC := XC.lt
  have kXE := XE.cell
  have zXE := XE.lt
  have kXF := XF.cell
  have zXF := XF.lt
  clear hb hbs
  go_wp2_with fail
  have hbs : w.heap.size ≤ V2.heap.size := WW.size
  have hc := few_n2 2 (by omega) V2 E E2 (nw e) (nw e2) f f2 (by omega) (by omega)
  rw [HG2.out] at hc
  refine hc.mono ?_
  clear hc
  rintro e V3 ⟨rfl, hb⟩
  clear kXA zXA kXB zXB kXC zXC kXE zXE kXF zXF
  replace XA := XA.below hb
  replace XB := XB.below hb
  replace XC := XC.below hb
  replace XE := XE.below hb
  replace XF := XF.below hb
  replace WW := WW.trans (hb.mono WW.size)
  have kXA := XA.cell
  have zXA := XA.lt
  have kXB := XB.cell
  have zXB := XB.lt
  have kXC := XC.cell
  have zXC := XC.lt
  have kXE := XE.cell
  have zXE := XE.lt
  have kXF := XF.cell
  have zXF := XF.lt
  clear hb hbs
  go_wp2_with fail
  have hbs : w.heap.size ≤ V3.heap.size := WW.size
  have hc := first_args V3 A B' _ _ c d a b _ m p C' XA.num XB.num XC.num (by omega) (by omega) (by omega)
  rw [HC.out] at hc
  refine hc.mono ?_
  clear hc
  rintro e V4 ⟨rfl, hb⟩
  clear kXA zXA kXB zXB kXC zXC kXE zXE kXF zXF
  replace XA := XA.below hb
  replace XB := XB.below hb
  replace XC := XC.below hb
  replace XE := XE.below hb
  replace XF := XF.below hb
  replace WW := WW.trans (hb.mono WW.size)
  have kXA := XA.cell
  have zXA := XA.lt
  have kXB := XB.cell
  have zXB := XB.lt
  have kXC := XC.cell
  have zXC := XC.lt
  have kXE := XE.cell
  have zXE := XE.lt
  have kXF := XF.cell
  have zXF := XF.lt
  clear hb hbs
  go_wp2_with fail
  have hbs : w.heap.size ≤ V4.heap.size := WW.size
  have hc := rvalid_any E _ f e _ V4 XE.num (Nat.le_refl _) (by omega)
  rw [K1.out] at hc
  refine hc.mono ?_
  clear hc
  rintro e V5 ⟨rfl, hb⟩
  clear kXA zXA kXB zXB kXC zXC kXE zXE kXF zXF
  replace XA := XA.below hb
  replace XB := XB.below hb
  replace XC := XC.below hb
  replace XE := XE.below hb
  replace XF := XF.below hb
  replace WW := WW.trans (hb.mono WW.size)
  have kXA := XA.cell
  have zXA := XA.lt
  have kXB := XB.cell
  have zXB := XB.lt
  have kXC := XC.cell
  have zXC := XC.lt
  have kXE := XE.cell
  have zXE := XE.lt
  have kXF := XF.cell
  have zXF := XF.lt
  clear hb hbs
  go_wp2_with fail
  have hbs : w.heap.size ≤ V5.heap.size := WW.size
  have hc := rvalid_any E2 _ f2 e2 _ V5 XF.num (Nat.le_refl _) (by omega)
  rw [K2.out] at hc
  refine hc.mono ?_
  clear hc
  rintro e V6 ⟨rfl, hb⟩
  clear kXA zXA kXB zXB kXC zXC kXE zXE kXF zXF
  replace XA := XA.below hb
  replace XB := XB.below hb
  replace XC := XC.below hb
  replace XE := XE.below hb
  replace XF := XF.below hb
  replace WW := WW.trans (hb.mono WW.size)
  have kXA := XA.cell
  have zXA := XA.lt
  have kXB := XB.cell
  have zXB := XB.lt
  have kXC := XC.cell
  have zXC := XC.lt
  have kXE := XE.cell
  have zXE := XE.lt
  have kXF := XF.cell
  have zXF := XF.lt
  clear hb hbs
  go_wp2_with fail
  clear kXA zXA kXB zXB kXC zXC kXE zXE kXF zXF
  have qXF7 := XF.lt
  have bw := (Below.refl V6.heap.size V6).alloc (Nat.le_refl _) (.cells #[.bool true] 4)
  have BG := Blk.new V6 4 #[.bool true]
  replace XA := XA.below bw
  replace XB := XB.below bw
  replace XC := XC.below bw
  replace XE := XE.below bw
  replace XF := XF.below bw
  replace WW := WW.trans (bw.mono WW.size)
  clear bw
  generalize hV : V6.alloc (.cells #[.bool true] 4) = V7 at XA XB XC XE XF BG WW ⊢
  clear hV
  have kXA := XA.cell
  have zXA := XA.lt
  have kXB := XB.cell
  have zXB := XB.lt
  have kXC := XC.cell
  have zXC := XC.lt
  have kXE := XE.cell
  have zXE := XE.lt
  have kXF := XF.cell
  have zXF := XF.lt
  have kBG := BG.cell0
  have zBG := BG.lt
  clear kXA zXA kXB zXB kXC zXC kXE zXE kXF zXF kBG zBG
  apply wp_landZ (R := fun gXx gXy gXz D1 d1 D2 d2 D3 d3 w1 => Below w.heap.size w w1 ∧ VB w.heap.size w1 (w.heap.size) A (nw a) c a ∧ VB w.heap.size w1 (w.heap.size + 1) B' (nw b) d b ∧ VB w.heap.size w1 (w.heap.size + 1 + 1) C' (nw m) p m ∧ VB w.heap.size w1 (w.heap.size + 1 + 1 + 1) E (nw e) f e ∧ VB w.heap.size w1 (w.heap.size + 1 + 1 + 1 + 1) E2 (nw e2) f2 e2 ∧ VB w.heap.size w1 (gXx) D1 (nw x) d1 x ∧ VB w.heap.size w1 (gXy) D2 (nw y) d2 y ∧ VB w.heap.size w1 (gXz) D3 (nw z) d3 z ∧ Own w1 w.heap.size D1 (nw x) d1 x ∧ Own w1 w.heap.size D2 (nw y) d2 y ∧ Own w1 w.heap.size D3 (nw z) d3 z ∧ Blk w1 (V6.heap.size) 4 #[.bool true] ∧ w.heap.size + 1 + 1 + 1 + 1 < gXx ∧ V6.heap.size < gXx ∧ w.heap.size + 1 + 1 + 1 + 1 < gXy ∧ V6.heap.size < gXy ∧ w.heap.size + 1 + 1 + 1 + 1 < gXz ∧ V6.heap.size < gXz ∧ gXx ≠ gXy ∧ gXx ≠ gXz ∧ gXy ≠ gXz)
  case hreg =>
    refine wp_region_noPanic ?_
    have hst : (fun w' => w'.cell? ⟨w.heap.size, 0, none⟩ = some (.slice A (nw a) c) ∧ w'.cell? ⟨w.heap.size + 1, 0, none⟩ = some (.slice B' (nw b) d) ∧ w'.cell? ⟨w.heap.size + 1 + 1 + 1, 0, none⟩ = some (.slice E (nw e) f) ∧ w'.cell? ⟨w.heap.size + 1 + 1 + 1 + 1, 0, none⟩ = some (.slice E2 (nw e2) f2)) V7.drew := ⟨XA.cell, XB.cell, XE.cell, XF.cell⟩
    replace WW := WW.drew
    replace XA := XA.drew
    replace XB := XB.drew
    replace XC := XC.drew
    replace XE := XE.drew
    replace XF := XF.drew
    replace BG : Blk V7.drew (V6.heap.size) 4 #[.bool true] := BG
    have qq0 := XF.lt
    refine region_L 25 (fun w' => w'.cell? ⟨w.heap.size, 0, none⟩ = some (.slice A (nw a) c) ∧ w'.cell? ⟨w.heap.size + 1, 0, none⟩ = some (.slice B' (nw b) d) ∧ w'.cell? ⟨w.heap.size + 1 + 1 + 1, 0, none⟩ = some (.slice E (nw e) f) ∧ w'.cell? ⟨w.heap.size + 1 + 1 + 1 + 1, 0, none⟩ = some (.slice E2 (nw e2) f2)) (by kernel_rfl) hst (fun hHeld => ?_)
    clear hst
    generalize hV : V7.drew = U7x0 at hHeld WW qq0 XA XB XC XE XF BG ⊢
    clear hV
    apply cut_nnnananan (n := 3) (l := #[true, true, true, true, true, true, true, true, true, true, true, true, true, true, true, false, false, false]) (R := fun gXx gXy gXz D1 d1 D2 d2 D3 d3 W => Below w.heap.size w W ∧ VB w.heap.size W (w.heap.size) A (nw a) c a ∧ VB w.heap.size W (w.heap.size + 1) B' (nw b) d b ∧ VB w.heap.size W (w.heap.size + 1 + 1) C' (nw m) p m ∧ VB w.heap.size W (w.heap.size + 1 + 1 + 1) E (nw e) f e ∧ VB w.heap.size W (w.heap.size + 1 + 1 + 1 + 1) E2 (nw e2) f2 e2 ∧ VB w.heap.size W (gXx) none 0 0 0 ∧ VB w.heap.size W (gXy) none 0 0 0 ∧ VB w.heap.size W (gXz) none 0 0 0 ∧ Own W w.heap.size D1 (nw x) d1 x ∧ Own W w.heap.size D2 (nw y) d2 y ∧ Own W w.heap.size D3 (nw z) d3 z ∧ Blk W (V6.heap.size) 4 #[.bool true] ∧ w.heap.size + 1 + 1 + 1 + 1 < gXx ∧ V6.heap.size < gXx ∧ w.heap.size + 1 + 1 + 1 + 1 < gXy ∧ V6.heap.size < gXy ∧ w.heap.size + 1 + 1 + 1 + 1 < gXz ∧ V6.heap.size < gXz ∧ gXx ≠ gXy ∧ gXx ≠ gXz ∧ gXy ≠ gXz ∧ (fun w' => w'.cell? ⟨w.heap.size, 0, none⟩ = some (.slice A (nw a) c) ∧ w'.cell? ⟨w.heap.size + 1, 0, none⟩ = some (.slice B' (nw b) d) ∧ w'.cell? ⟨w.heap.size + 1 + 1 + 1, 0, none⟩ = some (.slice E (nw e) f) ∧ w'.cell? ⟨w.heap.size + 1 + 1 + 1 + 1, 0, none⟩ = some (.slice E2 (nw e2) f2)) W)
    intro hst24
    apply cut_nnnanan (n := 4) (l := #[true, true, true, true, true, true, true, true, true, true, true, false, true, true, true, false, false, false]) (R := fun gXx gXy gXz D1 d1 D2 d2 W => Below w.heap.size w W ∧ VB w.heap.size W (w.heap.size) A (nw a) c a ∧ VB w.heap.size W (w.heap.size + 1) B' (nw b) d b ∧ VB w.heap.size W (w.heap.size + 1 + 1) C' (nw m) p m ∧ VB w.heap.size W (w.heap.size + 1 + 1 + 1) E (nw e) f e ∧ VB w.heap.size W (w.heap.size + 1 + 1 + 1 + 1) E2 (nw e2) f2 e2 ∧ VB w.heap.size W (gXx) none 0 0 0 ∧ VB w.heap.size W (gXy) none 0 0 0 ∧ VB w.heap.size W (gXz) none 0 0 0 ∧ Own W w.heap.size D1 (nw x) d1 x ∧ Own W w.heap.size D2 (nw y) d2 y ∧ Blk W (V6.heap.size) 4 #[.bool true] ∧ w.heap.size + 1 + 1 + 1 + 1 < gXx ∧ V6.heap.size < gXx ∧ w.heap.size + 1 + 1 + 1 + 1 < gXy ∧ V6.heap.size < gXy ∧ w.heap.size + 1 + 1 + 1 + 1 < gXz ∧ V6.heap.size < gXz ∧ gXx ≠ gXy ∧ gXx ≠ gXz ∧ gXy ≠ gXz ∧ (fun w' => w'.cell? ⟨w.heap.size, 0, none⟩ = some (.slice A (nw a) c) ∧ w'.cell? ⟨w.heap.size + 1, 0, none⟩ = some (.slice B' (nw b) d) ∧ w'.cell? ⟨w.heap.size + 1 + 1 + 1, 0, none⟩ = some (.slice E (nw e) f) ∧ w'.cell? ⟨w.heap.size + 1 + 1 + 1 + 1, 0, none⟩ = some (.slice E2 (nw e2) f2)) W)
    intro hst23
    apply cut_nnananan (n := 4) (l := #[true, true, true, true, true, true, true, true, true, true, true, true, false, true, true, false, false, false]) (R := fun gXy gXz D1 d1 D2 d2 D3 d3 W => Below w.heap.size w W ∧ VB w.heap.size W (w.heap.size) A (nw a) c a ∧ VB w.heap.size W (w.heap.size + 1) B' (nw b) d b ∧ VB w.heap.size W (w.heap.size + 1 + 1) C' (nw m) p m ∧ VB w.heap.size W (w.heap.size + 1 + 1 + 1) E (nw e) f e ∧ VB w.heap.size W (w.heap.size + 1 + 1 + 1 + 1) E2 (nw e2) f2 e2 ∧ VB w.heap.size W (gXy) none 0 0 0 ∧ VB w.heap.size W (gXz) none 0 0 0 ∧ Own W w.heap.size D1 (nw x) d1 x ∧ Own W w.heap.size D2 (nw y) d2 y ∧ Own W w.heap.size D3 (nw z) d3 z ∧ Blk W (V6.heap.size) 4 #[.bool true] ∧ w.heap.size + 1 + 1 + 1 + 1 < gXy ∧ V6.heap.size < gXy ∧ w.heap.size + 1 + 1 + 1 + 1 < gXz ∧ V6.heap.size < gXz ∧ gXy ≠ gXz ∧ (fun w' => w'.cell? ⟨w.heap.size, 0, none⟩ = some (.slice A (nw a) c) ∧ w'.cell? ⟨w.heap.size + 1, 0, none⟩ = some (.slice B' (nw b) d) ∧ w'.cell? ⟨w.heap.size + 1 + 1 + 1, 0, none⟩ = some (.slice E (nw e) f) ∧ w'.cell? ⟨w.heap.size + 1 + 1 + 1 + 1, 0, none⟩ = some (.slice E2 (nw e2) f2)) W)
    intro hst22
    apply cut_nnananan (n := 4) (l := #[true, true, true, true, true, true, true, true, true, true, true, true, true, false, true, false, false, false]) (R := fun gXx gXz D1 d1 D2 d2 D3 d3 W => Below w.heap.size w W ∧ VB w.heap.size W (w.heap.size) A (nw a) c a ∧ VB w.heap.size W (w.heap.size + 1) B' (nw b) d b ∧ VB w.heap.size W (w.heap.size + 1 + 1) C' (nw m) p m ∧ VB w.heap.size W (w.heap.size + 1 + 1 + 1) E (nw e) f e ∧ VB w.heap.size W (w.heap.size + 1 + 1 + 1 + 1) E2 (nw e2) f2 e2 ∧ VB w.heap.size W (gXx) none 0 0 0 ∧ VB w.heap.size W (gXz) none 0 0 0 ∧ Own W w.heap.size D1 (nw x) d1 x ∧ Own W w.heap.size D2 (nw y) d2 y ∧ Own W w.heap.size D3 (nw z) d3 z ∧ Blk W (V6.heap.size) 4 #[.bool true] ∧ w.heap.size + 1 + 1 + 1 + 1 < gXx ∧ V6.heap.size < gXx ∧ w.heap.size + 1 + 1 + 1 + 1 < gXz ∧ V6.heap.size < gXz ∧ gXx ≠ gXz ∧ (fun w' => w'.cell? ⟨w.heap.size, 0, none⟩ = some (.slice A (nw a) c) ∧ w'.cell? ⟨w.heap.size + 1, 0, none⟩ = some (.slice B' (nw b) d) ∧ w'.cell? ⟨w.heap.size + 1 + 1 + 1, 0, none⟩ = some (.slice E (nw e) f) ∧ w'.cell? ⟨w.heap.size + 1 + 1 + 1 + 1, 0, none⟩ = some (.slice E2 (nw e2) f2)) W)
    intro hst21
    apply cut_nnananan (n := 4) (l := #[true, true, true, true, true, true, true, true, true, true, true, true, true, true, false, false, false, false]) (R := fun gXx gXy D1 d1 D2 d2 D3 d3 W => Below w.heap.size w W ∧ VB w.heap.size W (w.heap.size) A (nw a) c a ∧ VB w.heap.size W (w.heap.size + 1) B' (nw b) d b ∧ VB w.heap.size W (w.heap.size + 1 + 1) C' (nw m) p m ∧ VB w.heap.size W (w.heap.size + 1 + 1 + 1) E (nw e) f e ∧ VB w.heap.size W (w.heap.size + 1 + 1 + 1 + 1) E2 (nw e2) f2 e2 ∧ VB w.heap.size W (gXx) none 0 0 0 ∧ VB w.heap.size W (gXy) none 0 0 0 ∧ Own W w.heap.size D1 (nw x) d1 x ∧ Own W w.heap.size D2 (nw y) d2 y ∧ Own W w.heap.size D3 (nw z) d3 z ∧ Blk W (V6.heap.size) 4 #[.bool true] ∧ w.heap.size + 1 + 1 + 1 + 1 < gXx ∧ V6.heap.size < gXx ∧ w.heap.size + 1 + 1 + 1 + 1 < gXy ∧ V6.heap.size < gXy ∧ gXx ≠ gXy ∧ (fun w' => w'.cell? ⟨w.heap.size, 0, none⟩ = some (.slice A (nw a) c) ∧ w'.cell? ⟨w.heap.size + 1, 0, none⟩ = some (.slice B' (nw b) d) ∧ w'.cell? ⟨w.heap.size + 1 + 1 + 1, 0, none⟩ = some (.slice E (nw e) f) ∧ w'.cell? ⟨w.heap.size + 1 + 1 + 1 + 1, 0, none⟩ = some (.slice E2 (nw e2) f2)) W)
    intro hst20
    apply cut_nnnan (n := 5) (l := #[true, true, true, true, true, true, true, false, true, true, true, false, true, true, true, false, false, false]) (R := fun gXx gXy gXz D1 d1 W => Below w.heap.size w W ∧ VB w.heap.size W (w.heap.size) A (nw a) c a ∧ VB w.heap.size W (w.heap.size + 1) B' (nw b) d b ∧ VB w.heap.size W (w.heap.size + 1 + 1) C' (nw m) p m ∧ VB w.heap.size W (w.heap.size + 1 + 1 + 1) E (nw e) f e ∧ VB w.heap.size W (w.heap.size + 1 + 1 + 1 + 1) E2 (nw e2) f2 e2 ∧ VB w.heap.size W (gXx) none 0 0 0 ∧ VB w.heap.size W (gXy) none 0 0 0 ∧ VB w.heap.size W (gXz) none 0 0 0 ∧ Own W w.heap.size D1 (nw x) d1 x ∧ Blk W (V6.heap.size) 4 #[.bool true] ∧ w.heap.size + 1 + 1 + 1 + 1 < gXx ∧ V6.heap.size < gXx ∧ w.heap.size + 1 + 1 + 1 + 1 < gXy ∧ V6.heap.size < gXy ∧ w.heap.size + 1 + 1 + 1 + 1 < gXz ∧ V6.heap.size < gXz ∧ gXx ≠ gXy ∧ gXx ≠ gXz ∧ gXy ≠ gXz ∧ (fun w' => w'.cell? ⟨w.heap.size, 0, none⟩ = some (.slice A (nw a) c) ∧ w'.cell? ⟨w.heap.size + 1, 0, none⟩ = some (.slice B' (nw b) d) ∧ w'.cell? ⟨w.heap.size + 1 + 1 + 1, 0, none⟩ = some (.slice E (nw e) f) ∧ w'.cell? ⟨w.heap.size + 1 + 1 + 1 + 1, 0, none⟩ = some (.slice E2 (nw e2) f2)) W)
    intro hst19
    apply cut_nnanan (n := 5) (l := #[true, true, true, true, true, true, true, true, true, true, true, false, false, true, true, false, false, false]) (R := fun gXy gXz D1 d1 D2 d2 W => Below w.heap.size w W ∧ VB w.heap.size W (w.heap.size) A (nw a) c a ∧ VB w.heap.size W (w.heap.size + 1) B' (nw b) d b ∧ VB w.heap.size W (w.heap.size + 1 + 1) C' (nw m) p m ∧ VB w.heap.size W (w.heap.size + 1 + 1 + 1) E (nw e) f e ∧ VB w.heap.size W (w.heap.size + 1 + 1 + 1 + 1) E2 (nw e2) f2 e2 ∧ VB w.heap.size W (gXy) none 0 0 0 ∧ VB w.heap.size W (gXz) none 0 0 0 ∧ Own W w.heap.size D1 (nw x) d1 x ∧ Own W w.heap.size D2 (nw y) d2 y ∧ Blk W (V6.heap.size) 4 #[.bool true] ∧ w.heap.size + 1 + 1 + 1 + 1 < gXy ∧ V6.heap.size < gXy ∧ w.heap.size + 1 + 1 + 1 + 1 < gXz ∧ V6.heap.size < gXz ∧ gXy ≠ gXz ∧ (fun w' => w'.cell? ⟨w.heap.size, 0, none⟩ = some (.slice A (nw a) c) ∧ w'.cell? ⟨w.heap.size + 1, 0, none⟩ = some (.slice B' (nw b) d) ∧ w'.cell? ⟨w.heap.size + 1 + 1 + 1, 0, none⟩ = some (.slice E (nw e) f) ∧ w'.cell? ⟨w.heap.size + 1 + 1 + 1 + 1, 0, none⟩ = some (.slice E2 (nw e2) f2)) W)
    intro hst18
    apply cut_nnanan (n := 5) (l := #[true, true, true, true, true, true, true, true, true, true, true, false, true, false, true, false, false, false]) (R := fun gXx gXz D1 d1 D2 d2 W => Below w.heap.size w W ∧ VB w.heap.size W (w.heap.size) A (nw a) c a ∧ VB w.heap.size W (w.heap.size + 1) B' (nw b) d b ∧ VB w.heap.size W (w.heap.size + 1 + 1) C' (nw m) p m ∧ VB w.heap.size W (w.heap.size + 1 + 1 + 1) E (nw e) f e ∧ VB w.heap.size W (w.heap.size + 1 + 1 + 1 + 1) E2 (nw e2) f2 e2 ∧ VB w.heap.size W (gXx) none 0 0 0 ∧ VB w.heap.size W (gXz) none 0 0 0 ∧ Own W w.heap.size D1 (nw x) d1 x ∧ Own W w.heap.size D2 (nw y) d2 y ∧ Blk W (V6.heap.size) 4 #[.bool true] ∧ w.heap.size + 1 + 1 + 1 + 1 < gXx ∧ V6.heap.size < gXx ∧ w.heap.size + 1 + 1 + 1 + 1 < gXz ∧ V6.heap.size < gXz ∧ gXx ≠ gXz ∧ (fun w' => w'.cell? ⟨w.heap.size, 0, none⟩ = some (.slice A (nw a) c) ∧ w'.cell? ⟨w.heap.size + 1, 0, none⟩ = some (.slice B' (nw b) d) ∧ w'.cell? ⟨w.heap.size + 1 + 1 + 1, 0, none⟩ = some (.slice E (nw e) f) ∧ w'.cell? ⟨w.heap.size + 1 + 1 + 1 + 1, 0, none⟩ = some (.slice E2 (nw e2) f2)) W)
    intro hst17
    apply cut_nnanan (n := 5) (l := #[true, true, true, true, true, true, true, true, true, true, true, false, true, true, false, false, false, false]) (R := fun gXx gXy D1 d1 D2 d2 W => Below w.heap.size w W ∧ VB w.heap.size W (w.heap.size) A (nw a) c a ∧ VB w.heap.size W (w.heap.size + 1) B' (nw b) d b ∧ VB w.heap.size W (w.heap.size + 1 + 1) C' (nw m) p m ∧ VB w.heap.size W (w.heap.size + 1 + 1 + 1) E (nw e) f e ∧ VB w.heap.size W (w.heap.size + 1 + 1 + 1 + 1) E2 (nw e2) f2 e2 ∧ VB w.heap.size W (gXx) none 0 0 0 ∧ VB w.heap.size W (gXy) none 0 0 0 ∧ Own W w.heap.size D1 (nw x) d1 x ∧ Own W w.heap.size D2 (nw y) d2 y ∧ Blk W (V6.heap.size) 4 #[.bool true] ∧ w.heap.size + 1 + 1 + 1 + 1 < gXx ∧ V6.heap.size < gXx ∧ w.heap.size + 1 + 1 + 1 + 1 < gXy ∧ V6.heap.size < gXy ∧ gXx ≠ gXy ∧ (fun w' => w'.cell? ⟨w.heap.size, 0, none⟩ = some (.slice A (nw a) c) ∧ w'.cell? ⟨w.heap.size + 1, 0, none⟩ = some (.slice B' (nw b) d) ∧ w'.cell? ⟨w.heap.size + 1 + 1 + 1, 0, none⟩ = some (.slice E (nw e) f) ∧ w'.cell? ⟨w.heap.size + 1 + 1 + 1 + 1, 0, none⟩ = some (.slice E2 (nw e2) f2)) W)
    intro hst16
    apply cut_nananan (n := 5) (l := #[true, true, true, true, true, true, true, true, true, true, true, true, false, false, true, false, false, false]) (R := fun gXz D1 d1 D2 d2 D3 d3 W => Below w.heap.size w W ∧ VB w.heap.size W (w.heap.size) A (nw a) c a ∧ VB w.heap.size W (w.heap.size + 1) B' (nw b) d b ∧ VB w.heap.size W (w.heap.size + 1 + 1) C' (nw m) p m ∧ VB w.heap.size W (w.heap.size + 1 + 1 + 1) E (nw e) f e ∧ VB w.heap.size W (w.heap.size + 1 + 1 + 1 + 1) E2 (nw e2) f2 e2 ∧ VB w.heap.size W (gXz) none 0 0 0 ∧ Own W w.heap.size D1 (nw x) d1 x ∧ Own W w.heap.size D2 (nw y) d2 y ∧ Own W w.heap.size D3 (nw z) d3 z ∧ Blk W (V6.heap.size) 4 #[.bool true] ∧ w.heap.size + 1 + 1 + 1 + 1 < gXz ∧ V6.heap.size < gXz ∧ (fun w' => w'.cell? ⟨w.heap.size, 0, none⟩ = some (.slice A (nw a) c) ∧ w'.cell? ⟨w.heap.size + 1, 0, none⟩ = some (.slice B' (nw b) d) ∧ w'.cell? ⟨w.heap.size + 1 + 1 + 1, 0, none⟩ = some (.slice E (nw e) f) ∧ w'.cell? ⟨w.heap.size + 1 + 1 + 1 + 1, 0, none⟩ = some (.slice E2 (nw e2) f2)) W)
    intro hst15
    apply cut_nananan (n := 5) (l := #[true, true, true, true, true, true, true, true, true, true, true, true, false, true, false, false, false, false]) (R := fun gXy D1 d1 D2 d2 D3 d3 W => Below w.heap.size w W ∧ VB w.heap.size W (w.heap.size) A (nw a) c a ∧ VB w.heap.size W (w.heap.size + 1) B' (nw b) d b ∧ VB w.heap.size W (w.heap.size + 1 + 1) C' (nw m) p m ∧ VB w.heap.size W (w.heap.size + 1 + 1 + 1) E (nw e) f e ∧ VB w.heap.size W (w.heap.size + 1 + 1 + 1 + 1) E2 (nw e2) f2 e2 ∧ VB w.heap.size W (gXy) none 0 0 0 ∧ Own W w.heap.size D1 (nw x) d1 x ∧ Own W w.heap.size D2 (nw y) d2 y ∧ Own W w.heap.size D3 (nw z) d3 z ∧ Blk W (V6.heap.size) 4 #[.bool true] ∧ w.heap.size + 1 + 1 + 1 + 1 < gXy ∧ V6.heap.size < gXy ∧ (fun w' => w'.cell? ⟨w.heap.size, 0, none⟩ = some (.slice A (nw a) c) ∧ w'.cell? ⟨w.heap.size + 1, 0, none⟩ = some (.slice B' (nw b) d) ∧ w'.cell? ⟨w.heap.size + 1 + 1 + 1, 0, none⟩ = some (.slice E (nw e) f) ∧ w'.cell? ⟨w.heap.size + 1 + 1 + 1 + 1, 0, none⟩ = some (.slice E2 (nw e2) f2)) W)
    intro hst14
    apply cut_nananan (n := 5) (l := #[true, true, true, true, true, true, true, true, true, true, true, true, true, false, false, false, false, false]) (R := fun gXx D1 d1 D2 d2 D3 d3 W => Below w.heap.size w W ∧ VB w.heap.size W (w.heap.size) A (nw a) c a ∧ VB w.heap.size W (w.heap.size + 1) B' (nw b) d b ∧ VB w.heap.size W (w.heap.size + 1 + 1) C' (nw m) p m ∧ VB w.heap.size W (w.heap.size + 1 + 1 + 1) E (nw e) f e ∧ VB w.heap.size W (w.heap.size + 1 + 1 + 1 + 1) E2 (nw e2) f2 e2 ∧ VB w.heap.size W (gXx) none 0 0 0 ∧ Own W w.heap.size D1 (nw x) d1 x ∧ Own W w.heap.size D2 (nw y) d2 y ∧ Own W w.heap.size D3 (nw z) d3 z ∧ Blk W (V6.heap.size) 4 #[.bool true] ∧ w.heap.size + 1 + 1 + 1 + 1 < gXx ∧ V6.heap.size < gXx ∧ (fun w' => w'.cell? ⟨w.heap.size, 0, none⟩ = some (.slice A (nw a) c) ∧ w'.cell? ⟨w.heap.size + 1, 0, none⟩ = some (.slice B' (nw b) d) ∧ w'.cell? ⟨w.heap.size + 1 + 1 + 1, 0, none⟩ = some (.slice E (nw e) f) ∧ w'.cell? ⟨w.heap.size + 1 + 1 + 1 + 1, 0, none⟩ = some (.slice E2 (nw e2) f2)) W)
    intro hst13
    apply cut_nnn (n := 6) (l := #[true, true, true, false, true, true, true, false, true, true, true, false, true, true, true, false, false, false]) (R := fun gXx gXy gXz W => Below w.heap.size w W ∧ VB w.heap.size W (w.heap.size) A (nw a) c a ∧ VB w.heap.size W (w.heap.size + 1) B' (nw b) d b ∧ VB w.heap.size W (w.heap.size + 1 + 1) C' (nw m) p m ∧ VB w.heap.size W (w.heap.size + 1 + 1 + 1) E (nw e) f e ∧ VB w.heap.size W (w.heap.size + 1 + 1 + 1 + 1) E2 (nw e2) f2 e2 ∧ VB w.heap.size W (gXx) none 0 0 0 ∧ VB w.heap.size W (gXy) none 0 0 0 ∧ VB w.heap.size W (gXz) none 0 0 0 ∧ Blk W (V6.heap.size) 4 #[.bool true] ∧ w.heap.size + 1 + 1 + 1 + 1 < gXx ∧ V6.heap.size < gXx ∧ w.heap.size + 1 + 1 + 1 + 1 < gXy ∧ V6.heap.size < gXy ∧ w.heap.size + 1 + 1 + 1 + 1 < gXz ∧ V6.heap.size < gXz ∧ gXx ≠ gXy ∧ gXx ≠ gXz ∧ gXy ≠ gXz ∧ (fun w' => w'.cell? ⟨w.heap.size, 0, none⟩ = some (.slice A (nw a) c) ∧ w'.cell? ⟨w.heap.size + 1, 0, none⟩ = some (.slice B' (nw b) d) ∧ w'.cell? ⟨w.heap.size + 1 + 1 + 1, 0, none⟩ = some (.slice E (nw e) f) ∧ w'.cell? ⟨w.heap.size + 1 + 1 + 1 + 1, 0, none⟩ = some (.slice E2 (nw e2) f2)) W)
    intro hst12
    apply cut_nnan (n := 6) (l := #[true, true, true, true, true, true, true, false, true, true, true, false, false, true, true, false, false, false]) (R := fun gXy gXz D1 d1 W => Below w.heap.size w W ∧ VB w.heap.size W (w.heap.size) A (nw a) c a ∧ VB w.heap.size W (w.heap.size + 1) B' (nw b) d b ∧ VB w.heap.size W (w.heap.size + 1 + 1) C' (nw m) p m ∧ VB w.heap.size W (w.heap.size + 1 + 1 + 1) E (nw e) f e ∧ VB w.heap.size W (w.heap.size + 1 + 1 + 1 + 1) E2 (nw e2) f2 e2 ∧ VB w.heap.size W (gXy) none 0 0 0 ∧ VB w.heap.size W (gXz) none 0 0 0 ∧ Own W w.heap.size D1 (nw x) d1 x ∧ Blk W (V6.heap.size) 4 #[.bool true] ∧ w.heap.size + 1 + 1 + 1 + 1 < gXy ∧ V6.heap.size < gXy ∧ w.heap.size + 1 + 1 + 1 + 1 < gXz ∧ V6.heap.size < gXz ∧ gXy ≠ gXz ∧ (fun w' => w'.cell? ⟨w.heap.size, 0, none⟩ = some (.slice A (nw a) c) ∧ w'.cell? ⟨w.heap.size + 1, 0, none⟩ = some (.slice B' (nw b) d) ∧ w'.cell? ⟨w.heap.size + 1 + 1 + 1, 0, none⟩ = some (.slice E (nw e) f) ∧ w'.cell? ⟨w.heap.size + 1 + 1 + 1 + 1, 0, none⟩ = some (.slice E2 (nw e2) f2)) W)
    intro hst11
    apply cut_nnan (n := 6) (l := #[true, true, true, true, true, true, true, false, true, true, true, false, true, false, true, false, false, false]) (R := fun gXx gXz D1 d1 W => Below w.heap.size w W ∧ VB w.heap.size W (w.heap.size) A (nw a) c a ∧ VB w.heap.size W (w.heap.size + 1) B' (nw b) d b ∧ VB w.heap.size W (w.heap.size + 1 + 1) C' (nw m) p m ∧ VB w.heap.size W (w.heap.size + 1 + 1 + 1) E (nw e) f e ∧ VB w.heap.size W (w.heap.size + 1 + 1 + 1 + 1) E2 (nw e2) f2 e2 ∧ VB w.heap.size W (gXx) none 0 0 0 ∧ VB w.heap.size W (gXz) none 0 0 0 ∧ Own W w.heap.size D1 (nw x) d1 x ∧ Blk W (V6.heap.size) 4 #[.bool true] ∧ w.heap.size + 1 + 1 + 1 + 1 < gXx ∧ V6.heap.size < gXx ∧ w.heap.size + 1 + 1 + 1 + 1 < gXz ∧ V6.heap.size < gXz ∧ gXx ≠ gXz ∧ (fun w' => w'.cell? ⟨w.heap.size, 0, none⟩ = some (.slice A (nw a) c) ∧ w'.cell? ⟨w.heap.size + 1, 0, none⟩ = some (.slice B' (nw b) d) ∧ w'.cell? ⟨w.heap.size + 1 + 1 + 1, 0, none⟩ = some (.slice E (nw e) f) ∧ w'.cell? ⟨w.heap.size + 1 + 1 + 1 + 1, 0, none⟩ = some (.slice E2 (nw e2) f2)) W)
    intro hst10
    apply cut_nnan (n := 6) (l := #[true, true, true, true, true, true, true, false, true, true, true, false, true, true, false, false, false, false]) (R := fun gXx gXy D1 d1 W => Below w.heap.size w W ∧ VB w.heap.size W (w.heap.size) A (nw a) c a ∧ VB w.heap.size W (w.heap.size + 1) B' (nw b) d b ∧ VB w.heap.size W (w.heap.size + 1 + 1) C' (nw m) p m ∧ VB w.heap.size W (w.heap.size + 1 + 1 + 1) E (nw e) f e ∧ VB w.heap.size W (w.heap.size + 1 + 1 + 1 + 1) E2 (nw e2) f2 e2 ∧ VB w.heap.size W (gXx) none 0 0 0 ∧ VB w.heap.size W (gXy) none 0 0 0 ∧ Own W w.heap.size D1 (nw x) d1 x ∧ Blk W (V6.heap.size) 4 #[.bool true] ∧ w.heap.size + 1 + 1 + 1 + 1 < gXx ∧ V6.heap.size < gXx ∧ w.heap.size + 1 + 1 + 1 + 1 < gXy ∧ V6.heap.size < gXy ∧ gXx ≠ gXy ∧ (fun w' => w'.cell? ⟨w.heap.size, 0, none⟩ = some (.slice A (nw a) c) ∧ w'.cell? ⟨w.heap.size + 1, 0, none⟩ = some (.slice B' (nw b) d) ∧ w'.cell? ⟨w.heap.size + 1 + 1 + 1, 0, none⟩ = some (.slice E (nw e) f) ∧ w'.cell? ⟨w.heap.size + 1 + 1 + 1 + 1, 0, none⟩ = some (.slice E2 (nw e2) f2)) W)
    intro hst9
    apply cut_nanan (n := 6) (l := #[true, true, true, true, true, true, true, true, true, true, true, false, false, false, true, false, false, false]) (R := fun gXz D1 d1 D2 d2 W => Below w.heap.size w W ∧ VB w.heap.size W (w.heap.size) A (nw a) c a ∧ VB w.heap.size W (w.heap.size + 1) B' (nw b) d b ∧ VB w.heap.size W (w.heap.size + 1 + 1) C' (nw m) p m ∧ VB w.heap.size W (w.heap.size + 1 + 1 + 1) E (nw e) f e ∧ VB w.heap.size W (w.heap.size + 1 + 1 + 1 + 1) E2 (nw e2) f2 e2 ∧ VB w.heap.size W (gXz) none 0 0 0 ∧ Own W w.heap.size D1 (nw x) d1 x ∧ Own W w.heap.size D2 (nw y) d2 y ∧ Blk W (V6.heap.size) 4 #[.bool true] ∧ w.heap.size + 1 + 1 + 1 + 1 < gXz ∧ V6.heap.size < gXz ∧ (fun w' => w'.cell? ⟨w.heap.size, 0, none⟩ = some (.slice A (nw a) c) ∧ w'.cell? ⟨w.heap.size + 1, 0, none⟩ = some (.slice B' (nw b) d) ∧ w'.cell? ⟨w.heap.size + 1 + 1 + 1, 0, none⟩ = some (.slice E (nw e) f) ∧ w'.cell? ⟨w.heap.size + 1 + 1 + 1 + 1, 0, none⟩ = some (.slice E2 (nw e2) f2)) W)
    intro hst8
    apply cut_nanan (n := 6) (l := #[true, true, true, true, true, true, true, true, true, true, true, false, false, true, false, false, false, false]) (R := fun gXy D1 d1 D2 d2 W => Below w.heap.size w W ∧ VB w.heap.size W (w.heap.size) A (nw a) c a ∧ VB w.heap.size W (w.heap.size + 1) B' (nw b) d b ∧ VB w.heap.size W (w.heap.size + 1 + 1) C' (nw m) p m ∧ VB w.heap.size W (w.heap.size + 1 + 1 + 1) E (nw e) f e ∧ VB w.heap.size W (w.heap.size + 1 + 1 + 1 + 1) E2 (nw e2) f2 e2 ∧ VB w.heap.size W (gXy) none 0 0 0 ∧ Own W w.heap.size D1 (nw x) d1 x ∧ Own W w.heap.size D2 (nw y) d2 y ∧ Blk W (V6.heap.size) 4 #[.bool true] ∧ w.heap.size + 1 + 1 + 1 + 1 < gXy ∧ V6.heap.size < gXy ∧ (fun w' => w'.cell? ⟨w.heap.size, 0, none⟩ = some (.slice A (nw a) c) ∧ w'.cell? ⟨w.heap.size + 1, 0, none⟩ = some (.slice B' (nw b) d) ∧ w'.cell? ⟨w.heap.size + 1 + 1 + 1, 0, none⟩ = some (.slice E (nw e) f) ∧ w'.cell? ⟨w.heap.size + 1 + 1 + 1 + 1, 0, none⟩ = some (.slice E2 (nw e2) f2)) W)
    intro hst7
    apply cut_nanan (n := 6) (l := #[true, true, true, true, true, true, true, true, true, true, true, false, true, false, false, false, false, false]) (R := fun gXx D1 d1 D2 d2 W => Below w.heap.size w W ∧ VB w.heap.size W (w.heap.size) A (nw a) c a ∧ VB w.heap.size W (w.heap.size + 1) B' (nw b) d b ∧ VB w.heap.size W (w.heap.size + 1 + 1) C' (nw m) p m ∧ VB w.heap.size W (w.heap.size + 1 + 1 + 1) E (nw e) f e ∧ VB w.heap.size W (w.heap.size + 1 + 1 + 1 + 1) E2 (nw e2) f2 e2 ∧ VB w.heap.size W (gXx) none 0 0 0 ∧ Own W w.heap.size D1 (nw x) d1 x ∧ Own W w.heap.size D2 (nw y) d2 y ∧ Blk W (V6.heap.size) 4 #[.bool true] ∧ w.heap.size + 1 + 1 + 1 + 1 < gXx ∧ V6.heap.size < gXx ∧ (fun w' => w'.cell? ⟨w.heap.size, 0, none⟩ = some (.slice A (nw a) c) ∧ w'.cell? ⟨w.heap.size + 1, 0, none⟩ = some (.slice B' (nw b) d) ∧ w'.cell? ⟨w.heap.size + 1 + 1 + 1, 0, none⟩ = some (.slice E (nw e) f) ∧ w'.cell? ⟨w.heap.size + 1 + 1 + 1 + 1, 0, none⟩ = some (.slice E2 (nw e2) f2)) W)
    intro hst6
    apply cut_nn (n := 7) (l := #[true, true, true, false, true, true, true, false, true, true, true, false, false, true, true, false, false, false]) (R := fun gXy gXz W => Below w.heap.size w W ∧ VB w.heap.size W (w.heap.size) A (nw a) c a ∧ VB w.heap.size W (w.heap.size + 1) B' (nw b) d b ∧ VB w.heap.size W (w.heap.size + 1 + 1) C' (nw m) p m ∧ VB w.heap.size W (w.heap.size + 1 + 1 + 1) E (nw e) f e ∧ VB w.heap.size W (w.heap.size + 1 + 1 + 1 + 1) E2 (nw e2) f2 e2 ∧ VB w.heap.size W (gXy) none 0 0 0 ∧ VB w.heap.size W (gXz) none 0 0 0 ∧ Blk W (V6.heap.size) 4 #[.bool true] ∧ w.heap.size + 1 + 1 + 1 + 1 < gXy ∧ V6.heap.size < gXy ∧ w.heap.size + 1 + 1 + 1 + 1 < gXz ∧ V6.heap.size < gXz ∧ gXy ≠ gXz ∧ (fun w' => w'.cell? ⟨w.heap.size, 0, none⟩ = some (.slice A (nw a) c) ∧ w'.cell? ⟨w.heap.size + 1, 0, none⟩ = some (.slice B' (nw b) d) ∧ w'.cell? ⟨w.heap.size + 1 + 1 + 1, 0, none⟩ = some (.slice E (nw e) f) ∧ w'.cell? ⟨w.heap.size + 1 + 1 + 1 + 1, 0, none⟩ = some (.slice E2 (nw e2) f2)) W)
    intro hst5
    apply cut_nn (n := 7) (l := #[true, true, true, false, true, true, true, false, true, true, true, false, true, false, true, false, false, false]) (R := fun gXx gXz W => Below w.heap.size w W ∧ VB w.heap.size W (w.heap.size) A (nw a) c a ∧ VB w.heap.size W (w.heap.size + 1) B' (nw b) d b ∧ VB w.heap.size W (w.heap.size + 1 + 1) C' (nw m) p m ∧ VB w.heap.size W (w.heap.size + 1 + 1 + 1) E (nw e) f e ∧ VB w.heap.size W (w.heap.size + 1 + 1 + 1 + 1) E2 (nw e2) f2 e2 ∧ VB w.heap.size W (gXx) none 0 0 0 ∧ VB w.heap.size W (gXz) none 0 0 0 ∧ Blk W (V6.heap.size) 4 #[.bool true] ∧ w.heap.size + 1 + 1 + 1 + 1 < gXx ∧ V6.heap.size < gXx ∧ w.heap.size + 1 + 1 + 1 + 1 < gXz ∧ V6.heap.size < gXz ∧ gXx ≠ gXz ∧ (fun w' => w'.cell? ⟨w.heap.size, 0, none⟩ = some (.slice A (nw a) c) ∧ w'.cell? ⟨w.heap.size + 1, 0, none⟩ = some (.slice B' (nw b) d) ∧ w'.cell? ⟨w.heap.size + 1 + 1 + 1, 0, none⟩ = some (.slice E (nw e) f) ∧ w'.cell? ⟨w.heap.size + 1 + 1 + 1 + 1, 0, none⟩ = some (.slice E2 (nw e2) f2)) W)
    intro hst4
    apply cut_nn (n := 7) (l := #[true, true, true, false, true, true, true, false, true, true, true, false, true, true, false, false, false, false]) (R := fun gXx gXy W => Below w.heap.size w W ∧ VB w.heap.size W (w.heap.size) A (nw a) c a ∧ VB w.heap.size W (w.heap.size + 1) B' (nw b) d b ∧ VB w.heap.size W (w.heap.size + 1 + 1) C' (nw m) p m ∧ VB w.heap.size W (w.heap.size + 1 + 1 + 1) E (nw e) f e ∧ VB w.heap.size W (w.heap.size + 1 + 1 + 1 + 1) E2 (nw e2) f2 e2 ∧ VB w.heap.size W (gXx) none 0 0 0 ∧ VB w.heap.size W (gXy) none 0 0 0 ∧ Blk W (V6.heap.size) 4 #[.bool true] ∧ w.heap.size + 1 + 1 + 1 + 1 < gXx ∧ V6.heap.size < gXx ∧ w.heap.size + 1 + 1 + 1 + 1 < gXy ∧ V6.heap.size < gXy ∧ gXx ≠ gXy ∧ (fun w' => w'.cell? ⟨w.heap.size, 0, none⟩ = some (.slice A (nw a) c) ∧ w'.cell? ⟨w.heap.size + 1, 0, none⟩ = some (.slice B' (nw b) d) ∧ w'.cell? ⟨w.heap.size + 1 + 1 + 1, 0, none⟩ = some (.slice E (nw e) f) ∧ w'.cell? ⟨w.heap.size + 1 + 1 + 1 + 1, 0, none⟩ = some (.slice E2 (nw e2) f2)) W)
    intro hst3
    apply cut_nan (n := 7) (l := #[true, true, true, true, true, true, true, false, true, true, true, false, false, false, true, false, false, false]) (R := fun gXz D1 d1 W => Below w.heap.size w W ∧ VB w.heap.size W (w.heap.size) A (nw a) c a ∧ VB w.heap.size W (w.heap.size + 1) B' (nw b) d b ∧ VB w.heap.size W (w.heap.size + 1 + 1) C' (nw m) p m ∧ VB w.heap.size W (w.heap.size + 1 + 1 + 1) E (nw e) f e ∧ VB w.heap.size W (w.heap.size + 1 + 1 + 1 + 1) E2 (nw e2) f2 e2 ∧ VB w.heap.size W (gXz) none 0 0 0 ∧ Own W w.heap.size D1 (nw x) d1 x ∧ Blk W (V6.heap.size) 4 #[.bool true] ∧ w.heap.size + 1 + 1 + 1 + 1 < gXz ∧ V6.heap.size < gXz ∧ (fun w' => w'.cell? ⟨w.heap.size, 0, none⟩ = some (.slice A (nw a) c) ∧ w'.cell? ⟨w.heap.size + 1, 0, none⟩ = some (.slice B' (nw b) d) ∧ w'.cell? ⟨w.heap.size + 1 + 1 + 1, 0, none⟩ = some (.slice E (nw e) f) ∧ w'.cell? ⟨w.heap.size + 1 + 1 + 1 + 1, 0, none⟩ = some (.slice E2 (nw e2) f2)) W)
    intro hst2
    apply cut_nan (n := 7) (l := #[true, true, true, true, true, true, true, false, true, true, true, false, false, true, false, false, false, false]) (R := fun gXy D1 d1 W => Below w.heap.size w W ∧ VB w.heap.size W (w.heap.size) A (nw a) c a ∧ VB w.heap.size W (w.heap.size + 1) B' (nw b) d b ∧ VB w.heap.size W (w.heap.size + 1 + 1) C' (nw m) p m ∧ VB w.heap.size W (w.heap.size + 1 + 1 + 1) E (nw e) f e ∧ VB w.heap.size W (w.heap.size + 1 + 1 + 1 + 1) E2 (nw e2) f2 e2 ∧ VB w.heap.size W (gXy) none 0 0 0 ∧ Own W w.heap.size D1 (nw x) d1 x ∧ Blk W (V6.heap.size) 4 #[.bool true] ∧ w.heap.size + 1 + 1 + 1 + 1 < gXy ∧ V6.heap.size < gXy ∧ (fun w' => w'.cell? ⟨w.heap.size, 0, none⟩ = some (.slice A (nw a) c) ∧ w'.cell? ⟨w.heap.size + 1, 0, none⟩ = some (.slice B' (nw b) d) ∧ w'.cell? ⟨w.heap.size + 1 + 1 + 1, 0, none⟩ = some (.slice E (nw e) f) ∧ w'.cell? ⟨w.heap.size + 1 + 1 + 1 + 1, 0, none⟩ = some (.slice E2 (nw e2) f2)) W)
    intro hst1
    apply cut_nan (n := 7) (l := #[true, true, true, true, true, true, true, false, true, true, true, false, true, false, false, false, false, false]) (R := fun gXx D1 d1 W => Below w.heap.size w W ∧ VB w.heap.size W (w.heap.size) A (nw a) c a ∧ VB w.heap.size W (w.heap.size + 1) B' (nw b) d b ∧ VB w.heap.size W (w.heap.size + 1 + 1) C' (nw m) p m ∧ VB w.heap.size W (w.heap.size + 1 + 1 + 1) E (nw e) f e ∧ VB w.heap.size W (w.heap.size + 1 + 1 + 1 + 1) E2 (nw e2) f2 e2 ∧ VB w.heap.size W (gXx) none 0 0 0 ∧ Own W w.heap.size D1 (nw x) d1 x ∧ Blk W (V6.heap.size) 4 #[.bool true] ∧ w.heap.size + 1 + 1 + 1 + 1 < gXx ∧ V6.heap.size < gXx ∧ (fun w' => w'.cell? ⟨w.heap.size, 0, none⟩ = some (.slice A (nw a) c) ∧ w'.cell? ⟨w.heap.size + 1, 0, none⟩ = some (.slice B' (nw b) d) ∧ w'.cell? ⟨w.heap.size + 1 + 1 + 1, 0, none⟩ = some (.slice E (nw e) f) ∧ w'.cell? ⟨w.heap.size + 1 + 1 + 1 + 1, 0, none⟩ = some (.slice E2 (nw e2) f2)) W)
    intro hst0
    · refine AnyL_name (fun W' => Below w.heap.size w W' ∧ VB w.heap.size W' (w.heap.size) A (nw a) c a ∧ VB w.heap.size W' (w.heap.size + 1) B' (nw b) d b ∧ VB w.heap.size W' (w.heap.size + 1 + 1) C' (nw m) p m ∧ VB w.heap.size W' (w.heap.size + 1 + 1 + 1) E (nw e) f e ∧ VB w.heap.size W' (w.heap.size + 1 + 1 + 1 + 1) E2 (nw e2) f2 e2 ∧ Blk W' (V6.heap.size) 4 #[.bool true] ∧ (fun w' => w'.cell? ⟨w.heap.size, 0, none⟩ = some (.slice A (nw a) c) ∧ w'.cell? ⟨w.heap.size + 1, 0, none⟩ = some (.slice B' (nw b) d) ∧ w'.cell? ⟨w.heap.size + 1 + 1 + 1, 0, none⟩ = some (.slice E (nw e) f) ∧ w'.cell? ⟨w.heap.size + 1 + 1 + 1 + 1, 0, none⟩ = some (.slice E2 (nw e2) f2)) W') ⟨WW, XA, XB, XC, XE, XF, BG, hHeld⟩ ?_
      rintro Z8 ⟨WW, XA, XB, XC, XE, XF, BG, hHeld⟩
      refine AnyL_take (i := 0) (oi := oq8_6_0) (v := ?_) rfl (by kernel_rfl) (by kernel_rfl) (by kernel_rfl) (by kernel_rfl) (fun _ _ _ h => h) (Or.inl ⟨by rfl, ?_⟩) (by assumption) ?_
      rotate_left
      · (delta oq8_6_0; intro ws hSw; (try dsimp only at hSw); (try go_simp); (try with_reducible rfl))
      (try simp only [oq8_6_0, Act.put, List.setIfInBounds_toArray, List.set_cons_zero, List.set_cons_succ])
      refine AnyL_take (i := 1) (oi := oq8_6_1) (v := ?_) rfl (by kernel_rfl) (by kernel_rfl) (by kernel_rfl) (by kernel_rfl) (fun _ _ _ h => h) (Or.inl ⟨by rfl, ?_⟩) (by assumption) ?_
      rotate_left
      · (delta oq8_6_1; intro ws hSw; (try dsimp only at hSw); (try go_simp); (try with_reducible rfl))
      (try simp only [oq8_6_1, Act.put, List.setIfInBounds_toArray, List.set_cons_zero, List.set_cons_succ])
      refine AnyL_take (i := 2) (oi := oq8_6_2) (v := ?_) rfl (by kernel_rfl) (by kernel_rfl) (by kernel_rfl) (by kernel_rfl) (fun _ _ _ h => h) (Or.inl ⟨by rfl, ?_⟩) (by assumption) ?_
      rotate_left
      · (delta oq8_6_2; intro ws hSw; (try dsimp only at hSw); (try go_simp); (try with_reducible rfl))
      (try simp only [oq8_6_2, Act.put, List.setIfInBounds_toArray, List.set_cons_zero, List.set_cons_succ])
      refine AnyL_take (i := 4) (oi := oq8_6_4) (v := ?_) rfl (by kernel_rfl) (by kernel_rfl) (by kernel_rfl) (by kernel_rfl) (fun _ _ _ h => h) (Or.inl ⟨by rfl, ?_⟩) (by assumption) ?_
      rotate_left
      · (delta oq8_6_4; intro ws hSw; (try dsimp only at hSw); (try go_simp); (try with_reducible rfl))
      (try simp only [oq8_6_4, Act.put, List.setIfInBounds_toArray, List.set_cons_zero, List.set_cons_succ])
      refine AnyL_take (i := 5) (oi := oq8_6_5) (v := ?_) rfl (by kernel_rfl) (by kernel_rfl) (by kernel_rfl) (by kernel_rfl) (fun _ _ _ h => h) (Or.inl ⟨by rfl, ?_⟩) (by assumption) ?_
      rotate_left
      · (delta oq8_6_5; intro ws hSw; (try dsimp only at hSw); (try go_simp); (try with_reducible rfl))
      (try simp only [oq8_6_5, Act.put, List.setIfInBounds_toArray, List.set_cons_zero, List.set_cons_succ])
      refine AnyL_take (i := 6) (oi := oq8_6_6) (v := ?_) rfl (by kernel_rfl) (by kernel_rfl) (by kernel_rfl) (by kernel_rfl) (fun _ _ _ h => h) (Or.inl ⟨by rfl, ?_⟩) (by assumption) ?_
      rotate_left
      · (delta oq8_6_6; intro ws hSw; (try dsimp only at hSw); (try go_simp); (try with_reducible rfl))
      (try simp only [oq8_6_6, Act.put, List.setIfInBounds_toArray, List.set_cons_zero, List.set_cons_succ])
      refine AnyL_take (i := 8) (oi := oq8_6_8) (v := ?_) rfl (by kernel_rfl) (by kernel_rfl) (by kernel_rfl) (by kernel_rfl) (fun _ _ _ h => h) (Or.inl ⟨by rfl, ?_⟩) (by assumption) ?_
      rotate_left
      · (delta oq8_6_8; intro ws hSw; (try dsimp only at hSw); (try go_simp); (try with_reducible rfl))
      (try simp only [oq8_6_8, Act.put, List.setIfInBounds_toArray, List.set_cons_zero, List.set_cons_succ])
      refine AnyL_take (i := 9) (oi := oq8_6_9) (v := ?_) rfl (by kernel_rfl) (by kernel_rfl) (by kernel_rfl) (by kernel_rfl) (fun _ _ _ h => h) (Or.inl ⟨by rfl, ?_⟩) (by assumption) ?_
      rotate_left
      · (delta oq8_6_9; intro ws hSw; (try dsimp only at hSw); (try go_simp); (try with_reducible rfl))
      (try simp only [oq8_6_9, Act.put, List.setIfInBounds_toArray, List.set_cons_zero, List.set_cons_succ])
      refine AnyL_take (i := 10) (oi := oq8_6_10) (v := ?_) rfl (by kernel_rfl) (by kernel_rfl) (by kernel_rfl) (by kernel_rfl) (fun _ _ _ h => h) (Or.inl ⟨by rfl, ?_⟩) (by assumption) ?_
      rotate_left
      · (delta oq8_6_10; intro ws hSw; (try dsimp only at hSw); (try go_simp); (try with_reducible rfl))
      (try simp only [oq8_6_10, Act.put, List.setIfInBounds_toArray, List.set_cons_zero, List.set_cons_succ])
      refine AnyL_ready (rs := [3, 12, 13, 14]) (by kernel_rfl) (by simp) ?_
      refine ReadyL.cons (o := oq8_6_3) rfl (fun K hK => ?_) ?_
      · delta oq8_6_3
        go_simp
        have hbs : w.heap.size ≤ Z8.heap.size := WW.size
        have hc := do_pow (w.heap.size + 1 + 1) (V6.heap.size) A E C' c f p a e m Z8 XA.num XE.num XC.num hm ha (by omega) XC.1 BG
        rw [← Hx.out] at hc
        refine hc.mono ?_
        clear hc
        rintro e V9 ⟨v, rfl, hv, hb⟩
        replace XA := XA.below hb
        replace XB := XB.below hb
        replace XC := XC.below hb
        replace XE := XE.below hb
        replace XF := XF.below hb
        replace BG := BG.below hb BG.lt
        replace WW := WW.trans (hb.mono WW.size)
        have sz9 := hb.size
        obtain ⟨D1, d1, rfl, ho⟩ := hv
        have O1 := ho.weak (b := w.heap.size) hbs
        clear ho
        clear hb hbs
        refine hK.out _ _ (⟨XA.cell, XB.cell, XE.cell, XF.cell⟩) (fun hHeld2 => ?_)
        clear hK K hHeld
        have hHeld := hHeld2
        clear hHeld2
        (try simp only [oq8_6_3, Act.put, List.setIfInBounds_toArray, List.set_cons_zero, List.set_cons_succ])
        refine AnyL_ready (rs := [7, 12, 13, 14]) (by kernel_rfl) (by simp) ?_
        refine ReadyL.cons (o := oq8_6_7) rfl (fun K hK => ?_) ?_
        · delta oq8_6_7
          go_simp
          have hbs : w.heap.size ≤ V9.heap.size := WW.size
          have hc := do_pow (w.heap.size + 1 + 1) (V6.heap.size) A E2 C' c f2 p a e2 m V9 XA.num XF.num XC.num hm ha (by omega) XC.1 BG
          rw [← Hy.out] at hc
          refine hc.mono ?_
          clear hc
          rintro e V10 ⟨v, rfl, hv, hb⟩
          replace XA := XA.below hb
          replace XB := XB.below hb
          replace XC := XC.below hb
          replace XE := XE.below hb
          replace XF := XF.below hb
          replace O1 := O1.below hb (Nat.le_refl _)
          replace BG := BG.below hb BG.lt
          replace WW := WW.trans (hb.mono WW.size)
          have sz10 := hb.size
          obtain ⟨D2, d2, rfl, ho⟩ := hv
          have O2 := ho.weak (b := w.heap.size) hbs
          clear ho
          clear hb hbs
          refine hK.out _ _ (⟨XA.cell, XB.cell, XE.cell, XF.cell⟩) (fun hHeld2 => ?_)
          clear hK K hHeld
          have hHeld := hHeld2
          clear hHeld2
          (try simp only [oq8_6_7, Act.put, List.setIfInBounds_toArray, List.set_cons_zero, List.set_cons_succ])
          refine AnyL_ready (rs := [11, 12, 13, 14]) (by kernel_rfl) (by simp) ?_
          refine ReadyL.cons (o := oq8_6_11) rfl (fun K hK => ?_) ?_
          · delta oq8_6_11
            go_simp
            have hbs : w.heap.size ≤ V10.heap.size := WW.size
            have hc := do_pow (w.heap.size + 1 + 1) (V6.heap.size) B' E C' d f p b e m V10 XB.num XE.num XC.num hm hb_ (by omega) XC.1 BG
            rw [← Hz.out] at hc
            refine hc.mono ?_
            clear hc
            rintro e V11 ⟨v, rfl, hv, hb⟩
            replace XA := XA.below hb
            replace XB := XB.below hb
            replace XC := XC.below hb
            replace XE := XE.below hb
            replace XF := XF.below hb
            replace O1 := O1.below hb (Nat.le_refl _)
            replace O2 := O2.below hb (Nat.le_refl _)
            replace BG := BG.below hb BG.lt
            replace WW := WW.trans (hb.mono WW.size)
            have sz11 := hb.size
            obtain ⟨D3, d3, rfl, ho⟩ := hv
            have O3 := ho.weak (b := w.heap.size) hbs
            clear ho
            clear hb hbs
            refine hK.out _ _ (⟨XA.cell, XB.cell, XE.cell, XF.cell⟩) (fun hHeld2 => ?_)
            clear hK K hHeld
            have hHeld := hHeld2
            clear hHeld2
            (try simp only [oq8_6_11, Act.put, List.setIfInBounds_toArray, List.set_cons_zero, List.set_cons_succ])
            refine AnyL_ready (rs := [12, 13, 14]) (by kernel_rfl) (by simp) ?_
            refine ReadyL.cons (o := oq8_6_12) rfl (fun K hK => ?_) ?_
            · delta oq8_6_12
              have lqXF : w.heap.size + 1 + 1 + 1 + 1 < V11.heap.size := XF.lt
              have lqBG : V6.heap.size < V11.heap.size := BG.lt
              go_simp
              have ba := (Below.refl V11.heap.size V11).alloc (Nat.le_refl _) (.cells #[.slice none 0 0] 24)
              replace XA := XA.below ba
              replace XB := XB.below ba
              replace XC := XC.below ba
              replace XE := XE.below ba
              replace XF := XF.below ba
              replace O1 := O1.below ba (Nat.le_refl _)
              replace O2 := O2.below ba (Nat.le_refl _)
              replace O3 := O3.below ba (Nat.le_refl _)
              replace BG := BG.below ba BG.lt
              have bn := Blk.new V11 24 #[.slice none 0 0]
              have Xx := VB.mk (B := w.heap.size) (a := 0) bn (.inr (Own.nil _ _ _ _ (Nat.zero_le _))) ba WW.size WW.size
              replace WW := WW.trans (ba.mono WW.size)
              have sz12 : V11.heap.size < (V11.alloc (.cells #[.slice none 0 0] 24)).heap.size := bn.lt
              refine hK.out _ _ (⟨XA.cell, XB.cell, XE.cell, XF.cell⟩) (fun hHeld2 => ?_)
              clear hK K hHeld
              (try simp only [oq8_6_12, Act.put, List.setIfInBounds_toArray, List.set_cons_zero, List.set_cons_succ])
              generalize hV : V11.alloc (.cells #[.slice none 0 0] 24) = V12 at hHeld2 sz12 WW XA XB XC XE XF Xx O1 O2 O3 BG ⊢
              clear hV ba bn
              have hHeld := hHeld2
              clear hHeld2
              obtain ⟨gXx, hg⟩ : ∃ x, x = V11.heap.size := ⟨_, rfl⟩
              have mXxXF : w.heap.size + 1 + 1 + 1 + 1 < gXx := by omega
              have mXxBG : V6.heap.size < gXx := by omega
              rw [← hg] at Xx sz12 ⊢
              clear hg lqXF lqBG
              exact hst13 gXx D1 d1 D2 d2 D3 d3 V12 ⟨WW, XA, XB, XC, XE, XF, Xx, O1, O2, O3, BG, (by first | exact mXxXF | omega), (by first | exact mXxBG | omega), hHeld⟩
            refine ReadyL.cons (o := oq8_6_13) rfl (fun K hK => ?_) ?_
            · delta oq8_6_13
              have lqXF : w.heap.size + 1 + 1 + 1 + 1 < V11.heap.size := XF.lt
              have lqBG : V6.heap.size < V11.heap.size := BG.lt
              go_simp
              have ba := (Below.refl V11.heap.size V11).alloc (Nat.le_refl _) (.cells #[.slice none 0 0] 24)
              replace XA := XA.below ba
              replace XB := XB.below ba
              replace XC := XC.below ba
              replace XE := XE.below ba
              replace XF := XF.below ba
              replace O1 := O1.below ba (Nat.le_refl _)
              replace O2 := O2.below ba (Nat.le_refl _)
              replace O3 := O3.below ba (Nat.le_refl _)
              replace BG := BG.below ba BG.lt
              have bn := Blk.new V11 24 #[.slice none 0 0]
              have Xy := VB.mk (B := w.heap.size) (a := 0) bn (.inr (Own.nil _ _ _ _ (Nat.zero_le _))) ba WW.size WW.size
              replace WW := WW.trans (ba.mono WW.size)
              have sz12 : V11.heap.size < (V11.alloc (.cells #[.slice none 0 0] 24)).heap.size := bn.lt
              refine hK.out _ _ (⟨XA.cell, XB.cell, XE.cell, XF.cell⟩) (fun hHeld2 => ?_)
              clear hK K hHeld
              (try simp only [oq8_6_13, Act.put, List.setIfInBounds_toArray, List.set_cons_zero, List.set_cons_succ])
              generalize hV : V11.alloc (.cells #[.slice none 0 0] 24) = V12 at hHeld2 sz12 WW XA XB XC XE XF Xy O1 O2 O3 BG ⊢
              clear hV ba bn
              have hHeld := hHeld2
              clear hHeld2
              obtain ⟨gXy, hg⟩ : ∃ x, x = V11.heap.size := ⟨_, rfl⟩
              have mXyXF : w.heap.size + 1 + 1 + 1 + 1 < gXy := by omega
              have mXyBG : V6.heap.size < gXy := by omega
              rw [← hg] at Xy sz12 ⊢
              clear hg lqXF lqBG
              exact hst14 gXy D1 d1 D2 d2 D3 d3 V12 ⟨WW, XA, XB, XC, XE, XF, Xy, O1, O2, O3, BG, (by first | exact mXyXF | omega), (by first | exact mXyBG | omega), hHeld⟩
            refine ReadyL.cons (o := oq8_6_14) rfl (fun K hK => ?_) ReadyL.nil
            · delta oq8_6_14
              have lqXF : w.heap.size + 1 + 1 + 1 + 1 < V11.heap.size := XF.lt
              have lqBG : V6.heap.size < V11.heap.size := BG.lt
              go_simp
              have ba := (Below.refl V11.heap.size V11).alloc (Nat.le_refl _) (.cells #[.slice none 0 0] 24)
              replace XA := XA.below ba
              replace XB := XB.below ba
              replace XC := XC.below ba
              replace XE := XE.below ba
              replace XF := XF.below ba
              replace O1 := O1.below ba (Nat.le_refl _)
              replace O2 := O2.below ba (Nat.le_refl _)
              replace O3 := O3.below ba (Nat.le_refl _)
              replace BG := BG.below ba BG.lt
              have bn := Blk.new V11 24 #[.slice none 0 0]
              have Xz := VB.mk (B := w.heap.size) (a := 0) bn (.inr (Own.nil _ _ _ _ (Nat.zero_le _))) ba WW.size WW.size
              replace WW := WW.trans (ba.mono WW.size)
              have sz12 : V11.heap.size < (V11.alloc (.cells #[.slice none 0 0] 24)).heap.size := bn.lt
              refine hK.out _ _ (⟨XA.cell, XB.cell, XE.cell, XF.cell⟩) (fun hHeld2 => ?_)
              clear hK K hHeld
              (try simp only [oq8_6_14, Act.put, List.setIfInBounds_toArray, List.set_cons_zero, List.set_cons_succ])
              generalize hV : V11.alloc (.cells #[.slice none 0 0] 24) = V12 at hHeld2 sz12 WW XA XB XC XE XF Xz O1 O2 O3 BG ⊢
              clear hV ba bn
              have hHeld := hHeld2
              clear hHeld2
              obtain ⟨gXz, hg⟩ : ∃ x, x = V11.heap.size := ⟨_, rfl⟩
              have mXzXF : w.heap.size + 1 + 1 + 1 + 1 < gXz := by omega
              have mXzBG : V6.heap.size < gXz := by omega
              rw [← hg] at Xz sz12 ⊢
              clear hg lqXF lqBG
              exact hst15 gXz D1 d1 D2 d2 D3 d3 V12 ⟨WW, XA, XB, XC, XE, XF, Xz, O1, O2, O3, BG, (by first | exact mXzXF | omega), (by first | exact mXzBG | omega), hHeld⟩
          refine ReadyL.cons (o := oq8_6_12) rfl (fun K hK => ?_) ?_
          · delta oq8_6_12
            have lqXF : w.heap.size + 1 + 1 + 1 + 1 < V10.heap.size := XF.lt
            have lqBG : V6.heap.size < V10.heap.size := BG.lt
            go_simp
            have ba := (Below.refl V10.heap.size V10).alloc (Nat.le_refl _) (.cells #[.slice none 0 0] 24)
            replace XA := XA.below ba
            replace XB := XB.below ba
            replace XC := XC.below ba
            replace XE := XE.below ba
            replace XF := XF.below ba
            replace O1 := O1.below ba (Nat.le_refl _)
            replace O2 := O2.below ba (Nat.le_refl _)
            replace BG := BG.below ba BG.lt
            have bn := Blk.new V10 24 #[.slice none 0 0]
            have Xx := VB.mk (B := w.heap.size) (a := 0) bn (.inr (Own.nil _ _ _ _ (Nat.zero_le _))) ba WW.size WW.size
            replace WW := WW.trans (ba.mono WW.size)
            have sz11 : V10.heap.size < (V10.alloc (.cells #[.slice none 0 0] 24)).heap.size := bn.lt
            refine hK.out _ _ (⟨XA.cell, XB.cell, XE.cell, XF.cell⟩) (fun hHeld2 => ?_)
            clear hK K hHeld
            (try simp only [oq8_6_12, Act.put, List.setIfInBounds_toArray, List.set_cons_zero, List.set_cons_succ])
            generalize hV : V10.alloc (.cells #[.slice none 0 0] 24) = V11 at hHeld2 sz11 WW XA XB XC XE XF Xx O1 O2 BG ⊢
            clear hV ba bn
            have hHeld := hHeld2
            clear hHeld2
            obtain ⟨gXx, hg⟩ : ∃ x, x = V10.heap.size := ⟨_, rfl⟩
            have mXxXF : w.heap.size + 1 + 1 + 1 + 1 < gXx := by omega
            have mXxBG : V6.heap.size < gXx := by omega
            rw [← hg] at Xx sz11 ⊢
            clear hg lqXF lqBG
            exact hst6 gXx D1 d1 D2 d2 V11 ⟨WW, XA, XB, XC, XE, XF, Xx, O1, O2, BG, (by first | exact mXxXF | omega), (by first | exact mXxBG | omega), hHeld⟩
          refine ReadyL.cons (o := oq8_6_13) rfl (fun K hK => ?_) ?_
          · delta oq8_6_13
            have lqXF : w.heap.size + 1 + 1 + 1 + 1 < V10.heap.size := XF.lt
            have lqBG : V6.heap.size < V10.heap.size := BG.lt
            go_simp
            have ba := (Below.refl V10.heap.size V10).alloc (Nat.le_refl _) (.cells #[.slice none 0 0] 24)
            replace XA := XA.below ba
            replace XB := XB.below ba
            replace XC := XC.below ba
            replace XE := XE.below ba
            replace XF := XF.below ba
            replace O1 := O1.below ba (Nat.le_refl _)
            replace O2 := O2.below ba (Nat.le_refl _)
            replace BG := BG.below ba BG.lt
            have bn := Blk.new V10 24 #[.slice none 0 0]
            have Xy := VB.mk (B := w.heap.size) (a := 0) bn (.inr (Own.nil _ _ _ _ (Nat.zero_le _))) ba WW.size WW.size
            replace WW := WW.trans (ba.mono WW.size)
            have sz11 : V10.heap.size < (V10.alloc (.cells #[.slice none 0 0] 24)).heap.size := bn.lt
            refine hK.out _ _ (⟨XA.cell, XB.cell, XE.cell, XF.cell⟩) (fun hHeld2 => ?_)
            clear hK K hHeld
            (try simp only [oq8_6_13, Act.put, List.setIfInBounds_toArray, List.set_cons_zero, List.set_cons_succ])
            generalize hV : V10.alloc (.cells #[.slice none 0 0] 24) = V11 at hHeld2 sz11 WW XA XB XC XE XF Xy O1 O2 BG ⊢
            clear hV ba bn
            have hHeld := hHeld2
            clear hHeld2
            obtain ⟨gXy, hg⟩ : ∃ x, x = V10.heap.size := ⟨_, rfl⟩
            have mXyXF : w.heap.size + 1 + 1 + 1 + 1 < gXy := by omega
            have mXyBG : V6.heap.size < gXy := by omega
            rw [← hg] at Xy sz11 ⊢
            clear hg lqXF lqBG
            exact hst7 gXy D1 d1 D2 d2 V11 ⟨WW, XA, XB, XC, XE, XF, Xy, O1, O2, BG, (by first | exact mXyXF | omega), (by first | exact mXyBG | omega), hHeld⟩
          refine ReadyL.cons (o := oq8_6_14) rfl (fun K hK => ?_) ReadyL.nil
          · delta oq8_6_14
            have lqXF : w.heap.size + 1 + 1 + 1 + 1 < V10.heap.size := XF.lt
            have lqBG : V6.heap.size < V10.heap.size := BG.lt
            go_simp
            have ba := (Below.refl V10.heap.size V10).alloc (Nat.le_refl _) (.cells #[.slice none 0 0] 24)
            replace XA := XA.below ba
            replace XB := XB.below ba
            replace XC := XC.below ba
            replace XE := XE.below ba
            replace XF := XF.below ba
            replace O1 := O1.below ba (Nat.le_refl _)
            replace O2 := O2.below ba (Nat.le_refl _)
            replace BG := BG.below ba BG.lt
            have bn := Blk.new V10 24 #[.slice none 0 0]
            have Xz := VB.mk (B := w.heap.size) (a := 0) bn (.inr (Own.nil _ _ _ _ (Nat.zero_le _))) ba WW.size WW.size
            replace WW := WW.trans (ba.mono WW.size)
            have sz11 : V10.heap.size < (V10.alloc (.cells #[.slice none 0 0] 24)).heap.size := bn.lt
            refine hK.out _ _ (⟨XA.cell, XB.cell, XE.cell, XF.cell⟩) (fun hHeld2 => ?_)
            clear hK K hHeld
            (try simp only [oq8_6_14, Act.put, List.setIfInBounds_toArray, List.set_cons_zero, List.set_cons_succ])
            generalize hV : V10.alloc (.cells #[.slice none 0 0] 24) = V11 at hHeld2 sz11 WW XA XB XC XE XF Xz O1 O2 BG ⊢
            clear hV ba bn
            have hHeld := hHeld2
            clear hHeld2
            obtain ⟨gXz, hg⟩ : ∃ x, x = V10.heap.size := ⟨_, rfl⟩
            have mXzXF : w.heap.size + 1 + 1 + 1 + 1 < gXz := by omega
            have mXzBG : V6.heap.size < gXz := by omega
            rw [← hg] at Xz sz11 ⊢
            clear hg lqXF lqBG
            exact hst8 gXz D1 d1 D2 d2 V11 ⟨WW, XA, XB, XC, XE, XF, Xz, O1, O2, BG, (by first | exact mXzXF | omega), (by first | exact mXzBG | omega), hHeld⟩
        refine ReadyL.cons (o := oq8_6_12) rfl (fun K hK => ?_) ?_
        · delta oq8_6_12
          have lqXF : w.heap.size + 1 + 1 + 1 + 1 < V9.heap.size := XF.lt
          have lqBG : V6.heap.size < V9.heap.size := BG.lt
          go_simp
          have ba := (Below.refl V9.heap.size V9).alloc (Nat.le_refl _) (.cells #[.slice none 0 0] 24)
          replace XA := XA.below ba
          replace XB := XB.below ba
          replace XC := XC.below ba
          replace XE := XE.below ba
          replace XF := XF.below ba
          replace O1 := O1.below ba (Nat.le_refl _)
          replace BG := BG.below ba BG.lt
          have bn := Blk.new V9 24 #[.slice none 0 0]
          have Xx := VB.mk (B := w.heap.size) (a := 0) bn (.inr (Own.nil _ _ _ _ (Nat.zero_le _))) ba WW.size WW.size
          replace WW := WW.trans (ba.mono WW.size)
          have sz10 : V9.heap.size < (V9.alloc (.cells #[.slice none 0 0] 24)).heap.size := bn.lt
          refine hK.out _ _ (⟨XA.cell, XB.cell, XE.cell, XF.cell⟩) (fun hHeld2 => ?_)
          clear hK K hHeld
          (try simp only [oq8_6_12, Act.put, List.setIfInBounds_toArray, List.set_cons_zero, List.set_cons_succ])
          generalize hV : V9.alloc (.cells #[.slice none 0 0] 24) = V10 at hHeld2 sz10 WW XA XB XC XE XF Xx O1 BG ⊢
          clear hV ba bn
          have hHeld := hHeld2
          clear hHeld2
          obtain ⟨gXx, hg⟩ : ∃ x, x = V9.heap.size := ⟨_, rfl⟩
          have mXxXF : w.heap.size + 1 + 1 + 1 + 1 < gXx := by omega
          have mXxBG : V6.heap.size < gXx := by omega
          rw [← hg] at Xx sz10 ⊢
          clear hg lqXF lqBG
          exact hst0 gXx D1 d1 V10 ⟨WW, XA, XB, XC, XE, XF, Xx, O1, BG, (by first | exact mXxXF | omega), (by first | exact mXxBG | omega), hHeld⟩
        refine ReadyL.cons (o := oq8_6_13) rfl (fun K hK => ?_) ?_
        · delta oq8_6_13
          have lqXF : w.heap.size + 1 + 1 + 1 + 1 < V9.heap.size := XF.lt
          have lqBG : V6.heap.size < V9.heap.size := BG.lt
          go_simp
          have ba := (Below.refl V9.heap.size V9).alloc (Nat.le_refl _) (.cells #[.slice none 0 0] 24)
          replace XA := XA.below ba
          replace XB := XB.below ba
          replace XC := XC.below ba
          replace XE := XE.below ba
          replace XF := XF.below ba
          replace O1 := O1.below ba (Nat.le_refl _)
          replace BG := BG.below ba BG.lt
          have bn := Blk.new V9 24 #[.slice none 0 0]
          have Xy := VB.mk (B := w.heap.size) (a := 0) bn (.inr (Own.nil _ _ _ _ (Nat.zero_le _))) ba WW.size WW.size
          replace WW := WW.trans (ba.mono WW.size)
          have sz10 : V9.heap.size < (V9.alloc (.cells #[.slice none 0 0] 24)).heap.size := bn.lt
          refine hK.out _ _ (⟨XA.cell, XB.cell, XE.cell, XF.cell⟩) (fun hHeld2 => ?_)
          clear hK K hHeld
          (try simp only [oq8_6_13, Act.put, List.setIfInBounds_toArray, List.set_cons_zero, List.set_cons_succ])
          generalize hV : V9.alloc (.cells #[.slice none 0 0] 24) = V10 at hHeld2 sz10 WW XA XB XC XE XF Xy O1 BG ⊢
          clear hV ba bn
          have hHeld := hHeld2
          clear hHeld2
          obtain ⟨gXy, hg⟩ : ∃ x, x = V9.heap.size := ⟨_, rfl⟩
          have mXyXF : w.heap.size + 1 + 1 + 1 + 1 < gXy := by omega
          have mXyBG : V6.heap.size < gXy := by omega
          rw [← hg] at Xy sz10 ⊢
          clear hg lqXF lqBG
          exact hst1 gXy D1 d1 V10 ⟨WW, XA, XB, XC, XE, XF, Xy, O1, BG, (by first | exact mXyXF | omega), (by first | exact mXyBG | omega), hHeld⟩
        refine ReadyL.cons (o := oq8_6_14) rfl (fun K hK => ?_) ReadyL.nil
        · delta oq8_6_14
          have lqXF : w.heap.size + 1 + 1 + 1 + 1 < V9.heap.size := XF.lt
          have lqBG : V6.heap.size < V9.heap.size := BG.lt
          go_simp
          have ba := (Below.refl V9.heap.size V9).alloc (Nat.le_refl _) (.cells #[.slice none 0 0] 24)
          replace XA := XA.below ba
          replace XB := XB.below ba
          replace XC := XC.below ba
          replace XE := XE.below ba
          replace XF := XF.below ba
          replace O1 := O1.below ba (Nat.le_refl _)
          replace BG := BG.below ba BG.lt
          have bn := Blk.new V9 24 #[.slice none 0 0]
          have Xz := VB.mk (B := w.heap.size) (a := 0) bn (.inr (Own.nil _ _ _ _ (Nat.zero_le _))) ba WW.size WW.size
          replace WW := WW.trans (ba.mono WW.size)
          have sz10 : V9.heap.size < (V9.alloc (.cells #[.slice none 0 0] 24)).heap.size := bn.lt
          refine hK.out _ _ (⟨XA.cell, XB.cell, XE.cell, XF.cell⟩) (fun hHeld2 => ?_)
          clear hK K hHeld
          (try simp only [oq8_6_14, Act.put, List.setIfInBounds_toArray, List.set_cons_zero, List.set_cons_succ])
          generalize hV : V9.alloc (.cells #[.slice none 0 0] 24) = V10 at hHeld2 sz10 WW XA XB XC XE XF Xz O1 BG ⊢
          clear hV ba bn
          have hHeld := hHeld2
          clear hHeld2
          obtain ⟨gXz, hg⟩ : ∃ x, x = V9.heap.size := ⟨_, rfl⟩
          have mXzXF : w.heap.size + 1 + 1 + 1 + 1 < gXz := by omega
          have mXzBG : V6.heap.size < gXz := by omega
          rw [← hg] at Xz sz10 ⊢
          clear hg lqXF lqBG
          exact hst2 gXz D1 d1 V10 ⟨WW, XA, XB, XC, XE, XF, Xz, O1, BG, (by first | exact mXzXF | omega), (by first | exact mXzBG | omega), hHeld⟩
      refine ReadyL.cons (o := oq8_6_12) rfl (fun K hK => ?_) ?_
      · delta oq8_6_12
        have lqXF : w.heap.size + 1 + 1 + 1 + 1 < Z8.heap.size := XF.lt
        have lqBG : V6.heap.size < Z8.heap.size := BG.lt
        go_simp
        have ba := (Below.refl Z8.heap.size Z8).alloc (Nat.le_refl _) (.cells #[.slice none 0 0] 24)
        replace XA := XA.below ba
        replace XB := XB.below ba
        replace XC := XC.below ba
        replace XE := XE.below ba
        replace XF := XF.below ba
        replace BG := BG.below ba BG.lt
        have bn := Blk.new Z8 24 #[.slice none 0 0]
        have Xx := VB.mk (B := w.heap.size) (a := 0) bn (.inr (Own.nil _ _ _ _ (Nat.zero_le _))) ba WW.size WW.size
        replace WW := WW.trans (ba.mono WW.size)
        have sz9 : Z8.heap.size < (Z8.alloc (.cells #[.slice none 0 0] 24)).heap.size := bn.lt
        refine hK.out _ _ (⟨XA.cell, XB.cell, XE.cell, XF.cell⟩) (fun hHeld2 => ?_)
        clear hK K hHeld
        (try simp only [oq8_6_12, Act.put, List.setIfInBounds_toArray, List.set_cons_zero, List.set_cons_succ])
        generalize hV : Z8.alloc (.cells #[.slice none 0 0] 24) = V9 at hHeld2 sz9 WW XA XB XC XE XF Xx BG ⊢
        clear hV ba bn
        have hHeld := hHeld2
        clear hHeld2
        obtain ⟨gXx, hg⟩ : ∃ x, x = Z8.heap.size := ⟨_, rfl⟩
        have mXxXF : w.heap.size + 1 + 1 + 1 + 1 < gXx := by omega
        have mXxBG : V6.heap.size < gXx := by omega
        rw [← hg] at Xx sz9 ⊢
        clear hg lqXF lqBG
        refine AnyL_ready (rs := [3, 13, 14]) (by kernel_rfl) (by simp) ?_
        refine ReadyL.cons (o := oq8_6_3) rfl (fun K hK => ?_) ?_
        · delta oq8_6_3
          go_simp
          have hbs : w.heap.size ≤ V9.heap.size := WW.size
          have hc := do_pow (w.heap.size + 1 + 1) (V6.heap.size) A E C' c f p a e m V9 XA.num XE.num XC.num hm ha (by omega) XC.1 BG
          rw [← Hx.out] at hc
          refine hc.mono ?_
          clear hc
          rintro e V10 ⟨v, rfl, hv, hb⟩
          replace XA := XA.below hb
          replace XB := XB.below hb
          replace XC := XC.below hb
          replace XE := XE.below hb
          replace XF := XF.below hb
          replace Xx := Xx.below hb
          replace BG := BG.below hb BG.lt
          replace WW := WW.trans (hb.mono WW.size)
          have sz10 := hb.size
          obtain ⟨D1, d1, rfl, ho⟩ := hv
          have O1 := ho.weak (b := w.heap.size) hbs
          clear ho
          clear hb hbs
          refine hK.out _ _ (⟨XA.cell, XB.cell, XE.cell, XF.cell⟩) (fun hHeld2 => ?_)
          clear hK K hHeld
          have hHeld := hHeld2
          clear hHeld2
          (try simp only [oq8_6_3, Act.put, List.setIfInBounds_toArray, List.set_cons_zero, List.set_cons_succ])
          exact hst0 gXx D1 d1 V10 ⟨WW, XA, XB, XC, XE, XF, Xx, O1, BG, (by first | exact mXxXF | omega), (by first | exact mXxBG | omega), hHeld⟩
        refine ReadyL.cons (o := oq8_6_13) rfl (fun K hK => ?_) ?_
        · delta oq8_6_13
          have lqXF : w.heap.size + 1 + 1 + 1 + 1 < V9.heap.size := XF.lt
          have lqBG : V6.heap.size < V9.heap.size := BG.lt
          have lXx : gXx < V9.heap.size := Xx.lt
          go_simp
          have ba := (Below.refl V9.heap.size V9).alloc (Nat.le_refl _) (.cells #[.slice none 0 0] 24)
          replace XA := XA.below ba
          replace XB := XB.below ba
          replace XC := XC.below ba
          replace XE := XE.below ba
          replace XF := XF.below ba
          replace Xx := Xx.below ba
          replace BG := BG.below ba BG.lt
          have bn := Blk.new V9 24 #[.slice none 0 0]
          have Xy := VB.mk (B := w.heap.size) (a := 0) bn (.inr (Own.nil _ _ _ _ (Nat.zero_le _))) ba WW.size WW.size
          replace WW := WW.trans (ba.mono WW.size)
          have sz10 : V9.heap.size < (V9.alloc (.cells #[.slice none 0 0] 24)).heap.size := bn.lt
          refine hK.out _ _ (⟨XA.cell, XB.cell, XE.cell, XF.cell⟩) (fun hHeld2 => ?_)
          clear hK K hHeld
          (try simp only [oq8_6_13, Act.put, List.setIfInBounds_toArray, List.set_cons_zero, List.set_cons_succ])
          generalize hV : V9.alloc (.cells #[.slice none 0 0] 24) = V10 at hHeld2 sz10 WW XA XB XC XE XF Xx Xy BG ⊢
          clear hV ba bn
          have hHeld := hHeld2
          clear hHeld2
          obtain ⟨gXy, hg⟩ : ∃ x, x = V9.heap.size := ⟨_, rfl⟩
          have mXyXF : w.heap.size + 1 + 1 + 1 + 1 < gXy := by omega
          have mXyBG : V6.heap.size < gXy := by omega
          have nXxXy : gXx ≠ gXy := by omega
          rw [← hg] at Xy sz10 ⊢
          clear hg lqXF lqBG lXx
          exact hst3 gXx gXy V10 ⟨WW, XA, XB, XC, XE, XF, Xx, Xy, BG, (by first | exact mXxXF | omega), (by first | exact mXxBG | omega), (by first | exact mXyXF | omega), (by first | exact mXyBG | omega), (by first | exact nXxXy | omega), hHeld⟩
        refine ReadyL.cons (o := oq8_6_14) rfl (fun K hK => ?_) ReadyL.nil
        · delta oq8_6_14
          have lqXF : w.heap.size + 1 + 1 + 1 + 1 < V9.heap.size := XF.lt
          have lqBG : V6.heap.size < V9.heap.size := BG.lt
          have lXx : gXx < V9.heap.size := Xx.lt
          go_simp
          have ba := (Below.refl V9.heap.size V9).alloc (Nat.le_refl _) (.cells #[.slice none 0 0] 24)
          replace XA := XA.below ba
          replace XB := XB.below ba
          replace XC := XC.below ba
          replace XE := XE.below ba
          replace XF := XF.below ba
          replace Xx := Xx.below ba
          replace BG := BG.below ba BG.lt
          have bn := Blk.new V9 24 #[.slice none 0 0]
          have Xz := VB.mk (B := w.heap.size) (a := 0) bn (.inr (Own.nil _ _ _ _ (Nat.zero_le _))) ba WW.size WW.size
          replace WW := WW.trans (ba.mono WW.size)
          have sz10 : V9.heap.size < (V9.alloc (.cells #[.slice none 0 0] 24)).heap.size := bn.lt
          refine hK.out _ _ (⟨XA.cell, XB.cell, XE.cell, XF.cell⟩) (fun hHeld2 => ?_)
          clear hK K hHeld
          (try simp only [oq8_6_14, Act.put, List.setIfInBounds_toArray, List.set_cons_zero, List.set_cons_succ])
          generalize hV : V9.alloc (.cells #[.slice none 0 0] 24) = V10 at hHeld2 sz10 WW XA XB XC XE XF Xx Xz BG ⊢
          clear hV ba bn
          have hHeld := hHeld2
          clear hHeld2
          obtain ⟨gXz, hg⟩ : ∃ x, x = V9.heap.size := ⟨_, rfl⟩
          have mXzXF : w.heap.size + 1 + 1 + 1 + 1 < gXz := by omega
          have mXzBG : V6.heap.size < gXz := by omega
          have nXxXz : gXx ≠ gXz := by omega
          rw [← hg] at Xz sz10 ⊢
          clear hg lqXF lqBG lXx
          exact hst4 gXx gXz V10 ⟨WW, XA, XB, XC, XE, XF, Xx, Xz, BG, (by first | exact mXxXF | omega), (by first | exact mXxBG | omega), (by first | exact mXzXF | omega), (by first | exact mXzBG | omega), (by first | exact nXxXz | omega), hHeld⟩
      refine ReadyL.cons (o := oq8_6_13) rfl (fun K hK => ?_) ?_
      · delta oq8_6_13
        have lqXF : w.heap.size + 1 + 1 + 1 + 1 < Z8.heap.size := XF.lt
        have lqBG : V6.heap.size < Z8.heap.size := BG.lt
        go_simp
        have ba := (Below.refl Z8.heap.size Z8).alloc (Nat.le_refl _) (.cells #[.slice none 0 0] 24)
        replace XA := XA.below ba
        replace XB := XB.below ba
        replace XC := XC.below ba
        replace XE := XE.below ba
        replace XF := XF.below ba
        replace BG := BG.below ba BG.lt
        have bn := Blk.new Z8 24 #[.slice none 0 0]
        have Xy := VB.mk (B := w.heap.size) (a := 0) bn (.inr (Own.nil _ _ _ _ (Nat.zero_le _))) ba WW.size WW.size
        replace WW := WW.trans (ba.mono WW.size)
        have sz9 : Z8.heap.size < (Z8.alloc (.cells #[.slice none 0 0] 24)).heap.size := bn.lt
        refine hK.out _ _ (⟨XA.cell, XB.cell, XE.cell, XF.cell⟩) (fun hHeld2 => ?_)
        clear hK K hHeld
        (try simp only [oq8_6_13, Act.put, List.setIfInBounds_toArray, List.set_cons_zero, List.set_cons_succ])
        generalize hV : Z8.alloc (.cells #[.slice none 0 0] 24) = V9 at hHeld2 sz9 WW XA XB XC XE XF Xy BG ⊢
        clear hV ba bn
        have hHeld := hHeld2
        clear hHeld2
        obtain ⟨gXy, hg⟩ : ∃ x, x = Z8.heap.size := ⟨_, rfl⟩
        have mXyXF : w.heap.size + 1 + 1 + 1 + 1 < gXy := by omega
        have mXyBG : V6.heap.size < gXy := by omega
        rw [← hg] at Xy sz9 ⊢
        clear hg lqXF lqBG
        refine AnyL_ready (rs := [3, 12, 14]) (by kernel_rfl) (by simp) ?_
        refine ReadyL.cons (o := oq8_6_3) rfl (fun K hK => ?_) ?_
        · delta oq8_6_3
          go_simp
          have hbs : w.heap.size ≤ V9.heap.size := WW.size
          have hc := do_pow (w.heap.size + 1 + 1) (V6.heap.size) A E C' c f p a e m V9 XA.num XE.num XC.num hm ha (by omega) XC.1 BG
          rw [← Hx.out] at hc
          refine hc.mono ?_
          clear hc
          rintro e V10 ⟨v, rfl, hv, hb⟩
          replace XA := XA.below hb
          replace XB := XB.below hb
          replace XC := XC.below hb
          replace XE := XE.below hb
          replace XF := XF.below hb
          replace Xy := Xy.below hb
          replace BG := BG.below hb BG.lt
          replace WW := WW.trans (hb.mono WW.size)
          have sz10 := hb.size
          obtain ⟨D1, d1, rfl, ho⟩ := hv
          have O1 := ho.weak (b := w.heap.size) hbs
          clear ho
          clear hb hbs
          refine hK.out _ _ (⟨XA.cell, XB.cell, XE.cell, XF.cell⟩) (fun hHeld2 => ?_)
          clear hK K hHeld
          have hHeld := hHeld2
          clear hHeld2
          (try simp only [oq8_6_3, Act.put, List.setIfInBounds_toArray, List.set_cons_zero, List.set_cons_succ])
          exact hst1 gXy D1 d1 V10 ⟨WW, XA, XB, XC, XE, XF, Xy, O1, BG, (by first | exact mXyXF | omega), (by first | exact mXyBG | omega), hHeld⟩
        refine ReadyL.cons (o := oq8_6_12) rfl (fun K hK => ?_) ?_
        · delta oq8_6_12
          have lqXF : w.heap.size + 1 + 1 + 1 + 1 < V9.heap.size := XF.lt
          have lqBG : V6.heap.size < V9.heap.size := BG.lt
          have lXy : gXy < V9.heap.size := Xy.lt
          go_simp
          have ba := (Below.refl V9.heap.size V9).alloc (Nat.le_refl _) (.cells #[.slice none 0 0] 24)
          replace XA := XA.below ba
          replace XB := XB.below ba
          replace XC := XC.below ba
          replace XE := XE.below ba
          replace XF := XF.below ba
          replace Xy := Xy.below ba
          replace BG := BG.below ba BG.lt
          have bn := Blk.new V9 24 #[.slice none 0 0]
          have Xx := VB.mk (B := w.heap.size) (a := 0) bn (.inr (Own.nil _ _ _ _ (Nat.zero_le _))) ba WW.size WW.size
          replace WW := WW.trans (ba.mono WW.size)
          have sz10 : V9.heap.size < (V9.alloc (.cells #[.slice none 0 0] 24)).heap.size := bn.lt
          refine hK.out _ _ (⟨XA.cell, XB.cell, XE.cell, XF.cell⟩) (fun hHeld2 => ?_)
          clear hK K hHeld
          (try simp only [oq8_6_12, Act.put, List.setIfInBounds_toArray, List.set_cons_zero, List.set_cons_succ])
          generalize hV : V9.alloc (.cells #[.slice none 0 0] 24) = V10 at hHeld2 sz10 WW XA XB XC XE XF Xy Xx BG ⊢
          clear hV ba bn
          have hHeld := hHeld2
          clear hHeld2
          obtain ⟨gXx, hg⟩ : ∃ x, x = V9.heap.size := ⟨_, rfl⟩
          have mXxXF : w.heap.size + 1 + 1 + 1 + 1 < gXx := by omega
          have mXxBG : V6.heap.size < gXx := by omega
          have nXyXx : gXy ≠ gXx := by omega
          rw [← hg] at Xx sz10 ⊢
          clear hg lqXF lqBG lXy
          exact hst3 gXx gXy V10 ⟨WW, XA, XB, XC, XE, XF, Xx, Xy, BG, (by first | exact mXxXF | omega), (by first | exact mXxBG | omega), (by first | exact mXyXF | omega), (by first | exact mXyBG | omega), (by first | exact nXxXy | omega), hHeld⟩
        refine ReadyL.cons (o := oq8_6_14) rfl (fun K hK => ?_) ReadyL.nil
        · delta oq8_6_14
          have lqXF : w.heap.size + 1 + 1 + 1 + 1 < V9.heap.size := XF.lt
          have lqBG : V6.heap.size < V9.heap.size := BG.lt
          have lXy : gXy < V9.heap.size := Xy.lt
          go_simp
          have ba := (Below.refl V9.heap.size V9).alloc (Nat.le_refl _) (.cells #[.slice none 0 0] 24)
          replace XA := XA.below ba
          replace XB := XB.below ba
          replace XC := XC.below ba
          replace XE := XE.below ba
          replace XF := XF.below ba
          replace Xy := Xy.below ba
          replace BG := BG.below ba BG.lt
          have bn := Blk.new V9 24 #[.slice none 0 0]
          have Xz := VB.mk (B := w.heap.size) (a := 0) bn (.inr (Own.nil _ _ _ _ (Nat.zero_le _))) ba WW.size WW.size
          replace WW := WW.trans (ba.mono WW.size)
          have sz10 : V9.heap.size < (V9.alloc (.cells #[.slice none 0 0] 24)).heap.size := bn.lt
          refine hK.out _ _ (⟨XA.cell, XB.cell, XE.cell, XF.cell⟩) (fun hHeld2 => ?_)
          clear hK K hHeld
          (try simp only [oq8_6_14, Act.put, List.setIfInBounds_toArray, List.set_cons_zero, List.set_cons_succ])
          generalize hV : V9.alloc (.cells #[.slice none 0 0] 24) = V10 at hHeld2 sz10 WW XA XB XC XE XF Xy Xz BG ⊢
          clear hV ba bn
          have hHeld := hHeld2
          clear hHeld2
          obtain ⟨gXz, hg⟩ : ∃ x, x = V9.heap.size := ⟨_, rfl⟩
          have mXzXF : w.heap.size + 1 + 1 + 1 + 1 < gXz := by omega
          have mXzBG : V6.heap.size < gXz := by omega
          have nXyXz : gXy ≠ gXz := by omega
          rw [← hg] at Xz sz10 ⊢
          clear hg lqXF lqBG lXy
          exact hst5 gXy gXz V10 ⟨WW, XA, XB, XC, XE, XF, Xy, Xz, BG, (by first | exact mXyXF | omega), (by first | exact mXyBG | omega), (by first | exact mXzXF | omega), (by first | exact mXzBG | omega), (by first | exact nXyXz | omega), hHeld⟩
      refine ReadyL.cons (o := oq8_6_14) rfl (fun K hK => ?_) ReadyL.nil
      · delta oq8_6_14
        have lqXF : w.heap.size + 1 + 1 + 1 + 1 < Z8.heap.size := XF.lt
        have lqBG : V6.heap.size < Z8.heap.size := BG.lt
        go_simp
        have ba := (Below.refl Z8.heap.size Z8).alloc (Nat.le_refl _) (.cells #[.slice none 0 0] 24)
        replace XA := XA.below ba
        replace XB := XB.below ba
        replace XC := XC.below ba
        replace XE := XE.below ba
        replace XF := XF.below ba
        replace BG := BG.below ba BG.lt
        have bn := Blk.new Z8 24 #[.slice none 0 0]
        have Xz := VB.mk (B := w.heap.size) (a := 0) bn (.inr (Own.nil _ _ _ _ (Nat.zero_le _))) ba WW.size WW.size
        replace WW := WW.trans (ba.mono WW.size)
        have sz9 : Z8.heap.size < (Z8.alloc (.cells #[.slice none 0 0] 24)).heap.size := bn.lt
        refine hK.out _ _ (⟨XA.cell, XB.cell, XE.cell, XF.cell⟩) (fun hHeld2 => ?_)
        clear hK K hHeld
        (try simp only [oq8_6_14, Act.put, List.setIfInBounds_toArray, List.set_cons_zero, List.set_cons_succ])
        generalize hV : Z8.alloc (.cells #[.slice none 0 0] 24) = V9 at hHeld2 sz9 WW XA XB XC XE XF Xz BG ⊢
        clear hV ba bn
        have hHeld := hHeld2
        clear hHeld2
        obtain ⟨gXz, hg⟩ : ∃ x, x = Z8.heap.size := ⟨_, rfl⟩
        have mXzXF : w.heap.size + 1 + 1 + 1 + 1 < gXz := by omega
        have mXzBG : V6.heap.size < gXz := by omega
        rw [← hg] at Xz sz9 ⊢
        clear hg lqXF lqBG
        refine AnyL_ready (rs := [3, 12, 13]) (by kernel_rfl) (by simp) ?_
        refine ReadyL.cons (o := oq8_6_3) rfl (fun K hK => ?_) ?_
        · delta oq8_6_3
          go_simp
          have hbs : w.heap.size ≤ V9.heap.size := WW.size
          have hc := do_pow (w.heap.size + 1 + 1) (V6.heap.size) A E C' c f p a e m V9 XA.num XE.num XC.num hm ha (by omega) XC.1 BG
          rw [← Hx.out] at hc
          refine hc.mono ?_
          clear hc
          rintro e V10 ⟨v, rfl, hv, hb⟩
          replace XA := XA.below hb
          replace XB := XB.below hb
          replace XC := XC.below hb
          replace XE := XE.below hb
          replace XF := XF.below hb
          replace Xz := Xz.below hb
          replace BG := BG.below hb BG.lt
          replace WW := WW.trans (hb.mono WW.size)
          have sz10 := hb.size
          obtain ⟨D1, d1, rfl, ho⟩ := hv
          have O1 := ho.weak (b := w.heap.size) hbs
          clear ho
          clear hb hbs
          refine hK.out _ _ (⟨XA.cell, XB.cell, XE.cell, XF.cell⟩) (fun hHeld2 => ?_)
          clear hK K hHeld
          have hHeld := hHeld2
          clear hHeld2
          (try simp only [oq8_6_3, Act.put, List.setIfInBounds_toArray, List.set_cons_zero, List.set_cons_succ])
          exact hst2 gXz D1 d1 V10 ⟨WW, XA, XB, XC, XE, XF, Xz, O1, BG, (by first | exact mXzXF | omega), (by first | exact mXzBG | omega), hHeld⟩
        refine ReadyL.cons (o := oq8_6_12) rfl (fun K hK => ?_) ?_
        · delta oq8_6_12
          have lqXF : w.heap.size + 1 + 1 + 1 + 1 < V9.heap.size := XF.lt
          have lqBG : V6.heap.size < V9.heap.size := BG.lt
          have lXz : gXz < V9.heap.size := Xz.lt
          go_simp
          have ba := (Below.refl V9.heap.size V9).alloc (Nat.le_refl _) (.cells #[.slice none 0 0] 24)
          replace XA := XA.below ba
          replace XB := XB.below ba
          replace XC := XC.below ba
          replace XE := XE.below ba
          replace XF := XF.below ba
          replace Xz := Xz.below ba
          replace BG := BG.below ba BG.lt
          have bn := Blk.new V9 24 #[.slice none 0 0]
          have Xx := VB.mk (B := w.heap.size) (a := 0) bn (.inr (Own.nil _ _ _ _ (Nat.zero_le _))) ba WW.size WW.size
          replace WW := WW.trans (ba.mono WW.size)
          have sz10 : V9.heap.size < (V9.alloc (.cells #[.slice none 0 0] 24)).heap.size := bn.lt
          refine hK.out _ _ (⟨XA.cell, XB.cell, XE.cell, XF.cell⟩) (fun hHeld2 => ?_)
          clear hK K hHeld
          (try simp only [oq8_6_12, Act.put, List.setIfInBounds_toArray, List.set_cons_zero, List.set_cons_succ])
          generalize hV : V9.alloc (.cells #[.slice none 0 0] 24) = V10 at hHeld2 sz10 WW XA XB XC XE XF Xz Xx BG ⊢
          clear hV ba bn
          have hHeld := hHeld2
          clear hHeld2
          obtain ⟨gXx, hg⟩ : ∃ x, x = V9.heap.size := ⟨_, rfl⟩
          have mXxXF : w.heap.size + 1 + 1 + 1 + 1 < gXx := by omega
          have mXxBG : V6.heap.size < gXx := by omega
          have nXzXx : gXz ≠ gXx := by omega
          rw [← hg] at Xx sz10 ⊢
          clear hg lqXF lqBG lXz
          exact hst4 gXx gXz V10 ⟨WW, XA, XB, XC, XE, XF, Xx, Xz, BG, (by first | exact mXxXF | omega), (by first | exact mXxBG | omega), (by first | exact mXzXF | omega), (by first | exact mXzBG | omega), (by first | exact nXxXz | omega), hHeld⟩
        refine ReadyL.cons (o := oq8_6_13) rfl (fun K hK => ?_) ReadyL.nil
        · delta oq8_6_13
          have lqXF : w.heap.size + 1 + 1 + 1 + 1 < V9.heap.size := XF.lt
          have lqBG : V6.heap.size < V9.heap.size := BG.lt
          have lXz : gXz < V9.heap.size := Xz.lt
          go_simp
          have ba := (Below.refl V9.heap.size V9).alloc (Nat.le_refl _) (.cells #[.slice none 0 0] 24)
          replace XA := XA.below ba
          replace XB := XB.below ba
          replace XC := XC.below ba
          replace XE := XE.below ba
          replace XF := XF.below ba
          replace Xz := Xz.below ba
          replace BG := BG.below ba BG.lt
          have bn := Blk.new V9 24 #[.slice none 0 0]
          have Xy := VB.mk (B := w.heap.size) (a := 0) bn (.inr (Own.nil _ _ _ _ (Nat.zero_le _))) ba WW.size WW.size
          replace WW := WW.trans (ba.mono WW.size)
          have sz10 : V9.heap.size < (V9.alloc (.cells #[.slice none 0 0] 24)).heap.size := bn.lt
          refine hK.out _ _ (⟨XA.cell, XB.cell, XE.cell, XF.cell⟩) (fun hHeld2 => ?_)
          clear hK K hHeld
          (try simp only [oq8_6_13, Act.put, List.setIfInBounds_toArray, List.set_cons_zero, List.set_cons_succ])
          generalize hV : V9.alloc (.cells #[.slice none 0 0] 24) = V10 at hHeld2 sz10 WW XA XB XC XE XF Xz Xy BG ⊢
          clear hV ba bn
          have hHeld := hHeld2
          clear hHeld2
          obtain ⟨gXy, hg⟩ : ∃ x, x = V9.heap.size := ⟨_, rfl⟩
          have mXyXF : w.heap.size + 1 + 1 + 1 + 1 < gXy := by omega
          have mXyBG : V6.heap.size < gXy := by omega
          have nXzXy : gXz ≠ gXy := by omega
          rw [← hg] at Xy sz10 ⊢
          clear hg lqXF lqBG lXz
          exact hst5 gXy gXz V10 ⟨WW, XA, XB, XC, XE, XF, Xy, Xz, BG, (by first | exact mXyXF | omega), (by first | exact mXyBG | omega), (by first | exact mXzXF | omega), (by first | exact mXzBG | omega), (by first | exact nXyXz | omega), hHeld⟩
    case h1.h1.h1.h1.h1.h1.h1.h1.h1.h1.h1.h1.h1.h1.h1.h1.h1.h1.h1.h1.h1.h1.h1.h1.h2 =>
      rintro gXx D1 d1 Y8_25 ⟨WW, XA, XB, XC, XE, XF, Xx, O1, BG, mXxXF, mXxBG, hHeld⟩
      refine AnyL_ready (rs := [7, 13, 14]) (by kernel_rfl) (by simp) ?_
      refine ReadyL.cons (o := oq8_6_7) rfl (fun K hK => ?_) ?_
      · delta oq8_6_7
        go_simp
        have hbs : w.heap.size ≤ Y8_25.heap.size := WW.size
        have hc := do_pow (w.heap.size + 1 + 1) (V6.heap.size) A E2 C' c f2 p a e2 m Y8_25 XA.num XF.num XC.num hm ha (by omega) XC.1 BG
        rw [← Hy.out] at hc
        refine hc.mono ?_
        clear hc
        rintro e V334 ⟨v, rfl, hv, hb⟩
        replace XA := XA.below hb
        replace XB := XB.below hb
        replace XC := XC.below hb
        replace XE := XE.below hb
        replace XF := XF.below hb
        replace Xx := Xx.below hb
        replace O1 := O1.below hb (Nat.le_refl _)
        replace BG := BG.below hb BG.lt
        replace WW := WW.trans (hb.mono WW.size)
        have sz334 := hb.size
        obtain ⟨D2, d2, rfl, ho⟩ := hv
        have O2 := ho.weak (b := w.heap.size) hbs
        clear ho
        clear hb hbs
        refine hK.out _ _ (⟨XA.cell, XB.cell, XE.cell, XF.cell⟩) (fun hHeld2 => ?_)
        clear hK K hHeld
        have hHeld := hHeld2
        clear hHeld2
        (try simp only [oq8_6_7, Act.put, List.setIfInBounds_toArray, List.set_cons_zero, List.set_cons_succ])
        exact hst6 gXx D1 d1 D2 d2 V334 ⟨WW, XA, XB, XC, XE, XF, Xx, O1, O2, BG, (by first | exact mXxXF | omega), (by first | exact mXxBG | omega), hHeld⟩
      refine ReadyL.cons (o := oq8_6_13) rfl (fun K hK => ?_) ?_
      · delta oq8_6_13
        have lqXF : w.heap.size + 1 + 1 + 1 + 1 < Y8_25.heap.size := XF.lt
        have lqBG : V6.heap.size < Y8_25.heap.size := BG.lt
        have lXx : gXx < Y8_25.heap.size := Xx.lt
        go_simp
        have ba := (Below.refl Y8_25.heap.size Y8_25).alloc (Nat.le_refl _) (.cells #[.slice none 0 0] 24)
        replace XA := XA.below ba
        replace XB := XB.below ba
        replace XC := XC.below ba
        replace XE := XE.below ba
        replace XF := XF.below ba
        replace Xx := Xx.below ba
        replace O1 := O1.below ba (Nat.le_refl _)
        replace BG := BG.below ba BG.lt
        have bn := Blk.new Y8_25 24 #[.slice none 0 0]
        have Xy := VB.mk (B := w.heap.size) (a := 0) bn (.inr (Own.nil _ _ _ _ (Nat.zero_le _))) ba WW.size WW.size
        replace WW := WW.trans (ba.mono WW.size)
        have sz334 : Y8_25.heap.size < (Y8_25.alloc (.cells #[.slice none 0 0] 24)).heap.size := bn.lt
        refine hK.out _ _ (⟨XA.cell, XB.cell, XE.cell, XF.cell⟩) (fun hHeld2 => ?_)
        clear hK K hHeld
        (try simp only [oq8_6_13, Act.put, List.setIfInBounds_toArray, List.set_cons_zero, List.set_cons_succ])
        generalize hV : Y8_25.alloc (.cells #[.slice none 0 0] 24) = V334 at hHeld2 sz334 WW XA XB XC XE XF Xx Xy O1 BG ⊢
        clear hV ba bn
        have hHeld := hHeld2
        clear hHeld2
        obtain ⟨gXy, hg⟩ : ∃ x, x = Y8_25.heap.size := ⟨_, rfl⟩
        have mXyXF : w.heap.size + 1 + 1 + 1 + 1 < gXy := by omega
        have mXyBG : V6.heap.size < gXy := by omega
        have nXxXy : gXx ≠ gXy := by omega
        rw [← hg] at Xy sz334 ⊢
        clear hg lqXF lqBG lXx
        exact hst9 gXx gXy D1 d1 V334 ⟨WW, XA, XB, XC, XE, XF, Xx, Xy, O1, BG, (by first | exact mXxXF | omega), (by first | exact mXxBG | omega), (by first | exact mXyXF | omega), (by first | exact mXyBG | omega), (by first | exact nXxXy | omega), hHeld⟩
      refine ReadyL.cons (o := oq8_6_14) rfl (fun K hK => ?_) ReadyL.nil
      · delta oq8_6_14
        have lqXF : w.heap.size + 1 + 1 + 1 + 1 < Y8_25.heap.size := XF.lt
        have lqBG : V6.heap.size < Y8_25.heap.size := BG.lt
        have lXx : gXx < Y8_25.heap.size := Xx.lt
        go_simp
        have ba := (Below.refl Y8_25.heap.size Y8_25).alloc (Nat.le_refl _) (.cells #[.slice none 0 0] 24)
        replace XA := XA.below ba
        replace XB := XB.below ba
        replace XC := XC.below ba
        replace XE := XE.below ba
        replace XF := XF.below ba
        replace Xx := Xx.below ba
        replace O1 := O1.below ba (Nat.le_refl _)
        replace BG := BG.below ba BG.lt
        have bn := Blk.new Y8_25 24 #[.slice none 0 0]
        have Xz := VB.mk (B := w.heap.size) (a := 0) bn (.inr (Own.nil _ _ _ _ (Nat.zero_le _))) ba WW.size WW.size
        replace WW := WW.trans (ba.mono WW.size)
        have sz334 : Y8_25.heap.size < (Y8_25.alloc (.cells #[.slice none 0 0] 24)).heap.size := bn.lt
        refine hK.out _ _ (⟨XA.cell, XB.cell, XE.cell, XF.cell⟩) (fun hHeld2 => ?_)
        clear hK K hHeld
        (try simp only [oq8_6_14, Act.put, List.setIfInBounds_toArray, List.set_cons_zero, List.set_cons_succ])
        generalize hV : Y8_25.alloc (.cells #[.slice none 0 0] 24) = V334 at hHeld2 sz334 WW XA XB XC XE XF Xx Xz O1 BG ⊢
        clear hV ba bn
        have hHeld := hHeld2
        clear hHeld2
        obtain ⟨gXz, hg⟩ : ∃ x, x = Y8_25.heap.size := ⟨_, rfl⟩
        have mXzXF : w.heap.size + 1 + 1 + 1 + 1 < gXz := by omega
        have mXzBG : V6.heap.size < gXz := by omega
        have nXxXz : gXx ≠ gXz := by omega
        rw [← hg] at Xz sz334 ⊢
        clear hg lqXF lqBG lXx
        exact hst10 gXx gXz D1 d1 V334 ⟨WW, XA, XB, XC, XE, XF, Xx, Xz, O1, BG, (by first | exact mXxXF | omega), (by first | exact mXxBG | omega), (by first | exact mXzXF | omega), (by first | exact mXzBG | omega), (by first | exact nXxXz | omega), hHeld⟩
    case h1.h1.h1.h1.h1.h1.h1.h1.h1.h1.h1.h1.h1.h1.h1.h1.h1.h1.h1.h1.h1.h1.h1.h2 =>
      rintro gXy D1 d1 Y8_29 ⟨WW, XA, XB, XC, XE, XF, Xy, O1, BG, mXyXF, mXyBG, hHeld⟩
      refine AnyL_ready (rs := [7, 12, 14]) (by kernel_rfl) (by simp) ?_
      refine ReadyL.cons (o := oq8_6_7) rfl (fun K hK => ?_) ?_
      · delta oq8_6_7
        go_simp
        have hbs : w.heap.size ≤ Y8_29.heap.size := WW.size
        have hc := do_pow (w.heap.size + 1 + 1) (V6.heap.size) A E2 C' c f2 p a e2 m Y8_29 XA.num XF.num XC.num hm ha (by omega) XC.1 BG
        rw [← Hy.out] at hc
        refine hc.mono ?_
        clear hc
        rintro e V338 ⟨v, rfl, hv, hb⟩
        replace XA := XA.below hb
        replace XB := XB.below hb
        replace XC := XC.below hb
        replace XE := XE.below hb
        replace XF := XF.below hb
        replace Xy := Xy.below hb
        replace O1 := O1.below hb (Nat.le_refl _)
        replace BG := BG.below hb BG.lt
        replace WW := WW.trans (hb.mono WW.size)
        have sz338 := hb.size
        obtain ⟨D2, d2, rfl, ho⟩ := hv
        have O2 := ho.weak (b := w.heap.size) hbs
        clear ho
        clear hb hbs
        refine hK.out _ _ (⟨XA.cell, XB.cell, XE.cell, XF.cell⟩) (fun hHeld2 => ?_)
        clear hK K hHeld
        have hHeld := hHeld2
        clear hHeld2
        (try simp only [oq8_6_7, Act.put, List.setIfInBounds_toArray, List.set_cons_zero, List.set_cons_succ])
        exact hst7 gXy D1 d1 D2 d2 V338 ⟨WW, XA, XB, XC, XE, XF, Xy, O1, O2, BG, (by first | exact mXyXF | omega), (by first | exact mXyBG | omega), hHeld⟩
      refine ReadyL.cons (o := oq8_6_12) rfl (fun K hK => ?_) ?_
      · delta oq8_6_12
        have lqXF : w.heap.size + 1 + 1 + 1 + 1 < Y8_29.heap.size := XF.lt
        have lqBG : V6.heap.size < Y8_29.heap.size := BG.lt
        have lXy : gXy < Y8_29.heap.size := Xy.lt
        go_simp
        have ba := (Below.refl Y8_29.heap.size Y8_29).alloc (Nat.le_refl _) (.cells #[.slice none 0 0] 24)
        replace XA := XA.below ba
        replace XB := XB.below ba
        replace XC := XC.below ba
        replace XE := XE.below ba
        replace XF := XF.below ba
        replace Xy := Xy.below ba
        replace O1 := O1.below ba (Nat.le_refl _)
        replace BG := BG.below ba BG.lt
        have bn := Blk.new Y8_29 24 #[.slice none 0 0]
        have Xx := VB.mk (B := w.heap.size) (a := 0) bn (.inr (Own.nil _ _ _ _ (Nat.zero_le _))) ba WW.size WW.size
        replace WW := WW.trans (ba.mono WW.size)
        have sz338 : Y8_29.heap.size < (Y8_29.alloc (.cells #[.slice none 0 0] 24)).heap.size := bn.lt
        refine hK.out _ _ (⟨XA.cell, XB.cell, XE.cell, XF.cell⟩) (fun hHeld2 => ?_)
        clear hK K hHeld
        (try simp only [oq8_6_12, Act.put, List.setIfInBounds_toArray, List.set_cons_zero, List.set_cons_succ])
        generalize hV : Y8_29.alloc (.cells #[.slice none 0 0] 24) = V338 at hHeld2 sz338 WW XA XB XC XE XF Xy Xx O1 BG ⊢
        clear hV ba bn
        have hHeld := hHeld2
        clear hHeld2
        obtain ⟨gXx, hg⟩ : ∃ x, x = Y8_29.heap.size := ⟨_, rfl⟩
        have mXxXF : w.heap.size + 1 + 1 + 1 + 1 < gXx := by omega
        have mXxBG : V6.heap.size < gXx := by omega
        have nXyXx : gXy ≠ gXx := by omega
        rw [← hg] at Xx sz338 ⊢
        clear hg lqXF lqBG lXy
        exact hst9 gXx gXy D1 d1 V338 ⟨WW, XA, XB, XC, XE, XF, Xx, Xy, O1, BG, (by first | exact mXxXF | omega), (by first | exact mXxBG | omega), (by first | exact mXyXF | omega), (by first | exact mXyBG | omega), (by first | exact nXxXy | omega), hHeld⟩
      refine ReadyL.cons (o := oq8_6_14) rfl (fun K hK => ?_) ReadyL.nil
      · delta oq8_6_14
        have lqXF : w.heap.size + 1 + 1 + 1 + 1 < Y8_29.heap.size := XF.lt
        have lqBG : V6.heap.size < Y8_29.heap.size := BG.lt
        have lXy : gXy < Y8_29.heap.size := Xy.lt
        go_simp
        have ba := (Below.refl Y8_29.heap.size Y8_29).alloc (Nat.le_refl _) (.cells #[.slice none 0 0] 24)
        replace XA := XA.below ba
        replace XB := XB.below ba
        replace XC := XC.below ba
        replace XE := XE.below ba
        replace XF := XF.below ba
        replace Xy := Xy.below ba
        replace O1 := O1.below ba (Nat.le_refl _)
        replace BG := BG.below ba BG.lt
        have bn := Blk.new Y8_29 24 #[.slice none 0 0]
        have Xz := VB.mk (B := w.heap.size) (a := 0) bn (.inr (Own.nil _ _ _ _ (Nat.zero_le _))) ba WW.size WW.size
        replace WW := WW.trans (ba.mono WW.size)
        have sz338 : Y8_29.heap.size < (Y8_29.alloc (.cells #[.slice none 0 0] 24)).heap.size := bn.lt
        refine hK.out _ _ (⟨XA.cell, XB.cell, XE.cell, XF.cell⟩) (fun hHeld2 => ?_)
        clear hK K hHeld
        (try simp only [oq8_6_14, Act.put, List.setIfInBounds_toArray, List.set_cons_zero, List.set_cons_succ])
        generalize hV : Y8_29.alloc (.cells #[.slice none 0 0] 24) = V338 at hHeld2 sz338 WW XA XB XC XE XF Xy Xz O1 BG ⊢
        clear hV ba bn
        have hHeld := hHeld2
        clear hHeld2
        obtain ⟨gXz, hg⟩ : ∃ x, x = Y8_29.heap.size := ⟨_, rfl⟩
        have mXzXF : w.heap.size + 1 + 1 + 1 + 1 < gXz := by omega
        have mXzBG : V6.heap.size < gXz := by omega
        have nXyXz : gXy ≠ gXz := by omega
        rw [← hg] at Xz sz338 ⊢
        clear hg lqXF lqBG lXy
        exact hst11 gXy gXz D1 d1 V338 ⟨WW, XA, XB, XC, XE, XF, Xy, Xz, O1, BG, (by first | exact mXyXF | omega), (by first | exact mXyBG | omega), (by first | exact mXzXF | omega), (by first | exact mXzBG | omega), (by first | exact nXyXz | omega), hHeld⟩
    case h1.h1.h1.h1.h1.h1.h1.h1.h1.h1.h1.h1.h1.h1.h1.h1.h1.h1.h1.h1.h1.h1.h2 =>
      rintro gXz D1 d1 Y8_33 ⟨WW, XA, XB, XC, XE, XF, Xz, O1, BG, mXzXF, mXzBG, hHeld⟩
      refine AnyL_ready (rs := [7, 12, 13]) (by kernel_rfl) (by simp) ?_
      refine ReadyL.cons (o := oq8_6_7) rfl (fun K hK => ?_) ?_
      · delta oq8_6_7
        go_simp
        have hbs : w.heap.size ≤ Y8_33.heap.size := WW.size
        have hc := do_pow (w.heap.size + 1 + 1) (V6.heap.size) A E2 C' c f2 p a e2 m Y8_33 XA.num XF.num XC.num hm ha (by omega) XC.1 BG
        rw [← Hy.out] at hc
        refine hc.mono ?_
        clear hc
        rintro e V342 ⟨v, rfl, hv, hb⟩
        replace XA := XA.below hb
        replace XB := XB.below hb
        replace XC := XC.below hb
        replace XE := XE.below hb
        replace XF := XF.below hb
        replace Xz := Xz.below hb
        replace O1 := O1.below hb (Nat.le_refl _)
        replace BG := BG.below hb BG.lt
        replace WW := WW.trans (hb.mono WW.size)
        have sz342 := hb.size
        obtain ⟨D2, d2, rfl, ho⟩ := hv
        have O2 := ho.weak (b := w.heap.size) hbs
        clear ho
        clear hb hbs
        refine hK.out _ _ (⟨XA.cell, XB.cell, XE.cell, XF.cell⟩) (fun hHeld2 => ?_)
        clear hK K hHeld
        have hHeld := hHeld2
        clear hHeld2
        (try simp only [oq8_6_7, Act.put, List.setIfInBounds_toArray, List.set_cons_zero, List.set_cons_succ])
        exact hst8 gXz D1 d1 D2 d2 V342 ⟨WW, XA, XB, XC, XE, XF, Xz, O1, O2, BG, (by first | exact mXzXF | omega), (by first | exact mXzBG | omega), hHeld⟩
      refine ReadyL.cons (o := oq8_6_12) rfl (fun K hK => ?_) ?_
      · delta oq8_6_12
        have lqXF : w.heap.size + 1 + 1 + 1 + 1 < Y8_33.heap.size := XF.lt
        have lqBG : V6.heap.size < Y8_33.heap.size := BG.lt
        have lXz : gXz < Y8_33.heap.size := Xz.lt
        go_simp
        have ba := (Below.refl Y8_33.heap.size Y8_33).alloc (Nat.le_refl _) (.cells #[.slice none 0 0] 24)
        replace XA := XA.below ba
        replace XB := XB.below ba
        replace XC := XC.below ba
        replace XE := XE.below ba
        replace XF := XF.below ba
        replace Xz := Xz.below ba
        replace O1 := O1.below ba (Nat.le_refl _)
        replace BG := BG.below ba BG.lt
        have bn := Blk.new Y8_33 24 #[.slice none 0 0]
        have Xx := VB.mk (B := w.heap.size) (a := 0) bn (.inr (Own.nil _ _ _ _ (Nat.zero_le _))) ba WW.size WW.size
        replace WW := WW.trans (ba.mono WW.size)
        have sz342 : Y8_33.heap.size < (Y8_33.alloc (.cells #[.slice none 0 0] 24)).heap.size := bn.lt
        refine hK.out _ _ (⟨XA.cell, XB.cell, XE.cell, XF.cell⟩) (fun hHeld2 => ?_)
        clear hK K hHeld
        (try simp only [oq8_6_12, Act.put, List.setIfInBounds_toArray, List.set_cons_zero, List.set_cons_succ])
        generalize hV : Y8_33.alloc (.cells #[.slice none 0 0] 24) = V342 at hHeld2 sz342 WW XA XB XC XE XF Xz Xx O1 BG ⊢
        clear hV ba bn
        have hHeld := hHeld2
        clear hHeld2
        obtain ⟨gXx, hg⟩ : ∃ x, x = Y8_33.heap.size := ⟨_, rfl⟩
        have mXxXF : w.heap.size + 1 + 1 + 1 + 1 < gXx := by omega
        have mXxBG : V6.heap.size < gXx := by omega
        have nXzXx : gXz ≠ gXx := by omega
        rw [← hg] at Xx sz342 ⊢
        clear hg lqXF lqBG lXz
        exact hst10 gXx gXz D1 d1 V342 ⟨WW, XA, XB, XC, XE, XF, Xx, Xz, O1, BG, (by first | exact mXxXF | omega), (by first | exact mXxBG | omega), (by first | exact mXzXF | omega), (by first | exact mXzBG | omega), (by first | exact nXxXz | omega), hHeld⟩
      refine ReadyL.cons (o := oq8_6_13) rfl (fun K hK => ?_) ReadyL.nil
      · delta oq8_6_13
        have lqXF : w.heap.size + 1 + 1 + 1 + 1 < Y8_33.heap.size := XF.lt
        have lqBG : V6.heap.size < Y8_33.heap.size := BG.lt
        have lXz : gXz < Y8_33.heap.size := Xz.lt
        go_simp
        have ba := (Below.refl Y8_33.heap.size Y8_33).alloc (Nat.le_refl _) (.cells #[.slice none 0 0] 24)
        replace XA := XA.below ba
        replace XB := XB.below ba
        replace XC := XC.below ba
        replace XE := XE.below ba
        replace XF := XF.below ba
        replace Xz := Xz.below ba
        replace O1 := O1.below ba (Nat.le_refl _)
        replace BG := BG.below ba BG.lt
        have bn := Blk.new Y8_33 24 #[.slice none 0 0]
        have Xy := VB.mk (B := w.heap.size) (a := 0) bn (.inr (Own.nil _ _ _ _ (Nat.zero_le _))) ba WW.size WW.size
        replace WW := WW.trans (ba.mono WW.size)
        have sz342 : Y8_33.heap.size < (Y8_33.alloc (.cells #[.slice none 0 0] 24)).heap.size := bn.lt
        refine hK.out _ _ (⟨XA.cell, XB.cell, XE.cell, XF.cell⟩) (fun hHeld2 => ?_)
        clear hK K hHeld
        (try simp only [oq8_6_13, Act.put, List.setIfInBounds_toArray, List.set_cons_zero, List.set_cons_succ])
        generalize hV : Y8_33.alloc (.cells #[.slice none 0 0] 24) = V342 at hHeld2 sz342 WW XA XB XC XE XF Xz Xy O1 BG ⊢
        clear hV ba bn
        have hHeld := hHeld2
        clear hHeld2
        obtain ⟨gXy, hg⟩ : ∃ x, x = Y8_33.heap.size := ⟨_, rfl⟩
        have mXyXF : w.heap.size + 1 + 1 + 1 + 1 < gXy := by omega
        have mXyBG : V6.heap.size < gXy := by omega
        have nXzXy : gXz ≠ gXy := by omega
        rw [← hg] at Xy sz342 ⊢
        clear hg lqXF lqBG lXz
        exact hst11 gXy gXz D1 d1 V342 ⟨WW, XA, XB, XC, XE, XF, Xy, Xz, O1, BG, (by first | exact mXyXF | omega), (by first | exact mXyBG | omega), (by first | exact mXzXF | omega), (by first | exact mXzBG | omega), (by first | exact nXyXz | omega), hHeld⟩
    case h1.h1.h1.h1.h1.h1.h1.h1.h1.h1.h1.h1.h1.h1.h1.h1.h1.h1.h1.h1.h1.h2 =>
      rintro gXx gXy Y8_37 ⟨WW, XA, XB, XC, XE, XF, Xx, Xy, BG, mXxXF, mXxBG, mXyXF, mXyBG, nXxXy, hHeld⟩
      refine AnyL_ready (rs := [3, 14]) (by kernel_rfl) (by simp) ?_
      refine ReadyL.cons (o := oq8_6_3) rfl (fun K hK => ?_) ?_
      · delta oq8_6_3
        go_simp
        have hbs : w.heap.size ≤ Y8_37.heap.size := WW.size
        have hc := do_pow (w.heap.size + 1 + 1) (V6.heap.size) A E C' c f p a e m Y8_37 XA.num XE.num XC.num hm ha (by omega) XC.1 BG
        rw [← Hx.out] at hc
        refine hc.mono ?_
        clear hc
        rintro e V346 ⟨v, rfl, hv, hb⟩
        replace XA := XA.below hb
        replace XB := XB.below hb
        replace XC := XC.below hb
        replace XE := XE.below hb
        replace XF := XF.below hb
        replace Xx := Xx.below hb
        replace Xy := Xy.below hb
        replace BG := BG.below hb BG.lt
        replace WW := WW.trans (hb.mono WW.size)
        have sz346 := hb.size
        obtain ⟨D1, d1, rfl, ho⟩ := hv
        have O1 := ho.weak (b := w.heap.size) hbs
        clear ho
        clear hb hbs
        refine hK.out _ _ (⟨XA.cell, XB.cell, XE.cell, XF.cell⟩) (fun hHeld2 => ?_)
        clear hK K hHeld
        have hHeld := hHeld2
        clear hHeld2
        (try simp only [oq8_6_3, Act.put, List.setIfInBounds_toArray, List.set_cons_zero, List.set_cons_succ])
        exact hst9 gXx gXy D1 d1 V346 ⟨WW, XA, XB, XC, XE, XF, Xx, Xy, O1, BG, (by first | exact mXxXF | omega), (by first | exact mXxBG | omega), (by first | exact mXyXF | omega), (by first | exact mXyBG | omega), (by first | exact nXxXy | omega), hHeld⟩
      refine ReadyL.cons (o := oq8_6_14) rfl (fun K hK => ?_) ReadyL.nil
      · delta oq8_6_14
        have lqXF : w.heap.size + 1 + 1 + 1 + 1 < Y8_37.heap.size := XF.lt
        have lqBG : V6.heap.size < Y8_37.heap.size := BG.lt
        have lXx : gXx < Y8_37.heap.size := Xx.lt
        have lXy : gXy < Y8_37.heap.size := Xy.lt
        go_simp
        have ba := (Below.refl Y8_37.heap.size Y8_37).alloc (Nat.le_refl _) (.cells #[.slice none 0 0] 24)
        replace XA := XA.below ba
        replace XB := XB.below ba
        replace XC := XC.below ba
        replace XE := XE.below ba
        replace XF := XF.below ba
        replace Xx := Xx.below ba
        replace Xy := Xy.below ba
        replace BG := BG.below ba BG.lt
        have bn := Blk.new Y8_37 24 #[.slice none 0 0]
        have Xz := VB.mk (B := w.heap.size) (a := 0) bn (.inr (Own.nil _ _ _ _ (Nat.zero_le _))) ba WW.size WW.size
        replace WW := WW.trans (ba.mono WW.size)
        have sz346 : Y8_37.heap.size < (Y8_37.alloc (.cells #[.slice none 0 0] 24)).heap.size := bn.lt
        refine hK.out _ _ (⟨XA.cell, XB.cell, XE.cell, XF.cell⟩) (fun hHeld2 => ?_)
        clear hK K hHeld
        (try simp only [oq8_6_14, Act.put, List.setIfInBounds_toArray, List.set_cons_zero, List.set_cons_succ])
        generalize hV : Y8_37.alloc (.cells #[.slice none 0 0] 24) = V346 at hHeld2 sz346 WW XA XB XC XE XF Xx Xy Xz BG ⊢
        clear hV ba bn
        have hHeld := hHeld2
        clear hHeld2
        obtain ⟨gXz, hg⟩ : ∃ x, x = Y8_37.heap.size := ⟨_, rfl⟩
        have mXzXF : w.heap.size + 1 + 1 + 1 + 1 < gXz := by omega
        have mXzBG : V6.heap.size < gXz := by omega
        have nXxXz : gXx ≠ gXz := by omega
        have nXyXz : gXy ≠ gXz := by omega
        rw [← hg] at Xz sz346 ⊢
        clear hg lqXF lqBG lXx lXy
        exact hst12 gXx gXy gXz V346 ⟨WW, XA, XB, XC, XE, XF, Xx, Xy, Xz, BG, (by first | exact mXxXF | omega), (by first | exact mXxBG | omega), (by first | exact mXyXF | omega), (by first | exact mXyBG | omega), (by first | exact mXzXF | omega), (by first | exact mXzBG | omega), (by first | exact nXxXy | omega), (by first | exact nXxXz | omega), (by first | exact nXyXz | omega), hHeld⟩
    case h1.h1.h1.h1.h1.h1.h1.h1.h1.h1.h1.h1.h1.h1.h1.h1.h1.h1.h1.h1.h2 =>
      rintro gXx gXz Y8_40 ⟨WW, XA, XB, XC, XE, XF, Xx, Xz, BG, mXxXF, mXxBG, mXzXF, mXzBG, nXxXz, hHeld⟩
      refine AnyL_ready (rs := [3, 13]) (by kernel_rfl) (by simp) ?_
      refine ReadyL.cons (o := oq8_6_3) rfl (fun K hK => ?_) ?_
      · delta oq8_6_3
        go_simp
        have hbs : w.heap.size ≤ Y8_40.heap.size := WW.size
        have hc := do_pow (w.heap.size + 1 + 1) (V6.heap.size) A E C' c f p a e m Y8_40 XA.num XE.num XC.num hm ha (by omega) XC.1 BG
        rw [← Hx.out] at hc
        refine hc.mono ?_
        clear hc
        rintro e V349 ⟨v, rfl, hv, hb⟩
        replace XA := XA.below hb
        replace XB := XB.below hb
        replace XC := XC.below hb
        replace XE := XE.below hb
        replace XF := XF.below hb
        replace Xx := Xx.below hb
        replace Xz := Xz.below hb
        replace BG := BG.below hb BG.lt
        replace WW := WW.trans (hb.mono WW.size)
        have sz349 := hb.size
        obtain ⟨D1, d1, rfl, ho⟩ := hv
        have O1 := ho.weak (b := w.heap.size) hbs
        clear ho
        clear hb hbs
        refine hK.out _ _ (⟨XA.cell, XB.cell, XE.cell, XF.cell⟩) (fun hHeld2 => ?_)
        clear hK K hHeld
        have hHeld := hHeld2
        clear hHeld2
        (try simp only [oq8_6_3, Act.put, List.setIfInBounds_toArray, List.set_cons_zero, List.set_cons_succ])
        exact hst10 gXx gXz D1 d1 V349 ⟨WW, XA, XB, XC, XE, XF, Xx, Xz, O1, BG, (by first | exact mXxXF | omega), (by first | exact mXxBG | omega), (by first | exact mXzXF | omega), (by first | exact mXzBG | omega), (by first | exact nXxXz | omega), hHeld⟩
      refine ReadyL.cons (o := oq8_6_13) rfl (fun K hK => ?_) ReadyL.nil
      · delta oq8_6_13
        have lqXF : w.heap.size + 1 + 1 + 1 + 1 < Y8_40.heap.size := XF.lt
        have lqBG : V6.heap.size < Y8_40.heap.size := BG.lt
        have lXx : gXx < Y8_40.heap.size := Xx.lt
        have lXz : gXz < Y8_40.heap.size := Xz.lt
        go_simp
        have ba := (Below.refl Y8_40.heap.size Y8_40).alloc (Nat.le_refl _) (.cells #[.slice none 0 0] 24)
        replace XA := XA.below ba
        replace XB := XB.below ba
        replace XC := XC.below ba
        replace XE := XE.below ba
        replace XF := XF.below ba
        replace Xx := Xx.below ba
        replace Xz := Xz.below ba
        replace BG := BG.below ba BG.lt
        have bn := Blk.new Y8_40 24 #[.slice none 0 0]
        have Xy := VB.mk (B := w.heap.size) (a := 0) bn (.inr (Own.nil _ _ _ _ (Nat.zero_le _))) ba WW.size WW.size
        replace WW := WW.trans (ba.mono WW.size)
        have sz349 : Y8_40.heap.size < (Y8_40.alloc (.cells #[.slice none 0 0] 24)).heap.size := bn.lt
        refine hK.out _ _ (⟨XA.cell, XB.cell, XE.cell, XF.cell⟩) (fun hHeld2 => ?_)
        clear hK K hHeld
        (try simp only [oq8_6_13, Act.put, List.setIfInBounds_toArray, List.set_cons_zero, List.set_cons_succ])
        generalize hV : Y8_40.alloc (.cells #[.slice none 0 0] 24) = V349 at hHeld2 sz349 WW XA XB XC XE XF Xx Xz Xy BG ⊢
        clear hV ba bn
        have hHeld := hHeld2
        clear hHeld2
        obtain ⟨gXy, hg⟩ : ∃ x, x = Y8_40.heap.size := ⟨_, rfl⟩
        have mXyXF : w.heap.size + 1 + 1 + 1 + 1 < gXy := by omega
        have mXyBG : V6.heap.size < gXy := by omega
        have nXxXy : gXx ≠ gXy := by omega
        have nXzXy : gXz ≠ gXy := by omega
        rw [← hg] at Xy sz349 ⊢
        clear hg lqXF lqBG lXx lXz
        exact hst12 gXx gXy gXz V349 ⟨WW, XA, XB, XC, XE, XF, Xx, Xy, Xz, BG, (by first | exact mXxXF | omega), (by first | exact mXxBG | omega), (by first | exact mXyXF | omega), (by first | exact mXyBG | omega), (by first | exact mXzXF | omega), (by first | exact mXzBG | omega), (by first | exact nXxXy | omega), (by first | exact nXxXz | omega), (by first | exact nXyXz | omega), hHeld⟩
    case h1.h1.h1.h1.h1.h1.h1.h1.h1.h1.h1.h1.h1.h1.h1.h1.h1.h1.h1.h2 =>
      rintro gXy gXz Y8_43 ⟨WW, XA, XB, XC, XE, XF, Xy, Xz, BG, mXyXF, mXyBG, mXzXF, mXzBG, nXyXz, hHeld⟩
      refine AnyL_ready (rs := [3, 12]) (by kernel_rfl) (by simp) ?_
      refine ReadyL.cons (o := oq8_6_3) rfl (fun K hK => ?_) ?_
      · delta oq8_6_3
        go_simp
        have hbs : w.heap.size ≤ Y8_43.heap.size := WW.size
        have hc := do_pow (w.heap.size + 1 + 1) (V6.heap.size) A E C' c f p a e m Y8_43 XA.num XE.num XC.num hm ha (by omega) XC.1 BG
        rw [← Hx.out] at hc
        refine hc.mono ?_
        clear hc
        rintro e V352 ⟨v, rfl, hv, hb⟩
        replace XA := XA.below hb
        replace XB := XB.below hb
        replace XC := XC.below hb
        replace XE := XE.below hb
        replace XF := XF.below hb
        replace Xy := Xy.below hb
        replace Xz := Xz.below hb
        replace BG := BG.below hb BG.lt
        replace WW := WW.trans (hb.mono WW.size)
        have sz352 := hb.size
        obtain ⟨D1, d1, rfl, ho⟩ := hv
        have O1 := ho.weak (b := w.heap.size) hbs
        clear ho
        clear hb hbs
        refine hK.out _ _ (⟨XA.cell, XB.cell, XE.cell, XF.cell⟩) (fun hHeld2 => ?_)
        clear hK K hHeld
        have hHeld := hHeld2
        clear hHeld2
        (try simp only [oq8_6_3, Act.put, List.setIfInBounds_toArray, List.set_cons_zero, List.set_cons_succ])
        exact hst11 gXy gXz D1 d1 V352 ⟨WW, XA, XB, XC, XE, XF, Xy, Xz, O1, BG, (by first | exact mXyXF | omega), (by first | exact mXyBG | omega), (by first | exact mXzXF | omega), (by first | exact mXzBG | omega), (by first | exact nXyXz | omega), hHeld⟩
      refine ReadyL.cons (o := oq8_6_12) rfl (fun K hK => ?_) ReadyL.nil
      · delta oq8_6_12
        have lqXF : w.heap.size + 1 + 1 + 1 + 1 < Y8_43.heap.size := XF.lt
        have lqBG : V6.heap.size < Y8_43.heap.size := BG.lt
        have lXy : gXy < Y8_43.heap.size := Xy.lt
        have lXz : gXz < Y8_43.heap.size := Xz.lt
        go_simp
        have ba := (Below.refl Y8_43.heap.size Y8_43).alloc (Nat.le_refl _) (.cells #[.slice none 0 0] 24)
        replace XA := XA.below ba
        replace XB := XB.below ba
        replace XC := XC.below ba
        replace XE := XE.below ba
        replace XF := XF.below ba
        replace Xy := Xy.below ba
        replace Xz := Xz.below ba
        replace BG := BG.below ba BG.lt
        have bn := Blk.new Y8_43 24 #[.slice none 0 0]
        have Xx := VB.mk (B := w.heap.size) (a := 0) bn (.inr (Own.nil _ _ _ _ (Nat.zero_le _))) ba WW.size WW.size
        replace WW := WW.trans (ba.mono WW.size)
        have sz352 : Y8_43.heap.size < (Y8_43.alloc (.cells #[.slice none 0 0] 24)).heap.size := bn.lt
        refine hK.out _ _ (⟨XA.cell, XB.cell, XE.cell, XF.cell⟩) (fun hHeld2 => ?_)
        clear hK K hHeld
        (try simp only [oq8_6_12, Act.put, List.setIfInBounds_toArray, List.set_cons_zero, List.set_cons_succ])
        generalize hV : Y8_43.alloc (.cells #[.slice none 0 0] 24) = V352 at hHeld2 sz352 WW XA XB XC XE XF Xy Xz Xx BG ⊢
        clear hV ba bn
        have hHeld := hHeld2
        clear hHeld2
        obtain ⟨gXx, hg⟩ : ∃ x, x = Y8_43.heap.size := ⟨_, rfl⟩
        have mXxXF : w.heap.size + 1 + 1 + 1 + 1 < gXx := by omega
        have mXxBG : V6.heap.size < gXx := by omega
        have nXyXx : gXy ≠ gXx := by omega
        have nXzXx : gXz ≠ gXx := by omega
        rw [← hg] at Xx sz352 ⊢
        clear hg lqXF lqBG lXy lXz
        exact hst12 gXx gXy gXz V352 ⟨WW, XA, XB, XC, XE, XF, Xx, Xy, Xz, BG, (by first | exact mXxXF | omega), (by first | exact mXxBG | omega), (by first | exact mXyXF | omega), (by first | exact mXyBG | omega), (by first | exact mXzXF | omega), (by first | exact mXzBG | omega), (by first | exact nXxXy | omega), (by first | exact nXxXz | omega), (by first | exact nXyXz | omega), hHeld⟩
    case h1.h1.h1.h1.h1.h1.h1.h1.h1.h1.h1.h1.h1.h1.h1.h1.h1.h1.h2 =>
      rintro gXx D1 d1 D2 d2 Y8_46 ⟨WW, XA, XB, XC, XE, XF, Xx, O1, O2, BG, mXxXF, mXxBG, hHeld⟩
      refine AnyL_ready (rs := [11, 13, 14]) (by kernel_rfl) (by simp) ?_
      refine ReadyL.cons (o := oq8_6_11) rfl (fun K hK => ?_) ?_
      · delta oq8_6_11
        go_simp
        have hbs : w.heap.size ≤ Y8_46.heap.size := WW.size
        have hc := do_pow (w.heap.size + 1 + 1) (V6.heap.size) B' E C' d f p b e m Y8_46 XB.num XE.num XC.num hm hb_ (by omega) XC.1 BG
        rw [← Hz.out] at hc
        refine hc.mono ?_
        clear hc
        rintro e V355 ⟨v, rfl, hv, hb⟩
        replace XA := XA.below hb
        replace XB := XB.below hb
        replace XC := XC.below hb
        replace XE := XE.below hb
        replace XF := XF.below hb
        replace Xx := Xx.below hb
        replace O1 := O1.below hb (Nat.le_refl _)
        replace O2 := O2.below hb (Nat.le_refl _)
        replace BG := BG.below hb BG.lt
        replace WW := WW.trans (hb.mono WW.size)
        have sz355 := hb.size
        obtain ⟨D3, d3, rfl, ho⟩ := hv
        have O3 := ho.weak (b := w.heap.size) hbs
        clear ho
        clear hb hbs
        refine hK.out _ _ (⟨XA.cell, XB.cell, XE.cell, XF.cell⟩) (fun hHeld2 => ?_)
        clear hK K hHeld
        have hHeld := hHeld2
        clear hHeld2
        (try simp only [oq8_6_11, Act.put, List.setIfInBounds_toArray, List.set_cons_zero, List.set_cons_succ])
        exact hst13 gXx D1 d1 D2 d2 D3 d3 V355 ⟨WW, XA, XB, XC, XE, XF, Xx, O1, O2, O3, BG, (by first | exact mXxXF | omega), (by first | exact mXxBG | omega), hHeld⟩
      refine ReadyL.cons (o := oq8_6_13) rfl (fun K hK => ?_) ?_
      · delta oq8_6_13
        have lqXF : w.heap.size + 1 + 1 + 1 + 1 < Y8_46.heap.size := XF.lt
        have lqBG : V6.heap.size < Y8_46.heap.size := BG.lt
        have lXx : gXx < Y8_46.heap.size := Xx.lt
        go_simp
        have ba := (Below.refl Y8_46.heap.size Y8_46).alloc (Nat.le_refl _) (.cells #[.slice none 0 0] 24)
        replace XA := XA.below ba
        replace XB := XB.below ba
        replace XC := XC.below ba
        replace XE := XE.below ba
        replace XF := XF.below ba
        replace Xx := Xx.below ba
        replace O1 := O1.below ba (Nat.le_refl _)
        replace O2 := O2.below ba (Nat.le_refl _)
        replace BG := BG.below ba BG.lt
        have bn := Blk.new Y8_46 24 #[.slice none 0 0]
        have Xy := VB.mk (B := w.heap.size) (a := 0) bn (.inr (Own.nil _ _ _ _ (Nat.zero_le _))) ba WW.size WW.size
        replace WW := WW.trans (ba.mono WW.size)
        have sz355 : Y8_46.heap.size < (Y8_46.alloc (.cells #[.slice none 0 0] 24)).heap.size := bn.lt
        refine hK.out _ _ (⟨XA.cell, XB.cell, XE.cell, XF.cell⟩) (fun hHeld2 => ?_)
        clear hK K hHeld
        (try simp only [oq8_6_13, Act.put, List.setIfInBounds_toArray, List.set_cons_zero, List.set_cons_succ])
        generalize hV : Y8_46.alloc (.cells #[.slice none 0 0] 24) = V355 at hHeld2 sz355 WW XA XB XC XE XF Xx Xy O1 O2 BG ⊢
        clear hV ba bn
        have hHeld := hHeld2
        clear hHeld2
        obtain ⟨gXy, hg⟩ : ∃ x, x = Y8_46.heap.size := ⟨_, rfl⟩
        have mXyXF : w.heap.size + 1 + 1 + 1 + 1 < gXy := by omega
        have mXyBG : V6.heap.size < gXy := by omega
        have nXxXy : gXx ≠ gXy := by omega
        rw [← hg] at Xy sz355 ⊢
        clear hg lqXF lqBG lXx
        exact hst16 gXx gXy D1 d1 D2 d2 V355 ⟨WW, XA, XB, XC, XE, XF, Xx, Xy, O1, O2, BG, (by first | exact mXxXF | omega), (by first | exact mXxBG | omega), (by first | exact mXyXF | omega), (by first | exact mXyBG | omega), (by first | exact nXxXy | omega), hHeld⟩
      refine ReadyL.cons (o := oq8_6_14) rfl (fun K hK => ?_) ReadyL.nil
      · delta oq8_6_14
        have lqXF : w.heap.size + 1 + 1 + 1 + 1 < Y8_46.heap.size := XF.lt
        have lqBG : V6.heap.size < Y8_46.heap.size := BG.lt
        have lXx : gXx < Y8_46.heap.size := Xx.lt
        go_simp
        have ba := (Below.refl Y8_46.heap.size Y8_46).alloc (Nat.le_refl _) (.cells #[.slice none 0 0] 24)
        replace XA := XA.below ba
        replace XB := XB.below ba
        replace XC := XC.below ba
        replace XE := XE.below ba
        replace XF := XF.below ba
        replace Xx := Xx.below ba
        replace O1 := O1.below ba (Nat.le_refl _)
        replace O2 := O2.below ba (Nat.le_refl _)
        replace BG := BG.below ba BG.lt
        have bn := Blk.new Y8_46 24 #[.slice none 0 0]
        have Xz := VB.mk (B := w.heap.size) (a := 0) bn (.inr (Own.nil _ _ _ _ (Nat.zero_le _))) ba WW.size WW.size
        replace WW := WW.trans (ba.mono WW.size)
        have sz355 : Y8_46.heap.size < (Y8_46.alloc (.cells #[.slice none 0 0] 24)).heap.size := bn.lt
        refine hK.out _ _ (⟨XA.cell, XB.cell, XE.cell, XF.cell⟩) (fun hHeld2 => ?_)
        clear hK K hHeld
        (try simp only [oq8_6_14, Act.put, List.setIfInBounds_toArray, List.set_cons_zero, List.set_cons_succ])
        generalize hV : Y8_46.alloc (.cells #[.slice none 0 0] 24) = V355 at hHeld2 sz355 WW XA XB XC XE XF Xx Xz O1 O2 BG ⊢
        clear hV ba bn
        have hHeld := hHeld2
        clear hHeld2
        obtain ⟨gXz, hg⟩ : ∃ x, x = Y8_46.heap.size := ⟨_, rfl⟩
        have mXzXF : w.heap.size + 1 + 1 + 1 + 1 < gXz := by omega
        have mXzBG : V6.heap.size < gXz := by omega
        have nXxXz : gXx ≠ gXz := by omega
        rw [← hg] at Xz sz355 ⊢
        clear hg lqXF lqBG lXx
        exact hst17 gXx gXz D1 d1 D2 d2 V355 ⟨WW, XA, XB, XC, XE, XF, Xx, Xz, O1, O2, BG, (by first | exact mXxXF | omega), (by first | exact mXxBG | omega), (by first | exact mXzXF | omega), (by first | exact mXzBG | omega), (by first | exact nXxXz | omega), hHeld⟩
    case h1.h1.h1.h1.h1.h1.h1.h1.h1.h1.h1.h1.h1.h1.h1.h1.h1.h2 =>
      rintro gXy D1 d1 D2 d2 Y8_50 ⟨WW, XA, XB, XC, XE, XF, Xy, O1, O2, BG, mXyXF, mXyBG, hHeld⟩
      refine AnyL_ready (rs := [11, 12, 14]) (by kernel_rfl) (by simp) ?_
      refine ReadyL.cons (o := oq8_6_11) rfl (fun K hK => ?_) ?_
      · delta oq8_6_11
        go_simp
        have hbs : w.heap.size ≤ Y8_50.heap.size := WW.size
        have hc := do_pow (w.heap.size + 1 + 1) (V6.heap.size) B' E C' d f p b e m Y8_50 XB.num XE.num XC.num hm hb_ (by omega) XC.1 BG
        rw [← Hz.out] at hc
        refine hc.mono ?_
        clear hc
        rintro e V359 ⟨v, rfl, hv, hb⟩
        replace XA := XA.below hb
        replace XB := XB.below hb
        replace XC := XC.below hb
        replace XE := XE.below hb
        replace XF := XF.below hb
        replace Xy := Xy.below hb
        replace O1 := O1.below hb (Nat.le_refl _)
        replace O2 := O2.below hb (Nat.le_refl _)
        replace BG := BG.below hb BG.lt
        replace WW := WW.trans (hb.mono WW.size)
        have sz359 := hb.size
        obtain ⟨D3, d3, rfl, ho⟩ := hv
        have O3 := ho.weak (b := w.heap.size) hbs
        clear ho
        clear hb hbs
        refine hK.out _ _ (⟨XA.cell, XB.cell, XE.cell, XF.cell⟩) (fun hHeld2 => ?_)
        clear hK K hHeld
        have hHeld := hHeld2
        clear hHeld2
        (try simp only [oq8_6_11, Act.put, List.setIfInBounds_toArray, List.set_cons_zero, List.set_cons_succ])
        exact hst14 gXy D1 d1 D2 d2 D3 d3 V359 ⟨WW, XA, XB, XC, XE, XF, Xy, O1, O2, O3, BG, (by first | exact mXyXF | omega), (by first | exact mXyBG | omega), hHeld⟩
      refine ReadyL.cons (o := oq8_6_12) rfl (fun K hK => ?_) ?_
      · delta oq8_6_12
        have lqXF : w.heap.size + 1 + 1 + 1 + 1 < Y8_50.heap.size := XF.lt
        have lqBG : V6.heap.size < Y8_50.heap.size := BG.lt
        have lXy : gXy < Y8_50.heap.size := Xy.lt
        go_simp
        have ba := (Below.refl Y8_50.heap.size Y8_50).alloc (Nat.le_refl _) (.cells #[.slice none 0 0] 24)
        replace XA := XA.below ba
        replace XB := XB.below ba
        replace XC := XC.below ba
        replace XE := XE.below ba
        replace XF := XF.below ba
        replace Xy := Xy.below ba
        replace O1 := O1.below ba (Nat.le_refl _)
        replace O2 := O2.below ba (Nat.le_refl _)
        replace BG := BG.below ba BG.lt
        have bn := Blk.new Y8_50 24 #[.slice none 0 0]
        have Xx := VB.mk (B := w.heap.size) (a := 0) bn (.inr (Own.nil _ _ _ _ (Nat.zero_le _))) ba WW.size WW.size
        replace WW := WW.trans (ba.mono WW.size)
        have sz359 : Y8_50.heap.size < (Y8_50.alloc (.cells #[.slice none 0 0] 24)).heap.size := bn.lt
        refine hK.out _ _ (⟨XA.cell, XB.cell, XE.cell, XF.cell⟩) (fun hHeld2 => ?_)
        clear hK K hHeld
        (try simp only [oq8_6_12, Act.put, List.setIfInBounds_toArray, List.set_cons_zero, List.set_cons_succ])
        generalize hV : Y8_50.alloc (.cells #[.slice none 0 0] 24) = V359 at hHeld2 sz359 WW XA XB XC XE XF Xy Xx O1 O2 BG ⊢
        clear hV ba bn
        have hHeld := hHeld2
        clear hHeld2
        obtain ⟨gXx, hg⟩ : ∃ x, x = Y8_50.heap.size := ⟨_, rfl⟩
        have mXxXF : w.heap.size + 1 + 1 + 1 + 1 < gXx := by omega
        have mXxBG : V6.heap.size < gXx := by omega
        have nXyXx : gXy ≠ gXx := by omega
        rw [← hg] at Xx sz359 ⊢
        clear hg lqXF lqBG lXy
        exact hst16 gXx gXy D1 d1 D2 d2 V359 ⟨WW, XA, XB, XC, XE, XF, Xx, Xy, O1, O2, BG, (by first | exact mXxXF | omega), (by first | exact mXxBG | omega), (by first | exact mXyXF | omega), (by first | exact mXyBG | omega), (by first | exact nXxXy | omega), hHeld⟩
      refine ReadyL.cons (o := oq8_6_14) rfl (fun K hK => ?_) ReadyL.nil
      · delta oq8_6_14
        have lqXF : w.heap.size + 1 + 1 + 1 + 1 < Y8_50.heap.size := XF.lt
        have lqBG : V6.heap.size < Y8_50.heap.size := BG.lt
        have lXy : gXy < Y8_50.heap.size := Xy.lt
        go_simp
        have ba := (Below.refl Y8_50.heap.size Y8_50).alloc (Nat.le_refl _) (.cells #[.slice none 0 0] 24)
        replace XA := XA.below ba
        replace XB := XB.below ba
        replace XC := XC.below ba
        replace XE := XE.below ba
        replace XF := XF.below ba
        replace Xy := Xy.below ba
        replace O1 := O1.below ba (Nat.le_refl _)
        replace O2 := O2.below ba (Nat.le_refl _)
        replace BG := BG.below ba BG.lt
        have bn := Blk.new Y8_50 24 #[.slice none 0 0]
        have Xz := VB.mk (B := w.heap.size) (a := 0) bn (.inr (Own.nil _ _ _ _ (Nat.zero_le _))) ba WW.size WW.size
        replace WW := WW.trans (ba.mono WW.size)
        have sz359 : Y8_50.heap.size < (Y8_50.alloc (.cells #[.slice none 0 0] 24)).heap.size := bn.lt
        refine hK.out _ _ (⟨XA.cell, XB.cell, XE.cell, XF.cell⟩) (fun hHeld2 => ?_)
        clear hK K hHeld
        (try simp only [oq8_6_14, Act.put, List.setIfInBounds_toArray, List.set_cons_zero, List.set_cons_succ])
        generalize hV : Y8_50.alloc (.cells #[.slice none 0 0] 24) = V359 at hHeld2 sz359 WW XA XB XC XE XF Xy Xz O1 O2 BG ⊢
        clear hV ba bn
        have hHeld := hHeld2
        clear hHeld2
        obtain ⟨gXz, hg⟩ : ∃ x, x = Y8_50.heap.size := ⟨_, rfl⟩
        have mXzXF : w.heap.size + 1 + 1 + 1 + 1 < gXz := by omega
        have mXzBG : V6.heap.size < gXz := by omega
        have nXyXz : gXy ≠ gXz := by omega
        rw [← hg] at Xz sz359 ⊢
        clear hg lqXF lqBG lXy
        exact hst18 gXy gXz D1 d1 D2 d2 V359 ⟨WW, XA, XB, XC, XE, XF, Xy, Xz, O1, O2, BG, (by first | exact mXyXF | omega), (by first | exact mXyBG | omega), (by first | exact mXzXF | omega), (by first | exact mXzBG | omega), (by first | exact nXyXz | omega), hHeld⟩
    case h1.h1.h1.h1.h1.h1.h1.h1.h1.h1.h1.h1.h1.h1.h1.h1.h2 =>
      rintro gXz D1 d1 D2 d2 Y8_54 ⟨WW, XA, XB, XC, XE, XF, Xz, O1, O2, BG, mXzXF, mXzBG, hHeld⟩
      refine AnyL_ready (rs := [11, 12, 13]) (by kernel_rfl) (by simp) ?_
      refine ReadyL.cons (o := oq8_6_11) rfl (fun K hK => ?_) ?_
      · delta oq8_6_11
        go_simp
        have hbs : w.heap.size ≤ Y8_54.heap.size := WW.size
        have hc := do_pow (w.heap.size + 1 + 1) (V6.heap.size) B' E C' d f p b e m Y8_54 XB.num XE.num XC.num hm hb_ (by omega) XC.1 BG
        rw [← Hz.out] at hc
        refine hc.mono ?_
        clear hc
        rintro e V363 ⟨v, rfl, hv, hb⟩
        replace XA := XA.below hb
        replace XB := XB.below hb
        replace XC := XC.below hb
        replace XE := XE.below hb
        replace XF := XF.below hb
        replace Xz := Xz.below hb
        replace O1 := O1.below hb (Nat.le_refl _)
        replace O2 := O2.below hb (Nat.le_refl _)
        replace BG := BG.below hb BG.lt
        replace WW := WW.trans (hb.mono WW.size)
        have sz363 := hb.size
        obtain ⟨D3, d3, rfl, ho⟩ := hv
        have O3 := ho.weak (b := w.heap.size) hbs
        clear ho
        clear hb hbs
        refine hK.out _ _ (⟨XA.cell, XB.cell, XE.cell, XF.cell⟩) (fun hHeld2 => ?_)
        clear hK K hHeld
        have hHeld := hHeld2
        clear hHeld2
        (try simp only [oq8_6_11, Act.put, List.setIfInBounds_toArray, List.set_cons_zero, List.set_cons_succ])
        exact hst15 gXz D1 d1 D2 d2 D3 d3 V363 ⟨WW, XA, XB, XC, XE, XF, Xz, O1, O2, O3, BG, (by first | exact mXzXF | omega), (by first | exact mXzBG | omega), hHeld⟩
      refine ReadyL.cons (o := oq8_6_12) rfl (fun K hK => ?_) ?_
      · delta oq8_6_12
        have lqXF : w.heap.size + 1 + 1 + 1 + 1 < Y8_54.heap.size := XF.lt
        have lqBG : V6.heap.size < Y8_54.heap.size := BG.lt
        have lXz : gXz < Y8_54.heap.size := Xz.lt
        go_simp
        have ba := (Below.refl Y8_54.heap.size Y8_54).alloc (Nat.le_refl _) (.cells #[.slice none 0 0] 24)
        replace XA := XA.below ba
        replace XB := XB.below ba
        replace XC := XC.below ba
        replace XE := XE.below ba
        replace XF := XF.below ba
        replace Xz := Xz.below ba
        replace O1 := O1.below ba (Nat.le_refl _)
        replace O2 := O2.below ba (Nat.le_refl _)
        replace BG := BG.below ba BG.lt
        have bn := Blk.new Y8_54 24 #[.slice none 0 0]
        have Xx := VB.mk (B := w.heap.size) (a := 0) bn (.inr (Own.nil _ _ _ _ (Nat.zero_le _))) ba WW.size WW.size
        replace WW := WW.trans (ba.mono WW.size)
        have sz363 : Y8_54.heap.size < (Y8_54.alloc (.cells #[.slice none 0 0] 24)).heap.size := bn.lt
        refine hK.out _ _ (⟨XA.cell, XB.cell, XE.cell, XF.cell⟩) (fun hHeld2 => ?_)
        clear hK K hHeld
        (try simp only [oq8_6_12, Act.put, List.setIfInBounds_toArray, List.set_cons_zero, List.set_cons_succ])
        generalize hV : Y8_54.alloc (.cells #[.slice none 0 0] 24) = V363 at hHeld2 sz363 WW XA XB XC XE XF Xz Xx O1 O2 BG ⊢
        clear hV ba bn
        have hHeld := hHeld2
        clear hHeld2
        obtain ⟨gXx, hg⟩ : ∃ x, x = Y8_54.heap.size := ⟨_, rfl⟩
        have mXxXF : w.heap.size + 1 + 1 + 1 + 1 < gXx := by omega
        have mXxBG : V6.heap.size < gXx := by omega
        have nXzXx : gXz ≠ gXx := by omega
        rw [← hg] at Xx sz363 ⊢
        clear hg lqXF lqBG lXz
        exact hst17 gXx gXz D1 d1 D2 d2 V363 ⟨WW, XA, XB, XC, XE, XF, Xx, Xz, O1, O2, BG, (by first | exact mXxXF | omega), (by first | exact mXxBG | omega), (by first | exact mXzXF | omega), (by first | exact mXzBG | omega), (by first | exact nXxXz | omega), hHeld⟩
      refine ReadyL.cons (o := oq8_6_13) rfl (fun K hK => ?_) ReadyL.nil
      · delta oq8_6_13
        have lqXF : w.heap.size + 1 + 1 + 1 + 1 < Y8_54.heap.size := XF.lt
        have lqBG : V6.heap.size < Y8_54.heap.size := BG.lt
        have lXz : gXz < Y8_54.heap.size := Xz.lt
        go_simp
        have ba := (Below.refl Y8_54.heap.size Y8_54).alloc (Nat.le_refl _) (.cells #[.slice none 0 0] 24)
        replace XA := XA.below ba
        replace XB := XB.below ba
        replace XC := XC.below ba
        replace XE := XE.below ba
        replace XF := XF.below ba
        replace Xz := Xz.below ba
        replace O1 := O1.below ba (Nat.le_refl _)
        replace O2 := O2.below ba (Nat.le_refl _)
        replace BG := BG.below ba BG.lt
        have bn := Blk.new Y8_54 24 #[.slice none 0 0]
        have Xy := VB.mk (B := w.heap.size) (a := 0) bn (.inr (Own.nil _ _ _ _ (Nat.zero_le _))) ba WW.size WW.size
        replace WW := WW.trans (ba.mono WW.size)
        have sz363 : Y8_54.heap.size < (Y8_54.alloc (.cells #[.slice none 0 0] 24)).heap.size := bn.lt
        refine hK.out _ _ (⟨XA.cell, XB.cell, XE.cell, XF.cell⟩) (fun hHeld2 => ?_)
        clear hK K hHeld
        (try simp only [oq8_6_13, Act.put, List.setIfInBounds_toArray, List.set_cons_zero, List.set_cons_succ])
        generalize hV : Y8_54.alloc (.cells #[.slice none 0 0] 24) = V363 at hHeld2 sz363 WW XA XB XC XE XF Xz Xy O1 O2 BG ⊢
        clear hV ba bn
        have hHeld := hHeld2
        clear hHeld2
        obtain ⟨gXy, hg⟩ : ∃ x, x = Y8_54.heap.size := ⟨_, rfl⟩
        have mXyXF : w.heap.size + 1 + 1 + 1 + 1 < gXy := by omega
        have mXyBG : V6.heap.size < gXy := by omega
        have nXzXy : gXz ≠ gXy := by omega
        rw [← hg] at Xy sz363 ⊢
        clear hg lqXF lqBG lXz
        exact hst18 gXy gXz D1 d1 D2 d2 V363 ⟨WW, XA, XB, XC, XE, XF, Xy, Xz, O1, O2, BG, (by first | exact mXyXF | omega), (by first | exact mXyBG | omega), (by first | exact mXzXF | omega), (by first | exact mXzBG | omega), (by first | exact nXyXz | omega), hHeld⟩
    case h1.h1.h1.h1.h1.h1.h1.h1.h1.h1.h1.h1.h1.h1.h1.h2 =>
      rintro gXx gXy D1 d1 Y8_58 ⟨WW, XA, XB, XC, XE, XF, Xx, Xy, O1, BG, mXxXF, mXxBG, mXyXF, mXyBG, nXxXy, hHeld⟩
      refine AnyL_ready (rs := [7, 14]) (by kernel_rfl) (by simp) ?_
      refine ReadyL.cons (o := oq8_6_7) rfl (fun K hK => ?_) ?_
      · delta oq8_6_7
        go_simp
        have hbs : w.heap.size ≤ Y8_58.heap.size := WW.size
        have hc := do_pow (w.heap.size + 1 + 1) (V6.heap.size) A E2 C' c f2 p a e2 m Y8_58 XA.num XF.num XC.num hm ha (by omega) XC.1 BG
        rw [← Hy.out] at hc
        refine hc.mono ?_
        clear hc
        rintro e V367 ⟨v, rfl, hv, hb⟩
        replace XA := XA.below hb
        replace XB := XB.below hb
        replace XC := XC.below hb
        replace XE := XE.below hb
        replace XF := XF.below hb
        replace Xx := Xx.below hb
        replace Xy := Xy.below hb
        replace O1 := O1.below hb (Nat.le_refl _)
        replace BG := BG.below hb BG.lt
        replace WW := WW.trans (hb.mono WW.size)
        have sz367 := hb.size
        obtain ⟨D2, d2, rfl, ho⟩ := hv
        have O2 := ho.weak (b := w.heap.size) hbs
        clear ho
        clear hb hbs
        refine hK.out _ _ (⟨XA.cell, XB.cell, XE.cell, XF.cell⟩) (fun hHeld2 => ?_)
        clear hK K hHeld
        have hHeld := hHeld2
        clear hHeld2
        (try simp only [oq8_6_7, Act.put, List.setIfInBounds_toArray, List.set_cons_zero, List.set_cons_succ])
        exact hst16 gXx gXy D1 d1 D2 d2 V367 ⟨WW, XA, XB, XC, XE, XF, Xx, Xy, O1, O2, BG, (by first | exact mXxXF | omega), (by first | exact mXxBG | omega), (by first | exact mXyXF | omega), (by first | exact mXyBG | omega), (by first | exact nXxXy | omega), hHeld⟩
      refine ReadyL.cons (o := oq8_6_14) rfl (fun K hK => ?_) ReadyL.nil
      · delta oq8_6_14
        have lqXF : w.heap.size + 1 + 1 + 1 + 1 < Y8_58.heap.size := XF.lt
        have lqBG : V6.heap.size < Y8_58.heap.size := BG.lt
        have lXx : gXx < Y8_58.heap.size := Xx.lt
        have lXy : gXy < Y8_58.heap.size := Xy.lt
        go_simp
        have ba := (Below.refl Y8_58.heap.size Y8_58).alloc (Nat.le_refl _) (.cells #[.slice none 0 0] 24)
        replace XA := XA.below ba
        replace XB := XB.below ba
        replace XC := XC.below ba
        replace XE := XE.below ba
        replace XF := XF.below ba
        replace Xx := Xx.below ba
        replace Xy := Xy.below ba
        replace O1 := O1.below ba (Nat.le_refl _)
        replace BG := BG.below ba BG.lt
        have bn := Blk.new Y8_58 24 #[.slice none 0 0]
        have Xz := VB.mk (B := w.heap.size) (a := 0) bn (.inr (Own.nil _ _ _ _ (Nat.zero_le _))) ba WW.size WW.size
        replace WW := WW.trans (ba.mono WW.size)
        have sz367 : Y8_58.heap.size < (Y8_58.alloc (.cells #[.slice none 0 0] 24)).heap.size := bn.lt
        refine hK.out _ _ (⟨XA.cell, XB.cell, XE.cell, XF.cell⟩) (fun hHeld2 => ?_)
        clear hK K hHeld
        (try simp only [oq8_6_14, Act.put, List.setIfInBounds_toArray, List.set_cons_zero, List.set_cons_succ])
        generalize hV : Y8_58.alloc (.cells #[.slice none 0 0] 24) = V367 at hHeld2 sz367 WW XA XB XC XE XF Xx Xy Xz O1 BG ⊢
        clear hV ba bn
        have hHeld := hHeld2
        clear hHeld2
        obtain ⟨gXz, hg⟩ : ∃ x, x = Y8_58.heap.size := ⟨_, rfl⟩
        have mXzXF : w.heap.size + 1 + 1 + 1 + 1 < gXz := by omega
        have mXzBG : V6.heap.size < gXz := by omega
        have nXxXz : gXx ≠ gXz := by omega
        have nXyXz : gXy ≠ gXz := by omega
        rw [← hg] at Xz sz367 ⊢
        clear hg lqXF lqBG lXx lXy
        exact hst19 gXx gXy gXz D1 d1 V367 ⟨WW, XA, XB, XC, XE, XF, Xx, Xy, Xz, O1, BG, (by first | exact mXxXF | omega), (by first | exact mXxBG | omega), (by first | exact mXyXF | omega), (by first | exact mXyBG | omega), (by first | exact mXzXF | omega), (by first | exact mXzBG | omega), (by first | exact nXxXy | omega), (by first | exact nXxXz | omega), (by first | exact nXyXz | omega), hHeld⟩
    case h1.h1.h1.h1.h1.h1.h1.h1.h1.h1.h1.h1.h1.h1.h2 =>
      rintro gXx gXz D1 d1 Y8_61 ⟨WW, XA, XB, XC, XE, XF, Xx, Xz, O1, BG, mXxXF, mXxBG, mXzXF, mXzBG, nXxXz, hHeld⟩
      refine AnyL_ready (rs := [7, 13]) (by kernel_rfl) (by simp) ?_
      refine ReadyL.cons (o := oq8_6_7) rfl (fun K hK => ?_) ?_
      · delta oq8_6_7
        go_simp
        have hbs : w.heap.size ≤ Y8_61.heap.size := WW.size
        have hc := do_pow (w.heap.size + 1 + 1) (V6.heap.size) A E2 C' c f2 p a e2 m Y8_61 XA.num XF.num XC.num hm ha (by omega) XC.1 BG
        rw [← Hy.out] at hc
        refine hc.mono ?_
        clear hc
        rintro e V370 ⟨v, rfl, hv, hb⟩
        replace XA := XA.below hb
        replace XB := XB.below hb
        replace XC := XC.below hb
        replace XE := XE.below hb
        replace XF := XF.below hb
        replace Xx := Xx.below hb
        replace Xz := Xz.below hb
        replace O1 := O1.below hb (Nat.le_refl _)
        replace BG := BG.below hb BG.lt
        replace WW := WW.trans (hb.mono WW.size)
        have sz370 := hb.size
        obtain ⟨D2, d2, rfl, ho⟩ := hv
        have O2 := ho.weak (b := w.heap.size) hbs
        clear ho
        clear hb hbs
        refine hK.out _ _ (⟨XA.cell, XB.cell, XE.cell, XF.cell⟩) (fun hHeld2 => ?_)
        clear hK K hHeld
        have hHeld := hHeld2
        clear hHeld2
        (try simp only [oq8_6_7, Act.put, List.setIfInBounds_toArray, List.set_cons_zero, List.set_cons_succ])
        exact hst17 gXx gXz D1 d1 D2 d2 V370 ⟨WW, XA, XB, XC, XE, XF, Xx, Xz, O1, O2, BG, (by first | exact mXxXF | omega), (by first | exact mXxBG | omega), (by first | exact mXzXF | omega), (by first | exact mXzBG | omega), (by first | exact nXxXz | omega), hHeld⟩
      refine ReadyL.cons (o := oq8_6_13) rfl (fun K hK => ?_) ReadyL.nil
      · delta oq8_6_13
        have lqXF : w.heap.size + 1 + 1 + 1 + 1 < Y8_61.heap.size := XF.lt
        have lqBG : V6.heap.size < Y8_61.heap.size := BG.lt
        have lXx : gXx < Y8_61.heap.size := Xx.lt
        have lXz : gXz < Y8_61.heap.size := Xz.lt
        go_simp
        have ba := (Below.refl Y8_61.heap.size Y8_61).alloc (Nat.le_refl _) (.cells #[.slice none 0 0] 24)
        replace XA := XA.below ba
        replace XB := XB.below ba
        replace XC := XC.below ba
        replace XE := XE.below ba
        replace XF := XF.below ba
        replace Xx := Xx.below ba
        replace Xz := Xz.below ba
        replace O1 := O1.below ba (Nat.le_refl _)
        replace BG := BG.below ba BG.lt
        have bn := Blk.new Y8_61 24 #[.slice none 0 0]
        have Xy := VB.mk (B := w.heap.size) (a := 0) bn (.inr (Own.nil _ _ _ _ (Nat.zero_le _))) ba WW.size WW.size
        replace WW := WW.trans (ba.mono WW.size)
        have sz370 : Y8_61.heap.size < (Y8_61.alloc (.cells #[.slice none 0 0] 24)).heap.size := bn.lt
        refine hK.out _ _ (⟨XA.cell, XB.cell, XE.cell, XF.cell⟩) (fun hHeld2 => ?_)
        clear hK K hHeld
        (try simp only [oq8_6_13, Act.put, List.setIfInBounds_toArray, List.set_cons_zero, List.set_cons_succ])
        generalize hV : Y8_61.alloc (.cells #[.slice none 0 0] 24) = V370 at hHeld2 sz370 WW XA XB XC XE XF Xx Xz Xy O1 BG ⊢
        clear hV ba bn
        have hHeld := hHeld2
        clear hHeld2
        obtain ⟨gXy, hg⟩ : ∃ x, x = Y8_61.heap.size := ⟨_, rfl⟩
        have mXyXF : w.heap.size + 1 + 1 + 1 + 1 < gXy := by omega
        have mXyBG : V6.heap.size < gXy := by omega
        have nXxXy : gXx ≠ gXy := by omega
        have nXzXy : gXz ≠ gXy := by omega
        rw [← hg] at Xy sz370 ⊢
        clear hg lqXF lqBG lXx lXz
        exact hst19 gXx gXy gXz D1 d1 V370 ⟨WW, XA, XB, XC, XE, XF, Xx, Xy, Xz, O1, BG, (by first | exact mXxXF | omega), (by first | exact mXxBG | omega), (by first | exact mXyXF | omega), (by first | exact mXyBG | omega), (by first | exact mXzXF | omega), (by first | exact mXzBG | omega), (by first | exact nXxXy | omega), (by first | exact nXxXz | omega), (by first | exact nXyXz | omega), hHeld⟩
    case h1.h1.h1.h1.h1.h1.h1.h1.h1.h1.h1.h1.h1.h2 =>
      rintro gXy gXz D1 d1 Y8_64 ⟨WW, XA, XB, XC, XE, XF, Xy, Xz, O1, BG, mXyXF, mXyBG, mXzXF, mXzBG, nXyXz, hHeld⟩
      refine AnyL_ready (rs := [7, 12]) (by kernel_rfl) (by simp) ?_
      refine ReadyL.cons (o := oq8_6_7) rfl (fun K hK => ?_) ?_
      · delta oq8_6_7
        go_simp
        have hbs : w.heap.size ≤ Y8_64.heap.size := WW.size
        have hc := do_pow (w.heap.size + 1 + 1) (V6.heap.size) A E2 C' c f2 p a e2 m Y8_64 XA.num XF.num XC.num hm ha (by omega) XC.1 BG
        rw [← Hy.out] at hc
        refine hc.mono ?_
        clear hc
        rintro e V373 ⟨v, rfl, hv, hb⟩
        replace XA := XA.below hb
        replace XB := XB.below hb
        replace XC := XC.below hb
        replace XE := XE.below hb
        replace XF := XF.below hb
        replace Xy := Xy.below hb
        replace Xz := Xz.below hb
        replace O1 := O1.below hb (Nat.le_refl _)
        replace BG := BG.below hb BG.lt
        replace WW := WW.trans (hb.mono WW.size)
        have sz373 := hb.size
        obtain ⟨D2, d2, rfl, ho⟩ := hv
        have O2 := ho.weak (b := w.heap.size) hbs
        clear ho
        clear hb hbs
        refine hK.out _ _ (⟨XA.cell, XB.cell, XE.cell, XF.cell⟩) (fun hHeld2 => ?_)
        clear hK K hHeld
        have hHeld := hHeld2
        clear hHeld2
        (try simp only [oq8_6_7, Act.put, List.setIfInBounds_toArray, List.set_cons_zero, List.set_cons_succ])
        exact hst18 gXy gXz D1 d1 D2 d2 V373 ⟨WW, XA, XB, XC, XE, XF, Xy, Xz, O1, O2, BG, (by first | exact mXyXF | omega), (by first | exact mXyBG | omega), (by first | exact mXzXF | omega), (by first | exact mXzBG | omega), (by first | exact nXyXz | omega), hHeld⟩
      refine ReadyL.cons (o := oq8_6_12) rfl (fun K hK => ?_) ReadyL.nil
      · delta oq8_6_12
        have lqXF : w.heap.size + 1 + 1 + 1 + 1 < Y8_64.heap.size := XF.lt
        have lqBG : V6.heap.size < Y8_64.heap.size := BG.lt
        have lXy : gXy < Y8_64.heap.size := Xy.lt
        have lXz : gXz < Y8_64.heap.size := Xz.lt
        go_simp
        have ba := (Below.refl Y8_64.heap.size Y8_64).alloc (Nat.le_refl _) (.cells #[.slice none 0 0] 24)
        replace XA := XA.below ba
        replace XB := XB.below ba
        replace XC := XC.below ba
        replace XE := XE.below ba
        replace XF := XF.below ba
        replace Xy := Xy.below ba
        replace Xz := Xz.below ba
        replace O1 := O1.below ba (Nat.le_refl _)
        replace BG := BG.below ba BG.lt
        have bn := Blk.new Y8_64 24 #[.slice none 0 0]
        have Xx := VB.mk (B := w.heap.size) (a := 0) bn (.inr (Own.nil _ _ _ _ (Nat.zero_le _))) ba WW.size WW.size
        replace WW := WW.trans (ba.mono WW.size)
        have sz373 : Y8_64.heap.size < (Y8_64.alloc (.cells #[.slice none 0 0] 24)).heap.size := bn.lt
        refine hK.out _ _ (⟨XA.cell, XB.cell, XE.cell, XF.cell⟩) (fun hHeld2 => ?_)
        clear hK K hHeld
        (try simp only [oq8_6_12, Act.put, List.setIfInBounds_toArray, List.set_cons_zero, List.set_cons_succ])
        generalize hV : Y8_64.alloc (.cells #[.slice none 0 0] 24) = V373 at hHeld2 sz373 WW XA XB XC XE XF Xy Xz Xx O1 BG ⊢
        clear hV ba bn
        have hHeld := hHeld2
        clear hHeld2
        obtain ⟨gXx, hg⟩ : ∃ x, x = Y8_64.heap.size := ⟨_, rfl⟩
        have mXxXF : w.heap.size + 1 + 1 + 1 + 1 < gXx := by omega
        have mXxBG : V6.heap.size < gXx := by omega
        have nXyXx : gXy ≠ gXx := by omega
        have nXzXx : gXz ≠ gXx := by omega
        rw [← hg] at Xx sz373 ⊢
        clear hg lqXF lqBG lXy lXz
        exact hst19 gXx gXy gXz D1 d1 V373 ⟨WW, XA, XB, XC, XE, XF, Xx, Xy, Xz, O1, BG, (by first | exact mXxXF | omega), (by first | exact mXxBG | omega), (by first | exact mXyXF | omega), (by first | exact mXyBG | omega), (by first | exact mXzXF | omega), (by first | exact mXzBG | omega), (by first | exact nXxXy | omega), (by first | exact nXxXz | omega), (by first | exact nXyXz | omega), hHeld⟩
    case h1.h1.h1.h1.h1.h1.h1.h1.h1.h1.h1.h1.h2 =>
      rintro gXx gXy gXz Y8_67 ⟨WW, XA, XB, XC, XE, XF, Xx, Xy, Xz, BG, mXxXF, mXxBG, mXyXF, mXyBG, mXzXF, mXzBG, nXxXy, nXxXz, nXyXz, hHeld⟩
      refine AnyL_ready (rs := [3]) (by kernel_rfl) (by simp) ?_
      refine ReadyL.cons (o := oq8_6_3) rfl (fun K hK => ?_) ReadyL.nil
      delta oq8_6_3
      go_simp
      have hbs : w.heap.size ≤ Y8_67.heap.size := WW.size
      have hc := do_pow (w.heap.size + 1 + 1) (V6.heap.size) A E C' c f p a e m Y8_67 XA.num XE.num XC.num hm ha (by omega) XC.1 BG
      rw [← Hx.out] at hc
      refine hc.mono ?_
      clear hc
      rintro e V376 ⟨v, rfl, hv, hb⟩
      replace XA := XA.below hb
      replace XB := XB.below hb
      replace XC := XC.below hb
      replace XE := XE.below hb
      replace XF := XF.below hb
      replace Xx := Xx.below hb
      replace Xy := Xy.below hb
      replace Xz := Xz.below hb
      replace BG := BG.below hb BG.lt
      replace WW := WW.trans (hb.mono WW.size)
      have sz376 := hb.size
      obtain ⟨D1, d1, rfl, ho⟩ := hv
      have O1 := ho.weak (b := w.heap.size) hbs
      clear ho
      clear hb hbs
      refine hK.out _ _ (⟨XA.cell, XB.cell, XE.cell, XF.cell⟩) (fun hHeld2 => ?_)
      clear hK K hHeld
      have hHeld := hHeld2
      clear hHeld2
      (try simp only [oq8_6_3, Act.put, List.setIfInBounds_toArray, List.set_cons_zero, List.set_cons_succ])
      exact hst19 gXx gXy gXz D1 d1 V376 ⟨WW, XA, XB, XC, XE, XF, Xx, Xy, Xz, O1, BG, (by first | exact mXxXF | omega), (by first | exact mXxBG | omega), (by first | exact mXyXF | omega), (by first | exact mXyBG | omega), (by first | exact mXzXF | omega), (by first | exact mXzBG | omega), (by first | exact nXxXy | omega), (by first | exact nXxXz | omega), (by first | exact nXyXz | omega), hHeld⟩
    case h1.h1.h1.h1.h1.h1.h1.h1.h1.h1.h1.h2 =>
      rintro gXx D1 d1 D2 d2 D3 d3 Y8_69 ⟨WW, XA, XB, XC, XE, XF, Xx, O1, O2, O3, BG, mXxXF, mXxBG, hHeld⟩
      refine AnyL_ready (rs := [13, 14]) (by kernel_rfl) (by simp) ?_
      refine ReadyL.cons (o := oq8_6_13) rfl (fun K hK => ?_) ?_
      · delta oq8_6_13
        have lqXF : w.heap.size + 1 + 1 + 1 + 1 < Y8_69.heap.size := XF.lt
        have lqBG : V6.heap.size < Y8_69.heap.size := BG.lt
        have lXx : gXx < Y8_69.heap.size := Xx.lt
        go_simp
        have ba := (Below.refl Y8_69.heap.size Y8_69).alloc (Nat.le_refl _) (.cells #[.slice none 0 0] 24)
        replace XA := XA.below ba
        replace XB := XB.below ba
        replace XC := XC.below ba
        replace XE := XE.below ba
        replace XF := XF.below ba
        replace Xx := Xx.below ba
        replace O1 := O1.below ba (Nat.le_refl _)
        replace O2 := O2.below ba (Nat.le_refl _)
        replace O3 := O3.below ba (Nat.le_refl _)
        replace BG := BG.below ba BG.lt
        have bn := Blk.new Y8_69 24 #[.slice none 0 0]
        have Xy := VB.mk (B := w.heap.size) (a := 0) bn (.inr (Own.nil _ _ _ _ (Nat.zero_le _))) ba WW.size WW.size
        replace WW := WW.trans (ba.mono WW.size)
        have sz378 : Y8_69.heap.size < (Y8_69.alloc (.cells #[.slice none 0 0] 24)).heap.size := bn.lt
        refine hK.out _ _ (⟨XA.cell, XB.cell, XE.cell, XF.cell⟩) (fun hHeld2 => ?_)
        clear hK K hHeld
        (try simp only [oq8_6_13, Act.put, List.setIfInBounds_toArray, List.set_cons_zero, List.set_cons_succ])
        generalize hV : Y8_69.alloc (.cells #[.slice none 0 0] 24) = V378 at hHeld2 sz378 WW XA XB XC XE XF Xx Xy O1 O2 O3 BG ⊢
        clear hV ba bn
        have hHeld := hHeld2
        clear hHeld2
        obtain ⟨gXy, hg⟩ : ∃ x, x = Y8_69.heap.size := ⟨_, rfl⟩
        have mXyXF : w.heap.size + 1 + 1 + 1 + 1 < gXy := by omega
        have mXyBG : V6.heap.size < gXy := by omega
        have nXxXy : gXx ≠ gXy := by omega
        rw [← hg] at Xy sz378 ⊢
        clear hg lqXF lqBG lXx
        exact hst20 gXx gXy D1 d1 D2 d2 D3 d3 V378 ⟨WW, XA, XB, XC, XE, XF, Xx, Xy, O1, O2, O3, BG, (by first | exact mXxXF | omega), (by first | exact mXxBG | omega), (by first | exact mXyXF | omega), (by first | exact mXyBG | omega), (by first | exact nXxXy | omega), hHeld⟩
      refine ReadyL.cons (o := oq8_6_14) rfl (fun K hK => ?_) ReadyL.nil
      · delta oq8_6_14
        have lqXF : w.heap.size + 1 + 1 + 1 + 1 < Y8_69.heap.size := XF.lt
        have lqBG : V6.heap.size < Y8_69.heap.size := BG.lt
        have lXx : gXx < Y8_69.heap.size := Xx.lt
        go_simp
        have ba := (Below.refl Y8_69.heap.size Y8_69).alloc (Nat.le_refl _) (.cells #[.slice none 0 0] 24)
        replace XA := XA.below ba
        replace XB := XB.below ba
        replace XC := XC.below ba
        replace XE := XE.below ba
        replace XF := XF.below ba
        replace Xx := Xx.below ba
        replace O1 := O1.below ba (Nat.le_refl _)
        replace O2 := O2.below ba (Nat.le_refl _)
        replace O3 := O3.below ba (Nat.le_refl _)
        replace BG := BG.below ba BG.lt
        have bn := Blk.new Y8_69 24 #[.slice none 0 0]
        have Xz := VB.mk (B := w.heap.size) (a := 0) bn (.inr (Own.nil _ _ _ _ (Nat.zero_le _))) ba WW.size WW.size
        replace WW := WW.trans (ba.mono WW.size)
        have sz378 : Y8_69.heap.size < (Y8_69.alloc (.cells #[.slice none 0 0] 24)).heap.size := bn.lt
        refine hK.out _ _ (⟨XA.cell, XB.cell, XE.cell, XF.cell⟩) (fun hHeld2 => ?_)
        clear hK K hHeld
        (try simp only [oq8_6_14, Act.put, List.setIfInBounds_toArray, List.set_cons_zero, List.set_cons_succ])
        generalize hV : Y8_69.alloc (.cells #[.slice none 0 0] 24) = V378 at hHeld2 sz378 WW XA XB XC XE XF Xx Xz O1 O2 O3 BG ⊢
        clear hV ba bn
        have hHeld := hHeld2
        clear hHeld2
        obtain ⟨gXz, hg⟩ : ∃ x, x = Y8_69.heap.size := ⟨_, rfl⟩
        have mXzXF : w.heap.size + 1 + 1 + 1 + 1 < gXz := by omega
        have mXzBG : V6.heap.size < gXz := by omega
        have nXxXz : gXx ≠ gXz := by omega
        rw [← hg] at Xz sz378 ⊢
        clear hg lqXF lqBG lXx
        exact hst21 gXx gXz D1 d1 D2 d2 D3 d3 V378 ⟨WW, XA, XB, XC, XE, XF, Xx, Xz, O1, O2, O3, BG, (by first | exact mXxXF | omega), (by first | exact mXxBG | omega), (by first | exact mXzXF | omega), (by first | exact mXzBG | omega), (by first | exact nXxXz | omega), hHeld⟩
    case h1.h1.h1.h1.h1.h1.h1.h1.h1.h1.h2 =>
      rintro gXy D1 d1 D2 d2 D3 d3 Y8_72 ⟨WW, XA, XB, XC, XE, XF, Xy, O1, O2, O3, BG, mXyXF, mXyBG, hHeld⟩
      refine AnyL_ready (rs := [12, 14]) (by kernel_rfl) (by simp) ?_
      refine ReadyL.cons (o := oq8_6_12) rfl (fun K hK => ?_) ?_
      · delta oq8_6_12
        have lqXF : w.heap.size + 1 + 1 + 1 + 1 < Y8_72.heap.size := XF.lt
        have lqBG : V6.heap.size < Y8_72.heap.size := BG.lt
        have lXy : gXy < Y8_72.heap.size := Xy.lt
        go_simp
        have ba := (Below.refl Y8_72.heap.size Y8_72).alloc (Nat.le_refl _) (.cells #[.slice none 0 0] 24)
        replace XA := XA.below ba
        replace XB := XB.below ba
        replace XC := XC.below ba
        replace XE := XE.below ba
        replace XF := XF.below ba
        replace Xy := Xy.below ba
        replace O1 := O1.below ba (Nat.le_refl _)
        replace O2 := O2.below ba (Nat.le_refl _)
        replace O3 := O3.below ba (Nat.le_refl _)
        replace BG := BG.below ba BG.lt
        have bn := Blk.new Y8_72 24 #[.slice none 0 0]
        have Xx := VB.mk (B := w.heap.size) (a := 0) bn (.inr (Own.nil _ _ _ _ (Nat.zero_le _))) ba WW.size WW.size
        replace WW := WW.trans (ba.mono WW.size)
        have sz381 : Y8_72.heap.size < (Y8_72.alloc (.cells #[.slice none 0 0] 24)).heap.size := bn.lt
        refine hK.out _ _ (⟨XA.cell, XB.cell, XE.cell, XF.cell⟩) (fun hHeld2 => ?_)
        clear hK K hHeld
        (try simp only [oq8_6_12, Act.put, List.setIfInBounds_toArray, List.set_cons_zero, List.set_cons_succ])
        generalize hV : Y8_72.alloc (.cells #[.slice none 0 0] 24) = V381 at hHeld2 sz381 WW XA XB XC XE XF Xy Xx O1 O2 O3 BG ⊢
        clear hV ba bn
        have hHeld := hHeld2
        clear hHeld2
        obtain ⟨gXx, hg⟩ : ∃ x, x = Y8_72.heap.size := ⟨_, rfl⟩
        have mXxXF : w.heap.size + 1 + 1 + 1 + 1 < gXx := by omega
        have mXxBG : V6.heap.size < gXx := by omega
        have nXyXx : gXy ≠ gXx := by omega
        rw [← hg] at Xx sz381 ⊢
        clear hg lqXF lqBG lXy
        exact hst20 gXx gXy D1 d1 D2 d2 D3 d3 V381 ⟨WW, XA, XB, XC, XE, XF, Xx, Xy, O1, O2, O3, BG, (by first | exact mXxXF | omega), (by first | exact mXxBG | omega), (by first | exact mXyXF | omega), (by first | exact mXyBG | omega), (by first | exact nXxXy | omega), hHeld⟩
      refine ReadyL.cons (o := oq8_6_14) rfl (fun K hK => ?_) ReadyL.nil
      · delta oq8_6_14
        have lqXF : w.heap.size + 1 + 1 + 1 + 1 < Y8_72.heap.size := XF.lt
        have lqBG : V6.heap.size < Y8_72.heap.size := BG.lt
        have lXy : gXy < Y8_72.heap.size := Xy.lt
        go_simp
        have ba := (Below.refl Y8_72.heap.size Y8_72).alloc (Nat.le_refl _) (.cells #[.slice none 0 0] 24)
        replace XA := XA.below ba
        replace XB := XB.below ba
        replace XC := XC.below ba
        replace XE := XE.below ba
        replace XF := XF.below ba
        replace Xy := Xy.below ba
        replace O1 := O1.below ba (Nat.le_refl _)
        replace O2 := O2.below ba (Nat.le_refl _)
        replace O3 := O3.below ba (Nat.le_refl _)
        replace BG := BG.below ba BG.lt
        have bn := Blk.new Y8_72 24 #[.slice none 0 0]
        have Xz := VB.mk (B := w.heap.size) (a := 0) bn (.inr (Own.nil _ _ _ _ (Nat.zero_le _))) ba WW.size WW.size
        replace WW := WW.trans (ba.mono WW.size)
        have sz381 : Y8_72.heap.size < (Y8_72.alloc (.cells #[.slice none 0 0] 24)).heap.size := bn.lt
        refine hK.out _ _ (⟨XA.cell, XB.cell, XE.cell, XF.cell⟩) (fun hHeld2 => ?_)
        clear hK K hHeld
        (try simp only [oq8_6_14, Act.put, List.setIfInBounds_toArray, List.set_cons_zero, List.set_cons_succ])
        generalize hV : Y8_72.alloc (.cells #[.slice none 0 0] 24) = V381 at hHeld2 sz381 WW XA XB XC XE XF Xy Xz O1 O2 O3 BG ⊢
        clear hV ba bn
        have hHeld := hHeld2
        clear hHeld2
        obtain ⟨gXz, hg⟩ : ∃ x, x = Y8_72.heap.size := ⟨_, rfl⟩
        have mXzXF : w.heap.size + 1 + 1 + 1 + 1 < gXz := by omega
        have mXzBG : V6.heap.size < gXz := by omega
        have nXyXz : gXy ≠ gXz := by omega
        rw [← hg] at Xz sz381 ⊢
        clear hg lqXF lqBG lXy
        exact hst22 gXy gXz D1 d1 D2 d2 D3 d3 V381 ⟨WW, XA, XB, XC, XE, XF, Xy, Xz, O1, O2, O3, BG, (by first | exact mXyXF | omega), (by first | exact mXyBG | omega), (by first | exact mXzXF | omega), (by first | exact mXzBG | omega), (by first | exact nXyXz | omega), hHeld⟩
    case h1.h1.h1.h1.h1.h1.h1.h1.h1.h2 =>
      rintro gXz D1 d1 D2 d2 D3 d3 Y8_75 ⟨WW, XA, XB, XC, XE, XF, Xz, O1, O2, O3, BG, mXzXF, mXzBG, hHeld⟩
      refine AnyL_ready (rs := [12, 13]) (by kernel_rfl) (by simp) ?_
      refine ReadyL.cons (o := oq8_6_12) rfl (fun K hK => ?_) ?_
      · delta oq8_6_12
        have lqXF : w.heap.size + 1 + 1 + 1 + 1 < Y8_75.heap.size := XF.lt
        have lqBG : V6.heap.size < Y8_75.heap.size := BG.lt
        have lXz : gXz < Y8_75.heap.size := Xz.lt
        go_simp
        have ba := (Below.refl Y8_75.heap.size Y8_75).alloc (Nat.le_refl _) (.cells #[.slice none 0 0] 24)
        replace XA := XA.below ba
        replace XB := XB.below ba
        replace XC := XC.below ba
        replace XE := XE.below ba
        replace XF := XF.below ba
        replace Xz := Xz.below ba
        replace O1 := O1.below ba (Nat.le_refl _)
        replace O2 := O2.below ba (Nat.le_refl _)
        replace O3 := O3.below ba (Nat.le_refl _)
        replace BG := BG.below ba BG.lt
        have bn := Blk.new Y8_75 24 #[.slice none 0 0]
        have Xx := VB.mk (B := w.heap.size) (a := 0) bn (.inr (Own.nil _ _ _ _ (Nat.zero_le _))) ba WW.size WW.size
        replace WW := WW.trans (ba.mono WW.size)
        have sz384 : Y8_75.heap.size < (Y8_75.alloc (.cells #[.slice none 0 0] 24)).heap.size := bn.lt
        refine hK.out _ _ (⟨XA.cell, XB.cell, XE.cell, XF.cell⟩) (fun hHeld2 => ?_)
        clear hK K hHeld
        (try simp only [oq8_6_12, Act.put, List.setIfInBounds_toArray, List.set_cons_zero, List.set_cons_succ])
        generalize hV : Y8_75.alloc (.cells #[.slice none 0 0] 24) = V384 at hHeld2 sz384 WW XA XB XC XE XF Xz Xx O1 O2 O3 BG ⊢
        clear hV ba bn
        have hHeld := hHeld2
        clear hHeld2
        obtain ⟨gXx, hg⟩ : ∃ x, x = Y8_75.heap.size := ⟨_, rfl⟩
        have mXxXF : w.heap.size + 1 + 1 + 1 + 1 < gXx := by omega
        have mXxBG : V6.heap.size < gXx := by omega
        have nXzXx : gXz ≠ gXx := by omega
        rw [← hg] at Xx sz384 ⊢
        clear hg lqXF lqBG lXz
        exact hst21 gXx gXz D1 d1 D2 d2 D3 d3 V384 ⟨WW, XA, XB, XC, XE, XF, Xx, Xz, O1, O2, O3, BG, (by first | exact mXxXF | omega), (by first | exact mXxBG | omega), (by first | exact mXzXF | omega), (by first | exact mXzBG | omega), (by first | exact nXxXz | omega), hHeld⟩
      refine ReadyL.cons (o := oq8_6_13) rfl (fun K hK => ?_) ReadyL.nil
      · delta oq8_6_13
        have lqXF : w.heap.size + 1 + 1 + 1 + 1 < Y8_75.heap.size := XF.lt
        have lqBG : V6.heap.size < Y8_75.heap.size := BG.lt
        have lXz : gXz < Y8_75.heap.size := Xz.lt
        go_simp
        have ba := (Below.refl Y8_75.heap.size Y8_75).alloc (Nat.le_refl _) (.cells #[.slice none 0 0] 24)
        replace XA := XA.below ba
        replace XB := XB.below ba
        replace XC := XC.below ba
        replace XE := XE.below ba
        replace XF := XF.below ba
        replace Xz := Xz.below ba
        replace O1 := O1.below ba (Nat.le_refl _)
        replace O2 := O2.below ba (Nat.le_refl _)
        replace O3 := O3.below ba (Nat.le_refl _)
        replace BG := BG.below ba BG.lt
        have bn := Blk.new Y8_75 24 #[.slice none 0 0]
        have Xy := VB.mk (B := w.heap.size) (a := 0) bn (.inr (Own.nil _ _ _ _ (Nat.zero_le _))) ba WW.size WW.size
        replace WW := WW.trans (ba.mono WW.size)
        have sz384 : Y8_75.heap.size < (Y8_75.alloc (.cells #[.slice none 0 0] 24)).heap.size := bn.lt
        refine hK.out _ _ (⟨XA.cell, XB.cell, XE.cell, XF.cell⟩) (fun hHeld2 => ?_)
        clear hK K hHeld
        (try simp only [oq8_6_13, Act.put, List.setIfInBounds_toArray, List.set_cons_zero, List.set_cons_succ])
        generalize hV : Y8_75.alloc (.cells #[.slice none 0 0] 24) = V384 at hHeld2 sz384 WW XA XB XC XE XF Xz Xy O1 O2 O3 BG ⊢
        clear hV ba bn
        have hHeld := hHeld2
        clear hHeld2
        obtain ⟨gXy, hg⟩ : ∃ x, x = Y8_75.heap.size := ⟨_, rfl⟩
        have mXyXF : w.heap.size + 1 + 1 + 1 + 1 < gXy := by omega
        have mXyBG : V6.heap.size < gXy := by omega
        have nXzXy : gXz ≠ gXy := by omega
        rw [← hg] at Xy sz384 ⊢
        clear hg lqXF lqBG lXz
        exact hst22 gXy gXz D1 d1 D2 d2 D3 d3 V384 ⟨WW, XA, XB, XC, XE, XF, Xy, Xz, O1, O2, O3, BG, (by first | exact mXyXF | omega), (by first | exact mXyBG | omega), (by first | exact mXzXF | omega), (by first | exact mXzBG | omega), (by first | exact nXyXz | omega), hHeld⟩
    case h1.h1.h1.h1.h1.h1.h1.h1.h2 =>
      rintro gXx gXy D1 d1 D2 d2 Y8_78 ⟨WW, XA, XB, XC, XE, XF, Xx, Xy, O1, O2, BG, mXxXF, mXxBG, mXyXF, mXyBG, nXxXy, hHeld⟩
      refine AnyL_ready (rs := [11, 14]) (by kernel_rfl) (by simp) ?_
      refine ReadyL.cons (o := oq8_6_11) rfl (fun K hK => ?_) ?_
      · delta oq8_6_11
        go_simp
        have hbs : w.heap.size ≤ Y8_78.heap.size := WW.size
        have hc := do_pow (w.heap.size + 1 + 1) (V6.heap.size) B' E C' d f p b e m Y8_78 XB.num XE.num XC.num hm hb_ (by omega) XC.1 BG
        rw [← Hz.out] at hc
        refine hc.mono ?_
        clear hc
        rintro e V387 ⟨v, rfl, hv, hb⟩
        replace XA := XA.below hb
        replace XB := XB.below hb
        replace XC := XC.below hb
        replace XE := XE.below hb
        replace XF := XF.below hb
        replace Xx := Xx.below hb
        replace Xy := Xy.below hb
        replace O1 := O1.below hb (Nat.le_refl _)
        replace O2 := O2.below hb (Nat.le_refl _)
        replace BG := BG.below hb BG.lt
        replace WW := WW.trans (hb.mono WW.size)
        have sz387 := hb.size
        obtain ⟨D3, d3, rfl, ho⟩ := hv
        have O3 := ho.weak (b := w.heap.size) hbs
        clear ho
        clear hb hbs
        refine hK.out _ _ (⟨XA.cell, XB.cell, XE.cell, XF.cell⟩) (fun hHeld2 => ?_)
        clear hK K hHeld
        have hHeld := hHeld2
        clear hHeld2
        (try simp only [oq8_6_11, Act.put, List.setIfInBounds_toArray, List.set_cons_zero, List.set_cons_succ])
        exact hst20 gXx gXy D1 d1 D2 d2 D3 d3 V387 ⟨WW, XA, XB, XC, XE, XF, Xx, Xy, O1, O2, O3, BG, (by first | exact mXxXF | omega), (by first | exact mXxBG | omega), (by first | exact mXyXF | omega), (by first | exact mXyBG | omega), (by first | exact nXxXy | omega), hHeld⟩
      refine ReadyL.cons (o := oq8_6_14) rfl (fun K hK => ?_) ReadyL.nil
      · delta oq8_6_14
        have lqXF : w.heap.size + 1 + 1 + 1 + 1 < Y8_78.heap.size := XF.lt
        have lqBG : V6.heap.size < Y8_78.heap.size := BG.lt
        have lXx : gXx < Y8_78.heap.size := Xx.lt
        have lXy : gXy < Y8_78.heap.size := Xy.lt
        go_simp
        have ba := (Below.refl Y8_78.heap.size Y8_78).alloc (Nat.le_refl _) (.cells #[.slice none 0 0] 24)
        replace XA := XA.below ba
        replace XB := XB.below ba
        replace XC := XC.below ba
        replace XE := XE.below ba
        replace XF := XF.below ba
        replace Xx := Xx.below ba
        replace Xy := Xy.below ba
        replace O1 := O1.below ba (Nat.le_refl _)
        replace O2 := O2.below ba (Nat.le_refl _)
        replace BG := BG.below ba BG.lt
        have bn := Blk.new Y8_78 24 #[.slice none 0 0]
        have Xz := VB.mk (B := w.heap.size) (a := 0) bn (.inr (Own.nil _ _ _ _ (Nat.zero_le _))) ba WW.size WW.size
        replace WW := WW.trans (ba.mono WW.size)
        have sz387 : Y8_78.heap.size < (Y8_78.alloc (.cells #[.slice none 0 0] 24)).heap.size := bn.lt
        refine hK.out _ _ (⟨XA.cell, XB.cell, XE.cell, XF.cell⟩) (fun hHeld2 => ?_)
        clear hK K hHeld
        (try simp only [oq8_6_14, Act.put, List.setIfInBounds_toArray, List.set_cons_zero, List.set_cons_succ])
        generalize hV : Y8_78.alloc (.cells #[.slice none 0 0] 24) = V387 at hHeld2 sz387 WW XA XB XC XE XF Xx Xy Xz O1 O2 BG ⊢
        clear hV ba bn
        have hHeld := hHeld2
        clear hHeld2
        obtain ⟨gXz, hg⟩ : ∃ x, x = Y8_78.heap.size := ⟨_, rfl⟩
        have mXzXF : w.heap.size + 1 + 1 + 1 + 1 < gXz := by omega
        have mXzBG : V6.heap.size < gXz := by omega
        have nXxXz : gXx ≠ gXz := by omega
        have nXyXz : gXy ≠ gXz := by omega
        rw [← hg] at Xz sz387 ⊢
        clear hg lqXF lqBG lXx lXy
        exact hst23 gXx gXy gXz D1 d1 D2 d2 V387 ⟨WW, XA, XB, XC, XE, XF, Xx, Xy, Xz, O1, O2, BG, (by first | exact mXxXF | omega), (by first | exact mXxBG | omega), (by first | exact mXyXF | omega), (by first | exact mXyBG | omega), (by first | exact mXzXF | omega), (by first | exact mXzBG | omega), (by first | exact nXxXy | omega), (by first | exact nXxXz | omega), (by first | exact nXyXz | omega), hHeld⟩
    case h1.h1.h1.h1.h1.h1.h1.h2 =>
      rintro gXx gXz D1 d1 D2 d2 Y8_81 ⟨WW, XA, XB, XC, XE, XF, Xx, Xz, O1, O2, BG, mXxXF, mXxBG, mXzXF, mXzBG, nXxXz, hHeld⟩
      refine AnyL_ready (rs := [11, 13]) (by kernel_rfl) (by simp) ?_
      refine ReadyL.cons (o := oq8_6_11) rfl (fun K hK => ?_) ?_
      · delta oq8_6_11
        go_simp
        have hbs : w.heap.size ≤ Y8_81.heap.size := WW.size
        have hc := do_pow (w.heap.size + 1 + 1) (V6.heap.size) B' E C' d f p b e m Y8_81 XB.num XE.num XC.num hm hb_ (by omega) XC.1 BG
        rw [← Hz.out] at hc
        refine hc.mono ?_
        clear hc
        rintro e V390 ⟨v, rfl, hv, hb⟩
        replace XA := XA.below hb
        replace XB := XB.below hb
        replace XC := XC.below hb
        replace XE := XE.below hb
        replace XF := XF.below hb
        replace Xx := Xx.below hb
        replace Xz := Xz.below hb
        replace O1 := O1.below hb (Nat.le_refl _)
        replace O2 := O2.below hb (Nat.le_refl _)
        replace BG := BG.below hb BG.lt
        replace WW := WW.trans (hb.mono WW.size)
        have sz390 := hb.size
        obtain ⟨D3, d3, rfl, ho⟩ := hv
        have O3 := ho.weak (b := w.heap.size) hbs
        clear ho
        clear hb hbs
        refine hK.out _ _ (⟨XA.cell, XB.cell, XE.cell, XF.cell⟩) (fun hHeld2 => ?_)
        clear hK K hHeld
        have hHeld := hHeld2
        clear hHeld2
        (try simp only [oq8_6_11, Act.put, List.setIfInBounds_toArray, List.set_cons_zero, List.set_cons_succ])
        exact hst21 gXx gXz D1 d1 D2 d2 D3 d3 V390 ⟨WW, XA, XB, XC, XE, XF, Xx, Xz, O1, O2, O3, BG, (by first | exact mXxXF | omega), (by first | exact mXxBG | omega), (by first | exact mXzXF | omega), (by first | exact mXzBG | omega), (by first | exact nXxXz | omega), hHeld⟩
      refine ReadyL.cons (o := oq8_6_13) rfl (fun K hK => ?_) ReadyL.nil
      · delta oq8_6_13
        have lqXF : w.heap.size + 1 + 1 + 1 + 1 < Y8_81.heap.size := XF.lt
        have lqBG : V6.heap.size < Y8_81.heap.size := BG.lt
        have lXx : gXx < Y8_81.heap.size := Xx.lt
        have lXz : gXz < Y8_81.heap.size := Xz.lt
        go_simp
        have ba := (Below.refl Y8_81.heap.size Y8_81).alloc (Nat.le_refl _) (.cells #[.slice none 0 0] 24)
        replace XA := XA.below ba
        replace XB := XB.below ba
        replace XC := XC.below ba
        replace XE := XE.below ba
        replace XF := XF.below ba
        replace Xx := Xx.below ba
        replace Xz := Xz.below ba
        replace O1 := O1.below ba (Nat.le_refl _)
        replace O2 := O2.below ba (Nat.le_refl _)
        replace BG := BG.below ba BG.lt
        have bn := Blk.new Y8_81 24 #[.slice none 0 0]
        have Xy := VB.mk (B := w.heap.size) (a := 0) bn (.inr (Own.nil _ _ _ _ (Nat.zero_le _))) ba WW.size WW.size
        replace WW := WW.trans (ba.mono WW.size)
        have sz390 : Y8_81.heap.size < (Y8_81.alloc (.cells #[.slice none 0 0] 24)).heap.size := bn.lt
        refine hK.out _ _ (⟨XA.cell, XB.cell, XE.cell, XF.cell⟩) (fun hHeld2 => ?_)
        clear hK K hHeld
        (try simp only [oq8_6_13, Act.put, List.setIfInBounds_toArray, List.set_cons_zero, List.set_cons_succ])
        generalize hV : Y8_81.alloc (.cells #[.slice none 0 0] 24) = V390 at hHeld2 sz390 WW XA XB XC XE XF Xx Xz Xy O1 O2 BG ⊢
        clear hV ba bn
        have hHeld := hHeld2
        clear hHeld2
        obtain ⟨gXy, hg⟩ : ∃ x, x = Y8_81.heap.size := ⟨_, rfl⟩
        have mXyXF : w.heap.size + 1 + 1 + 1 + 1 < gXy := by omega
        have mXyBG : V6.heap.size < gXy := by omega
        have nXxXy : gXx ≠ gXy := by omega
        have nXzXy : gXz ≠ gXy := by omega
        rw [← hg] at Xy sz390 ⊢
        clear hg lqXF lqBG lXx lXz
        exact hst23 gXx gXy gXz D1 d1 D2 d2 V390 ⟨WW, XA, XB, XC, XE, XF, Xx, Xy, Xz, O1, O2, BG, (by first | exact mXxXF | omega), (by first | exact mXxBG | omega), (by first | exact mXyXF | omega), (by first | exact mXyBG | omega), (by first | exact mXzXF | omega), (by first | exact mXzBG | omega), (by first | exact nXxXy | omega), (by first | exact nXxXz | omega), (by first | exact nXyXz | omega), hHeld⟩
    case h1.h1.h1.h1.h1.h1.h2 =>
      rintro gXy gXz D1 d1 D2 d2 Y8_84 ⟨WW, XA, XB, XC, XE, XF, Xy, Xz, O1, O2, BG, mXyXF, mXyBG, mXzXF, mXzBG, nXyXz, hHeld⟩
      refine AnyL_ready (rs := [11, 12]) (by kernel_rfl) (by simp) ?_
      refine ReadyL.cons (o := oq8_6_11) rfl (fun K hK => ?_) ?_
      · delta oq8_6_11
        go_simp
        have hbs : w.heap.size ≤ Y8_84.heap.size := WW.size
        have hc := do_pow (w.heap.size + 1 + 1) (V6.heap.size) B' E C' d f p b e m Y8_84 XB.num XE.num XC.num hm hb_ (by omega) XC.1 BG
        rw [← Hz.out] at hc
        refine hc.mono ?_
        clear hc
        rintro e V393 ⟨v, rfl, hv, hb⟩
        replace XA := XA.below hb
        replace XB := XB.below hb
        replace XC := XC.below hb
        replace XE := XE.below hb
        replace XF := XF.below hb
        replace Xy := Xy.below hb
        replace Xz := Xz.below hb
        replace O1 := O1.below hb (Nat.le_refl _)
        replace O2 := O2.below hb (Nat.le_refl _)
        replace BG := BG.below hb BG.lt
        replace WW := WW.trans (hb.mono WW.size)
        have sz393 := hb.size
        obtain ⟨D3, d3, rfl, ho⟩ := hv
        have O3 := ho.weak (b := w.heap.size) hbs
        clear ho
        clear hb hbs
        refine hK.out _ _ (⟨XA.cell, XB.cell, XE.cell, XF.cell⟩) (fun hHeld2 => ?_)
        clear hK K hHeld
        have hHeld := hHeld2
        clear hHeld2
        (try simp only [oq8_6_11, Act.put, List.setIfInBounds_toArray, List.set_cons_zero, List.set_cons_succ])
        exact hst22 gXy gXz D1 d1 D2 d2 D3 d3 V393 ⟨WW, XA, XB, XC, XE, XF, Xy, Xz, O1, O2, O3, BG, (by first | exact mXyXF | omega), (by first | exact mXyBG | omega), (by first | exact mXzXF | omega), (by first | exact mXzBG | omega), (by first | exact nXyXz | omega), hHeld⟩
      refine ReadyL.cons (o := oq8_6_12) rfl (fun K hK => ?_) ReadyL.nil
      · delta oq8_6_12
        have lqXF : w.heap.size + 1 + 1 + 1 + 1 < Y8_84.heap.size := XF.lt
        have lqBG : V6.heap.size < Y8_84.heap.size := BG.lt
        have lXy : gXy < Y8_84.heap.size := Xy.lt
        have lXz : gXz < Y8_84.heap.size := Xz.lt
        go_simp
        have ba := (Below.refl Y8_84.heap.size Y8_84).alloc (Nat.le_refl _) (.cells #[.slice none 0 0] 24)
        replace XA := XA.below ba
        replace XB := XB.below ba
        replace XC := XC.below ba
        replace XE := XE.below ba
        replace XF := XF.below ba
        replace Xy := Xy.below ba
        replace Xz := Xz.below ba
        replace O1 := O1.below ba (Nat.le_refl _)
        replace O2 := O2.below ba (Nat.le_refl _)
        replace BG := BG.below ba BG.lt
        have bn := Blk.new Y8_84 24 #[.slice none 0 0]
        have Xx := VB.mk (B := w.heap.size) (a := 0) bn (.inr (Own.nil _ _ _ _ (Nat.zero_le _))) ba WW.size WW.size
        replace WW := WW.trans (ba.mono WW.size)
        have sz393 : Y8_84.heap.size < (Y8_84.alloc (.cells #[.slice none 0 0] 24)).heap.size := bn.lt
        refine hK.out _ _ (⟨XA.cell, XB.cell, XE.cell, XF.cell⟩) (fun hHeld2 => ?_)
        clear hK K hHeld
        (try simp only [oq8_6_12, Act.put, List.setIfInBounds_toArray, List.set_cons_zero, List.set_cons_succ])
        generalize hV : Y8_84.alloc (.cells #[.slice none 0 0] 24) = V393 at hHeld2 sz393 WW XA XB XC XE XF Xy Xz Xx O1 O2 BG ⊢
        clear hV ba bn
        have hHeld := hHeld2
        clear hHeld2
        obtain ⟨gXx, hg⟩ : ∃ x, x = Y8_84.heap.size := ⟨_, rfl⟩
        have mXxXF : w.heap.size + 1 + 1 + 1 + 1 < gXx := by omega
        have mXxBG : V6.heap.size < gXx := by omega
        have nXyXx : gXy ≠ gXx := by omega
        have nXzXx : gXz ≠ gXx := by omega
        rw [← hg] at Xx sz393 ⊢
        clear hg lqXF lqBG lXy lXz
        exact hst23 gXx gXy gXz D1 d1 D2 d2 V393 ⟨WW, XA, XB, XC, XE, XF, Xx, Xy, Xz, O1, O2, BG, (by first | exact mXxXF | omega), (by first | exact mXxBG | omega), (by first | exact mXyXF | omega), (by first | exact mXyBG | omega), (by first | exact mXzXF | omega), (by first | exact mXzBG | omega), (by first | exact nXxXy | omega), (by first | exact nXxXz | omega), (by first | exact nXyXz | omega), hHeld⟩
    case h1.h1.h1.h1.h1.h2 =>
      rintro gXx gXy gXz D1 d1 Y8_87 ⟨WW, XA, XB, XC, XE, XF, Xx, Xy, Xz, O1, BG, mXxXF, mXxBG, mXyXF, mXyBG, mXzXF, mXzBG, nXxXy, nXxXz, nXyXz, hHeld⟩
      refine AnyL_ready (rs := [7]) (by kernel_rfl) (by simp) ?_
      refine ReadyL.cons (o := oq8_6_7) rfl (fun K hK => ?_) ReadyL.nil
      delta oq8_6_7
      go_simp
      have hbs : w.heap.size ≤ Y8_87.heap.size := WW.size
      have hc := do_pow (w.heap.size + 1 + 1) (V6.heap.size) A E2 C' c f2 p a e2 m Y8_87 XA.num XF.num XC.num hm ha (by omega) XC.1 BG
      rw [← Hy.out] at hc
      refine hc.mono ?_
      clear hc
      rintro e V396 ⟨v, rfl, hv, hb⟩
      replace XA := XA.below hb
      replace XB := XB.below hb
      replace XC := XC.below hb
      replace XE := XE.below hb
      replace XF := XF.below hb
      replace Xx := Xx.below hb
      replace Xy := Xy.below hb
      replace Xz := Xz.below hb
      replace O1 := O1.below hb (Nat.le_refl _)
      replace BG := BG.below hb BG.lt
      replace WW := WW.trans (hb.mono WW.size)
      have sz396 := hb.size
      obtain ⟨D2, d2, rfl, ho⟩ := hv
      have O2 := ho.weak (b := w.heap.size) hbs
      clear ho
      clear hb hbs
      refine hK.out _ _ (⟨XA.cell, XB.cell, XE.cell, XF.cell⟩) (fun hHeld2 => ?_)
      clear hK K hHeld
      have hHeld := hHeld2
      clear hHeld2
      (try simp only [oq8_6_7, Act.put, List.setIfInBounds_toArray, List.set_cons_zero, List.set_cons_succ])
      exact hst23 gXx gXy gXz D1 d1 D2 d2 V396 ⟨WW, XA, XB, XC, XE, XF, Xx, Xy, Xz, O1, O2, BG, (by first | exact mXxXF | omega), (by first | exact mXxBG | omega), (by first | exact mXyXF | omega), (by first | exact mXyBG | omega), (by first | exact mXzXF | omega), (by first | exact mXzBG | omega), (by first | exact nXxXy | omega), (by first | exact nXxXz | omega), (by first | exact nXyXz | omega), hHeld⟩
    case h1.h1.h1.h1.h2 =>
      rintro gXx gXy D1 d1 D2 d2 D3 d3 Y8_89 ⟨WW, XA, XB, XC, XE, XF, Xx, Xy, O1, O2, O3, BG, mXxXF, mXxBG, mXyXF, mXyBG, nXxXy, hHeld⟩
      refine AnyL_ready (rs := [14]) (by kernel_rfl) (by simp) ?_
      refine ReadyL.cons (o := oq8_6_14) rfl (fun K hK => ?_) ReadyL.nil
      delta oq8_6_14
      have lqXF : w.heap.size + 1 + 1 + 1 + 1 < Y8_89.heap.size := XF.lt
      have lqBG : V6.heap.size < Y8_89.heap.size := BG.lt
      have lXx : gXx < Y8_89.heap.size := Xx.lt
      have lXy : gXy < Y8_89.heap.size := Xy.lt
      go_simp
      have ba := (Below.refl Y8_89.heap.size Y8_89).alloc (Nat.le_refl _) (.cells #[.slice none 0 0] 24)
      replace XA := XA.below ba
      replace XB := XB.below ba
      replace XC := XC.below ba
      replace XE := XE.below ba
      replace XF := XF.below ba
      replace Xx := Xx.below ba
      replace Xy := Xy.below ba
      replace O1 := O1.below ba (Nat.le_refl _)
      replace O2 := O2.below ba (Nat.le_refl _)
      replace O3 := O3.below ba (Nat.le_refl _)
      replace BG := BG.below ba BG.lt
      have bn := Blk.new Y8_89 24 #[.slice none 0 0]
      have Xz := VB.mk (B := w.heap.size) (a := 0) bn (.inr (Own.nil _ _ _ _ (Nat.zero_le _))) ba WW.size WW.size
      replace WW := WW.trans (ba.mono WW.size)
      have sz398 : Y8_89.heap.size < (Y8_89.alloc (.cells #[.slice none 0 0] 24)).heap.size := bn.lt
      refine hK.out _ _ (⟨XA.cell, XB.cell, XE.cell, XF.cell⟩) (fun hHeld2 => ?_)
      clear hK K hHeld
      (try simp only [oq8_6_14, Act.put, List.setIfInBounds_toArray, List.set_cons_zero, List.set_cons_succ])
      generalize hV : Y8_89.alloc (.cells #[.slice none 0 0] 24) = V398 at hHeld2 sz398 WW XA XB XC XE XF Xx Xy Xz O1 O2 O3 BG ⊢
      clear hV ba bn
      have hHeld := hHeld2
      clear hHeld2
      obtain ⟨gXz, hg⟩ : ∃ x, x = Y8_89.heap.size := ⟨_, rfl⟩
      have mXzXF : w.heap.size + 1 + 1 + 1 + 1 < gXz := by omega
      have mXzBG : V6.heap.size < gXz := by omega
      have nXxXz : gXx ≠ gXz := by omega
      have nXyXz : gXy ≠ gXz := by omega
      rw [← hg] at Xz sz398 ⊢
      clear hg lqXF lqBG lXx lXy
      exact hst24 gXx gXy gXz D1 d1 D2 d2 D3 d3 V398 ⟨WW, XA, XB, XC, XE, XF, Xx, Xy, Xz, O1, O2, O3, BG, (by first | exact mXxXF | omega), (by first | exact mXxBG | omega), (by first | exact mXyXF | omega), (by first | exact mXyBG | omega), (by first | exact mXzXF | omega), (by first | exact mXzBG | omega), (by first | exact nXxXy | omega), (by first | exact nXxXz | omega), (by first | exact nXyXz | omega), hHeld⟩
    case h1.h1.h1.h2 =>
      rintro gXx gXz D1 d1 D2 d2 D3 d3 Y8_91 ⟨WW, XA, XB, XC, XE, XF, Xx, Xz, O1, O2, O3, BG, mXxXF, mXxBG, mXzXF, mXzBG, nXxXz, hHeld⟩
      refine AnyL_ready (rs := [13]) (by kernel_rfl) (by simp) ?_
      refine ReadyL.cons (o := oq8_6_13) rfl (fun K hK => ?_) ReadyL.nil
      delta oq8_6_13
      have lqXF : w.heap.size + 1 + 1 + 1 + 1 < Y8_91.heap.size := XF.lt
      have lqBG : V6.heap.size < Y8_91.heap.size := BG.lt
      have lXx : gXx < Y8_91.heap.size := Xx.lt
      have lXz : gXz < Y8_91.heap.size := Xz.lt
      go_simp
      have ba := (Below.refl Y8_91.heap.size Y8_91).alloc (Nat.le_refl _) (.cells #[.slice none 0 0] 24)
      replace XA := XA.below ba
      replace XB := XB.below ba
      replace XC := XC.below ba
      replace XE := XE.below ba
      replace XF := XF.below ba
      replace Xx := Xx.below ba
      replace Xz := Xz.below ba
      replace O1 := O1.below ba (Nat.le_refl _)
      replace O2 := O2.below ba (Nat.le_refl _)
      replace O3 := O3.below ba (Nat.le_refl _)
      replace BG := BG.below ba BG.lt
      have bn := Blk.new Y8_91 24 #[.slice none 0 0]
      have Xy := VB.mk (B := w.heap.size) (a := 0) bn (.inr (Own.nil _ _ _ _ (Nat.zero_le _))) ba WW.size WW.size
      replace WW := WW.trans (ba.mono WW.size)
      have sz400 : Y8_91.heap.size < (Y8_91.alloc (.cells #[.slice none 0 0] 24)).heap.size := bn.lt
      refine hK.out _ _ (⟨XA.cell, XB.cell, XE.cell, XF.cell⟩) (fun hHeld2 => ?_)
      clear hK K hHeld
      (try simp only [oq8_6_13, Act.put, List.setIfInBounds_toArray, List.set_cons_zero, List.set_cons_succ])
      generalize hV : Y8_91.alloc (.cells #[.slice none 0 0] 24) = V400 at hHeld2 sz400 WW XA XB XC XE XF Xx Xz Xy O1 O2 O3 BG ⊢
      clear hV ba bn
      have hHeld := hHeld2
      clear hHeld2
      obtain ⟨gXy, hg⟩ : ∃ x, x = Y8_91.heap.size := ⟨_, rfl⟩
      have mXyXF : w.heap.size + 1 + 1 + 1 + 1 < gXy := by omega
      have mXyBG : V6.heap.size < gXy := by omega
      have nXxXy : gXx ≠ gXy := by omega
      have nXzXy : gXz ≠ gXy := by omega
      rw [← hg] at Xy sz400 ⊢
      clear hg lqXF lqBG lXx lXz
      exact hst24 gXx gXy gXz D1 d1 D2 d2 D3 d3 V400 ⟨WW, XA, XB, XC, XE, XF, Xx, Xy, Xz, O1, O2, O3, BG, (by first | exact mXxXF | omega), (by first | exact mXxBG | omega), (by first | exact mXyXF | omega), (by first | exact mXyBG | omega), (by first | exact mXzXF | omega), (by first | exact mXzBG | omega), (by first | exact nXxXy | omega), (by first | exact nXxXz | omega), (by first | exact nXyXz | omega), hHeld⟩
    case h1.h1.h2 =>
      rintro gXy gXz D1 d1 D2 d2 D3 d3 Y8_93 ⟨WW, XA, XB, XC, XE, XF, Xy, Xz, O1, O2, O3, BG, mXyXF, mXyBG, mXzXF, mXzBG, nXyXz, hHeld⟩
      refine AnyL_ready (rs := [12]) (by kernel_rfl) (by simp) ?_
      refine ReadyL.cons (o := oq8_6_12) rfl (fun K hK => ?_) ReadyL.nil
      delta oq8_6_12
      have lqXF : w.heap.size + 1 + 1 + 1 + 1 < Y8_93.heap.size := XF.lt
      have lqBG : V6.heap.size < Y8_93.heap.size := BG.lt
      have lXy : gXy < Y8_93.heap.size := Xy.lt
      have lXz : gXz < Y8_93.heap.size := Xz.lt
      go_simp
      have ba := (Below.refl Y8_93.heap.size Y8_93).alloc (Nat.le_refl _) (.cells #[.slice none 0 0] 24)
      replace XA := XA.below ba
      replace XB := XB.below ba
      replace XC := XC.below ba
      replace XE := XE.below ba
      replace XF := XF.below ba
      replace Xy := Xy.below ba
      replace Xz := Xz.below ba
      replace O1 := O1.below ba (Nat.le_refl _)
      replace O2 := O2.below ba (Nat.le_refl _)
      replace O3 := O3.below ba (Nat.le_refl _)
      replace BG := BG.below ba BG.lt
      have bn := Blk.new Y8_93 24 #[.slice none 0 0]
      have Xx := VB.mk (B := w.heap.size) (a := 0) bn (.inr (Own.nil _ _ _ _ (Nat.zero_le _))) ba WW.size WW.size
      replace WW := WW.trans (ba.mono WW.size)
      have sz402 : Y8_93.heap.size < (Y8_93.alloc (.cells #[.slice none 0 0] 24)).heap.size := bn.lt
      refine hK.out _ _ (⟨XA.cell, XB.cell, XE.cell, XF.cell⟩) (fun hHeld2 => ?_)
      clear hK K hHeld
      (try simp only [oq8_6_12, Act.put, List.setIfInBounds_toArray, List.set_cons_zero, List.set_cons_succ])
      generalize hV : Y8_93.alloc (.cells #[.slice none 0 0] 24) = V402 at hHeld2 sz402 WW XA XB XC XE XF Xy Xz Xx O1 O2 O3 BG ⊢
      clear hV ba bn
      have hHeld := hHeld2
      clear hHeld2
      obtain ⟨gXx, hg⟩ : ∃ x, x = Y8_93.heap.size := ⟨_, rfl⟩
      have mXxXF : w.heap.size + 1 + 1 + 1 + 1 < gXx := by omega
      have mXxBG : V6.heap.size < gXx := by omega
      have nXyXx : gXy ≠ gXx := by omega
      have nXzXx : gXz ≠ gXx := by omega
      rw [← hg] at Xx sz402 ⊢
      clear hg lqXF lqBG lXy lXz
      exact hst24 gXx gXy gXz D1 d1 D2 d2 D3 d3 V402 ⟨WW, XA, XB, XC, XE, XF, Xx, Xy, Xz, O1, O2, O3, BG, (by first | exact mXxXF | omega), (by first | exact mXxBG | omega), (by first | exact mXyXF | omega), (by first | exact mXyBG | omega), (by first | exact mXzXF | omega), (by first | exact mXzBG | omega), (by first | exact nXxXy | omega), (by first | exact nXxXz | omega), (by first | exact nXyXz | omega), hHeld⟩
    case h1.h2 =>
      rintro gXx gXy gXz D1 d1 D2 d2 Y8_95 ⟨WW, XA, XB, XC, XE, XF, Xx, Xy, Xz, O1, O2, BG, mXxXF, mXxBG, mXyXF, mXyBG, mXzXF, mXzBG, nXxXy, nXxXz, nXyXz, hHeld⟩
      refine AnyL_ready (rs := [11]) (by kernel_rfl) (by simp) ?_
      refine ReadyL.cons (o := oq8_6_11) rfl (fun K hK => ?_) ReadyL.nil
      delta oq8_6_11
      go_simp
      have hbs : w.heap.size ≤ Y8_95.heap.size := WW.size
      have hc := do_pow (w.heap.size + 1 + 1) (V6.heap.size) B' E C' d f p b e m Y8_95 XB.num XE.num XC.num hm hb_ (by omega) XC.1 BG
      rw [← Hz.out] at hc
      refine hc.mono ?_
      clear hc
      rintro e V404 ⟨v, rfl, hv, hb⟩
      replace XA := XA.below hb
      replace XB := XB.below hb
      replace XC := XC.below hb
      replace XE := XE.below hb
      replace XF := XF.below hb
      replace Xx := Xx.below hb
      replace Xy := Xy.below hb
      replace Xz := Xz.below hb
      replace O1 := O1.below hb (Nat.le_refl _)
      replace O2 := O2.below hb (Nat.le_refl _)
      replace BG := BG.below hb BG.lt
      replace WW := WW.trans (hb.mono WW.size)
      have sz404 := hb.size
      obtain ⟨D3, d3, rfl, ho⟩ := hv
      have O3 := ho.weak (b := w.heap.size) hbs
      clear ho
      clear hb hbs
      refine hK.out _ _ (⟨XA.cell, XB.cell, XE.cell, XF.cell⟩) (fun hHeld2 => ?_)
      clear hK K hHeld
      have hHeld := hHeld2
      clear hHeld2
      (try simp only [oq8_6_11, Act.put, List.setIfInBounds_toArray, List.set_cons_zero, List.set_cons_succ])
      exact hst24 gXx gXy gXz D1 d1 D2 d2 D3 d3 V404 ⟨WW, XA, XB, XC, XE, XF, Xx, Xy, Xz, O1, O2, O3, BG, (by first | exact mXxXF | omega), (by first | exact mXxBG | omega), (by first | exact mXyXF | omega), (by first | exact mXyBG | omega), (by first | exact mXzXF | omega), (by first | exact mXzBG | omega), (by first | exact nXxXy | omega), (by first | exact nXxXz | omega), (by first | exact nXyXz | omega), hHeld⟩
    case h2 =>
      rintro gXx gXy gXz D1 d1 D2 d2 D3 d3 Y8_97 ⟨WW, XA, XB, XC, XE, XF, Xx, Xy, Xz, O1, O2, O3, BG, mXxXF, mXxBG, mXyXF, mXyBG, mXzXF, mXzBG, nXxXy, nXxXz, nXyXz, hHeld⟩
      refine AnyL_ready (rs := [15]) (by kernel_rfl) (by simp) ?_
      refine ReadyL.cons (o := oq8_6_15) rfl (fun K hK => ?_) ReadyL.nil
      delta oq8_6_15
      have fz := Xx.1.frozen 0
      have cz := Xx.cell
      have lz := Xx.lt
      go_simp
      have Xxn := Xx.set_ (A' := D1) (n' := (nw x)) (c' := d1) (a' := x) (.inr O1)
      replace XA := XA.far (p := ⟨gXx, 0, none⟩) Xx.1 Xx.2.2 (by simp <;> omega) (.slice D1 (nw x) d1)
      replace XB := XB.far (p := ⟨gXx, 0, none⟩) Xx.1 Xx.2.2 (by simp <;> omega) (.slice D1 (nw x) d1)
      replace XC := XC.far (p := ⟨gXx, 0, none⟩) Xx.1 Xx.2.2 (by simp <;> omega) (.slice D1 (nw x) d1)
      replace XE := XE.far (p := ⟨gXx, 0, none⟩) Xx.1 Xx.2.2 (by simp <;> omega) (.slice D1 (nw x) d1)
      replace XF := XF.far (p := ⟨gXx, 0, none⟩) Xx.1 Xx.2.2 (by simp <;> omega) (.slice D1 (nw x) d1)
      replace Xy := Xy.far (p := ⟨gXx, 0, none⟩) Xx.1 Xx.2.2 (by simp <;> omega) (.slice D1 (nw x) d1)
      replace Xz := Xz.far (p := ⟨gXx, 0, none⟩) Xx.1 Xx.2.2 (by simp <;> omega) (.slice D1 (nw x) d1)
      replace O1 := O1.box (p := ⟨gXx, 0, none⟩) Xx.1 (by decide) (.slice D1 (nw x) d1)
      replace O2 := O2.box (p := ⟨gXx, 0, none⟩) Xx.1 (by decide) (.slice D1 (nw x) d1)
      replace O3 := O3.box (p := ⟨gXx, 0, none⟩) Xx.1 (by decide) (.slice D1 (nw x) d1)
      replace BG := BG.far (p := ⟨gXx, 0, none⟩) (by simp <;> omega) (.slice D1 (nw x) d1)
      replace Xx := Xxn
      clear Xxn
      replace WW := WW.setCell (p := ⟨gXx, 0, none⟩) (by simp <;> omega) (.slice D1 (nw x) d1)
      refine hK.out _ _ (⟨XA.cell, XB.cell, XE.cell, XF.cell⟩) (fun hHeld2 => ?_)
      clear hK K hHeld
      (try simp only [oq8_6_15, Act.put, List.setIfInBounds_toArray, List.set_cons_zero, List.set_cons_succ])
      generalize hV : Y8_97.setCell ⟨gXx, 0, none⟩ (.slice D1 (nw x) d1) = V406 at hHeld2 WW XA XB XC XE XF Xx Xy Xz O1 O2 O3 BG ⊢
      clear hV fz cz lz
      have hHeld := hHeld2
      clear hHeld2
      refine AnyL_ready (rs := [16]) (by kernel_rfl) (by simp) ?_
      refine ReadyL.cons (o := oq8_6_16) rfl (fun K hK => ?_) ReadyL.nil
      delta oq8_6_16
      have fz := Xy.1.frozen 0
      have cz := Xy.cell
      have lz := Xy.lt
      go_simp
      have Xyn := Xy.set_ (A' := D2) (n' := (nw y)) (c' := d2) (a' := y) (.inr O2)
      replace XA := XA.far (p := ⟨gXy, 0, none⟩) Xy.1 Xy.2.2 (by simp <;> omega) (.slice D2 (nw y) d2)
      replace XB := XB.far (p := ⟨gXy, 0, none⟩) Xy.1 Xy.2.2 (by simp <;> omega) (.slice D2 (nw y) d2)
      replace XC := XC.far (p := ⟨gXy, 0, none⟩) Xy.1 Xy.2.2 (by simp <;> omega) (.slice D2 (nw y) d2)
      replace XE := XE.far (p := ⟨gXy, 0, none⟩) Xy.1 Xy.2.2 (by simp <;> omega) (.slice D2 (nw y) d2)
      replace XF := XF.far (p := ⟨gXy, 0, none⟩) Xy.1 Xy.2.2 (by simp <;> omega) (.slice D2 (nw y) d2)
      replace Xx := Xx.far (p := ⟨gXy, 0, none⟩) Xy.1 Xy.2.2 (by simp <;> omega) (.slice D2 (nw y) d2)
      replace Xz := Xz.far (p := ⟨gXy, 0, none⟩) Xy.1 Xy.2.2 (by simp <;> omega) (.slice D2 (nw y) d2)
      replace O1 := O1.box (p := ⟨gXy, 0, none⟩) Xy.1 (by decide) (.slice D2 (nw y) d2)
      replace O2 := O2.box (p := ⟨gXy, 0, none⟩) Xy.1 (by decide) (.slice D2 (nw y) d2)
      replace O3 := O3.box (p := ⟨gXy, 0, none⟩) Xy.1 (by decide) (.slice D2 (nw y) d2)
      replace BG := BG.far (p := ⟨gXy, 0, none⟩) (by simp <;> omega) (.slice D2 (nw y) d2)
      replace Xy := Xyn
      clear Xyn
      replace WW := WW.setCell (p := ⟨gXy, 0, none⟩) (by simp <;> omega) (.slice D2 (nw y) d2)
      refine hK.out _ _ (⟨XA.cell, XB.cell, XE.cell, XF.cell⟩) (fun hHeld2 => ?_)
      clear hK K hHeld
      (try simp only [oq8_6_16, Act.put, List.setIfInBounds_toArray, List.set_cons_zero, List.set_cons_succ])
      generalize hV : V406.setCell ⟨gXy, 0, none⟩ (.slice D2 (nw y) d2) = V407 at hHeld2 WW XA XB XC XE XF Xx Xy Xz O1 O2 O3 BG ⊢
      clear hV fz cz lz
      have hHeld := hHeld2
      clear hHeld2
      refine AnyL_ready (rs := [17]) (by kernel_rfl) (by simp) ?_
      refine ReadyL.cons (o := oq8_6_17) rfl (fun K hK => ?_) ReadyL.nil
      delta oq8_6_17
      have fz := Xz.1.frozen 0
      have cz := Xz.cell
      have lz := Xz.lt
      go_simp
      have Xzn := Xz.set_ (A' := D3) (n' := (nw z)) (c' := d3) (a' := z) (.inr O3)
      replace XA := XA.far (p := ⟨gXz, 0, none⟩) Xz.1 Xz.2.2 (by simp <;> omega) (.slice D3 (nw z) d3)
      replace XB := XB.far (p := ⟨gXz, 0, none⟩) Xz.1 Xz.2.2 (by simp <;> omega) (.slice D3 (nw z) d3)
      replace XC := XC.far (p := ⟨gXz, 0, none⟩) Xz.1 Xz.2.2 (by simp <;> omega) (.slice D3 (nw z) d3)
      replace XE := XE.far (p := ⟨gXz, 0, none⟩) Xz.1 Xz.2.2 (by simp <;> omega) (.slice D3 (nw z) d3)
      replace XF := XF.far (p := ⟨gXz, 0, none⟩) Xz.1 Xz.2.2 (by simp <;> omega) (.slice D3 (nw z) d3)
      replace Xx := Xx.far (p := ⟨gXz, 0, none⟩) Xz.1 Xz.2.2 (by simp <;> omega) (.slice D3 (nw z) d3)
      replace Xy := Xy.far (p := ⟨gXz, 0, none⟩) Xz.1 Xz.2.2 (by simp <;> omega) (.slice D3 (nw z) d3)
      replace O1 := O1.box (p := ⟨gXz, 0, none⟩) Xz.1 (by decide) (.slice D3 (nw z) d3)
      replace O2 := O2.box (p := ⟨gXz, 0, none⟩) Xz.1 (by decide) (.slice D3 (nw z) d3)
      replace O3 := O3.box (p := ⟨gXz, 0, none⟩) Xz.1 (by decide) (.slice D3 (nw z) d3)
      replace BG := BG.far (p := ⟨gXz, 0, none⟩) (by simp <;> omega) (.slice D3 (nw z) d3)
      replace Xz := Xzn
      clear Xzn
      replace WW := WW.setCell (p := ⟨gXz, 0, none⟩) (by simp <;> omega) (.slice D3 (nw z) d3)
      refine hK.out _ _ (⟨XA.cell, XB.cell, XE.cell, XF.cell⟩) (fun hHeld2 => ?_)
      clear hK K hHeld
      (try simp only [oq8_6_17, Act.put, List.setIfInBounds_toArray, List.set_cons_zero, List.set_cons_succ])
      generalize hV : V407.setCell ⟨gXz, 0, none⟩ (.slice D3 (nw z) d3) = V408 at hHeld2 WW XA XB XC XE XF Xx Xy Xz O1 O2 O3 BG ⊢
      clear hV fz cz lz
      have hHeld := hHeld2
      clear hHeld2
      refine AnyL_done (by kernel_rfl) ?_ _
      clear hHeld
      refine NoPanic.normal ?_
      exact ⟨rfl, gXx, gXy, gXz, D1, d1, D2, d2, D3, d3, rfl, WW, XA, XB, XC, XE, XF, Xx, Xy, Xz, O1, O2, O3, BG, (by first | exact mXxXF | omega), (by first | exact mXxBG | omega), (by first | exact mXyXF | omega), (by first | exact mXyBG | omega), (by first | exact mXzXF | omega), (by first | exact mXzBG | omega), (by first | exact nXxXy | omega), (by first | exact nXxXz | omega), (by first | exact nXyXz | omega)⟩
  rintro gXx gXy gXz D1 d1 D2 d2 D3 d3 V57 ⟨WW, XA, XB, XC, XE, XF, Xx, Xy, Xz, O1, O2, O3, BG, mXxXF, mXxBG, mXyXF, mXyBG, mXzXF, mXzBG, nXxXy, nXxXz, nXyXz⟩
  have kXA := XA.cell
  have zXA := XA.lt
  have kXB := XB.cell
  have zXB := XB.lt
  have kXC := XC.cell
  have zXC := XC.lt
  have kXE := XE.cell
  have zXE := XE.lt
  have kXF := XF.cell
  have zXF := XF.lt
  have kXx := Xx.cell
  have zXx := Xx.lt
  have kXy := Xy.cell
  have zXy := Xy.lt
  have kXz := Xz.cell
  have zXz := Xz.lt
  have kBG := BG.cell0
  have zBG := BG.lt
  go_wp2_with fail
  clear kXA zXA kXB zXB kXC zXC kXE zXE kXF zXF kXx zXx kXy zXy kXz zXz kBG zBG
  apply wp_landZ2 (R := fun gXs gXp D4 d4 D5 d5 w1 => Below w.heap.size w w1 ∧ VB w.heap.size w1 (w.heap.size) A (nw a) c a ∧ VB w.heap.size w1 (w.heap.size + 1) B' (nw b) d b ∧ VB w.heap.size w1 (w.heap.size + 1 + 1) C' (nw m) p m ∧ VB w.heap.size w1 (w.heap.size + 1 + 1 + 1) E (nw e) f e ∧ VB w.heap.size w1 (w.heap.size + 1 + 1 + 1 + 1) E2 (nw e2) f2 e2 ∧ VB w.heap.size w1 (gXx) D1 (nw x) d1 x ∧ VB w.heap.size w1 (gXy) D2 (nw y) d2 y ∧ VB w.heap.size w1 (gXz) D3 (nw z) d3 z ∧ VB w.heap.size w1 (gXs) D4 (nw t1) d4 t1 ∧ VB w.heap.size w1 (gXp) D5 (nw t2) d5 t2 ∧ Own w1 w.heap.size D1 (nw x) d1 x ∧ Own w1 w.heap.size D2 (nw y) d2 y ∧ Own w1 w.heap.size D3 (nw z) d3 z ∧ Own w1 w.heap.size D4 (nw t1) d4 t1 ∧ Own w1 w.heap.size D5 (nw t2) d5 t2 ∧ Blk w1 (V6.heap.size) 4 #[.bool true] ∧ gXx < gXs ∧ gXy < gXs ∧ gXz < gXs ∧ w.heap.size + 1 + 1 + 1 + 1 < gXs ∧ V6.heap.size < gXs ∧ gXx < gXp ∧ gXy < gXp ∧ gXz < gXp ∧ w.heap.size + 1 + 1 + 1 + 1 < gXp ∧ V6.heap.size < gXp ∧ gXs ≠ gXp)
  case hreg =>
    refine wp_region_noPanic ?_
    have hst : (fun w' => w'.cell? ⟨w.heap.size + 1 + 1 + 1, 0, none⟩ = some (.slice E (nw e) f) ∧ w'.cell? ⟨w.heap.size + 1 + 1 + 1 + 1, 0, none⟩ = some (.slice E2 (nw e2) f2)) V57.drew := ⟨XE.cell, XF.cell⟩
    replace WW := WW.drew
    replace XA := XA.drew
    replace XB := XB.drew
    replace XC := XC.drew
    replace XE := XE.drew
    replace XF := XF.drew
    replace Xx := Xx.drew
    replace Xy := Xy.drew
    replace Xz := Xz.drew
    replace O1 := O1.drew
    replace O2 := O2.drew
    replace O3 := O3.drew
    replace BG : Blk V57.drew (V6.heap.size) 4 #[.bool true] := BG
    have qq0 := Xz.lt
    refine region_L 17 (fun w' => w'.cell? ⟨w.heap.size + 1 + 1 + 1, 0, none⟩ = some (.slice E (nw e) f) ∧ w'.cell? ⟨w.heap.size + 1 + 1 + 1 + 1, 0, none⟩ = some (.slice E2 (nw e2) f2)) (by kernel_rfl) hst (fun hHeld => ?_)
    clear hst
    generalize hV : V57.drew = U57x0 at hHeld WW qq0 XA XB XC XE XF Xx Xy Xz O1 O2 O3 BG ⊢
    clear hV
    apply cut_nnanan (n := 2) (l := #[true, true, true, true, true, true, true, true, false, false]) (R := fun gXs gXp D4 d4 D5 d5 W => Below w.heap.size w W ∧ VB w.heap.size W (w.heap.size) A (nw a) c a ∧ VB w.heap.size W (w.heap.size + 1) B' (nw b) d b ∧ VB w.heap.size W (w.heap.size + 1 + 1) C' (nw m) p m ∧ VB w.heap.size W (w.heap.size + 1 + 1 + 1) E (nw e) f e ∧ VB w.heap.size W (w.heap.size + 1 + 1 + 1 + 1) E2 (nw e2) f2 e2 ∧ VB w.heap.size W (gXx) D1 (nw x) d1 x ∧ VB w.heap.size W (gXy) D2 (nw y) d2 y ∧ VB w.heap.size W (gXz) D3 (nw z) d3 z ∧ VB w.heap.size W (gXs) none 0 0 0 ∧ VB w.heap.size W (gXp) none 0 0 0 ∧ Own W w.heap.size D1 (nw x) d1 x ∧ Own W w.heap.size D2 (nw y) d2 y ∧ Own W w.heap.size D3 (nw z) d3 z ∧ Own W w.heap.size D4 (nw t1) d4 t1 ∧ Own W w.heap.size D5 (nw t2) d5 t2 ∧ Blk W (V6.heap.size) 4 #[.bool true] ∧ gXx < gXs ∧ gXy < gXs ∧ gXz < gXs ∧ w.heap.size + 1 + 1 + 1 + 1 < gXs ∧ V6.heap.size < gXs ∧ gXx < gXp ∧ gXy < gXp ∧ gXz < gXp ∧ w.heap.size + 1 + 1 + 1 + 1 < gXp ∧ V6.heap.size < gXp ∧ gXs ≠ gXp ∧ (fun w' => w'.cell? ⟨w.heap.size + 1 + 1 + 1, 0, none⟩ = some (.slice E (nw e) f) ∧ w'.cell? ⟨w.heap.size + 1 + 1 + 1 + 1, 0, none⟩ = some (.slice E2 (nw e2) f2)) W)
    intro hst6
    apply cut_nnan (n := 3) (l := #[true, true, true, true, true, false, true, true, false, false]) (R := fun gXs gXp D4 d4 W => Below w.heap.size w W ∧ VB w.heap.size W (w.heap.size) A (nw a) c a ∧ VB w.heap.size W (w.heap.size + 1) B' (nw b) d b ∧ VB w.heap.size W (w.heap.size + 1 + 1) C' (nw m) p m ∧ VB w.heap.size W (w.heap.size + 1 + 1 + 1) E (nw e) f e ∧ VB w.heap.size W (w.heap.size + 1 + 1 + 1 + 1) E2 (nw e2) f2 e2 ∧ VB w.heap.size W (gXx) D1 (nw x) d1 x ∧ VB w.heap.size W (gXy) D2 (nw y) d2 y ∧ VB w.heap.size W (gXz) D3 (nw z) d3 z ∧ VB w.heap.size W (gXs) none 0 0 0 ∧ VB w.heap.size W (gXp) none 0 0 0 ∧ Own W w.heap.size D1 (nw x) d1 x ∧ Own W w.heap.size D2 (nw y) d2 y ∧ Own W w.heap.size D3 (nw z) d3 z ∧ Own W w.heap.size D4 (nw t1) d4 t1 ∧ Blk W (V6.heap.size) 4 #[.bool true] ∧ gXx < gXs ∧ gXy < gXs ∧ gXz < gXs ∧ w.heap.size + 1 + 1 + 1 + 1 < gXs ∧ V6.heap.size < gXs ∧ gXx < gXp ∧ gXy < gXp ∧ gXz < gXp ∧ w.heap.size + 1 + 1 + 1 + 1 < gXp ∧ V6.heap.size < gXp ∧ gXs ≠ gXp ∧ (fun w' => w'.cell? ⟨w.heap.size + 1 + 1 + 1, 0, none⟩ = some (.slice E (nw e) f) ∧ w'.cell? ⟨w.heap.size + 1 + 1 + 1 + 1, 0, none⟩ = some (.slice E2 (nw e2) f2)) W)
    intro hst5
    apply cut_nanan (n := 3) (l := #[true, true, true, true, true, true, false, true, false, false]) (R := fun gXp D4 d4 D5 d5 W => Below w.heap.size w W ∧ VB w.heap.size W (w.heap.size) A (nw a) c a ∧ VB w.heap.size W (w.heap.size + 1) B' (nw b) d b ∧ VB w.heap.size W (w.heap.size + 1 + 1) C' (nw m) p m ∧ VB w.heap.size W (w.heap.size + 1 + 1 + 1) E (nw e) f e ∧ VB w.heap.size W (w.heap.size + 1 + 1 + 1 + 1) E2 (nw e2) f2 e2 ∧ VB w.heap.size W (gXx) D1 (nw x) d1 x ∧ VB w.heap.size W (gXy) D2 (nw y) d2 y ∧ VB w.heap.size W (gXz) D3 (nw z) d3 z ∧ VB w.heap.size W (gXp) none 0 0 0 ∧ Own W w.heap.size D1 (nw x) d1 x ∧ Own W w.heap.size D2 (nw y) d2 y ∧ Own W w.heap.size D3 (nw z) d3 z ∧ Own W w.heap.size D4 (nw t1) d4 t1 ∧ Own W w.heap.size D5 (nw t2) d5 t2 ∧ Blk W (V6.heap.size) 4 #[.bool true] ∧ gXx < gXp ∧ gXy < gXp ∧ gXz < gXp ∧ w.heap.size + 1 + 1 + 1 + 1 < gXp ∧ V6.heap.size < gXp ∧ (fun w' => w'.cell? ⟨w.heap.size + 1 + 1 + 1, 0, none⟩ = some (.slice E (nw e) f) ∧ w'.cell? ⟨w.heap.size + 1 + 1 + 1 + 1, 0, none⟩ = some (.slice E2 (nw e2) f2)) W)
    intro hst4
    apply cut_nanan (n := 3) (l := #[true, true, true, true, true, true, true, false, false, false]) (R := fun gXs D4 d4 D5 d5 W => Below w.heap.size w W ∧ VB w.heap.size W (w.heap.size) A (nw a) c a ∧ VB w.heap.size W (w.heap.size + 1) B' (nw b) d b ∧ VB w.heap.size W (w.heap.size + 1 + 1) C' (nw m) p m ∧ VB w.heap.size W (w.heap.size + 1 + 1 + 1) E (nw e) f e ∧ VB w.heap.size W (w.heap.size + 1 + 1 + 1 + 1) E2 (nw e2) f2 e2 ∧ VB w.heap.size W (gXx) D1 (nw x) d1 x ∧ VB w.heap.size W (gXy) D2 (nw y) d2 y ∧ VB w.heap.size W (gXz) D3 (nw z) d3 z ∧ VB w.heap.size W (gXs) none 0 0 0 ∧ Own W w.heap.size D1 (nw x) d1 x ∧ Own W w.heap.size D2 (nw y) d2 y ∧ Own W w.heap.size D3 (nw z) d3 z ∧ Own W w.heap.size D4 (nw t1) d4 t1 ∧ Own W w.heap.size D5 (nw t2) d5 t2 ∧ Blk W (V6.heap.size) 4 #[.bool true] ∧ gXx < gXs ∧ gXy < gXs ∧ gXz < gXs ∧ w.heap.size + 1 + 1 + 1 + 1 < gXs ∧ V6.heap.size < gXs ∧ (fun w' => w'.cell? ⟨w.heap.size + 1 + 1 + 1, 0, none⟩ = some (.slice E (nw e) f) ∧ w'.cell? ⟨w.heap.size + 1 + 1 + 1 + 1, 0, none⟩ = some (.slice E2 (nw e2) f2)) W)
    intro hst3
    apply cut_nn (n := 4) (l := #[true, true, false, true, true, false, true, true, false, false]) (R := fun gXs gXp W => Below w.heap.size w W ∧ VB w.heap.size W (w.heap.size) A (nw a) c a ∧ VB w.heap.size W (w.heap.size + 1) B' (nw b) d b ∧ VB w.heap.size W (w.heap.size + 1 + 1) C' (nw m) p m ∧ VB w.heap.size W (w.heap.size + 1 + 1 + 1) E (nw e) f e ∧ VB w.heap.size W (w.heap.size + 1 + 1 + 1 + 1) E2 (nw e2) f2 e2 ∧ VB w.heap.size W (gXx) D1 (nw x) d1 x ∧ VB w.heap.size W (gXy) D2 (nw y) d2 y ∧ VB w.heap.size W (gXz) D3 (nw z) d3 z ∧ VB w.heap.size W (gXs) none 0 0 0 ∧ VB w.heap.size W (gXp) none 0 0 0 ∧ Own W w.heap.size D1 (nw x) d1 x ∧ Own W w.heap.size D2 (nw y) d2 y ∧ Own W w.heap.size D3 (nw z) d3 z ∧ Blk W (V6.heap.size) 4 #[.bool true] ∧ gXx < gXs ∧ gXy < gXs ∧ gXz < gXs ∧ w.heap.size + 1 + 1 + 1 + 1 < gXs ∧ V6.heap.size < gXs ∧ gXx < gXp ∧ gXy < gXp ∧ gXz < gXp ∧ w.heap.size + 1 + 1 + 1 + 1 < gXp ∧ V6.heap.size < gXp ∧ gXs ≠ gXp ∧ (fun w' => w'.cell? ⟨w.heap.size + 1 + 1 + 1, 0, none⟩ = some (.slice E (nw e) f) ∧ w'.cell? ⟨w.heap.size + 1 + 1 + 1 + 1, 0, none⟩ = some (.slice E2 (nw e2) f2)) W)
    intro hst2
    apply cut_nan (n := 4) (l := #[true, true, true, true, true, false, false, true, false, false]) (R := fun gXp D4 d4 W => Below w.heap.size w W ∧ VB w.heap.size W (w.heap.size) A (nw a) c a ∧ VB w.heap.size W (w.heap.size + 1) B' (nw b) d b ∧ VB w.heap.size W (w.heap.size + 1 + 1) C' (nw m) p m ∧ VB w.heap.size W (w.heap.size + 1 + 1 + 1) E (nw e) f e ∧ VB w.heap.size W (w.heap.size + 1 + 1 + 1 + 1) E2 (nw e2) f2 e2 ∧ VB w.heap.size W (gXx) D1 (nw x) d1 x ∧ VB w.heap.size W (gXy) D2 (nw y) d2 y ∧ VB w.heap.size W (gXz) D3 (nw z) d3 z ∧ VB w.heap.size W (gXp) none 0 0 0 ∧ Own W w.heap.size D1 (nw x) d1 x ∧ Own W w.heap.size D2 (nw y) d2 y ∧ Own W w.heap.size D3 (nw z) d3 z ∧ Own W w.heap.size D4 (nw t1) d4 t1 ∧ Blk W (V6.heap.size) 4 #[.bool true] ∧ gXx < gXp ∧ gXy < gXp ∧ gXz < gXp ∧ w.heap.size + 1 + 1 + 1 + 1 < gXp ∧ V6.heap.size < gXp ∧ (fun w' => w'.cell? ⟨w.heap.size + 1 + 1 + 1, 0, none⟩ = some (.slice E (nw e) f) ∧ w'.cell? ⟨w.heap.size + 1 + 1 + 1 + 1, 0, none⟩ = some (.slice E2 (nw e2) f2)) W)
    intro hst1
    apply cut_nan (n := 4) (l := #[true, true, true, true, true, false, true, false, false, false]) (R := fun gXs D4 d4 W => Below w.heap.size w W ∧ VB w.heap.size W (w.heap.size) A (nw a) c a ∧ VB w.heap.size W (w.heap.size + 1) B' (nw b) d b ∧ VB w.heap.size W (w.heap.size + 1 + 1) C' (nw m) p m ∧ VB w.heap.size W (w.heap.size + 1 + 1 + 1) E (nw e) f e ∧ VB w.heap.size W (w.heap.size + 1 + 1 + 1 + 1) E2 (nw e2) f2 e2 ∧ VB w.heap.size W (gXx) D1 (nw x) d1 x ∧ VB w.heap.size W (gXy) D2 (nw y) d2 y ∧ VB w.heap.size W (gXz) D3 (nw z) d3 z ∧ VB w.heap.size W (gXs) none 0 0 0 ∧ Own W w.heap.size D1 (nw x) d1 x ∧ Own W w.heap.size D2 (nw y) d2 y ∧ Own W w.heap.size D3 (nw z) d3 z ∧ Own W w.heap.size D4 (nw t1) d4 t1 ∧ Blk W (V6.heap.size) 4 #[.bool true] ∧ gXx < gXs ∧ gXy < gXs ∧ gXz < gXs ∧ w.heap.size + 1 + 1 + 1 + 1 < gXs ∧ V6.heap.size < gXs ∧ (fun w' => w'.cell? ⟨w.heap.size + 1 + 1 + 1, 0, none⟩ = some (.slice E (nw e) f) ∧ w'.cell? ⟨w.heap.size + 1 + 1 + 1 + 1, 0, none⟩ = some (.slice E2 (nw e2) f2)) W)
    intro hst0
    · refine AnyL_name (fun W' => Below w.heap.size w W' ∧ VB w.heap.size W' (w.heap.size) A (nw a) c a ∧ VB w.heap.size W' (w.heap.size + 1) B' (nw b) d b ∧ VB w.heap.size W' (w.heap.size + 1 + 1) C' (nw m) p m ∧ VB w.heap.size W' (w.heap.size + 1 + 1 + 1) E (nw e) f e ∧ VB w.heap.size W' (w.heap.size + 1 + 1 + 1 + 1) E2 (nw e2) f2 e2 ∧ VB w.heap.size W' (gXx) D1 (nw x) d1 x ∧ VB w.heap.size W' (gXy) D2 (nw y) d2 y ∧ VB w.heap.size W' (gXz) D3 (nw z) d3 z ∧ Own W' w.heap.size D1 (nw x) d1 x ∧ Own W' w.heap.size D2 (nw y) d2 y ∧ Own W' w.heap.size D3 (nw z) d3 z ∧ Blk W' (V6.heap.size) 4 #[.bool true] ∧ (fun w' => w'.cell? ⟨w.heap.size + 1 + 1 + 1, 0, none⟩ = some (.slice E (nw e) f) ∧ w'.cell? ⟨w.heap.size + 1 + 1 + 1 + 1, 0, none⟩ = some (.slice E2 (nw e2) f2)) W') ⟨WW, XA, XB, XC, XE, XF, Xx, Xy, Xz, O1, O2, O3, BG, hHeld⟩ ?_
      rintro Z58 ⟨WW, XA, XB, XC, XE, XF, Xx, Xy, Xz, O1, O2, O3, BG, hHeld⟩
      refine AnyL_take (i := 0) (oi := oq8_7_0) (v := ?_) rfl (by kernel_rfl) (by kernel_rfl) (by kernel_rfl) (by kernel_rfl) (fun _ _ _ h => h) (Or.inl ⟨by rfl, ?_⟩) (by assumption) ?_
      rotate_left
      · (delta oq8_7_0; intro ws hSw; (try dsimp only at hSw); (try go_simp); (try with_reducible rfl))
      (try simp only [oq8_7_0, Act.put, List.setIfInBounds_toArray, List.set_cons_zero, List.set_cons_succ])
      refine AnyL_take (i := 1) (oi := oq8_7_1) (v := ?_) rfl (by kernel_rfl) (by kernel_rfl) (by kernel_rfl) (by kernel_rfl) (fun _ _ _ h => h) (Or.inl ⟨by rfl, ?_⟩) (by assumption) ?_
      rotate_left
      · (delta oq8_7_1; intro ws hSw; (try dsimp only at hSw); (try go_simp); (try with_reducible rfl))
      (try simp only [oq8_7_1, Act.put, List.setIfInBounds_toArray, List.set_cons_zero, List.set_cons_succ])
      refine AnyL_take (i := 3) (oi := oq8_7_3) (v := ?_) rfl (by kernel_rfl) (by kernel_rfl) (by kernel_rfl) (by kernel_rfl) (fun _ _ _ h => h) (Or.inl ⟨by rfl, ?_⟩) (by assumption) ?_
      rotate_left
      · (delta oq8_7_3; intro ws hSw; (try dsimp only at hSw); (try go_simp); (try with_reducible rfl))
      (try simp only [oq8_7_3, Act.put, List.setIfInBounds_toArray, List.set_cons_zero, List.set_cons_succ])
      refine AnyL_take (i := 4) (oi := oq8_7_4) (v := ?_) rfl (by kernel_rfl) (by kernel_rfl) (by kernel_rfl) (by kernel_rfl) (fun _ _ _ h => h) (Or.inl ⟨by rfl, ?_⟩) (by assumption) ?_
      rotate_left
      · (delta oq8_7_4; intro ws hSw; (try dsimp only at hSw); (try go_simp); (try with_reducible rfl))
      (try simp only [oq8_7_4, Act.put, List.setIfInBounds_toArray, List.set_cons_zero, List.set_cons_succ])
      refine AnyL_ready (rs := [2, 6, 7]) (by kernel_rfl) (by simp) ?_
      refine ReadyL.cons (o := oq8_7_2) rfl (fun K hK => ?_) ?_
      · delta oq8_7_2
        go_simp
        have hbs : w.heap.size ≤ Z58.heap.size := WW.size
        have hc := plus_any E E2 _ _ f f2 e e2 Z58 XE.num XF.num (by omega) (by omega)
        rw [← Ht1.out] at hc
        refine hc.mono ?_
        clear hc
        rintro e V59 ⟨v, rfl, hv, hb⟩
        replace XA := XA.below hb
        replace XB := XB.below hb
        replace XC := XC.below hb
        replace XE := XE.below hb
        replace XF := XF.below hb
        replace Xx := Xx.below hb
        replace Xy := Xy.below hb
        replace Xz := Xz.below hb
        replace O1 := O1.below hb (Nat.le_refl _)
        replace O2 := O2.below hb (Nat.le_refl _)
        replace O3 := O3.below hb (Nat.le_refl _)
        replace BG := BG.below hb BG.lt
        replace WW := WW.trans (hb.mono WW.size)
        have sz59 := hb.size
        obtain ⟨D4, d4, rfl, ho⟩ := hv
        have O4 := ho.weak (b := w.heap.size) hbs
        clear ho
        clear hb hbs
        refine hK.out _ _ (⟨XE.cell, XF.cell⟩) (fun hHeld2 => ?_)
        clear hK K hHeld
        have hHeld := hHeld2
        clear hHeld2
        (try simp only [oq8_7_2, Act.put, List.setIfInBounds_toArray, List.set_cons_zero, List.set_cons_succ])
        refine AnyL_ready (rs := [5, 6, 7]) (by kernel_rfl) (by simp) ?_
        refine ReadyL.cons (o := oq8_7_5) rfl (fun K hK => ?_) ?_
        · delta oq8_7_5
          go_simp
          have hbs : w.heap.size ≤ V59.heap.size := WW.size
          have hc := rtimes_any E E2 f f2 e e2 V59 XE.num XF.num (by omega) (by omega)
          rw [← Ht2.out] at hc
          refine hc.mono ?_
          clear hc
          rintro e V60 ⟨v, rfl, hv, hb⟩
          replace XA := XA.below hb
          replace XB := XB.below hb
          replace XC := XC.below hb
          replace XE := XE.below hb
          replace XF := XF.below hb
          replace Xx := Xx.below hb
          replace Xy := Xy.below hb
          replace Xz := Xz.below hb
          replace O1 := O1.below hb (Nat.le_refl _)
          replace O2 := O2.below hb (Nat.le_refl _)
          replace O3 := O3.below hb (Nat.le_refl _)
          replace O4 := O4.below hb (Nat.le_refl _)
          replace BG := BG.below hb BG.lt
          replace WW := WW.trans (hb.mono WW.size)
          have sz60 := hb.size
          obtain ⟨D5, d5, rfl, ho⟩ := hv
          have O5 := ho.weak (b := w.heap.size) hbs
          clear ho
          clear hb hbs
          refine hK.out _ _ (⟨XE.cell, XF.cell⟩) (fun hHeld2 => ?_)
          clear hK K hHeld
          have hHeld := hHeld2
          clear hHeld2
          (try simp only [oq8_7_5, Act.put, List.setIfInBounds_toArray, List.set_cons_zero, List.set_cons_succ])
          refine AnyL_ready (rs := [6, 7]) (by kernel_rfl) (by simp) ?_
          refine ReadyL.cons (o := oq8_7_6) rfl (fun K hK => ?_) ?_
          · delta oq8_7_6
            have lqXx : gXx < V60.heap.size := Xx.lt
            have lqXy : gXy < V60.heap.size := Xy.lt
            have lqXz : gXz < V60.heap.size := Xz.lt
            have lqXF : w.heap.size + 1 + 1 + 1 + 1 < V60.heap.size := XF.lt
            have lqBG : V6.heap.size < V60.heap.size := BG.lt
            go_simp
            have ba := (Below.refl V60.heap.size V60).alloc (Nat.le_refl _) (.cells #[.slice none 0 0] 24)
            replace XA := XA.below ba
            replace XB := XB.below ba
            replace XC := XC.below ba
            replace XE := XE.below ba
            replace XF := XF.below ba
            replace Xx := Xx.below ba
            replace Xy := Xy.below ba
            replace Xz := Xz.below ba
            replace O1 := O1.below ba (Nat.le_refl _)
            replace O2 := O2.below ba (Nat.le_refl _)
            replace O3 := O3.below ba (Nat.le_refl _)
            replace O4 := O4.below ba (Nat.le_refl _)
            replace O5 := O5.below ba (Nat.le_refl _)
            replace BG := BG.below ba BG.lt
            have bn := Blk.new V60 24 #[.slice none 0 0]
            have Xs := VB.mk (B := w.heap.size) (a := 0) bn (.inr (Own.nil _ _ _ _ (Nat.zero_le _))) ba WW.size WW.size
            replace WW := WW.trans (ba.mono WW.size)
            have sz61 : V60.heap.size < (V60.alloc (.cells #[.slice none 0 0] 24)).heap.size := bn.lt
            refine hK.out _ _ (⟨XE.cell, XF.cell⟩) (fun hHeld2 => ?_)
            clear hK K hHeld
            (try simp only [oq8_7_6, Act.put, List.setIfInBounds_toArray, List.set_cons_zero, List.set_cons_succ])
            generalize hV : V60.alloc (.cells #[.slice none 0 0] 24) = V61 at hHeld2 sz61 WW XA XB XC XE XF Xx Xy Xz Xs O1 O2 O3 O4 O5 BG ⊢
            clear hV ba bn
            have hHeld := hHeld2
            clear hHeld2
            obtain ⟨gXs, hg⟩ : ∃ x, x = V60.heap.size := ⟨_, rfl⟩
            have mXsXx : gXx < gXs := by omega
            have mXsXy : gXy < gXs := by omega
            have mXsXz : gXz < gXs := by omega
            have mXsXF : w.heap.size + 1 + 1 + 1 + 1 < gXs := by omega
            have mXsBG : V6.heap.size < gXs := by omega
            rw [← hg] at Xs sz61 ⊢
            clear hg lqXx lqXy lqXz lqXF lqBG
            exact hst3 gXs D4 d4 D5 d5 V61 ⟨WW, XA, XB, XC, XE, XF, Xx, Xy, Xz, Xs, O1, O2, O3, O4, O5, BG, (by first | exact mXsXx | omega), (by first | exact mXsXy | omega), (by first | exact mXsXz | omega), (by first | exact mXsXF | omega), (by first | exact mXsBG | omega), hHeld⟩
          refine ReadyL.cons (o := oq8_7_7) rfl (fun K hK => ?_) ReadyL.nil
          · delta oq8_7_7
            have lqXx : gXx < V60.heap.size := Xx.lt
            have lqXy : gXy < V60.heap.size := Xy.lt
            have lqXz : gXz < V60.heap.size := Xz.lt
            have lqXF : w.heap.size + 1 + 1 + 1 + 1 < V60.heap.size := XF.lt
            have lqBG : V6.heap.size < V60.heap.size := BG.lt
            go_simp
            have ba := (Below.refl V60.heap.size V60).alloc (Nat.le_refl _) (.cells #[.slice none 0 0] 24)
            replace XA := XA.below ba
            replace XB := XB.below ba
            replace XC := XC.below ba
            replace XE := XE.below ba
            replace XF := XF.below ba
            replace Xx := Xx.below ba
            replace Xy := Xy.below ba
            replace Xz := Xz.below ba
            replace O1 := O1.below ba (Nat.le_refl _)
            replace O2 := O2.below ba (Nat.le_refl _)
            replace O3 := O3.below ba (Nat.le_refl _)
            replace O4 := O4.below ba (Nat.le_refl _)
            replace O5 := O5.below ba (Nat.le_refl _)
            replace BG := BG.below ba BG.lt
            have bn := Blk.new V60 24 #[.slice none 0 0]
            have Xp := VB.mk (B := w.heap.size) (a := 0) bn (.inr (Own.nil _ _ _ _ (Nat.zero_le _))) ba WW.size WW.size
            replace WW := WW.trans (ba.mono WW.size)
            have sz61 : V60.heap.size < (V60.alloc (.cells #[.slice none 0 0] 24)).heap.size := bn.lt
            refine hK.out _ _ (⟨XE.cell, XF.cell⟩) (fun hHeld2 => ?_)
            clear hK K hHeld
            (try simp only [oq8_7_7, Act.put, List.setIfInBounds_toArray, List.set_cons_zero, List.set_cons_succ])
            generalize hV : V60.alloc (.cells #[.slice none 0 0] 24) = V61 at hHeld2 sz61 WW XA XB XC XE XF Xx Xy Xz Xp O1 O2 O3 O4 O5 BG ⊢
            clear hV ba bn
            have hHeld := hHeld2
            clear hHeld2
            obtain ⟨gXp, hg⟩ : ∃ x, x = V60.heap.size := ⟨_, rfl⟩
            have mXpXx : gXx < gXp := by omega
            have mXpXy : gXy < gXp := by omega
            have mXpXz : gXz < gXp := by omega
            have mXpXF : w.heap.size + 1 + 1 + 1 + 1 < gXp := by omega
            have mXpBG : V6.heap.size < gXp := by omega
            rw [← hg] at Xp sz61 ⊢
            clear hg lqXx lqXy lqXz lqXF lqBG
            exact hst4 gXp D4 d4 D5 d5 V61 ⟨WW, XA, XB, XC, XE, XF, Xx, Xy, Xz, Xp, O1, O2, O3, O4, O5, BG, (by first | exact mXpXx | omega), (by first | exact mXpXy | omega), (by first | exact mXpXz | omega), (by first | exact mXpXF | omega), (by first | exact mXpBG | omega), hHeld⟩
        refine ReadyL.cons (o := oq8_7_6) rfl (fun K hK => ?_) ?_
        · delta oq8_7_6
          have lqXx : gXx < V59.heap.size := Xx.lt
          have lqXy : gXy < V59.heap.size := Xy.lt
          have lqXz : gXz < V59.heap.size := Xz.lt
          have lqXF : w.heap.size + 1 + 1 + 1 + 1 < V59.heap.size := XF.lt
          have lqBG : V6.heap.size < V59.heap.size := BG.lt
          go_simp
          have ba := (Below.refl V59.heap.size V59).alloc (Nat.le_refl _) (.cells #[.slice none 0 0] 24)
          replace XA := XA.below ba
          replace XB := XB.below ba
          replace XC := XC.below ba
          replace XE := XE.below ba
          replace XF := XF.below ba
          replace Xx := Xx.below ba
          replace Xy := Xy.below ba
          replace Xz := Xz.below ba
          replace O1 := O1.below ba (Nat.le_refl _)
          replace O2 := O2.below ba (Nat.le_refl _)
          replace O3 := O3.below ba (Nat.le_refl _)
          replace O4 := O4.below ba (Nat.le_refl _)
          replace BG := BG.below ba BG.lt
          have bn := Blk.new V59 24 #[.slice none 0 0]
          have Xs := VB.mk (B := w.heap.size) (a := 0) bn (.inr (Own.nil _ _ _ _ (Nat.zero_le _))) ba WW.size WW.size
          replace WW := WW.trans (ba.mono WW.size)
          have sz60 : V59.heap.size < (V59.alloc (.cells #[.slice none 0 0] 24)).heap.size := bn.lt
          refine hK.out _ _ (⟨XE.cell, XF.cell⟩) (fun hHeld2 => ?_)
          clear hK K hHeld
          (try simp only [oq8_7_6, Act.put, List.setIfInBounds_toArray, List.set_cons_zero, List.set_cons_succ])
          generalize hV : V59.alloc (.cells #[.slice none 0 0] 24) = V60 at hHeld2 sz60 WW XA XB XC XE XF Xx Xy Xz Xs O1 O2 O3 O4 BG ⊢
          clear hV ba bn
          have hHeld := hHeld2
          clear hHeld2
          obtain ⟨gXs, hg⟩ : ∃ x, x = V59.heap.size := ⟨_, rfl⟩
          have mXsXx : gXx < gXs := by omega
          have mXsXy : gXy < gXs := by omega
          have mXsXz : gXz < gXs := by omega
          have mXsXF : w.heap.size + 1 + 1 + 1 + 1 < gXs := by omega
          have mXsBG : V6.heap.size < gXs := by omega
          rw [← hg] at Xs sz60 ⊢
          clear hg lqXx lqXy lqXz lqXF lqBG
          exact hst0 gXs D4 d4 V60 ⟨WW, XA, XB, XC, XE, XF, Xx, Xy, Xz, Xs, O1, O2, O3, O4, BG, (by first | exact mXsXx | omega), (by first | exact mXsXy | omega), (by first | exact mXsXz | omega), (by first | exact mXsXF | omega), (by first | exact mXsBG | omega), hHeld⟩
        refine ReadyL.cons (o := oq8_7_7) rfl (fun K hK => ?_) ReadyL.nil
        · delta oq8_7_7
          have lqXx : gXx < V59.heap.size := Xx.lt
          have lqXy : gXy < V59.heap.size := Xy.lt
          have lqXz : gXz < V59.heap.size := Xz.lt
          have lqXF : w.heap.size + 1 + 1 + 1 + 1 < V59.heap.size := XF.lt
          have lqBG : V6.heap.size < V59.heap.size := BG.lt
          go_simp
          have ba := (Below.refl V59.heap.size V59).alloc (Nat.le_refl _) (.cells #[.slice none 0 0] 24)
          replace XA := XA.below ba
          replace XB := XB.below ba
          replace XC := XC.below ba
          replace XE := XE.below ba
          replace XF := XF.below ba
          replace Xx := Xx.below ba
          replace Xy := Xy.below ba
          replace Xz := Xz.below ba
          replace O1 := O1.below ba (Nat.le_refl _)
          replace O2 := O2.below ba (Nat.le_refl _)
          replace O3 := O3.below ba (Nat.le_refl _)
          replace O4 := O4.below ba (Nat.le_refl _)
          replace BG := BG.below ba BG.lt
          have bn := Blk.new V59 24 #[.slice none 0 0]
          have Xp := VB.mk (B := w.heap.size) (a := 0) bn (.inr (Own.nil _ _ _ _ (Nat.zero_le _))) ba WW.size WW.size
          replace WW := WW.trans (ba.mono WW.size)
          have sz60 : V59.heap.size < (V59.alloc (.cells #[.slice none 0 0] 24)).heap.size := bn.lt
          refine hK.out _ _ (⟨XE.cell, XF.cell⟩) (fun hHeld2 => ?_)
          clear hK K hHeld
          (try simp only [oq8_7_7, Act.put, List.setIfInBounds_toArray, List.set_cons_zero, List.set_cons_succ])
          generalize hV : V59.alloc (.cells #[.slice none 0 0] 24) = V60 at hHeld2 sz60 WW XA XB XC XE XF Xx Xy Xz Xp O1 O2 O3 O4 BG ⊢
          clear hV ba bn
          have hHeld := hHeld2
          clear hHeld2
          obtain ⟨gXp, hg⟩ : ∃ x, x = V59.heap.size := ⟨_, rfl⟩
          have mXpXx : gXx < gXp := by omega
          have mXpXy : gXy < gXp := by omega
          have mXpXz : gXz < gXp := by omega
          have mXpXF : w.heap.size + 1 + 1 + 1 + 1 < gXp := by omega
          have mXpBG : V6.heap.size < gXp := by omega
          rw [← hg] at Xp sz60 ⊢
          clear hg lqXx lqXy lqXz lqXF lqBG
          exact hst1 gXp D4 d4 V60 ⟨WW, XA, XB, XC, XE, XF, Xx, Xy, Xz, Xp, O1, O2, O3, O4, BG, (by first | exact mXpXx | omega), (by first | exact mXpXy | omega), (by first | exact mXpXz | omega), (by first | exact mXpXF | omega), (by first | exact mXpBG | omega), hHeld⟩
      refine ReadyL.cons (o := oq8_7_6) rfl (fun K hK => ?_) ?_
      · delta oq8_7_6
        have lqXx : gXx < Z58.heap.size := Xx.lt
        have lqXy : gXy < Z58.heap.size := Xy.lt
        have lqXz : gXz < Z58.heap.size := Xz.lt
        have lqXF : w.heap.size + 1 + 1 + 1 + 1 < Z58.heap.size := XF.lt
        have lqBG : V6.heap.size < Z58.heap.size := BG.lt
        go_simp
        have ba := (Below.refl Z58.heap.size Z58).alloc (Nat.le_refl _) (.cells #[.slice none 0 0] 24)
        replace XA := XA.below ba
        replace XB := XB.below ba
        replace XC := XC.below ba
        replace XE := XE.below ba
        replace XF := XF.below ba
        replace Xx := Xx.below ba
        replace Xy := Xy.below ba
        replace Xz := Xz.below ba
        replace O1 := O1.below ba (Nat.le_refl _)
        replace O2 := O2.below ba (Nat.le_refl _)
        replace O3 := O3.below ba (Nat.le_refl _)
        replace BG := BG.below ba BG.lt
        have bn := Blk.new Z58 24 #[.slice none 0 0]
        have Xs := VB.mk (B := w.heap.size) (a := 0) bn (.inr (Own.nil _ _ _ _ (Nat.zero_le _))) ba WW.size WW.size
        replace WW := WW.trans (ba.mono WW.size)
        have sz59 : Z58.heap.size < (Z58.alloc (.cells #[.slice none 0 0] 24)).heap.size := bn.lt
        refine hK.out _ _ (⟨XE.cell, XF.cell⟩) (fun hHeld2 => ?_)
        clear hK K hHeld
        (try simp only [oq8_7_6, Act.put, List.setIfInBounds_toArray, List.set_cons_zero, List.set_cons_succ])
        generalize hV : Z58.alloc (.cells #[.slice none 0 0] 24) = V59 at hHeld2 sz59 WW XA XB XC XE XF Xx Xy Xz Xs O1 O2 O3 BG ⊢
        clear hV ba bn
        have hHeld := hHeld2
        clear hHeld2
        obtain ⟨gXs, hg⟩ : ∃ x, x = Z58.heap.size := ⟨_, rfl⟩
        have mXsXx : gXx < gXs := by omega
        have mXsXy : gXy < gXs := by omega
        have mXsXz : gXz < gXs := by omega
        have mXsXF : w.heap.size + 1 + 1 + 1 + 1 < gXs := by omega
        have mXsBG : V6.heap.size < gXs := by omega
        rw [← hg] at Xs sz59 ⊢
        clear hg lqXx lqXy lqXz lqXF lqBG
        refine AnyL_ready (rs := [2, 7]) (by kernel_rfl) (by simp) ?_
        refine ReadyL.cons (o := oq8_7_2) rfl (fun K hK => ?_) ?_
        · delta oq8_7_2
          go_simp
          have hbs : w.heap.size ≤ V59.heap.size := WW.size
          have hc := plus_any E E2 _ _ f f2 e e2 V59 XE.num XF.num (by omega) (by omega)
          rw [← Ht1.out] at hc
          refine hc.mono ?_
          clear hc
          rintro e V60 ⟨v, rfl, hv, hb⟩
          replace XA := XA.below hb
          replace XB := XB.below hb
          replace XC := XC.below hb
          replace XE := XE.below hb
          replace XF := XF.below hb
          replace Xx := Xx.below hb
          replace Xy := Xy.below hb
          replace Xz := Xz.below hb
          replace Xs := Xs.below hb
          replace O1 := O1.below hb (Nat.le_refl _)
          replace O2 := O2.below hb (Nat.le_refl _)
          replace O3 := O3.below hb (Nat.le_refl _)
          replace BG := BG.below hb BG.lt
          replace WW := WW.trans (hb.mono WW.size)
          have sz60 := hb.size
          obtain ⟨D4, d4, rfl, ho⟩ := hv
          have O4 := ho.weak (b := w.heap.size) hbs
          clear ho
          clear hb hbs
          refine hK.out _ _ (⟨XE.cell, XF.cell⟩) (fun hHeld2 => ?_)
          clear hK K hHeld
          have hHeld := hHeld2
          clear hHeld2
          (try simp only [oq8_7_2, Act.put, List.setIfInBounds_toArray, List.set_cons_zero, List.set_cons_succ])
          exact hst0 gXs D4 d4 V60 ⟨WW, XA, XB, XC, XE, XF, Xx, Xy, Xz, Xs, O1, O2, O3, O4, BG, (by first | exact mXsXx | omega), (by first | exact mXsXy | omega), (by first | exact mXsXz | omega), (by first | exact mXsXF | omega), (by first | exact mXsBG | omega), hHeld⟩
        refine ReadyL.cons (o := oq8_7_7) rfl (fun K hK => ?_) ReadyL.nil
        · delta oq8_7_7
          have lqXx : gXx < V59.heap.size := Xx.lt
          have lqXy : gXy < V59.heap.size := Xy.lt
          have lqXz : gXz < V59.heap.size := Xz.lt
          have lqXF : w.heap.size + 1 + 1 + 1 + 1 < V59.heap.size := XF.lt
          have lqBG : V6.heap.size < V59.heap.size := BG.lt
          have lXs : gXs < V59.heap.size := Xs.lt
          go_simp
          have ba := (Below.refl V59.heap.size V59).alloc (Nat.le_refl _) (.cells #[.slice none 0 0] 24)
          replace XA := XA.below ba
          replace XB := XB.below ba
          replace XC := XC.below ba
          replace XE := XE.below ba
          replace XF := XF.below ba
          replace Xx := Xx.below ba
          replace Xy := Xy.below ba
          replace Xz := Xz.below ba
          replace Xs := Xs.below ba
          replace O1 := O1.below ba (Nat.le_refl _)
          replace O2 := O2.below ba (Nat.le_refl _)
          replace O3 := O3.below ba (Nat.le_refl _)
          replace BG := BG.below ba BG.lt
          have bn := Blk.new V59 24 #[.slice none 0 0]
          have Xp := VB.mk (B := w.heap.size) (a := 0) bn (.inr (Own.nil _ _ _ _ (Nat.zero_le _))) ba WW.size WW.size
          replace WW := WW.trans (ba.mono WW.size)
          have sz60 : V59.heap.size < (V59.alloc (.cells #[.slice none 0 0] 24)).heap.size := bn.lt
          refine hK.out _ _ (⟨XE.cell, XF.cell⟩) (fun hHeld2 => ?_)
          clear hK K hHeld
          (try simp only [oq8_7_7, Act.put, List.setIfInBounds_toArray, List.set_cons_zero, List.set_cons_succ])
          generalize hV : V59.alloc (.cells #[.slice none 0 0] 24) = V60 at hHeld2 sz60 WW XA XB XC XE XF Xx Xy Xz Xs Xp O1 O2 O3 BG ⊢
          clear hV ba bn
          have hHeld := hHeld2
          clear hHeld2
          obtain ⟨gXp, hg⟩ : ∃ x, x = V59.heap.size := ⟨_, rfl⟩
          have mXpXx : gXx < gXp := by omega
          have mXpXy : gXy < gXp := by omega
          have mXpXz : gXz < gXp := by omega
          have mXpXF : w.heap.size + 1 + 1 + 1 + 1 < gXp := by omega
          have mXpBG : V6.heap.size < gXp := by omega
          have nXsXp : gXs ≠ gXp := by omega
          rw [← hg] at Xp sz60 ⊢
          clear hg lqXx lqXy lqXz lqXF lqBG lXs
          exact hst2 gXs gXp V60 ⟨WW, XA, XB, XC, XE, XF, Xx, Xy, Xz, Xs, Xp, O1, O2, O3, BG, (by first | exact mXsXx | omega), (by first | exact mXsXy | omega), (by first | exact mXsXz | omega), (by first | exact mXsXF | omega), (by first | exact mXsBG | omega), (by first | exact mXpXx | omega), (by first | exact mXpXy | omega), (by first | exact mXpXz | omega), (by first | exact mXpXF | omega), (by first | exact mXpBG | omega), (by first | exact nXsXp | omega), hHeld⟩
      refine ReadyL.cons (o := oq8_7_7) rfl (fun K hK => ?_) ReadyL.nil
      · delta oq8_7_7
        have lqXx : gXx < Z58.heap.size := Xx.lt
        have lqXy : gXy < Z58.heap.size := Xy.lt
        have lqXz : gXz < Z58.heap.size := Xz.lt
        have lqXF : w.heap.size + 1 + 1 + 1 + 1 < Z58.heap.size := XF.lt
        have lqBG : V6.heap.size < Z58.heap.size := BG.lt
        go_simp
        have ba := (Below.refl Z58.heap.size Z58).alloc (Nat.le_refl _) (.cells #[.slice none 0 0] 24)
        replace XA := XA.below ba
        replace XB := XB.below ba
        replace XC := XC.below ba
        replace XE := XE.below ba
        replace XF := XF.below ba
        replace Xx := Xx.below ba
        replace Xy := Xy.below ba
        replace Xz := Xz.below ba
        replace O1 := O1.below ba (Nat.le_refl _)
        replace O2 := O2.below ba (Nat.le_refl _)
        replace O3 := O3.below ba (Nat.le_refl _)
        replace BG := BG.below ba BG.lt
        have bn := Blk.new Z58 24 #[.slice none 0 0]
        have Xp := VB.mk (B := w.heap.size) (a := 0) bn (.inr (Own.nil _ _ _ _ (Nat.zero_le _))) ba WW.size WW.size
        replace WW := WW.trans (ba.mono WW.size)
        have sz59 : Z58.heap.size < (Z58.alloc (.cells #[.slice none 0 0] 24)).heap.size := bn.lt
        refine hK.out _ _ (⟨XE.cell, XF.cell⟩) (fun hHeld2 => ?_)
        clear hK K hHeld
        (try simp only [oq8_7_7, Act.put, List.setIfInBounds_toArray, List.set_cons_zero, List.set_cons_succ])
        generalize hV : Z58.alloc (.cells #[.slice none 0 0] 24) = V59 at hHeld2 sz59 WW XA XB XC XE XF Xx Xy Xz Xp O1 O2 O3 BG ⊢
        clear hV ba bn
        have hHeld := hHeld2
        clear hHeld2
        obtain ⟨gXp, hg⟩ : ∃ x, x = Z58.heap.size := ⟨_, rfl⟩
        have mXpXx : gXx < gXp := by omega
        have mXpXy : gXy < gXp := by omega
        have mXpXz : gXz < gXp := by omega
        have mXpXF : w.heap.size + 1 + 1 + 1 + 1 < gXp := by omega
        have mXpBG : V6.heap.size < gXp := by omega
        rw [← hg] at Xp sz59 ⊢
        clear hg lqXx lqXy lqXz lqXF lqBG
        refine AnyL_ready (rs := [2, 6]) (by kernel_rfl) (by simp) ?_
        refine ReadyL.cons (o := oq8_7_2) rfl (fun K hK => ?_) ?_
        · delta oq8_7_2
          go_simp
          have hbs : w.heap.size ≤ V59.heap.size := WW.size
          have hc := plus_any E E2 _ _ f f2 e e2 V59 XE.num XF.num (by omega) (by omega)
          rw [← Ht1.out] at hc
          refine hc.mono ?_
          clear hc
          rintro e V60 ⟨v, rfl, hv, hb⟩
          replace XA := XA.below hb
          replace XB := XB.below hb
          replace XC := XC.below hb
          replace XE := XE.below hb
          replace XF := XF.below hb
          replace Xx := Xx.below hb
          replace Xy := Xy.below hb
          replace Xz := Xz.below hb
          replace Xp := Xp.below hb
          replace O1 := O1.below hb (Nat.le_refl _)
          replace O2 := O2.below hb (Nat.le_refl _)
          replace O3 := O3.below hb (Nat.le_refl _)
          replace BG := BG.below hb BG.lt
          replace WW := WW.trans (hb.mono WW.size)
          have sz60 := hb.size
          obtain ⟨D4, d4, rfl, ho⟩ := hv
          have O4 := ho.weak (b := w.heap.size) hbs
          clear ho
          clear hb hbs
          refine hK.out _ _ (⟨XE.cell, XF.cell⟩) (fun hHeld2 => ?_)
          clear hK K hHeld
          have hHeld := hHeld2
          clear hHeld2
          (try simp only [oq8_7_2, Act.put, List.setIfInBounds_toArray, List.set_cons_zero, List.set_cons_succ])
          exact hst1 gXp D4 d4 V60 ⟨WW, XA, XB, XC, XE, XF, Xx, Xy, Xz, Xp, O1, O2, O3, O4, BG, (by first | exact mXpXx | omega), (by first | exact mXpXy | omega), (by first | exact mXpXz | omega), (by first | exact mXpXF | omega), (by first | exact mXpBG | omega), hHeld⟩
        refine ReadyL.cons (o := oq8_7_6) rfl (fun K hK => ?_) ReadyL.nil
        · delta oq8_7_6
          have lqXx : gXx < V59.heap.size := Xx.lt
          have lqXy : gXy < V59.heap.size := Xy.lt
          have lqXz : gXz < V59.heap.size := Xz.lt
          have lqXF : w.heap.size + 1 + 1 + 1 + 1 < V59.heap.size := XF.lt
          have lqBG : V6.heap.size < V59.heap.size := BG.lt
          have lXp : gXp < V59.heap.size := Xp.lt
          go_simp
          have ba := (Below.refl V59.heap.size V59).alloc (Nat.le_refl _) (.cells #[.slice none 0 0] 24)
          replace XA := XA.below ba
          replace XB := XB.below ba
          replace XC := XC.below ba
          replace XE := XE.below ba
          replace XF := XF.below ba
          replace Xx := Xx.below ba
          replace Xy := Xy.below ba
          replace Xz := Xz.below ba
          replace Xp := Xp.below ba
          replace O1 := O1.below ba (Nat.le_refl _)
          replace O2 := O2.below ba (Nat.le_refl _)
          replace O3 := O3.below ba (Nat.le_refl _)
          replace BG := BG.below ba BG.lt
          have bn := Blk.new V59 24 #[.slice none 0 0]
          have Xs := VB.mk (B := w.heap.size) (a := 0) bn (.inr (Own.nil _ _ _ _ (Nat.zero_le _))) ba WW.size WW.size
          replace WW := WW.trans (ba.mono WW.size)
          have sz60 : V59.heap.size < (V59.alloc (.cells #[.slice none 0 0] 24)).heap.size := bn.lt
          refine hK.out _ _ (⟨XE.cell, XF.cell⟩) (fun hHeld2 => ?_)
          clear hK K hHeld
          (try simp only [oq8_7_6, Act.put, List.setIfInBounds_toArray, List.set_cons_zero, List.set_cons_succ])
          generalize hV : V59.alloc (.cells #[.slice none 0 0] 24) = V60 at hHeld2 sz60 WW XA XB XC XE XF Xx Xy Xz Xp Xs O1 O2 O3 BG ⊢
          clear hV ba bn
          have hHeld := hHeld2
          clear hHeld2
          obtain ⟨gXs, hg⟩ : ∃ x, x = V59.heap.size := ⟨_, rfl⟩
          have mXsXx : gXx < gXs := by omega
          have mXsXy : gXy < gXs := by omega
          have mXsXz : gXz < gXs := by omega
          have mXsXF : w.heap.size + 1 + 1 + 1 + 1 < gXs := by omega
          have mXsBG : V6.heap.size < gXs := by omega
          have nXpXs : gXp ≠ gXs := by omega
          rw [← hg] at Xs sz60 ⊢
          clear hg lqXx lqXy lqXz lqXF lqBG lXp
          exact hst2 gXs gXp V60 ⟨WW, XA, XB, XC, XE, XF, Xx, Xy, Xz, Xs, Xp, O1, O2, O3, BG, (by first | exact mXsXx | omega), (by first | exact mXsXy | omega), (by first | exact mXsXz | omega), (by first | exact mXsXF | omega), (by first | exact mXsBG | omega), (by first | exact mXpXx | omega), (by first | exact mXpXy | omega), (by first | exact mXpXz | omega), (by first | exact mXpXF | omega), (by first | exact mXpBG | omega), (by first | exact nXsXp | omega), hHeld⟩
    case h1.h1.h1.h1.h1.h1.h2 =>
      rintro gXs D4 d4 Y58_13 ⟨WW, XA, XB, XC, XE, XF, Xx, Xy, Xz, Xs, O1, O2, O3, O4, BG, mXsXx, mXsXy, mXsXz, mXsXF, mXsBG, hHeld⟩
      refine AnyL_ready (rs := [5, 7]) (by kernel_rfl) (by simp) ?_
      refine ReadyL.cons (o := oq8_7_5) rfl (fun K hK => ?_) ?_
      · delta oq8_7_5
        go_simp
        have hbs : w.heap.size ≤ Y58_13.heap.size := WW.size
        have hc := rtimes_any E E2 f f2 e e2 Y58_13 XE.num XF.num (by omega) (by omega)
        rw [← Ht2.out] at hc
        refine hc.mono ?_
        clear hc
        rintro e V372 ⟨v, rfl, hv, hb⟩
        replace XA := XA.below hb
        replace XB := XB.below hb
        replace XC := XC.below hb
        replace XE := XE.below hb
        replace XF := XF.below hb
        replace Xx := Xx.below hb
        replace Xy := Xy.below hb
        replace Xz := Xz.below hb
        replace Xs := Xs.below hb
        replace O1 := O1.below hb (Nat.le_refl _)
        replace O2 := O2.below hb (Nat.le_refl _)
        replace O3 := O3.below hb (Nat.le_refl _)
        replace O4 := O4.below hb (Nat.le_refl _)
        replace BG := BG.below hb BG.lt
        replace WW := WW.trans (hb.mono WW.size)
        have sz372 := hb.size
        obtain ⟨D5, d5, rfl, ho⟩ := hv
        have O5 := ho.weak (b := w.heap.size) hbs
        clear ho
        clear hb hbs
        refine hK.out _ _ (⟨XE.cell, XF.cell⟩) (fun hHeld2 => ?_)
        clear hK K hHeld
        have hHeld := hHeld2
        clear hHeld2
        (try simp only [oq8_7_5, Act.put, List.setIfInBounds_toArray, List.set_cons_zero, List.set_cons_succ])
        exact hst3 gXs D4 d4 D5 d5 V372 ⟨WW, XA, XB, XC, XE, XF, Xx, Xy, Xz, Xs, O1, O2, O3, O4, O5, BG, (by first | exact mXsXx | omega), (by first | exact mXsXy | omega), (by first | exact mXsXz | omega), (by first | exact mXsXF | omega), (by first | exact mXsBG | omega), hHeld⟩
      refine ReadyL.cons (o := oq8_7_7) rfl (fun K hK => ?_) ReadyL.nil
      · delta oq8_7_7
        have lqXx : gXx < Y58_13.heap.size := Xx.lt
        have lqXy : gXy < Y58_13.heap.size := Xy.lt
        have lqXz : gXz < Y58_13.heap.size := Xz.lt
        have lqXF : w.heap.size + 1 + 1 + 1 + 1 < Y58_13.heap.size := XF.lt
        have lqBG : V6.heap.size < Y58_13.heap.size := BG.lt
        have lXs : gXs < Y58_13.heap.size := Xs.lt
        go_simp
        have ba := (Below.refl Y58_13.heap.size Y58_13).alloc (Nat.le_refl _) (.cells #[.slice none 0 0] 24)
        replace XA := XA.below ba
        replace XB := XB.below ba
        replace XC := XC.below ba
        replace XE := XE.below ba
        replace XF := XF.below ba
        replace Xx := Xx.below ba
        replace Xy := Xy.below ba
        replace Xz := Xz.below ba
        replace Xs := Xs.below ba
        replace O1 := O1.below ba (Nat.le_refl _)
        replace O2 := O2.below ba (Nat.le_refl _)
        replace O3 := O3.below ba (Nat.le_refl _)
        replace O4 := O4.below ba (Nat.le_refl _)
        replace BG := BG.below ba BG.lt
        have bn := Blk.new Y58_13 24 #[.slice none 0 0]
        have Xp := VB.mk (B := w.heap.size) (a := 0) bn (.inr (Own.nil _ _ _ _ (Nat.zero_le _))) ba WW.size WW.size
        replace WW := WW.trans (ba.mono WW.size)
        have sz372 : Y58_13.heap.size < (Y58_13.alloc (.cells #[.slice none 0 0] 24)).heap.size := bn.lt
        refine hK.out _ _ (⟨XE.cell, XF.cell⟩) (fun hHeld2 => ?_)
        clear hK K hHeld
        (try simp only [oq8_7_7, Act.put, List.setIfInBounds_toArray, List.set_cons_zero, List.set_cons_succ])
        generalize hV : Y58_13.alloc (.cells #[.slice none 0 0] 24) = V372 at hHeld2 sz372 WW XA XB XC XE XF Xx Xy Xz Xs Xp O1 O2 O3 O4 BG ⊢
        clear hV ba bn
        have hHeld := hHeld2
        clear hHeld2
        obtain ⟨gXp, hg⟩ : ∃ x, x = Y58_13.heap.size := ⟨_, rfl⟩
        have mXpXx : gXx < gXp := by omega
        have mXpXy : gXy < gXp := by omega
        have mXpXz : gXz < gXp := by omega
        have mXpXF : w.heap.size + 1 + 1 + 1 + 1 < gXp := by omega
        have mXpBG : V6.heap.size < gXp := by omega
        have nXsXp : gXs ≠ gXp := by omega
        rw [← hg] at Xp sz372 ⊢
        clear hg lqXx lqXy lqXz lqXF lqBG lXs
        exact hst5 gXs gXp D4 d4 V372 ⟨WW, XA, XB, XC, XE, XF, Xx, Xy, Xz, Xs, Xp, O1, O2, O3, O4, BG, (by first | exact mXsXx | omega), (by first | exact mXsXy | omega), (by first | exact mXsXz | omega), (by first | exact mXsXF | omega), (by first | exact mXsBG | omega), (by first | exact mXpXx | omega), (by first | exact mXpXy | omega), (by first | exact mXpXz | omega), (by first | exact mXpXF | omega), (by first | exact mXpBG | omega), (by first | exact nXsXp | omega), hHeld⟩
    case h1.h1.h1.h1.h1.h2 =>
      rintro gXp D4 d4 Y58_16 ⟨WW, XA, XB, XC, XE, XF, Xx, Xy, Xz, Xp, O1, O2, O3, O4, BG, mXpXx, mXpXy, mXpXz, mXpXF, mXpBG, hHeld⟩
      refine AnyL_ready (rs := [5, 6]) (by kernel_rfl) (by simp) ?_
      refine ReadyL.cons (o := oq8_7_5) rfl (fun K hK => ?_) ?_
      · delta oq8_7_5
        go_simp
        have hbs : w.heap.size ≤ Y58_16.heap.size := WW.size
        have hc := rtimes_any E E2 f f2 e e2 Y58_16 XE.num XF.num (by omega) (by omega)
        rw [← Ht2.out] at hc
        refine hc.mono ?_
        clear hc
        rintro e V375 ⟨v, rfl, hv, hb⟩
        replace XA := XA.below hb
        replace XB := XB.below hb
        replace XC := XC.below hb
        replace XE := XE.below hb
        replace XF := XF.below hb
        replace Xx := Xx.below hb
        replace Xy := Xy.below hb
        replace Xz := Xz.below hb
        replace Xp := Xp.below hb
        replace O1 := O1.below hb (Nat.le_refl _)
        replace O2 := O2.below hb (Nat.le_refl _)
        replace O3 := O3.below hb (Nat.le_refl _)
        replace O4 := O4.below hb (Nat.le_refl _)
        replace BG := BG.below hb BG.lt
        replace WW := WW.trans (hb.mono WW.size)
        have sz375 := hb.size
        obtain ⟨D5, d5, rfl, ho⟩ := hv
        have O5 := ho.weak (b := w.heap.size) hbs
        clear ho
        clear hb hbs
        refine hK.out _ _ (⟨XE.cell, XF.cell⟩) (fun hHeld2 => ?_)
        clear hK K hHeld
        have hHeld := hHeld2
        clear hHeld2
        (try simp only [oq8_7_5, Act.put, List.setIfInBounds_toArray, List.set_cons_zero, List.set_cons_succ])
        exact hst4 gXp D4 d4 D5 d5 V375 ⟨WW, XA, XB, XC, XE, XF, Xx, Xy, Xz, Xp, O1, O2, O3, O4, O5, BG, (by first | exact mXpXx | omega), (by first | exact mXpXy | omega), (by first | exact mXpXz | omega), (by first | exact mXpXF | omega), (by first | exact mXpBG | omega), hHeld⟩
      refine ReadyL.cons (o := oq8_7_6) rfl (fun K hK => ?_) ReadyL.nil
      · delta oq8_7_6
        have lqXx : gXx < Y58_16.heap.size := Xx.lt
        have lqXy : gXy < Y58_16.heap.size := Xy.lt
        have lqXz : gXz < Y58_16.heap.size := Xz.lt
        have lqXF : w.heap.size + 1 + 1 + 1 + 1 < Y58_16.heap.size := XF.lt
        have lqBG : V6.heap.size < Y58_16.heap.size := BG.lt
        have lXp : gXp < Y58_16.heap.size := Xp.lt
        go_simp
        have ba := (Below.refl Y58_16.heap.size Y58_16).alloc (Nat.le_refl _) (.cells #[.slice none 0 0] 24)
        replace XA := XA.below ba
        replace XB := XB.below ba
        replace XC := XC.below ba
        replace XE := XE.below ba
        replace XF := XF.below ba
        replace Xx := Xx.below ba
        replace Xy := Xy.below ba
        replace Xz := Xz.below ba
        replace Xp := Xp.below ba
        replace O1 := O1.below ba (Nat.le_refl _)
        replace O2 := O2.below ba (Nat.le_refl _)
        replace O3 := O3.below ba (Nat.le_refl _)
        replace O4 := O4.below ba (Nat.le_refl _)
        replace BG := BG.below ba BG.lt
        have bn := Blk.new Y58_16 24 #[.slice none 0 0]
        have Xs := VB.mk (B := w.heap.size) (a := 0) bn (.inr (Own.nil _ _ _ _ (Nat.zero_le _))) ba WW.size WW.size
        replace WW := WW.trans (ba.mono WW.size)
        have sz375 : Y58_16.heap.size < (Y58_16.alloc (.cells #[.slice none 0 0] 24)).heap.size := bn.lt
        refine hK.out _ _ (⟨XE.cell, XF.cell⟩) (fun hHeld2 => ?_)
        clear hK K hHeld
        (try simp only [oq8_7_6, Act.put, List.setIfInBounds_toArray, List.set_cons_zero, List.set_cons_succ])
        generalize hV : Y58_16.alloc (.cells #[.slice none 0 0] 24) = V375 at hHeld2 sz375 WW XA XB XC XE XF Xx Xy Xz Xp Xs O1 O2 O3 O4 BG ⊢
        clear hV ba bn
        have hHeld := hHeld2
        clear hHeld2
        obtain ⟨gXs, hg⟩ : ∃ x, x = Y58_16.heap.size := ⟨_, rfl⟩
        have mXsXx : gXx < gXs := by omega
        have mXsXy : gXy < gXs := by omega
        have mXsXz : gXz < gXs := by omega
        have mXsXF : w.heap.size + 1 + 1 + 1 + 1 < gXs := by omega
        have mXsBG : V6.heap.size < gXs := by omega
        have nXpXs : gXp ≠ gXs := by omega
        rw [← hg] at Xs sz375 ⊢
        clear hg lqXx lqXy lqXz lqXF lqBG lXp
        exact hst5 gXs gXp D4 d4 V375 ⟨WW, XA, XB, XC, XE, XF, Xx, Xy, Xz, Xs, Xp, O1, O2, O3, O4, BG, (by first | exact mXsXx | omega), (by first | exact mXsXy | omega), (by first | exact mXsXz | omega), (by first | exact mXsXF | omega), (by first | exact mXsBG | omega), (by first | exact mXpXx | omega), (by first | exact mXpXy | omega), (by first | exact mXpXz | omega), (by first | exact mXpXF | omega), (by first | exact mXpBG | omega), (by first | exact nXsXp | omega), hHeld⟩
    case h1.h1.h1.h1.h2 =>
      rintro gXs gXp Y58_19 ⟨WW, XA, XB, XC, XE, XF, Xx, Xy, Xz, Xs, Xp, O1, O2, O3, BG, mXsXx, mXsXy, mXsXz, mXsXF, mXsBG, mXpXx, mXpXy, mXpXz, mXpXF, mXpBG, nXsXp, hHeld⟩
      refine AnyL_ready (rs := [2]) (by kernel_rfl) (by simp) ?_
      refine ReadyL.cons (o := oq8_7_2) rfl (fun K hK => ?_) ReadyL.nil
      delta oq8_7_2
      go_simp
      have hbs : w.heap.size ≤ Y58_19.heap.size := WW.size
      have hc := plus_any E E2 _ _ f f2 e e2 Y58_19 XE.num XF.num (by omega) (by omega)
      rw [← Ht1.out] at hc
      refine hc.mono ?_
      clear hc
      rintro e V378 ⟨v, rfl, hv, hb⟩
      replace XA := XA.below hb
      replace XB := XB.below hb
      replace XC := XC.below hb
      replace XE := XE.below hb
      replace XF := XF.below hb
      replace Xx := Xx.below hb
      replace Xy := Xy.below hb
      replace Xz := Xz.below hb
      replace Xs := Xs.below hb
      replace Xp := Xp.below hb
      replace O1 := O1.below hb (Nat.le_refl _)
      replace O2 := O2.below hb (Nat.le_refl _)
      replace O3 := O3.below hb (Nat.le_refl _)
      replace BG := BG.below hb BG.lt
      replace WW := WW.trans (hb.mono WW.size)
      have sz378 := hb.size
      obtain ⟨D4, d4, rfl, ho⟩ := hv
      have O4 := ho.weak (b := w.heap.size) hbs
      clear ho
      clear hb hbs
      refine hK.out _ _ (⟨XE.cell, XF.cell⟩) (fun hHeld2 => ?_)
      clear hK K hHeld
      have hHeld := hHeld2
      clear hHeld2
      (try simp only [oq8_7_2, Act.put, List.setIfInBounds_toArray, List.set_cons_zero, List.set_cons_succ])
      exact hst5 gXs gXp D4 d4 V378 ⟨WW, XA, XB, XC, XE, XF, Xx, Xy, Xz, Xs, Xp, O1, O2, O3, O4, BG, (by first | exact mXsXx | omega), (by first | exact mXsXy | omega), (by first | exact mXsXz | omega), (by first | exact mXsXF | omega), (by first | exact mXsBG | omega), (by first | exact mXpXx | omega), (by first | exact mXpXy | omega), (by first | exact mXpXz | omega), (by first | exact mXpXF | omega), (by first | exact mXpBG | omega), (by first | exact nXsXp | omega), hHeld⟩
    case h1.h1.h1.h2 =>
      rintro gXs D4 d4 D5 d5 Y58_21 ⟨WW, XA, XB, XC, XE, XF, Xx, Xy, Xz, Xs, O1, O2, O3, O4, O5, BG, mXsXx, mXsXy, mXsXz, mXsXF, mXsBG, hHeld⟩
      refine AnyL_ready (rs := [7]) (by kernel_rfl) (by simp) ?_
      refine ReadyL.cons (o := oq8_7_7) rfl (fun K hK => ?_) ReadyL.nil
      delta oq8_7_7
      have lqXx : gXx < Y58_21.heap.size := Xx.lt
      have lqXy : gXy < Y58_21.heap.size := Xy.lt
      have lqXz : gXz < Y58_21.heap.size := Xz.lt
      have lqXF : w.heap.size + 1 + 1 + 1 + 1 < Y58_21.heap.size := XF.lt
      have lqBG : V6.heap.size < Y58_21.heap.size := BG.lt
      have lXs : gXs < Y58_21.heap.size := Xs.lt
      go_simp
      have ba := (Below.refl Y58_21.heap.size Y58_21).alloc (Nat.le_refl _) (.cells #[.slice none 0 0] 24)
      replace XA := XA.below ba
      replace XB := XB.below ba
      replace XC := XC.below ba
      replace XE := XE.below ba
      replace XF := XF.below ba
      replace Xx := Xx.below ba
      replace Xy := Xy.below ba
      replace Xz := Xz.below ba
      replace Xs := Xs.below ba
      replace O1 := O1.below ba (Nat.le_refl _)
      replace O2 := O2.below ba (Nat.le_refl _)
      replace O3 := O3.below ba (Nat.le_refl _)
      replace O4 := O4.below ba (Nat.le_refl _)
      replace O5 := O5.below ba (Nat.le_refl _)
      replace BG := BG.below ba BG.lt
      have bn := Blk.new Y58_21 24 #[.slice none 0 0]
      have Xp := VB.mk (B := w.heap.size) (a := 0) bn (.inr (Own.nil _ _ _ _ (Nat.zero_le _))) ba WW.size WW.size
      replace WW := WW.trans (ba.mono WW.size)
      have sz380 : Y58_21.heap.size < (Y58_21.alloc (.cells #[.slice none 0 0] 24)).heap.size := bn.lt
      refine hK.out _ _ (⟨XE.cell, XF.cell⟩) (fun hHeld2 => ?_)
      clear hK K hHeld
      (try simp only [oq8_7_7, Act.put, List.setIfInBounds_toArray, List.set_cons_zero, List.set_cons_succ])
      generalize hV : Y58_21.alloc (.cells #[.slice none 0 0] 24) = V380 at hHeld2 sz380 WW XA XB XC XE XF Xx Xy Xz Xs Xp O1 O2 O3 O4 O5 BG ⊢
      clear hV ba bn
      have hHeld := hHeld2
      clear hHeld2
      obtain ⟨gXp, hg⟩ : ∃ x, x = Y58_21.heap.size := ⟨_, rfl⟩
      have mXpXx : gXx < gXp := by omega
      have mXpXy : gXy < gXp := by omega
      have mXpXz : gXz < gXp := by omega
      have mXpXF : w.heap.size + 1 + 1 + 1 + 1 < gXp := by omega
      have mXpBG : V6.heap.size < gXp := by omega
      have nXsXp : gXs ≠ gXp := by omega
      rw [← hg] at Xp sz380 ⊢
      clear hg lqXx lqXy lqXz lqXF lqBG lXs
      exact hst6 gXs gXp D4 d4 D5 d5 V380 ⟨WW, XA, XB, XC, XE, XF, Xx, Xy, Xz, Xs, Xp, O1, O2, O3, O4, O5, BG, (by first | exact mXsXx | omega), (by first | exact mXsXy | omega), (by first | exact mXsXz | omega), (by first | exact mXsXF | omega), (by first | exact mXsBG | omega), (by first | exact mXpXx | omega), (by first | exact mXpXy | omega), (by first | exact mXpXz | omega), (by first | exact mXpXF | omega), (by first | exact mXpBG | omega), (by first | exact nXsXp | omega), hHeld⟩
    case h1.h1.h2 =>
      rintro gXp D4 d4 D5 d5 Y58_23 ⟨WW, XA, XB, XC, XE, XF, Xx, Xy, Xz, Xp, O1, O2, O3, O4, O5, BG, mXpXx, mXpXy, mXpXz, mXpXF, mXpBG, hHeld⟩
      refine AnyL_ready (rs := [6]) (by kernel_rfl) (by simp) ?_
      refine ReadyL.cons (o := oq8_7_6) rfl (fun K hK => ?_) ReadyL.nil
      delta oq8_7_6
      have lqXx : gXx < Y58_23.heap.size := Xx.lt
      have lqXy : gXy < Y58_23.heap.size := Xy.lt
      have lqXz : gXz < Y58_23.heap.size := Xz.lt
      have lqXF : w.heap.size + 1 + 1 + 1 + 1 < Y58_23.heap.size := XF.lt
      have lqBG : V6.heap.size < Y58_23.heap.size := BG.lt
      have lXp : gXp < Y58_23.heap.size := Xp.lt
      go_simp
      have ba := (Below.refl Y58_23.heap.size Y58_23).alloc (Nat.le_refl _) (.cells #[.slice none 0 0] 24)
      replace XA := XA.below ba
      replace XB := XB.below ba
      replace XC := XC.below ba
      replace XE := XE.below ba
      replace XF := XF.below ba
      replace Xx := Xx.below ba
      replace Xy := Xy.below ba
      replace Xz := Xz.below ba
      replace Xp := Xp.below ba
      replace O1 := O1.below ba (Nat.le_refl _)
      replace O2 := O2.below ba (Nat.le_refl _)
      replace O3 := O3.below ba (Nat.le_refl _)
      replace O4 := O4.below ba (Nat.le_refl _)
      replace O5 := O5.below ba (Nat.le_refl _)
      replace BG := BG.below ba BG.lt
      have bn := Blk.new Y58_23 24 #[.slice none 0 0]
      have Xs := VB.mk (B := w.heap.size) (a := 0) bn (.inr (Own.nil _ _ _ _ (Nat.zero_le _))) ba WW.size WW.size
      replace WW := WW.trans (ba.mono WW.size)
      have sz382 : Y58_23.heap.size < (Y58_23.alloc (.cells #[.slice none 0 0] 24)).heap.size := bn.lt
      refine hK.out _ _ (⟨XE.cell, XF.cell⟩) (fun hHeld2 => ?_)
      clear hK K hHeld
      (try simp only [oq8_7_6, Act.put, List.setIfInBounds_toArray, List.set_cons_zero, List.set_cons_succ])
      generalize hV : Y58_23.alloc (.cells #[.slice none 0 0] 24) = V382 at hHeld2 sz382 WW XA XB XC XE XF Xx Xy Xz Xp Xs O1 O2 O3 O4 O5 BG ⊢
      clear hV ba bn
      have hHeld := hHeld2
      clear hHeld2
      obtain ⟨gXs, hg⟩ : ∃ x, x = Y58_23.heap.size := ⟨_, rfl⟩
      have mXsXx : gXx < gXs := by omega
      have mXsXy : gXy < gXs := by omega
      have mXsXz : gXz < gXs := by omega
      have mXsXF : w.heap.size + 1 + 1 + 1 + 1 < gXs := by omega
      have mXsBG : V6.heap.size < gXs := by omega
      have nXpXs : gXp ≠ gXs := by omega
      rw [← hg] at Xs sz382 ⊢
      clear hg lqXx lqXy lqXz lqXF lqBG lXp
      exact hst6 gXs gXp D4 d4 D5 d5 V382 ⟨WW, XA, XB, XC, XE, XF, Xx, Xy, Xz, Xs, Xp, O1, O2, O3, O4, O5, BG, (by first | exact mXsXx | omega), (by first | exact mXsXy | omega), (by first | exact mXsXz | omega), (by first | exact mXsXF | omega), (by first | exact mXsBG | omega), (by first | exact mXpXx | omega), (by first | exact mXpXy | omega), (by first | exact mXpXz | omega), (by first | exact mXpXF | omega), (by first | exact mXpBG | omega), (by first | exact nXsXp | omega), hHeld⟩
    case h1.h2 =>
      rintro gXs gXp D4 d4 Y58_25 ⟨WW, XA, XB, XC, XE, XF, Xx, Xy, Xz, Xs, Xp, O1, O2, O3, O4, BG, mXsXx, mXsXy, mXsXz, mXsXF, mXsBG, mXpXx, mXpXy, mXpXz, mXpXF, mXpBG, nXsXp, hHeld⟩
      refine AnyL_ready (rs := [5]) (by kernel_rfl) (by simp) ?_
      refine ReadyL.cons (o := oq8_7_5) rfl (fun K hK => ?_) ReadyL.nil
      delta oq8_7_5
      go_simp
      have hbs : w.heap.size ≤ Y58_25.heap.size := WW.size
      have hc := rtimes_any E E2 f f2 e e2 Y58_25 XE.num XF.num (by omega) (by omega)
      rw [← Ht2.out] at hc
      refine hc.mono ?_
      clear hc
      rintro e V384 ⟨v, rfl, hv, hb⟩
      replace XA := XA.below hb
      replace XB := XB.below hb
      replace XC := XC.below hb
      replace XE := XE.below hb
      replace XF := XF.below hb
      replace Xx := Xx.below hb
      replace Xy := Xy.below hb
      replace Xz := Xz.below hb
      replace Xs := Xs.below hb
      replace Xp := Xp.below hb
      replace O1 := O1.below hb (Nat.le_refl _)
      replace O2 := O2.below hb (Nat.le_refl _)
      replace O3 := O3.below hb (Nat.le_refl _)
      replace O4 := O4.below hb (Nat.le_refl _)
      replace BG := BG.below hb BG.lt
      replace WW := WW.trans (hb.mono WW.size)
      have sz384 := hb.size
      obtain ⟨D5, d5, rfl, ho⟩ := hv
      have O5 := ho.weak (b := w.heap.size) hbs
      clear ho
      clear hb hbs
      refine hK.out _ _ (⟨XE.cell, XF.cell⟩) (fun hHeld2 => ?_)
      clear hK K hHeld
      have hHeld := hHeld2
      clear hHeld2
      (try simp only [oq8_7_5, Act.put, List.setIfInBounds_toArray, List.set_cons_zero, List.set_cons_succ])
      exact hst6 gXs gXp D4 d4 D5 d5 V384 ⟨WW, XA, XB, XC, XE, XF, Xx, Xy, Xz, Xs, Xp, O1, O2, O3, O4, O5, BG, (by first | exact mXsXx | omega), (by first | exact mXsXy | omega), (by first | exact mXsXz | omega), (by first | exact mXsXF | omega), (by first | exact mXsBG | omega), (by first | exact mXpXx | omega), (by first | exact mXpXy | omega), (by first | exact mXpXz | omega), (by first | exact mXpXF | omega), (by first | exact mXpBG | omega), (by first | exact nXsXp | omega), hHeld⟩
    case h2 =>
      rintro gXs gXp D4 d4 D5 d5 Y58_27 ⟨WW, XA, XB, XC, XE, XF, Xx, Xy, Xz, Xs, Xp, O1, O2, O3, O4, O5, BG, mXsXx, mXsXy, mXsXz, mXsXF, mXsBG, mXpXx, mXpXy, mXpXz, mXpXF, mXpBG, nXsXp, hHeld⟩
      refine AnyL_ready (rs := [8]) (by kernel_rfl) (by simp) ?_
      refine ReadyL.cons (o := oq8_7_8) rfl (fun K hK => ?_) ReadyL.nil
      delta oq8_7_8
      have fz := Xs.1.frozen 0
      have cz := Xs.cell
      have lz := Xs.lt
      go_simp
      have Xsn := Xs.set_ (A' := D4) (n' := (nw t1)) (c' := d4) (a' := t1) (.inr O4)
      replace XA := XA.far (p := ⟨gXs, 0, none⟩) Xs.1 Xs.2.2 (by simp <;> omega) (.slice D4 (nw t1) d4)
      replace XB := XB.far (p := ⟨gXs, 0, none⟩) Xs.1 Xs.2.2 (by simp <;> omega) (.slice D4 (nw t1) d4)
      replace XC := XC.far (p := ⟨gXs, 0, none⟩) Xs.1 Xs.2.2 (by simp <;> omega) (.slice D4 (nw t1) d4)
      replace XE := XE.far (p := ⟨gXs, 0, none⟩) Xs.1 Xs.2.2 (by simp <;> omega) (.slice D4 (nw t1) d4)
      replace XF := XF.far (p := ⟨gXs, 0, none⟩) Xs.1 Xs.2.2 (by simp <;> omega) (.slice D4 (nw t1) d4)
      replace Xx := Xx.far (p := ⟨gXs, 0, none⟩) Xs.1 Xs.2.2 (by simp <;> omega) (.slice D4 (nw t1) d4)
      replace Xy := Xy.far (p := ⟨gXs, 0, none⟩) Xs.1 Xs.2.2 (by simp <;> omega) (.slice D4 (nw t1) d4)
      replace Xz := Xz.far (p := ⟨gXs, 0, none⟩) Xs.1 Xs.2.2 (by simp <;> omega) (.slice D4 (nw t1) d4)
      replace Xp := Xp.far (p := ⟨gXs, 0, none⟩) Xs.1 Xs.2.2 (by simp <;> omega) (.slice D4 (nw t1) d4)
      replace O1 := O1.box (p := ⟨gXs, 0, none⟩) Xs.1 (by decide) (.slice D4 (nw t1) d4)
      replace O2 := O2.box (p := ⟨gXs, 0, none⟩) Xs.1 (by decide) (.slice D4 (nw t1) d4)
      replace O3 := O3.box (p := ⟨gXs, 0, none⟩) Xs.1 (by decide) (.slice D4 (nw t1) d4)
      replace O4 := O4.box (p := ⟨gXs, 0, none⟩) Xs.1 (by decide) (.slice D4 (nw t1) d4)
      replace O5 := O5.box (p := ⟨gXs, 0, none⟩) Xs.1 (by decide) (.slice D4 (nw t1) d4)
      replace BG := BG.far (p := ⟨gXs, 0, none⟩) (by simp <;> omega) (.slice D4 (nw t1) d4)
      replace Xs := Xsn
      clear Xsn
      replace WW := WW.setCell (p := ⟨gXs, 0, none⟩) (by simp <;> omega) (.slice D4 (nw t1) d4)
      refine hK.out _ _ (⟨XE.cell, XF.cell⟩) (fun hHeld2 => ?_)
      clear hK K hHeld
      (try simp only [oq8_7_8, Act.put, List.setIfInBounds_toArray, List.set_cons_zero, List.set_cons_succ])
      generalize hV : Y58_27.setCell ⟨gXs, 0, none⟩ (.slice D4 (nw t1) d4) = V386 at hHeld2 WW XA XB XC XE XF Xx Xy Xz Xs Xp O1 O2 O3 O4 O5 BG ⊢
      clear hV fz cz lz
      have hHeld := hHeld2
      clear hHeld2
      refine AnyL_ready (rs := [9]) (by kernel_rfl) (by simp) ?_
      refine ReadyL.cons (o := oq8_7_9) rfl (fun K hK => ?_) ReadyL.nil
      delta oq8_7_9
      have fz := Xp.1.frozen 0
      have cz := Xp.cell
      have lz := Xp.lt
      go_simp
      have Xpn := Xp.set_ (A' := D5) (n' := (nw t2)) (c' := d5) (a' := t2) (.inr O5)
      replace XA := XA.far (p := ⟨gXp, 0, none⟩) Xp.1 Xp.2.2 (by simp <;> omega) (.slice D5 (nw t2) d5)
      replace XB := XB.far (p := ⟨gXp, 0, none⟩) Xp.1 Xp.2.2 (by simp <;> omega) (.slice D5 (nw t2) d5)
      replace XC := XC.far (p := ⟨gXp, 0, none⟩) Xp.1 Xp.2.2 (by simp <;> omega) (.slice D5 (nw t2) d5)
      replace XE := XE.far (p := ⟨gXp, 0, none⟩) Xp.1 Xp.2.2 (by simp <;> omega) (.slice D5 (nw t2) d5)
      replace XF := XF.far (p := ⟨gXp, 0, none⟩) Xp.1 Xp.2.2 (by simp <;> omega) (.slice D5 (nw t2) d5)
      replace Xx := Xx.far (p := ⟨gXp, 0, none⟩) Xp.1 Xp.2.2 (by simp <;> omega) (.slice D5 (nw t2) d5)
      replace Xy := Xy.far (p := ⟨gXp, 0, none⟩) Xp.1 Xp.2.2 (by simp <;> omega) (.slice D5 (nw t2) d5)
      replace Xz := Xz.far (p := ⟨gXp, 0, none⟩) Xp.1 Xp.2.2 (by simp <;> omega) (.slice D5 (nw t2) d5)
      replace Xs := Xs.far (p := ⟨gXp, 0, none⟩) Xp.1 Xp.2.2 (by simp <;> omega) (.slice D5 (nw t2) d5)
      replace O1 := O1.box (p := ⟨gXp, 0, none⟩) Xp.1 (by decide) (.slice D5 (nw t2) d5)
      replace O2 := O2.box (p := ⟨gXp, 0, none⟩) Xp.1 (by decide) (.slice D5 (nw t2) d5)
      replace O3 := O3.box (p := ⟨gXp, 0, none⟩) Xp.1 (by decide) (.slice D5 (nw t2) d5)
      replace O4 := O4.box (p := ⟨gXp, 0, none⟩) Xp.1 (by decide) (.slice D5 (nw t2) d5)
      replace O5 := O5.box (p := ⟨gXp, 0, none⟩) Xp.1 (by decide) (.slice D5 (nw t2) d5)
      replace BG := BG.far (p := ⟨gXp, 0, none⟩) (by simp <;> omega) (.slice D5 (nw t2) d5)
      replace Xp := Xpn
      clear Xpn
      replace WW := WW.setCell (p := ⟨gXp, 0, none⟩) (by simp <;> omega) (.slice D5 (nw t2) d5)
      refine hK.out _ _ (⟨XE.cell, XF.cell⟩) (fun hHeld2 => ?_)
      clear hK K hHeld
      (try simp only [oq8_7_9, Act.put, List.setIfInBounds_toArray, List.set_cons_zero, List.set_cons_succ])
      generalize hV : V386.setCell ⟨gXp, 0, none⟩ (.slice D5 (nw t2) d5) = V387 at hHeld2 WW XA XB XC XE XF Xx Xy Xz Xs Xp O1 O2 O3 O4 O5 BG ⊢
      clear hV fz cz lz
      have hHeld := hHeld2
      clear hHeld2
      refine AnyL_done (by kernel_rfl) ?_ _
      clear hHeld
      refine NoPanic.normal ?_
      exact ⟨rfl, gXs, gXp, D4, d4, D5, d5, rfl, WW, XA, XB, XC, XE, XF, Xx, Xy, Xz, Xs, Xp, O1, O2, O3, O4, O5, BG, (by first | exact mXsXx | omega), (by first | exact mXsXy | omega), (by first | exact mXsXz | omega), (by first | exact mXsXF | omega), (by first | exact mXsBG | omega), (by first | exact mXpXx | omega), (by first | exact mXpXy | omega), (by first | exact mXpXz | omega), (by first | exact mXpXF | omega), (by first | exact mXpBG | omega), (by first | exact nXsXp | omega)⟩
  rintro gXs gXp D4 d4 D5 d5 V107 ⟨WW, XA, XB, XC, XE, XF, Xx, Xy, Xz, Xs, Xp, O1, O2, O3, O4, O5, BG, mXsXx, mXsXy, mXsXz, mXsXF, mXsBG, mXpXx, mXpXy, mXpXz, mXpXF, mXpBG, nXsXp⟩
  have kXA := XA.cell
  have zXA := XA.lt
  have kXB := XB.cell
  have zXB := XB.lt
  have kXC := XC.cell
  have zXC := XC.lt
  have kXE := XE.cell
  have zXE := XE.lt
  have kXF := XF.cell
  have zXF := XF.lt
  have kXx := Xx.cell
  have zXx := Xx.lt
  have kXy := Xy.cell
  have zXy := Xy.lt
  have kXz := Xz.cell
  have zXz := Xz.lt
  have kXs := Xs.cell
  have zXs := Xs.lt
  have kXp := Xp.cell
  have zXp := Xp.lt
  have kBG := BG.cell0
  have zBG := BG.lt
  go_wp2_with fail
  have hst : (fun w' => w'.cell? ⟨w.heap.size, 0, none⟩ = some (.slice A (nw a) c) ∧ w'.cell? ⟨w.heap.size + 1, 0, none⟩ = some (.slice B' (nw b) d) ∧ w'.cell? ⟨w.heap.size + 1 + 1 + 1, 0, none⟩ = some (.slice E (nw e) f) ∧ w'.cell? ⟨w.heap.size + 1 + 1 + 1 + 1, 0, none⟩ = some (.slice E2 (nw e2) f2) ∧ w'.cell? ⟨gXx, 0, none⟩ = some (.slice D1 (nw x) d1) ∧ w'.cell? ⟨gXy, 0, none⟩ = some (.slice D2 (nw y) d2) ∧ w'.cell? ⟨gXz, 0, none⟩ = some (.slice D3 (nw z) d3) ∧ w'.cell? ⟨gXs, 0, none⟩ = some (.slice D4 (nw t1) d4) ∧ w'.cell? ⟨gXp, 0, none⟩ = some (.slice D5 (nw t2) d5) ∧ w'.cell? ⟨V6.heap.size, 0, none⟩ = some (.bool true)) V107.drew := ⟨XA.cell, XB.cell, XE.cell, XF.cell, Xx.cell, Xy.cell, Xz.cell, Xs.cell, Xp.cell, BG.cell0⟩
  clear kXA zXA kXB zXB kXC zXC kXE zXE kXF zXF kXx zXx kXy zXy kXz zXz kXs zXs kXp zXp kBG zBG
  replace WW := WW.drew
  replace XA := XA.drew
  replace XB := XB.drew
  replace XC := XC.drew
  replace XE := XE.drew
  replace XF := XF.drew
  replace Xx := Xx.drew
  replace Xy := Xy.drew
  replace Xz := Xz.drew
  replace Xs := Xs.drew
  replace Xp := Xp.drew
  replace O1 := O1.drew
  replace O2 := O2.drew
  replace O3 := O3.drew
  replace O4 := O4.drew
  replace O5 := O5.drew
  replace BG : Blk V107.drew (V6.heap.size) 4 #[.bool true] := BG
  have qq0 := Xp.lt
  refine region_L 53 (fun w' => w'.cell? ⟨w.heap.size, 0, none⟩ = some (.slice A (nw a) c) ∧ w'.cell? ⟨w.heap.size + 1, 0, none⟩ = some (.slice B' (nw b) d) ∧ w'.cell? ⟨w.heap.size + 1 + 1 + 1, 0, none⟩ = some (.slice E (nw e) f) ∧ w'.cell? ⟨w.heap.size + 1 + 1 + 1 + 1, 0, none⟩ = some (.slice E2 (nw e2) f2) ∧ w'.cell? ⟨gXx, 0, none⟩ = some (.slice D1 (nw x) d1) ∧ w'.cell? ⟨gXy, 0, none⟩ = some (.slice D2 (nw y) d2) ∧ w'.cell? ⟨gXz, 0, none⟩ = some (.slice D3 (nw z) d3) ∧ w'.cell? ⟨gXs, 0, none⟩ = some (.slice D4 (nw t1) d4) ∧ w'.cell? ⟨gXp, 0, none⟩ = some (.slice D5 (nw t2) d5) ∧ w'.cell? ⟨V6.heap.size, 0, none⟩ = some (.bool true)) (by kernel_rfl) hst (fun hHeld => ?_)
  clear hst
  generalize hV : V107.drew = U107x0 at hHeld WW qq0 XA XB XC XE XF Xx Xy Xz Xs Xp O1 O2 O3 O4 O5 BG ⊢
  clear hV
  refine AnyL_take (i := 0) (oi := oq8_10_0) (v := ?_) rfl (by kernel_rfl) (by kernel_rfl) (by kernel_rfl) (by kernel_rfl) (fun _ _ _ h => h) (Or.inl ⟨by rfl, ?_⟩) (by assumption) ?_
  rotate_left
  · (delta oq8_10_0; intro ws hSw; (try dsimp only at hSw); (try go_simp); (try with_reducible rfl))
  (try simp only [oq8_10_0, Act.put, List.setIfInBounds_toArray, List.set_cons_zero, List.set_cons_succ])
  refine AnyL_take (i := 1) (oi := oq8_10_1) (v := ?_) rfl (by kernel_rfl) (by kernel_rfl) (by kernel_rfl) (by kernel_rfl) (fun _ _ _ h => h) (Or.inl ⟨by rfl, ?_⟩) (by assumption) ?_
  rotate_left
  · (delta oq8_10_1; intro ws hSw; (try dsimp only at hSw); (try go_simp); (try with_reducible rfl))
  (try simp only [oq8_10_1, Act.put, List.setIfInBounds_toArray, List.set_cons_zero, List.set_cons_succ])
  refine AnyL_take (i := 2) (oi := oq8_10_2) (v := ?_) rfl (by kernel_rfl) (by kernel_rfl) (by kernel_rfl) (by kernel_rfl) (fun _ _ _ h => h) (Or.inl ⟨by rfl, ?_⟩) (by assumption) ?_
  rotate_left
  · (delta oq8_10_2; intro ws hSw; (try dsimp only at hSw); (try go_simp); (try with_reducible rfl))
  (try simp only [oq8_10_2, Act.put, List.setIfInBounds_toArray, List.set_cons_zero, List.set_cons_succ])
  refine AnyL_take (i := 4) (oi := oq8_10_4) (v := ?_) rfl (by kernel_rfl) (by kernel_rfl) (by kernel_rfl) (by kernel_rfl) (fun _ _ _ h => h) (Or.inl ⟨by rfl, ?_⟩) (by assumption) ?_
  rotate_left
  · (delta oq8_10_4; intro ws hSw; (try dsimp only at hSw); (try go_simp); (try with_reducible rfl))
  (try simp only [oq8_10_4, Act.put, List.setIfInBounds_toArray, List.set_cons_zero, List.set_cons_succ])
  refine AnyL_take (i := 5) (oi := oq8_10_5) (v := ?_) rfl (by kernel_rfl) (by kernel_rfl) (by kernel_rfl) (by kernel_rfl) (fun _ _ _ h => h) (Or.inl ⟨by rfl, ?_⟩) (by assumption) ?_
  rotate_left
  · (delta oq8_10_5; intro ws hSw; (try dsimp only at hSw); (try go_simp); (try with_reducible rfl))
  (try simp only [oq8_10_5, Act.put, List.setIfInBounds_toArray, List.set_cons_zero, List.set_cons_succ])
  refine AnyL_take (i := 6) (oi := oq8_10_6) (v := ?_) rfl (by kernel_rfl) (by kernel_rfl) (by kernel_rfl) (by kernel_rfl) (fun _ _ _ h => h) (Or.inl ⟨by rfl, ?_⟩) (by assumption) ?_
  rotate_left
  · (delta oq8_10_6; intro ws hSw; (try dsimp only at hSw); (try go_simp); (try with_reducible rfl))
  (try simp only [oq8_10_6, Act.put, List.setIfInBounds_toArray, List.set_cons_zero, List.set_cons_succ])
  refine AnyL_ready (rs := [3]) (by kernel_rfl) (by simp) ?_
  refine ReadyL.cons (o := oq8_10_3) rfl (fun K hK => ?_) ReadyL.nil
  delta oq8_10_3
  go_simp
  have hbs : w.heap.size ≤ U107x0.heap.size := WW.size
  have hc := do_pow (w.heap.size + 1 + 1) (V6.heap.size) A D4 C' c d4 p a t1 m U107x0 XA.num Xs.num XC.num hm ha (by omega) XC.1 BG
  rw [E1.out] at hc
  refine hc.mono ?_
  clear hc
  rintro e V109 ⟨v, rfl, hv, hb⟩
  replace XA := XA.below hb
  replace XB := XB.below hb
  replace XC := XC.below hb
  replace XE := XE.below hb
  replace XF := XF.below hb
  replace Xx := Xx.below hb
  replace Xy := Xy.below hb
  replace Xz := Xz.below hb
  replace Xs := Xs.below hb
  replace Xp := Xp.below hb
  replace O1 := O1.below hb (Nat.le_refl _)
  replace O2 := O2.below hb (Nat.le_refl _)
  replace O3 := O3.below hb (Nat.le_refl _)
  replace O4 := O4.below hb (Nat.le_refl _)
  replace O5 := O5.below hb (Nat.le_refl _)
  replace BG := BG.below hb BG.lt
  replace WW := WW.trans (hb.mono WW.size)
  have sz109 := hb.size
  obtain ⟨D6, d6, rfl, ho⟩ := hv
  have O6 := ho.weak (b := w.heap.size) hbs
  clear ho
  clear hb hbs
  refine hK.out _ _ (⟨XA.cell, XB.cell, XE.cell, XF.cell, Xx.cell, Xy.cell, Xz.cell, Xs.cell, Xp.cell, BG.cell0⟩) (fun hHeld2 => ?_)
  clear hK K hHeld
  have hHeld := hHeld2
  clear hHeld2
  (try simp only [oq8_10_3, Act.put, List.setIfInBounds_toArray, List.set_cons_zero, List.set_cons_succ])
  refine AnyL_ready (rs := [7]) (by kernel_rfl) (by simp) ?_
  refine ReadyL.cons (o := oq8_10_7) rfl (fun K hK => ?_) ReadyL.nil
  delta oq8_10_7
  go_simp
  have hbs : w.heap.size ≤ V109.heap.size := WW.size
  have hc := do_pmul (w.heap.size + 1 + 1) (V6.heap.size) D1 D2 C' d1 d2 p x y m V109 Xx.num Xy.num XC.num hm lx ly XC.1 BG
  rw [E2_.out] at hc
  refine hc.mono ?_
  clear hc
  rintro e V110 ⟨v, rfl, hv, hb⟩
  replace XA := XA.below hb
  replace XB := XB.below hb
  replace XC := XC.below hb
  replace XE := XE.below hb
  replace XF := XF.below hb
  replace Xx := Xx.below hb
  replace Xy := Xy.below hb
  replace Xz := Xz.below hb
  replace Xs := Xs.below hb
  replace Xp := Xp.below hb
  replace O1 := O1.below hb (Nat.le_refl _)
  replace O2 := O2.below hb (Nat.le_refl _)
  replace O3 := O3.below hb (Nat.le_refl _)
  replace O4 := O4.below hb (Nat.le_refl _)
  replace O5 := O5.below hb (Nat.le_refl _)
  replace O6 := O6.below hb (Nat.le_refl _)
  replace BG := BG.below hb BG.lt
  replace WW := WW.trans (hb.mono WW.size)
  have sz110 := hb.size
  obtain ⟨D7, d7, rfl, ho⟩ := hv
  have O7 := ho.weak (b := w.heap.size) hbs
  clear ho
  clear hb hbs
  refine hK.out _ _ (⟨XA.cell, XB.cell, XE.cell, XF.cell, Xx.cell, Xy.cell, Xz.cell, Xs.cell, Xp.cell, BG.cell0⟩) (fun hHeld2 => ?_)
  clear hK K hHeld
  have hHeld := hHeld2
  clear hHeld2
  (try simp only [oq8_10_7, Act.put, List.setIfInBounds_toArray, List.set_cons_zero, List.set_cons_succ])
  refine AnyL_ready (rs := [8]) (by kernel_rfl) (by simp) ?_
  refine ReadyL.cons (o := oq8_10_8) rfl (fun K hK => ?_) ReadyL.nil
  delta oq8_10_8
  go_simp
  have hbs : w.heap.size ≤ V110.heap.size := WW.size
  have hc := same3_any D6 D7 _ _ d6 d7 v1 v1 V110 O6.num O7.num (by omega) (by omega)
  rw [sameB_yes] at hc
  refine hc.mono ?_
  clear hc
  rintro e V111 ⟨rfl, hb⟩
  replace XA := XA.below hb
  replace XB := XB.below hb
  replace XC := XC.below hb
  replace XE := XE.below hb
  replace XF := XF.below hb
  replace Xx := Xx.below hb
  replace Xy := Xy.below hb
  replace Xz := Xz.below hb
  replace Xs := Xs.below hb
  replace Xp := Xp.below hb
  replace O1 := O1.below hb (Nat.le_refl _)
  replace O2 := O2.below hb (Nat.le_refl _)
  replace O3 := O3.below hb (Nat.le_refl _)
  replace O4 := O4.below hb (Nat.le_refl _)
  replace O5 := O5.below hb (Nat.le_refl _)
  replace O6 := O6.below hb (Nat.le_refl _)
  replace O7 := O7.below hb (Nat.le_refl _)
  replace BG := BG.below hb BG.lt
  replace WW := WW.trans (hb.mono WW.size)
  have sz111 := hb.size
  clear hb hbs
  refine hK.out _ _ (⟨XA.cell, XB.cell, XE.cell, XF.cell, Xx.cell, Xy.cell, Xz.cell, Xs.cell, Xp.cell, BG.cell0⟩) (fun hHeld2 => ?_)
  clear hK K hHeld
  have hHeld := hHeld2
  clear hHeld2
  (try simp only [oq8_10_8, Act.put, List.setIfInBounds_toArray, List.set_cons_zero, List.set_cons_succ])
  refine AnyL_take (i := 9) (oi := oq8_10_9) (v := ?_) rfl (by kernel_rfl) (by kernel_rfl) (by kernel_rfl) (by kernel_rfl) (fun _ _ _ h => h) (Or.inl ⟨by rfl, ?_⟩) (by assumption) ?_
  rotate_left
  · (delta oq8_10_9; intro ws hSw; (try dsimp only at hSw); (try go_simp); (try with_reducible rfl))
  (try simp only [oq8_10_9, Act.put, List.setIfInBounds_toArray, List.set_cons_zero, List.set_cons_succ])
  refine AnyL_take (i := 10) (oi := oq8_10_10) (v := ?_) rfl (by kernel_rfl) (by kernel_rfl) (by kernel_rfl) (by kernel_rfl) (fun _ _ _ h => h) (Or.inl ⟨by rfl, ?_⟩) (by assumption) ?_
  rotate_left
  · (delta oq8_10_10; intro ws hSw; (try dsimp only at hSw); (try go_simp); (try with_reducible rfl))
  (try simp only [oq8_10_10, Act.put, List.setIfInBounds_toArray, List.set_cons_zero, List.set_cons_succ])
  refine AnyL_take (i := 11) (oi := oq8_10_11) (v := ?_) rfl (by kernel_rfl) (by kernel_rfl) (by kernel_rfl) (by kernel_rfl) (fun _ _ _ h => h) (Or.inl ⟨by rfl, ?_⟩) (by assumption) ?_
  rotate_left
  · (delta oq8_10_11; intro ws hSw; (try dsimp only at hSw); (try go_simp); (try with_reducible rfl))
  (try simp only [oq8_10_11, Act.put, List.setIfInBounds_toArray, List.set_cons_zero, List.set_cons_succ])
  refine AnyL_take (i := 12) (oi := oq8_10_12) (v := ?_) rfl (by kernel_rfl) (by kernel_rfl) (by kernel_rfl) (by kernel_rfl) (fun _ _ _ h => h) (Or.inl ⟨by rfl, ?_⟩) (by assumption) ?_
  rotate_left
  · (delta oq8_10_12; intro ws hSw; (try dsimp only at hSw); (try go_simp); (try with_reducible rfl))
  (try simp only [oq8_10_12, Act.put, List.setIfInBounds_toArray, List.set_cons_zero, List.set_cons_succ])
  refine AnyL_take (i := 14) (oi := oq8_10_14) (v := ?_) rfl (by kernel_rfl) (by kernel_rfl) (by kernel_rfl) (by kernel_rfl) (fun _ _ _ h => h) (Or.inl ⟨by rfl, ?_⟩) (by assumption) ?_
  rotate_left
  · (delta oq8_10_14; intro ws hSw; (try dsimp only at hSw); (try go_simp); (try with_reducible rfl))
  (try simp only [oq8_10_14, Act.put, List.setIfInBounds_toArray, List.set_cons_zero, List.set_cons_succ])
  refine AnyL_take (i := 15) (oi := oq8_10_15) (v := ?_) rfl (by kernel_rfl) (by kernel_rfl) (by kernel_rfl) (by kernel_rfl) (fun _ _ _ h => h) (Or.inl ⟨by rfl, ?_⟩) (by assumption) ?_
  rotate_left
  · (delta oq8_10_15; intro ws hSw; (try dsimp only at hSw); (try go_simp); (try with_reducible rfl))
  (try simp only [oq8_10_15, Act.put, List.setIfInBounds_toArray, List.set_cons_zero, List.set_cons_succ])
  refine AnyL_take (i := 16) (oi := oq8_10_16) (v := ?_) rfl (by kernel_rfl) (by kernel_rfl) (by kernel_rfl) (by kernel_rfl) (fun _ _ _ h => h) (Or.inl ⟨by rfl, ?_⟩) (by assumption) ?_
  rotate_left
  · (delta oq8_10_16; intro ws hSw; (try dsimp only at hSw); (try go_simp); (try with_reducible rfl))
  (try simp only [oq8_10_16, Act.put, List.setIfInBounds_toArray, List.set_cons_zero, List.set_cons_succ])
  refine AnyL_ready (rs := [13]) (by kernel_rfl) (by simp) ?_
  refine ReadyL.cons (o := oq8_10_13) rfl (fun K hK => ?_) ReadyL.nil
  delta oq8_10_13
  go_simp
  have hbs : w.heap.size ≤ V111.heap.size := WW.size
  have hc := do_pow (w.heap.size + 1 + 1) (V6.heap.size) D1 E2 C' d1 f2 p x e2 m V111 Xx.num XF.num XC.num hm lx (by omega) XC.1 BG
  rw [← Hv2.out] at hc
  refine hc.mono ?_
  clear hc
  rintro e V112 ⟨v, rfl, hv, hb⟩
  replace XA := XA.below hb
  replace XB := XB.below hb
  replace XC := XC.below hb
  replace XE := XE.below hb
  replace XF := XF.below hb
  replace Xx := Xx.below hb
  replace Xy := Xy.below hb
  replace Xz := Xz.below hb
  replace Xs := Xs.below hb
  replace Xp := Xp.below hb
  replace O1 := O1.below hb (Nat.le_refl _)
  replace O2 := O2.below hb (Nat.le_refl _)
  replace O3 := O3.below hb (Nat.le_refl _)
  replace O4 := O4.below hb (Nat.le_refl _)
  replace O5 := O5.below hb (Nat.le_refl _)
  replace O6 := O6.below hb (Nat.le_refl _)
  replace O7 := O7.below hb (Nat.le_refl _)
  replace BG := BG.below hb BG.lt
  replace WW := WW.trans (hb.mono WW.size)
  have sz112 := hb.size
  obtain ⟨D8, d8, rfl, ho⟩ := hv
  have O8 := ho.weak (b := w.heap.size) hbs
  clear ho
  clear hb hbs
  refine hK.out _ _ (⟨XA.cell, XB.cell, XE.cell, XF.cell, Xx.cell, Xy.cell, Xz.cell, Xs.cell, Xp.cell, BG.cell0⟩) (fun hHeld2 => ?_)
  clear hK K hHeld
  have hHeld := hHeld2
  clear hHeld2
  (try simp only [oq8_10_13, Act.put, List.setIfInBounds_toArray, List.set_cons_zero, List.set_cons_succ])
  refine AnyL_ready (rs := [17]) (by kernel_rfl) (by simp) ?_
  refine ReadyL.cons (o := oq8_10_17) rfl (fun K hK => ?_) ReadyL.nil
  delta oq8_10_17
  go_simp
  have hbs : w.heap.size ≤ V112.heap.size := WW.size
  have hc := do_pow (w.heap.size + 1 + 1) (V6.heap.size) A D5 C' c d5 p a t2 m V112 XA.num Xp.num XC.num hm ha (by omega) XC.1 BG
  rw [E3.out] at hc
  refine hc.mono ?_
  clear hc
  rintro e V113 ⟨v, rfl, hv, hb⟩
  replace XA := XA.below hb
  replace XB := XB.below hb
  replace XC := XC.below hb
  replace XE := XE.below hb
  replace XF := XF.below hb
  replace Xx := Xx.below hb
  replace Xy := Xy.below hb
  replace Xz := Xz.below hb
  replace Xs := Xs.below hb
  replace Xp := Xp.below hb
  replace O1 := O1.below hb (Nat.le_refl _)
  replace O2 := O2.below hb (Nat.le_refl _)
  replace O3 := O3.below hb (Nat.le_refl _)
  replace O4 := O4.below hb (Nat.le_refl _)
  replace O5 := O5.below hb (Nat.le_refl _)
  replace O6 := O6.below hb (Nat.le_refl _)
  replace O7 := O7.below hb (Nat.le_refl _)
  replace O8 := O8.below hb (Nat.le_refl _)
  replace BG := BG.below hb BG.lt
  replace WW := WW.trans (hb.mono WW.size)
  have sz113 := hb.size
  obtain ⟨D9, d9, rfl, ho⟩ := hv
  have O9 := ho.weak (b := w.heap.size) hbs
  clear ho
  clear hb hbs
  refine hK.out _ _ (⟨XA.cell, XB.cell, XE.cell, XF.cell, Xx.cell, Xy.cell, Xz.cell, Xs.cell, Xp.cell, BG.cell0⟩) (fun hHeld2 => ?_)
  clear hK K hHeld
  have hHeld := hHeld2
  clear hHeld2
  (try simp only [oq8_10_17, Act.put, List.setIfInBounds_toArray, List.set_cons_zero, List.set_cons_succ])
  refine AnyL_ready (rs := [18]) (by kernel_rfl) (by simp) ?_
  refine ReadyL.cons (o := oq8_10_18) rfl (fun K hK => ?_) ReadyL.nil
  delta oq8_10_18
  go_simp
  have hbs : w.heap.size ≤ V113.heap.size := WW.size
  have hc := same3_any D8 D9 _ _ d8 d9 v2 v2 V113 O8.num O9.num (by omega) (by omega)
  rw [sameB_yes] at hc
  refine hc.mono ?_
  clear hc
  rintro e V114 ⟨rfl, hb⟩
  replace XA := XA.below hb
  replace XB := XB.below hb
  replace XC := XC.below hb
  replace XE := XE.below hb
  replace XF := XF.below hb
  replace Xx := Xx.below hb
  replace Xy := Xy.below hb
  replace Xz := Xz.below hb
  replace Xs := Xs.below hb
  replace Xp := Xp.below hb
  replace O1 := O1.below hb (Nat.le_refl _)
  replace O2 := O2.below hb (Nat.le_refl _)
  replace O3 := O3.below hb (Nat.le_refl _)
  replace O4 := O4.below hb (Nat.le_refl _)
  replace O5 := O5.below hb (Nat.le_refl _)
  replace O6 := O6.below hb (Nat.le_refl _)
  replace O7 := O7.below hb (Nat.le_refl _)
  replace O8 := O8.below hb (Nat.le_refl _)
  replace O9 := O9.below hb (Nat.le_refl _)
  replace BG := BG.below hb BG.lt
  replace WW := WW.trans (hb.mono WW.size)
  have sz114 := hb.size
  clear hb hbs
  refine hK.out _ _ (⟨XA.cell, XB.cell, XE.cell, XF.cell, Xx.cell, Xy.cell, Xz.cell, Xs.cell, Xp.cell, BG.cell0⟩) (fun hHeld2 => ?_)
  clear hK K hHeld
  have hHeld := hHeld2
  clear hHeld2
  (try simp only [oq8_10_18, Act.put, List.setIfInBounds_toArray, List.set_cons_zero, List.set_cons_succ])
  refine AnyL_take (i := 19) (oi := oq8_10_19) (v := ?_) rfl (by kernel_rfl) (by kernel_rfl) (by kernel_rfl) (by kernel_rfl) (fun _ _ _ h => h) (Or.inl ⟨by rfl, ?_⟩) (by assumption) ?_
  rotate_left
  · (delta oq8_10_19; intro ws hSw; (try dsimp only at hSw); (try go_simp); (try with_reducible rfl))
  (try simp only [oq8_10_19, Act.put, List.setIfInBounds_toArray, List.set_cons_zero, List.set_cons_succ])
  refine AnyL_take (i := 20) (oi := oq8_10_20) (v := ?_) rfl (by kernel_rfl) (by kernel_rfl) (by kernel_rfl) (by kernel_rfl) (fun _ _ _ h => h) (Or.inl ⟨by rfl, ?_⟩) (by assumption) ?_
  rotate_left
  · (delta oq8_10_20; intro ws hSw; (try dsimp only at hSw); (try go_simp); (try with_reducible rfl))
  (try simp only [oq8_10_20, Act.put, List.setIfInBounds_toArray, List.set_cons_zero, List.set_cons_succ])
  refine AnyL_take (i := 21) (oi := oq8_10_21) (v := ?_) rfl (by kernel_rfl) (by kernel_rfl) (by kernel_rfl) (by kernel_rfl) (fun _ _ _ h => h) (Or.inl ⟨by rfl, ?_⟩) (by assumption) ?_
  rotate_left
  · (delta oq8_10_21; intro ws hSw; (try dsimp only at hSw); (try go_simp); (try with_reducible rfl))
  (try simp only [oq8_10_21, Act.put, List.setIfInBounds_toArray, List.set_cons_zero, List.set_cons_succ])
  refine AnyL_take (i := 22) (oi := oq8_10_22) (v := ?_) rfl (by kernel_rfl) (by kernel_rfl) (by kernel_rfl) (by kernel_rfl) (fun _ _ _ h => h) (Or.inl ⟨by rfl, ?_⟩) (by assumption) ?_
  rotate_left
  · (delta oq8_10_22; intro ws hSw; (try dsimp only at hSw); (try go_simp); (try with_reducible rfl))
  (try simp only [oq8_10_22, Act.put, List.setIfInBounds_toArray, List.set_cons_zero, List.set_cons_succ])
  refine AnyL_take (i := 23) (oi := oq8_10_23) (v := ?_) rfl (by kernel_rfl) (by kernel_rfl) (by kernel_rfl) (by kernel_rfl) (fun _ _ _ h => h) (Or.inl ⟨by rfl, ?_⟩) (by assumption) ?_
  rotate_left
  · (delta oq8_10_23; intro ws hSw; (try dsimp only at hSw); (try go_simp); (try with_reducible rfl))
  (try simp only [oq8_10_23, Act.put, List.setIfInBounds_toArray, List.set_cons_zero, List.set_cons_succ])
  refine AnyL_take (i := 24) (oi := oq8_10_24) (v := ?_) rfl (by kernel_rfl) (by kernel_rfl) (by kernel_rfl) (by kernel_rfl) (fun _ _ _ h => h) (Or.inl ⟨by rfl, ?_⟩) (by assumption) ?_
  rotate_left
  · (delta oq8_10_24; intro ws hSw; (try dsimp only at hSw); (try go_simp); (try with_reducible rfl))
  (try simp only [oq8_10_24, Act.put, List.setIfInBounds_toArray, List.set_cons_zero, List.set_cons_succ])
  refine AnyL_take (i := 26) (oi := oq8_10_26) (v := ?_) rfl (by kernel_rfl) (by kernel_rfl) (by kernel_rfl) (by kernel_rfl) (fun _ _ _ h => h) (Or.inl ⟨by rfl, ?_⟩) (by assumption) ?_
  rotate_left
  · (delta oq8_10_26; intro ws hSw; (try dsimp only at hSw); (try go_simp); (try with_reducible rfl))
  (try simp only [oq8_10_26, Act.put, List.setIfInBounds_toArray, List.set_cons_zero, List.set_cons_succ])
  refine AnyL_take (i := 28) (oi := oq8_10_28) (v := ?_) rfl (by kernel_rfl) (by kernel_rfl) (by kernel_rfl) (by kernel_rfl) (fun _ _ _ h => h) (Or.inl ⟨by rfl, ?_⟩) (by assumption) ?_
  rotate_left
  · (delta oq8_10_28; intro ws hSw; (try dsimp only at hSw); (try go_simp); (try with_reducible rfl))
  (try simp only [oq8_10_28, Act.put, List.setIfInBounds_toArray, List.set_cons_zero, List.set_cons_succ])
  refine AnyL_take (i := 29) (oi := oq8_10_29) (v := ?_) rfl (by kernel_rfl) (by kernel_rfl) (by kernel_rfl) (by kernel_rfl) (fun _ _ _ h => h) (Or.inl ⟨by rfl, ?_⟩) (by assumption) ?_
  rotate_left
  · (delta oq8_10_29; intro ws hSw; (try dsimp only at hSw); (try go_simp); (try with_reducible rfl))
  (try simp only [oq8_10_29, Act.put, List.setIfInBounds_toArray, List.set_cons_zero, List.set_cons_succ])
  refine AnyL_take (i := 30) (oi := oq8_10_30) (v := ?_) rfl (by kernel_rfl) (by kernel_rfl) (by kernel_rfl) (by kernel_rfl) (fun _ _ _ h => h) (Or.inl ⟨by rfl, ?_⟩) (by assumption) ?_
  rotate_left
  · (delta oq8_10_30; intro ws hSw; (try dsimp only at hSw); (try go_simp); (try with_reducible rfl))
  (try simp only [oq8_10_30, Act.put, List.setIfInBounds_toArray, List.set_cons_zero, List.set_cons_succ])
  refine AnyL_ready (rs := [25]) (by kernel_rfl) (by simp) ?_
  refine ReadyL.cons (o := oq8_10_25) rfl (fun K hK => ?_) ReadyL.nil
  delta oq8_10_25
  go_simp
  have hbs : w.heap.size ≤ V114.heap.size := WW.size
  have hc := do_pmul (w.heap.size + 1 + 1) (V6.heap.size) A B' C' c d p a b m V114 XA.num XB.num XC.num hm ha hb_ XC.1 BG
  rw [← Hab.out] at hc
  refine hc.mono ?_
  clear hc
  rintro e V115 ⟨v, rfl, hv, hb⟩
  replace XA := XA.below hb
  replace XB := XB.below hb
  replace XC := XC.below hb
  replace XE := XE.below hb
  replace XF := XF.below hb
  replace Xx := Xx.below hb
  replace Xy := Xy.below hb
  replace Xz := Xz.below hb
  replace Xs := Xs.below hb
  replace Xp := Xp.below hb
  replace O1 := O1.below hb (Nat.le_refl _)
  replace O2 := O2.below hb (Nat.le_refl _)
  replace O3 := O3.below hb (Nat.le_refl _)
  replace O4 := O4.below hb (Nat.le_refl _)
  replace O5 := O5.below hb (Nat.le_refl _)
  replace O6 := O6.below hb (Nat.le_refl _)
  replace O7 := O7.below hb (Nat.le_refl _)
  replace O8 := O8.below hb (Nat.le_refl _)
  replace O9 := O9.below hb (Nat.le_refl _)
  replace BG := BG.below hb BG.lt
  replace WW := WW.trans (hb.mono WW.size)
  have sz115 := hb.size
  obtain ⟨D10, d10, rfl, ho⟩ := hv
  have O10 := ho.weak (b := w.heap.size) hbs
  clear ho
  clear hb hbs
  refine hK.out _ _ (⟨XA.cell, XB.cell, XE.cell, XF.cell, Xx.cell, Xy.cell, Xz.cell, Xs.cell, Xp.cell, BG.cell0⟩) (fun hHeld2 => ?_)
  clear hK K hHeld
  have hHeld := hHeld2
  clear hHeld2
  (try simp only [oq8_10_25, Act.put, List.setIfInBounds_toArray, List.set_cons_zero, List.set_cons_succ])
  refine AnyL_ready (rs := [27]) (by kernel_rfl) (by simp) ?_
  refine ReadyL.cons (o := oq8_10_27) rfl (fun K hK => ?_) ReadyL.nil
  delta oq8_10_27
  go_simp
  have hbs : w.heap.size ≤ V115.heap.size := WW.size
  have hc := do_pow (w.heap.size + 1 + 1) (V6.heap.size) D10 E C' d10 f p ab e m V115 O10.num XE.num XC.num hm lab (by omega) XC.1 BG
  rw [← Hv3.out] at hc
  refine hc.mono ?_
  clear hc
  rintro e V116 ⟨v, rfl, hv, hb⟩
  replace XA := XA.below hb
  replace XB := XB.below hb
  replace XC := XC.below hb
  replace XE := XE.below hb
  replace XF := XF.below hb
  replace Xx := Xx.below hb
  replace Xy := Xy.below hb
  replace Xz := Xz.below hb
  replace Xs := Xs.below hb
  replace Xp := Xp.below hb
  replace O1 := O1.below hb (Nat.le_refl _)
  replace O2 := O2.below hb (Nat.le_refl _)
  replace O3 := O3.below hb (Nat.le_refl _)
  replace O4 := O4.below hb (Nat.le_refl _)
  replace O5 := O5.below hb (Nat.le_refl _)
  replace O6 := O6.below hb (Nat.le_refl _)
  replace O7 := O7.below hb (Nat.le_refl _)
  replace O8 := O8.below hb (Nat.le_refl _)
  replace O9 := O9.below hb (Nat.le_refl _)
  replace O10 := O10.below hb (Nat.le_refl _)
  replace BG := BG.below hb BG.lt
  replace WW := WW.trans (hb.mono WW.size)
  have sz116 := hb.size
  obtain ⟨D11, d11, rfl, ho⟩ := hv
  have O11 := ho.weak (b := w.heap.size) hbs
  clear ho
  clear hb hbs
  refine hK.out _ _ (⟨XA.cell, XB.cell, XE.cell, XF.cell, Xx.cell, Xy.cell, Xz.cell, Xs.cell, Xp.cell, BG.cell0⟩) (fun hHeld2 => ?_)
  clear hK K hHeld
  have hHeld := hHeld2
  clear hHeld2
  (try simp only [oq8_10_27, Act.put, List.setIfInBounds_toArray, List.set_cons_zero, List.set_cons_succ])
  refine AnyL_ready (rs := [31]) (by kernel_rfl) (by simp) ?_
  refine ReadyL.cons (o := oq8_10_31) rfl (fun K hK => ?_) ReadyL.nil
  delta oq8_10_31
  go_simp
  have hbs : w.heap.size ≤ V116.heap.size := WW.size
  have hc := do_pmul (w.heap.size + 1 + 1) (V6.heap.size) D1 D3 C' d1 d3 p x z m V116 Xx.num Xz.num XC.num hm lx lz XC.1 BG
  rw [E4.out] at hc
  refine hc.mono ?_
  clear hc
  rintro e V117 ⟨v, rfl, hv, hb⟩
  replace XA := XA.below hb
  replace XB := XB.below hb
  replace XC := XC.below hb
  replace XE := XE.below hb
  replace XF := XF.below hb
  replace Xx := Xx.below hb
  replace Xy := Xy.below hb
  replace Xz := Xz.below hb
  replace Xs := Xs.below hb
  replace Xp := Xp.below hb
  replace O1 := O1.below hb (Nat.le_refl _)
  replace O2 := O2.below hb (Nat.le_refl _)
  replace O3 := O3.below hb (Nat.le_refl _)
  replace O4 := O4.below hb (Nat.le_refl _)
  replace O5 := O5.below hb (Nat.le_refl _)
  replace O6 := O6.below hb (Nat.le_refl _)
  replace O7 := O7.below hb (Nat.le_refl _)
  replace O8 := O8.below hb (Nat.le_refl _)
  replace O9 := O9.below hb (Nat.le_refl _)
  replace O10 := O10.below hb (Nat.le_refl _)
  replace O11 := O11.below hb (Nat.le_refl _)
  replace BG := BG.below hb BG.lt
  replace WW := WW.trans (hb.mono WW.size)
  have sz117 := hb.size
  obtain ⟨D12, d12, rfl, ho⟩ := hv
  have O12 := ho.weak (b := w.heap.size) hbs
  clear ho
  clear hb hbs
  refine hK.out _ _ (⟨XA.cell, XB.cell, XE.cell, XF.cell, Xx.cell, Xy.cell, Xz.cell, Xs.cell, Xp.cell, BG.cell0⟩) (fun hHeld2 => ?_)
  clear hK K hHeld
  have hHeld := hHeld2
  clear hHeld2
  (try simp only [oq8_10_31, Act.put, List.setIfInBounds_toArray, List.set_cons_zero, List.set_cons_succ])
  refine AnyL_ready (rs := [32]) (by kernel_rfl) (by simp) ?_
  refine ReadyL.cons (o := oq8_10_32) rfl (fun K hK => ?_) ReadyL.nil
  delta oq8_10_32
  go_simp
  have hbs : w.heap.size ≤ V117.heap.size := WW.size
  have hc := same3_any D11 D12 _ _ d11 d12 v3 v3 V117 O11.num O12.num (by omega) (by omega)
  rw [sameB_yes] at hc
  refine hc.mono ?_
  clear hc
  rintro e V118 ⟨rfl, hb⟩
  replace XA := XA.below hb
  replace XB := XB.below hb
  replace XC := XC.below hb
  replace XE := XE.below hb
  replace XF := XF.below hb
  replace Xx := Xx.below hb
  replace Xy := Xy.below hb
  replace Xz := Xz.below hb
  replace Xs := Xs.below hb
  replace Xp := Xp.below hb
  replace O1 := O1.below hb (Nat.le_refl _)
  replace O2 := O2.below hb (Nat.le_refl _)
  replace O3 := O3.below hb (Nat.le_refl _)
  replace O4 := O4.below hb (Nat.le_refl _)
  replace O5 := O5.below hb (Nat.le_refl _)
  replace O6 := O6.below hb (Nat.le_refl _)
  replace O7 := O7.below hb (Nat.le_refl _)
  replace O8 := O8.below hb (Nat.le_refl _)
  replace O9 := O9.below hb (Nat.le_refl _)
  replace O10 := O10.below hb (Nat.le_refl _)
  replace O11 := O11.below hb (Nat.le_refl _)
  replace O12 := O12.below hb (Nat.le_refl _)
  replace BG := BG.below hb BG.lt
  replace WW := WW.trans (hb.mono WW.size)
  have sz118 := hb.size
  clear hb hbs
  refine hK.out _ _ (⟨XA.cell, XB.cell, XE.cell, XF.cell, Xx.cell, Xy.cell, Xz.cell, Xs.cell, Xp.cell, BG.cell0⟩) (fun hHeld2 => ?_)
  clear hK K hHeld
  have hHeld := hHeld2
  clear hHeld2
  (try simp only [oq8_10_32, Act.put, List.setIfInBounds_toArray, List.set_cons_zero, List.set_cons_succ])
  refine AnyL_take (i := 33) (oi := oq8_10_33) (v := ?_) rfl (by kernel_rfl) (by kernel_rfl) (by kernel_rfl) (by kernel_rfl) (fun _ _ _ h => h) (Or.inl ⟨by rfl, ?_⟩) (by assumption) ?_
  rotate_left
  · (delta oq8_10_33; intro ws hSw; (try dsimp only at hSw); (try go_simp); (try with_reducible rfl))
  (try simp only [oq8_10_33, Act.put, List.setIfInBounds_toArray, List.set_cons_zero, List.set_cons_succ])
  refine AnyL_take (i := 34) (oi := oq8_10_34) (v := ?_) rfl (by kernel_rfl) (by kernel_rfl) (by kernel_rfl) (by kernel_rfl) (fun _ _ _ h => h) (Or.inl ⟨by rfl, ?_⟩) (by assumption) ?_
  rotate_left
  · (delta oq8_10_34; intro ws hSw; (try dsimp only at hSw); (try go_simp); (try with_reducible rfl))
  (try simp only [oq8_10_34, Act.put, List.setIfInBounds_toArray, List.set_cons_zero, List.set_cons_succ])
  refine AnyL_take (i := 35) (oi := oq8_10_35) (v := ?_) rfl (by kernel_rfl) (by kernel_rfl) (by kernel_rfl) (by kernel_rfl) (fun _ _ _ h => h) (Or.inl ⟨by rfl, ?_⟩) (by assumption) ?_
  rotate_left
  · (delta oq8_10_35; intro ws hSw; (try dsimp only at hSw); (try go_simp); (try with_reducible rfl))
  (try simp only [oq8_10_35, Act.put, List.setIfInBounds_toArray, List.set_cons_zero, List.set_cons_succ])
  refine AnyL_take (i := 36) (oi := oq8_10_36) (v := ?_) rfl (by kernel_rfl) (by kernel_rfl) (by kernel_rfl) (by kernel_rfl) (fun _ _ _ h => h) (Or.inl ⟨by rfl, ?_⟩) (by assumption) ?_
  rotate_left
  · (delta oq8_10_36; intro ws hSw; (try dsimp only at hSw); (try go_simp); (try with_reducible rfl))
  (try simp only [oq8_10_36, Act.put, List.setIfInBounds_toArray, List.set_cons_zero, List.set_cons_succ])
  refine AnyL_take (i := 39) (oi := oq8_10_39) (v := ?_) rfl (by kernel_rfl) (by kernel_rfl) (by kernel_rfl) (by kernel_rfl) (fun _ _ _ h => h) (Or.inl ⟨by rfl, ?_⟩) (by assumption) ?_
  rotate_left
  · (delta oq8_10_39; intro ws hSw; (try dsimp only at hSw); (try go_simp); (try with_reducible rfl))
  (try simp only [oq8_10_39, Act.put, List.setIfInBounds_toArray, List.set_cons_zero, List.set_cons_succ])
  refine AnyL_ready (rs := [37]) (by kernel_rfl) (by simp) ?_
  refine ReadyL.cons (o := oq8_10_37) rfl (fun K hK => ?_) ReadyL.nil
  delta oq8_10_37
  go_simp
  have hbs : w.heap.size ≤ V118.heap.size := WW.size
  have hc := of3_1 V118
  refine hc.mono ?_
  clear hc
  rintro e V119 ⟨v, rfl, hv, hb⟩
  replace XA := XA.below hb
  replace XB := XB.below hb
  replace XC := XC.below hb
  replace XE := XE.below hb
  replace XF := XF.below hb
  replace Xx := Xx.below hb
  replace Xy := Xy.below hb
  replace Xz := Xz.below hb
  replace Xs := Xs.below hb
  replace Xp := Xp.below hb
  replace O1 := O1.below hb (Nat.le_refl _)
  replace O2 := O2.below hb (Nat.le_refl _)
  replace O3 := O3.below hb (Nat.le_refl _)
  replace O4 := O4.below hb (Nat.le_refl _)
  replace O5 := O5.below hb (Nat.le_refl _)
  replace O6 := O6.below hb (Nat.le_refl _)
  replace O7 := O7.below hb (Nat.le_refl _)
  replace O8 := O8.below hb (Nat.le_refl _)
  replace O9 := O9.below hb (Nat.le_refl _)
  replace O10 := O10.below hb (Nat.le_refl _)
  replace O11 := O11.below hb (Nat.le_refl _)
  replace O12 := O12.below hb (Nat.le_refl _)
  replace BG := BG.below hb BG.lt
  replace WW := WW.trans (hb.mono WW.size)
  have sz119 := hb.size
  obtain ⟨D13, d13, rfl, ho⟩ := hv
  have O13 := ho.weak (b := w.heap.size) hbs
  clear ho
  clear hb hbs
  refine hK.out _ _ (⟨XA.cell, XB.cell, XE.cell, XF.cell, Xx.cell, Xy.cell, Xz.cell, Xs.cell, Xp.cell, BG.cell0⟩) (fun hHeld2 => ?_)
  clear hK K hHeld
  have hHeld := hHeld2
  clear hHeld2
  (try simp only [oq8_10_37, Act.put, List.setIfInBounds_toArray, List.set_cons_zero, List.set_cons_succ])
  refine AnyL_ready (rs := [38]) (by kernel_rfl) (by simp) ?_
  refine ReadyL.cons (o := oq8_10_38) rfl (fun K hK => ?_) ReadyL.nil
  delta oq8_10_38
  go_simp
  have hbs : w.heap.size ≤ V119.heap.size := WW.size
  have hc := do_pow (w.heap.size + 1 + 1) (V6.heap.size) A D13 C' c d13 p a 1 m V119 XA.num O13.num XC.num hm ha (by omega) XC.1 BG
  rw [E5.out] at hc
  refine hc.mono ?_
  clear hc
  rintro e V120 ⟨v, rfl, hv, hb⟩
  replace XA := XA.below hb
  replace XB := XB.below hb
  replace XC := XC.below hb
  replace XE := XE.below hb
  replace XF := XF.below hb
  replace Xx := Xx.below hb
  replace Xy := Xy.below hb
  replace Xz := Xz.below hb
  replace Xs := Xs.below hb
  replace Xp := Xp.below hb
  replace O1 := O1.below hb (Nat.le_refl _)
  replace O2 := O2.below hb (Nat.le_refl _)
  replace O3 := O3.below hb (Nat.le_refl _)
  replace O4 := O4.below hb (Nat.le_refl _)
  replace O5 := O5.below hb (Nat.le_refl _)
  replace O6 := O6.below hb (Nat.le_refl _)
  replace O7 := O7.below hb (Nat.le_refl _)
  replace O8 := O8.below hb (Nat.le_refl _)
  replace O9 := O9.below hb (Nat.le_refl _)
  replace O10 := O10.below hb (Nat.le_refl _)
  replace O11 := O11.below hb (Nat.le_refl _)
  replace O12 := O12.below hb (Nat.le_refl _)
  replace O13 := O13.below hb (Nat.le_refl _)
  replace BG := BG.below hb BG.lt
  replace WW := WW.trans (hb.mono WW.size)
  have sz120 := hb.size
  obtain ⟨D14, d14, rfl, ho⟩ := hv
  have O14 := ho.weak (b := w.heap.size) hbs
  clear ho
  clear hb hbs
  refine hK.out _ _ (⟨XA.cell, XB.cell, XE.cell, XF.cell, Xx.cell, Xy.cell, Xz.cell, Xs.cell, Xp.cell, BG.cell0⟩) (fun hHeld2 => ?_)
  clear hK K hHeld
  have hHeld := hHeld2
  clear hHeld2
  (try simp only [oq8_10_38, Act.put, List.setIfInBounds_toArray, List.set_cons_zero, List.set_cons_succ])
  refine AnyL_ready (rs := [40]) (by kernel_rfl) (by simp) ?_
  refine ReadyL.cons (o := oq8_10_40) rfl (fun K hK => ?_) ReadyL.nil
  delta oq8_10_40
  go_simp
  have hbs : w.heap.size ≤ V120.heap.size := WW.size
  have hc := same3_any D14 A _ _ d14 c a a V120 O14.num XA.num (by omega) (by omega)
  rw [sameB_yes] at hc
  refine hc.mono ?_
  clear hc
  rintro e V121 ⟨rfl, hb⟩
  replace XA := XA.below hb
  replace XB := XB.below hb
  replace XC := XC.below hb
  replace XE := XE.below hb
  replace XF := XF.below hb
  replace Xx := Xx.below hb
  replace Xy := Xy.below hb
  replace Xz := Xz.below hb
  replace Xs := Xs.below hb
  replace Xp := Xp.below hb
  replace O1 := O1.below hb (Nat.le_refl _)
  replace O2 := O2.below hb (Nat.le_refl _)
  replace O3 := O3.below hb (Nat.le_refl _)
  replace O4 := O4.below hb (Nat.le_refl _)
  replace O5 := O5.below hb (Nat.le_refl _)
  replace O6 := O6.below hb (Nat.le_refl _)
  replace O7 := O7.below hb (Nat.le_refl _)
  replace O8 := O8.below hb (Nat.le_refl _)
  replace O9 := O9.below hb (Nat.le_refl _)
  replace O10 := O10.below hb (Nat.le_refl _)
  replace O11 := O11.below hb (Nat.le_refl _)
  replace O12 := O12.below hb (Nat.le_refl _)
  replace O13 := O13.below hb (Nat.le_refl _)
  replace O14 := O14.below hb (Nat.le_refl _)
  replace BG := BG.below hb BG.lt
  replace WW := WW.trans (hb.mono WW.size)
  have sz121 := hb.size
  clear hb hbs
  refine hK.out _ _ (⟨XA.cell, XB.cell, XE.cell, XF.cell, Xx.cell, Xy.cell, Xz.cell, Xs.cell, Xp.cell, BG.cell0⟩) (fun hHeld2 => ?_)
  clear hK K hHeld
  have hHeld := hHeld2
  clear hHeld2
  (try simp only [oq8_10_40, Act.put, List.setIfInBounds_toArray, List.set_cons_zero, List.set_cons_succ])
  refine AnyL_take (i := 41) (oi := oq8_10_41) (v := ?_) rfl (by kernel_rfl) (by kernel_rfl) (by kernel_rfl) (by kernel_rfl) (fun _ _ _ h => h) (Or.inl ⟨by rfl, ?_⟩) (by assumption) ?_
  rotate_left
  · (delta oq8_10_41; intro ws hSw; (try dsimp only at hSw); (try go_simp); (try with_reducible rfl))
  (try simp only [oq8_10_41, Act.put, List.setIfInBounds_toArray, List.set_cons_zero, List.set_cons_succ])
  refine AnyL_take (i := 42) (oi := oq8_10_42) (v := ?_) rfl (by kernel_rfl) (by kernel_rfl) (by kernel_rfl) (by kernel_rfl) (fun _ _ _ h => h) (Or.inl ⟨by rfl, ?_⟩) (by assumption) ?_
  rotate_left
  · (delta oq8_10_42; intro ws hSw; (try dsimp only at hSw); (try go_simp); (try with_reducible rfl))
  (try simp only [oq8_10_42, Act.put, List.setIfInBounds_toArray, List.set_cons_zero, List.set_cons_succ])
  refine AnyL_take (i := 43) (oi := oq8_10_43) (v := ?_) rfl (by kernel_rfl) (by kernel_rfl) (by kernel_rfl) (by kernel_rfl) (fun _ _ _ h => h) (Or.inl ⟨by rfl, ?_⟩) (by assumption) ?_
  rotate_left
  · (delta oq8_10_43; intro ws hSw; (try dsimp only at hSw); (try go_simp); (try with_reducible rfl))
  (try simp only [oq8_10_43, Act.put, List.setIfInBounds_toArray, List.set_cons_zero, List.set_cons_succ])
  refine AnyL_take (i := 44) (oi := oq8_10_44) (v := ?_) rfl (by kernel_rfl) (by kernel_rfl) (by kernel_rfl) (by kernel_rfl) (fun _ _ _ h => h) (Or.inl ⟨by rfl, ?_⟩) (by assumption) ?_
  rotate_left
  · (delta oq8_10_44; intro ws hSw; (try dsimp only at hSw); (try go_simp); (try with_reducible rfl))
  (try simp only [oq8_10_44, Act.put, List.setIfInBounds_toArray, List.set_cons_zero, List.set_cons_succ])
  refine AnyL_take (i := 45) (oi := oq8_10_45) (v := ?_) rfl (by kernel_rfl) (by kernel_rfl) (by kernel_rfl) (by kernel_rfl) (fun _ _ _ h => h) (Or.inl ⟨by rfl, ?_⟩) (by assumption) ?_
  rotate_left
  · (delta oq8_10_45; intro ws hSw; (try dsimp only at hSw); (try go_simp); (try with_reducible rfl))
  (try simp only [oq8_10_45, Act.put, List.setIfInBounds_toArray, List.set_cons_zero, List.set_cons_succ])
  refine AnyL_done (by kernel_rfl) ?_ _
  clear hHeld
  have kXA := XA.cell
  have zXA := XA.lt
  have kXB := XB.cell
  have zXB := XB.lt
  have kXC := XC.cell
  have zXC := XC.lt
  have kXE := XE.cell
  have zXE := XE.lt
  have kXF := XF.cell
  have zXF := XF.lt
  have kXx := Xx.cell
  have zXx := Xx.lt
  have kXy := Xy.cell
  have zXy := Xy.lt
  have kXz := Xz.cell
  have zXz := Xz.lt
  have kXs := Xs.cell
  have zXs := Xs.lt
  have kXp := Xp.cell
  have zXp := Xp.lt
  have kBG := BG.cell0
  have zBG := BG.lt
  go_wp2_with fail
  go_ret
  exact ⟨rfl, WW⟩

theorem natmodPowers_walk (A B' C' E E2 : Option Addr) (n k q l s c d p f f2 a b m e e2 : Nat) (w : World) (hA : Num w w.heap.size A n a) (hB : Num w w.heap.size B' k b) (hC : Num w w.heap.size C' q m) (hE : Num w w.heap.size E l e) (hF : Num w w.heap.size E2 s e2) (hn : n ≤ 9223372036854775807) (hk : k ≤ 9223372036854775807) (hq : q ≤ 9223372036854775807) (hl : l ≤ 9223372036854775807) (hs : s ≤ 9223372036854775807) :
    Calls Try.prog 8 #[.agg #[.slice A n c], .agg #[.slice B' k d], .agg #[.slice C' q p], .agg #[.slice E l f], .agg #[.slice E2 s f2]] w (RetB (.bool true) w) := by
  by_cases hg : n ≤ 8 ∧ k ≤ 8 ∧ q ≤ 8
  · by_cases hg2 : l ≤ 2 ∧ s ≤ 2
    · by_cases h0 : chkS n a k b q m = 0
      · cases h1 : okB l e
        · exact powl_far4 A B' C' E E2 n k q l s c d p f f2 a b m e e2 w hA hB hC hE hF hn hk hq hl hs hg hg2 h0 h1
        cases h2 : okB s e2
        · exact powl_far5 A B' C' E E2 n k q l s c d p f f2 a b m e e2 w hA hB hC hE hF hn hk hq hl hs hg hg2 h0 h1 h2
        exact powl_ok A B' C' E E2 n k q l s c d p f f2 a b m e e2 w hA hB hC hE hF hn hk hq hl hs hg hg2 h0 h1 h2
      · exact powl_far3 A B' C' E E2 n k q l s c d p f f2 a b m e e2 w hA hB hC hE hF hn hk hq hl hs hg hg2 h0
    · exact powl_far2 A B' C' E E2 n k q l s c d p f f2 a b m e e2 w hA hB hC hE hF hn hk hq hl hs hg hg2
  · exact powl_far1 A B' C' E E2 n k q l s c d p f f2 a b m e e2 w hA hB hC hE hF hn hk hq hl hs hg

end Go.Proofs.Ytckajjapockonaa
