/- natmod: euclid. -/
import Derived.Test.YtckajjapockonaaEuc
import Derived.Deep.RegionHeld3
set_option linter.unusedVariables false
set_option linter.unusedSimpArgs false
namespace Go.Proofs.Ytckajjapockonaa
open Go.RowKit

/-- A piece of code that ends in one frame, whatever its ways. -/
theorem wp_land {P : Program} {c : Code} {Q : Exit → Act → World → Prop} {a : Act} {w : World} {AA : Act} (R : World → Prop)
    (hreg : c.wp P (fun e a1 w1 => e = Exit.normal ∧ a1 = AA ∧ R w1) a w) (himp : ∀ w1, R w1 → Q Exit.normal AA w1) : c.wp P Q a w :=
  Code.wp_mono (fun e a1 w1 h => by obtain ⟨rfl, rfl, hR⟩ := h; exact himp w1 hR) hreg
theorem zero_yes (A : Option Addr) (c : Nat) (w : World) (hA : Num w w.heap.size A (nw 0) 0) : Calls Try.prog 64 #[.agg #[.slice A (nw 0) c]] w (RetB (.bool true) w) := by
  have h := zero_any A c 0 w hA (by simp [nw_zero])
  rwa [decide_eq_true rfl] at h
section
variable {w wr w' : World} {A B' D R X Y D' R' X' Y' : Option Addr} {B0 n m' c p gy d r x y dc rc xc yc d' r' x' y' dc' rc' xc' yc' : Nat}
theorem EMid.zD (h : EMid B0 w wr A B' n m' c p gy d r x y D R X Y dc rc xc yc) : w.heap.size + 1 + 1 < wr.heap.size := h.2.2.2.2.1.lt
theorem EMid.zX (h : EMid B0 w wr A B' n m' c p gy d r x y D R X Y dc rc xc yc) : w.heap.size + 1 + 1 + 1 < wr.heap.size := h.2.2.2.2.2.1.lt
theorem EMid.zR (h : EMid B0 w wr A B' n m' c p gy d r x y D R X Y dc rc xc yc) : w.heap.size + 1 + 1 + 1 + 1 < wr.heap.size := h.2.2.2.2.2.2.1.lt
theorem EMid.zY (h : EMid B0 w wr A B' n m' c p gy d r x y D R X Y dc rc xc yc) : gy < wr.heap.size := h.2.2.2.2.2.2.2.1.lt
end
/-- What euclid returns: the greatest common divisor (it may be the modulus itself), and a residue in new memory. -/
def RetEuc (B0 a m : Nat) (w : World) (e : Ending) (w' : World) : Prop :=
  ∃ D dc u x, e = .returned (.tuple #[.agg #[.slice D (nw (Nat.gcd a m)) dc], u]) ∧ Val B0 w' D (nw (Nat.gcd a m)) dc (Nat.gcd a m) ∧ NatV w' w.heap.size u x ∧ Below w.heap.size w w' ∧ x < m ∧ (m : Int) ∣ (a : Int) * (x : Int) - (Nat.gcd a m : Int)
set_option maxHeartbeats 8000000 in
theorem euclid_any (A B' : Option Addr) (c p a m : Nat) (w : World) (hA : Num w w.heap.size A (nw a) a) (hB : Num w w.heap.size B' (nw m) m) (hm : nw m ≤ 32) (ham : a < m) (B0 : Nat) (hB0 : B0 ≤ w.heap.size) (vA : Val B0 w A (nw a) c a) (vB : Val B0 w B' (nw m) p m) :
    Calls Try.prog 66 #[.agg #[.slice A (nw a) c], .agg #[.slice B' (nw m) p]] w (RetEuc B0 a m w) := by
  obtain ⟨b0, b1, b2, b3, bw⟩ := boxes4 w (.slice A (nw a) c) (.slice B' (nw m) p) (.slice none 0 0) (.slice none 0 0)
  have HA := hid hA
  have HB := hid hB
  have HVA := hid vA
  have HVB := hid vB
  have h00 : nw 0 = 0 := rfl
  have hm0 : 0 < m := by omega
  have HAM := hid ham
  have hs4 : ((((w.alloc (.cells #[.slice A (nw a) c] 24)).alloc (.cells #[.slice B' (nw m) p] 24)).alloc (.cells #[.slice none 0 0] 24)).alloc (.cells #[.slice none 0 0] 24)).heap.size = w.heap.size + 1 + 1 + 1 + 1 := by simp
  have kA := b0.cell0
  have kB := b1.cell0
  have kD := b2.cell0
  have fD := b2.frozen 0
  have fX := b3.frozen 0
  have kX := b3.cell0
  have B0 := hid b0
  have B1 := hid b1
  have B2 := hid b2
  have B3 := hid b3
  have BW := hid bw
  clear b0 b1 b2 b3 bw hA hB ham vA vB
  go_enter Try.func66, Try.ntmps66
  go_wp2_with fail
  generalize hV : (((w.alloc (.cells #[.slice A (nw a) c] 24)).alloc (.cells #[.slice B' (nw m) p] 24)).alloc (.cells #[.slice none 0 0] 24)).alloc (.cells #[.slice none 0 0] 24) = V at *
  clear hV
  have z2 : w.heap.size + 1 + 1 < V.heap.size := by omega
  apply wp_land (R := fun w1 => w1 = ((V.setCell ⟨w.heap.size + 1 + 1, 0, none⟩ (.slice B' (nw m) p)).alloc (.cells #[.slice A (nw a) c] 24)).drew)
  case hreg =>
    go_region_with fail
    all_goals exact ⟨rfl, rfl, rfl⟩
  rintro W1 hW1
  have hz1 : (V.setCell ⟨w.heap.size + 1 + 1, 0, none⟩ (.slice B' (nw m) p)).heap.size = w.heap.size + 1 + 1 + 1 + 1 := by simp [World.setCell]; exact hs4
  have C0 : Blk W1 w.heap.size 24 #[.slice A (nw a) c] := by rw [hW1]; exact ((B0.out.far (by simp <;> omega) _).alloc _)
  have C1 : Blk W1 (w.heap.size + 1) 24 #[.slice B' (nw m) p] := by rw [hW1]; exact ((B1.out.far (by simp <;> omega) _).alloc _)
  have C2 : Blk W1 (w.heap.size + 1 + 1) 24 #[.slice B' (nw m) p] := by rw [hW1]; exact ((B2.out.set_ 0 _).alloc _)
  have C3 : Blk W1 (w.heap.size + 1 + 1 + 1) 24 #[.slice none 0 0] := by rw [hW1]; exact ((B3.out.far (by simp <;> omega) _).alloc _)
  have C4 : Blk W1 (w.heap.size + 1 + 1 + 1 + 1) 24 #[.slice A (nw a) c] := by rw [hW1, ← hz1]; exact Blk.new _ _ _
  have CW : Below w.heap.size w W1 := by
    have h5 := BW.out.setCell (p := ⟨w.heap.size + 1 + 1, 0, none⟩) (by simp <;> omega) (.slice B' (nw m) p)
    rw [hW1]; exact (h5.alloc h5.size _).drew
  have f3 := C3.frozen 0
  have k3 := C3.cell0
  have z3 := C3.lt
  have D0 := hid C0
  have D1 := hid C1
  have D2 := hid C2
  have D3 := hid C3
  have D4 := hid C4
  have DW := hid CW
  clear hW1 hz1 C0 C1 C2 C3 C4 CW kA kB kD fD fX kX B0 B1 B2 B3 BW hs4 z2
  go_wp2_with fail
  refine (one_any W1).mono ?_
  rintro e V2 ⟨v, rfl, ⟨Y0, y0, rfl, ho⟩, hb⟩
  have E0 := D0.out.below hb D0.out.lt
  have E1 := D1.out.below hb D1.out.lt
  have E2 := D2.out.below hb D2.out.lt
  have E3 := D3.out.below hb D3.out.lt
  have E4 := D4.out.below hb D4.out.lt
  have EW := DW.out.trans (hb.mono DW.out.size)
  have HY := ho.weak (b := w.heap.size) DW.out.size
  have hs5 : w.heap.size + 5 ≤ V2.heap.size := by have := E4.lt; omega
  have HE : Hid (EMid B0 w ((V2.setCell ⟨w.heap.size + 1 + 1 + 1, 0, none⟩ (.slice none 0 0)).alloc (.cells #[.slice Y0 (nw 1) y0] 24)) A B' (nw a) (nw m) c p V2.heap.size m a 0 1 B' A none Y0 p c 0 y0) := by
    have h5 := EW.setCell (p := ⟨w.heap.size + 1 + 1 + 1, 0, none⟩) (by simp <;> omega) (.slice none 0 0)
    have e5 : (V2.setCell ⟨w.heap.size + 1 + 1 + 1, 0, none⟩ (.slice none 0 0)).heap.size = V2.heap.size := by simp [World.setCell]
    refine (show EMid B0 w _ A B' (nw a) (nw m) c p V2.heap.size m a 0 1 B' A none Y0 p c 0 y0 from ⟨⟨hB0, hs5⟩, h5.alloc h5.size _, (E0.far (by simp <;> omega) _).alloc _, (E1.far (by simp <;> omega) _).alloc _, (E2.far (by simp <;> omega) _).alloc _, (E3.set_ 0 _).alloc _, (E4.far (by simp <;> omega) _).alloc _, ?_, HVB.out.below (h5.alloc h5.size _) hB0, HVA.out.below (h5.alloc h5.size _) hB0, Own.nil _ _ _ _ (Nat.zero_le _), (HY.box (p := ⟨w.heap.size + 1 + 1 + 1, 0, none⟩) E3 (by decide) _).alloc _⟩)
    have h6 := Blk.new (V2.setCell ⟨w.heap.size + 1 + 1 + 1, 0, none⟩ (.slice none 0 0)) 24 #[.slice Y0 (nw 1) y0]
    rw [e5] at h6
    exact h6
  have f3 := E3.frozen 0
  have k3 := E3.cell0
  have z3 := E3.lt
  clear ho hb E0 E1 E2 E3 E4 EW HY D0 D1 D2 D3 D4 DW hs5
  go_wp2_with fail
  obtain ⟨gy, hgy⟩ : ∃ gy, gy = V2.heap.size := ⟨_, rfl⟩
  rw [← hgy] at HE ⊢
  generalize hW3 : (V2.setCell ⟨w.heap.size + 1 + 1 + 1, 0, none⟩ (.slice none 0 0)).alloc (.cells #[.slice Y0 (nw 1) y0] 24) = W3 at HE ⊢
  clear hW3 hgy f3 k3 z3
  go_loopw [8] (fun ng wr => ∃ (g : Bool) (d r x y : Nat) (D R X Y : Option Addr) (dc rc xc yc : Nat), ng = .bool g ∧ EMid B0 w wr A B' (nw a) (nw m) c p gy d r x y D R X Y dc rc xc yc ∧ EInv a m d r x y g) (fun _ wr => numAt wr (w.heap.size + 1 + 1 + 1 + 1))
  case atStart => exact ⟨true, m, a, 0, 1, B', A, none, Y0, p, c, 0, y0, rfl, HE.out, EInv.start HAM.out⟩
  case round =>
    obtain ⟨g, d, r, x, y, D, R, X, Y, dc, rc, xc, yc, rfl, hE, hI⟩ := hrel
    obtain ⟨bx, by_, bd, br⟩ := hI.bounds hm0
    have HI := hid hI
    have H0E := hid hE
    have kR := hE.cR
    have nx : nw x ≤ 32 := Nat.le_trans (nw_mono (Nat.le_of_lt bx)) hm
    have ny : nw y ≤ 32 := Nat.le_trans (nw_mono by_) hm
    have nd : nw d ≤ 32 := Nat.le_trans (nw_mono bd) hm
    have nr : nw r ≤ 32 := Nat.le_trans (nw_mono (Nat.le_of_lt br)) hm
    clear HE
    by_cases hr0 : r = 0
    · subst hr0
      clear hE hI
      go_wp2_with fail
      have hc := zero_yes R rc wr H0E.out.nR
      refine hc.mono ?_
      clear hc
      rintro e W4 ⟨rfl, hb⟩
      have H4 := hid (H0E.out.below hb)
      have HF := hid (HI.out.fin hm0)
      clear hb H0E kR HI
      have kX := H4.out.cX
      have kB := H4.out.cB
      have kD := H4.out.cD
      have fX := H4.out.fX
      have fD := H4.out.fD
      cases g
      · go_wp2_with fail
        apply wp_land (R := fun w1 => w1 = ((W4.setCell ⟨w.heap.size + 1 + 1, 0, none⟩ (.slice D (nw d) dc)).setCell ⟨w.heap.size + 1 + 1 + 1, 0, none⟩ (.slice X (nw x) xc)).drew)
        case hreg =>
          go_region_with fail
          all_goals exact ⟨rfl, rfl, rfl⟩
        rintro W9 hW9
        have H7 := H4.out.setD H4.out.vD
        have H8 := (H7.setX (H4.out.oX.box (p := ⟨w.heap.size + 1 + 1, 0, none⟩) H4.out.2.2.2.2.1 (by decide) _)).drew
        rw [← hW9] at H8
        clear hW9 H7
        obtain ⟨e1, e2, e3⟩ := HF.out
        rw [e1] at H8 e3
        have k4 := H8.cD
        have k5 := H8.cX
        go_wp2_with fail
        exact bodyPost_ret (v := .tuple #[.agg #[.slice D (nw (Nat.gcd a m)) dc], .agg #[.slice X (nw x) xc]]) (by simp [results, Try.results66, go_sem, k4, k5]) rfl ⟨D, dc, _, x, rfl, H8.vD, ⟨X, xc, rfl, H8.oX⟩, H8.bl, e2, e3⟩
      · have HX : Hid (xfin m x true = (0 + (m - x)) % m) := rfl
        have hxm : x ≤ m := Nat.le_of_lt bx
        have hne : ¬ m = 0 := by omega
        have hab : nw (0 + (m - x)) ≤ 64 := by rw [Nat.zero_add]; exact Nat.le_trans (nw_mono (Nat.sub_le _ _)) (by omega)
        go_wp2_with fail
        have hc := difference2_any none X B' 0 xc p 0 x m W4 (Num.nil _ _ _) H4.out.oX.num (H4.out.num HB.out) (by simp [nw_zero]) (by omega) (by omega) hne hxm hab
        rw [← HX.out] at hc
        refine hc.mono ?_
        clear hc
        rintro e W5 ⟨v, rfl, ⟨X5, x5, rfl, ho⟩, hb⟩
        have H5 := hid (H4.out.below hb)
        have H6 := hid (H5.out.setX (ho.weak (b := w.heap.size) H4.out.bl.size))
        have kX5 := H5.out.cX
        have fX5 := H5.out.fX
        clear ho hb kX kB kD fX fD
        go_wp2_with fail
        generalize hW6 : W5.setCell ⟨w.heap.size + 1 + 1 + 1, 0, none⟩ (.slice X5 (nw (xfin m x true)) x5) = W6 at H6 ⊢
        clear hW6 kX5 fX5
        have kX := H6.out.cX
        have kD := H6.out.cD
        have fX := H6.out.fX
        have fD := H6.out.fD
        apply wp_land (R := fun w1 => w1 = ((W6.setCell ⟨w.heap.size + 1 + 1, 0, none⟩ (.slice D (nw d) dc)).setCell ⟨w.heap.size + 1 + 1 + 1, 0, none⟩ (.slice X5 (nw (xfin m x true)) x5)).drew)
        case hreg =>
          go_region_with fail
          all_goals exact ⟨rfl, rfl, rfl⟩
        rintro W9 hW9
        have H7 := H6.out.setD H6.out.vD
        have H8 := (H7.setX (H6.out.oX.box (p := ⟨w.heap.size + 1 + 1, 0, none⟩) H6.out.2.2.2.2.1 (by decide) _)).drew
        rw [← hW9] at H8
        clear hW9 H7
        obtain ⟨e1, e2, e3⟩ := HF.out
        rw [e1] at H8 e3
        have k4 := H8.cD
        have k5 := H8.cX
        go_wp2_with fail
        exact bodyPost_ret (v := .tuple #[.agg #[.slice D (nw (Nat.gcd a m)) dc], .agg #[.slice X5 (nw (xfin m x true)) x5]]) (by simp [results, Try.results66, go_sem, k4, k5]) rfl ⟨D, dc, _, (xfin m x true), rfl, H8.vD, ⟨X5, x5, rfl, H8.oX⟩, H8.bl, e2, e3⟩
    · have HG : Hid (decide (r = 0) = false) := decide_eq_false hr0
      have hS := hI.step hr0
      have hB2 := hS.bounds hm0
      have HS := hid hS
      obtain ⟨q, hq⟩ : ∃ q, q = d / r := ⟨_, rfl⟩
      obtain ⟨t, ht⟩ : ∃ t, t = d % r := ⟨_, rfl⟩
      obtain ⟨u, hu⟩ : ∃ u, u = q * y := ⟨_, rfl⟩
      obtain ⟨z, hz⟩ : ∃ z, z = x + u := ⟨_, rfl⟩
      rw [← hq, ← hu, ← hz, ← ht] at HS hB2
      have HDV := hid (divS_yes (a := d) hr0)
      rw [← hq, ← ht] at HDV
      have K1 := hid (okB_nw (Nat.le_trans nd (show 32 ≤ 64 by omega)))
      have K2 := hid (okB_nw (Nat.le_trans nr (show 32 ≤ 64 by omega)))
      have nz : nw z ≤ 32 := Nat.le_trans (nw_mono hB2.2.1) hm
      have nu : nw u ≤ 32 := Nat.le_trans (nw_mono (show u ≤ z by omega)) nz
      have nq : nw q ≤ 32 := Nat.le_trans (nw_mono (show q ≤ d by rw [hq]; exact Nat.div_le_self _ _)) nd
      have nt : nw t ≤ 32 := Nat.le_trans (nw_mono (show t ≤ d by rw [ht]; exact Nat.mod_le _ _)) nd
      have K3 := hid (okB_nw (Nat.le_trans nq (show 32 ≤ 64 by omega)))
      have K4 := hid (okB_nw (Nat.le_trans ny (show 32 ≤ 64 by omega)))
      have K5 := hid (okB_nw (Nat.le_trans nx (show 32 ≤ 64 by omega)))
      have K6 := hid (okB_nw (Nat.le_trans nu (show 32 ≤ 64 by omega)))
      have HU := hid hu
      have HZ := hid hz
      have LU := hid (limS_ok (Nat.le_trans nu (show 32 ≤ 64 by omega)))
      have LZ := hid (limS_ok (Nat.le_trans nz (show 32 ≤ 64 by omega)))
      have HM : Hid (t < r) := (show t < r by rw [ht]; exact Nat.mod_lt _ (Nat.pos_of_ne_zero hr0))
      have HN0 : Hid (numAt wr (w.heap.size + 1 + 1 + 1 + 1) = r) := numAt_eq hE.cR hE.nR
      have hgw : gy < wr.heap.size := hE.2.2.2.2.2.2.2.1.lt
      have hg5 : w.heap.size + 5 ≤ gy := hE.1.2
      have WW := hE.bl
      have HE := hE
      clear hq ht hu hz hS hB2 hI hE H0E HI hr0
      go_wp2_with fail
      clear kR
      have hbs : w.heap.size ≤ wr.heap.size := WW.size
      have hc := zero_any R rc r wr HE.nR (by omega)
      rw [HG.out] at hc
      refine hc.mono ?_
      clear hc
      rintro e V1 ⟨rfl, hb⟩
      have S1 := hb.size
      skip
      replace HE := HE.below hb
      have kD := HE.cD
      have kR := HE.cR
      have kX := HE.cX
      have kY := HE.cY
      have zD := HE.zD
      have zR := HE.zR
      have zX := HE.zX
      have zY := HE.zY
      replace WW := WW.trans (hb.mono WW.size)
      clear hb hbs
      go_wp2_with fail
      have hbs : w.heap.size ≤ V1.heap.size := WW.size
      have hc := div_any D R _ _ dc rc d r V1 HE.nD HE.nR (by omega) (by omega)
      rw [bothD_yes K1.out K2.out] at hc
      rw [HDV.out] at hc
      refine hc.mono ?_
      clear hc
      rintro e V2 ⟨v, u', rfl, hv, hu, hb⟩
      have S2 := hb.size
      clear kD kR kX kY zD zR zX zY
      replace HE := HE.below hb
      have kD := HE.cD
      have kR := HE.cR
      have kX := HE.cX
      have kY := HE.cY
      have zD := HE.zD
      have zR := HE.zR
      have zX := HE.zX
      have zY := HE.zY
      replace WW := WW.trans (hb.mono WW.size)
      obtain ⟨D1, d1, rfl, ho⟩ := hv
      have O1 := ho.weak (b := w.heap.size) hbs
      have hv' := O1.num
      obtain ⟨D2, d2, rfl, ho'⟩ := hu
      have O2 := ho'.weak (b := w.heap.size) hbs
      have hu' := O2.num
      clear ho ho'
      clear hb hbs
      go_wp2_with fail
      obtain ⟨b0, b1, bw⟩ := boxes2 V2 (.slice D1 (nw q) d1) (.slice D2 (nw t) d2)
      have XQ := Box.mk b0 hv' bw
      have XT := Box.mk b1 hu' bw
      have S3 := bw.size
      clear kD kR kX kY zD zR zX zY
      replace HE := HE.below bw
      have kD := HE.cD
      have kR := HE.cR
      have kX := HE.cX
      have kY := HE.cY
      have zD := HE.zD
      have zR := HE.zR
      have zX := HE.zX
      have zY := HE.zY
      replace O1 := O1.below bw (Nat.le_refl _)
      replace O2 := O2.below bw (Nat.le_refl _)
      replace WW := WW.trans (bw.mono WW.size)
      clear bw kD kR kX kY zD zR zX zY b0 b1 hv' hu'
      generalize hV : ((V2.alloc (.cells #[.slice D1 (nw q) d1] 24)).alloc (.cells #[.slice D2 (nw t) d2] 24)) = V3 at XQ XT O1 O2 WW HE S3 ⊢
      clear hV
      have kD := HE.cD
      have kR := HE.cR
      have kX := HE.cX
      have kY := HE.cY
      have zD := HE.zD
      have zR := HE.zR
      have zX := HE.zX
      have zY := HE.zY
      have kXQ := XQ.cell
      have zXQ := XQ.lt
      have kXT := XT.cell
      have zXT := XT.lt
      have hbs : w.heap.size ≤ V3.heap.size := WW.size
      have hc := mul_any D1 Y _ _ d1 yc q y V3 XQ.num HE.oY.num (by omega) (by omega)
      rw [bothS_yes K3.out K4.out] at hc
      rw [← HU.out] at hc
      rw [LU.out] at hc
      refine hc.mono ?_
      clear hc
      rintro e V4 ⟨v, rfl, hv, hb⟩
      clear kXQ zXQ kXT zXT
      replace XQ := XQ.below hb
      replace XT := XT.below hb
      have S4 := hb.size
      clear kD kR kX kY zD zR zX zY
      replace HE := HE.below hb
      have kD := HE.cD
      have kR := HE.cR
      have kX := HE.cX
      have kY := HE.cY
      have zD := HE.zD
      have zR := HE.zR
      have zX := HE.zX
      have zY := HE.zY
      replace O1 := O1.below hb (Nat.le_refl _)
      replace O2 := O2.below hb (Nat.le_refl _)
      replace WW := WW.trans (hb.mono WW.size)
      obtain ⟨D3, d3, rfl, ho⟩ := hv
      have O3 := ho.weak (b := w.heap.size) hbs
      have hv' := O3.num
      clear ho
      have kXQ := XQ.cell
      have zXQ := XQ.lt
      have kXT := XT.cell
      have zXT := XT.lt
      clear hb hbs
      go_wp2_with fail
      obtain ⟨b0, bw⟩ := boxes1 V4 (.slice D3 (nw u) d3)
      clear kXQ zXQ kXT zXT
      replace XQ := XQ.below bw
      replace XT := XT.below bw
      have XU := Box.mk b0 hv' bw
      have S5 := bw.size
      clear kD kR kX kY zD zR zX zY
      replace HE := HE.below bw
      have kD := HE.cD
      have kR := HE.cR
      have kX := HE.cX
      have kY := HE.cY
      have zD := HE.zD
      have zR := HE.zR
      have zX := HE.zX
      have zY := HE.zY
      replace O1 := O1.below bw (Nat.le_refl _)
      replace O2 := O2.below bw (Nat.le_refl _)
      replace O3 := O3.below bw (Nat.le_refl _)
      replace WW := WW.trans (bw.mono WW.size)
      clear bw kD kR kX kY zD zR zX zY b0 hv'
      generalize hV : (V4.alloc (.cells #[.slice D3 (nw u) d3] 24)) = V5 at XQ XT XU O1 O2 O3 WW HE S5 ⊢
      clear hV
      have kD := HE.cD
      have kR := HE.cR
      have kX := HE.cX
      have kY := HE.cY
      have zD := HE.zD
      have zR := HE.zR
      have zX := HE.zX
      have zY := HE.zY
      have kXQ := XQ.cell
      have zXQ := XQ.lt
      have kXT := XT.cell
      have zXT := XT.lt
      have kXU := XU.cell
      have zXU := XU.lt
      have hbs : w.heap.size ≤ V5.heap.size := WW.size
      have hc := add_any X D3 _ _ xc d3 x u V5 HE.oX.num XU.num (by omega) (by omega)
      rw [bothS_yes K5.out K6.out] at hc
      rw [← HZ.out] at hc
      rw [LZ.out] at hc
      refine hc.mono ?_
      clear hc
      rintro e V6 ⟨v, rfl, hv, hb⟩
      clear kXQ zXQ kXT zXT kXU zXU
      replace XQ := XQ.below hb
      replace XT := XT.below hb
      replace XU := XU.below hb
      have S6 := hb.size
      clear kD kR kX kY zD zR zX zY
      replace HE := HE.below hb
      have kD := HE.cD
      have kR := HE.cR
      have kX := HE.cX
      have kY := HE.cY
      have zD := HE.zD
      have zR := HE.zR
      have zX := HE.zX
      have zY := HE.zY
      replace O1 := O1.below hb (Nat.le_refl _)
      replace O2 := O2.below hb (Nat.le_refl _)
      replace O3 := O3.below hb (Nat.le_refl _)
      replace WW := WW.trans (hb.mono WW.size)
      obtain ⟨D4, d4, rfl, ho⟩ := hv
      have O4 := ho.weak (b := w.heap.size) hbs
      have hv' := O4.num
      clear ho
      have kXQ := XQ.cell
      have zXQ := XQ.lt
      have kXT := XT.cell
      have zXT := XT.lt
      have kXU := XU.cell
      have zXU := XU.lt
      clear hb hbs
      go_wp2_with fail
      obtain ⟨b0, bw⟩ := boxes1 V6 (.slice D4 (nw z) d4)
      clear kXQ zXQ kXT zXT kXU zXU
      replace XQ := XQ.below bw
      replace XT := XT.below bw
      replace XU := XU.below bw
      have XZ := Box.mk b0 hv' bw
      have S7 := bw.size
      clear kD kR kX kY zD zR zX zY
      replace HE := HE.below bw
      have kD := HE.cD
      have kR := HE.cR
      have kX := HE.cX
      have kY := HE.cY
      have zD := HE.zD
      have zR := HE.zR
      have zX := HE.zX
      have zY := HE.zY
      replace O1 := O1.below bw (Nat.le_refl _)
      replace O2 := O2.below bw (Nat.le_refl _)
      replace O3 := O3.below bw (Nat.le_refl _)
      replace O4 := O4.below bw (Nat.le_refl _)
      replace WW := WW.trans (bw.mono WW.size)
      clear bw kD kR kX kY zD zR zX zY b0 hv'
      generalize hV : (V6.alloc (.cells #[.slice D4 (nw z) d4] 24)) = V7 at XQ XT XU XZ O1 O2 O3 O4 WW HE S7 ⊢
      clear hV
      have kD := HE.cD
      have kR := HE.cR
      have kX := HE.cX
      have kY := HE.cY
      have zD := HE.zD
      have zR := HE.zR
      have zX := HE.zX
      have zY := HE.zY
      have kXQ := XQ.cell
      have zXQ := XQ.lt
      have kXT := XT.cell
      have zXT := XT.lt
      have kXU := XU.cell
      have zXU := XU.lt
      have kXZ := XZ.cell
      have zXZ := XZ.lt
      have fD := HE.fD
      have fR := HE.fR
      have fX := HE.fX
      have fY := HE.fY
      apply wp_land (R := fun w1 => w1 = ((V7.setCell ⟨w.heap.size + 1 + 1, 0, none⟩ (.slice R (nw r) rc)).setCell ⟨w.heap.size + 1 + 1 + 1 + 1, 0, none⟩ (.slice D2 (nw t) d2)).drew)
      case hreg =>
        go_region_with fail
        all_goals exact ⟨rfl, rfl, rfl⟩
      rintro W8 hW8
      have B4 := HE.2.2.2.2.1
      have G1 := HE.setD HE.vR
      have O2a := O2.box (p := ⟨w.heap.size + 1 + 1, 0, none⟩) B4 (by decide) (.slice R (nw r) rc)
      have O4a := O4.box (p := ⟨w.heap.size + 1 + 1, 0, none⟩) B4 (by decide) (.slice R (nw r) rc)
      have B5 := G1.2.2.2.2.2.2.1
      have G2 := (G1.setR (.inr (O2a.weak hB0))).drew
      have O4b := (O4a.box (p := ⟨w.heap.size + 1 + 1 + 1 + 1, 0, none⟩) B5 (by decide) (.slice D2 (nw t) d2)).drewN 1
      have Z1 := (XZ.1.far (p := ⟨w.heap.size + 1 + 1, 0, none⟩) (by simp <;> omega) (.slice R (nw r) rc)).far (p := ⟨w.heap.size + 1 + 1 + 1 + 1, 0, none⟩) (by simp <;> omega) (.slice D2 (nw t) d2)
      have Z2 : Blk W8 (V6.heap.size) 24 #[.slice D4 (nw z) d4] := by rw [hW8]; exact Z1
      have O4c : Own W8 w.heap.size D4 (nw z) d4 z := by rw [hW8]; exact O4b
      rw [← hW8] at G2
      clear hW8 B4 B5 G1 O2a O4a O4b Z1 HE fD fR fX fY kD kR kX kY zD zR zX zY O1 O2 O3 O4 WW kXQ zXQ kXT zXT kXU zXU kXZ zXZ XQ XT XU XZ
      have kY := G2.cY
      have kX := G2.cX
      have kZ := Z2.cell0
      have fX := G2.fX
      have fY := G2.fY
      go_wp2_with fail
      apply wp_land (R := fun w1 => w1 = ((W8.setCell ⟨w.heap.size + 1 + 1 + 1, 0, none⟩ (.slice Y (nw y) yc)).setCell ⟨gy, 0, none⟩ (.slice D4 (nw z) d4)).drew)
      case hreg =>
        go_region_with fail
        all_goals exact ⟨rfl, rfl, rfl⟩
      rintro W9 hW9
      have B6 := G2.2.2.2.2.2.1
      have G3 := G2.setX G2.oY
      have O4d := O4c.box (p := ⟨w.heap.size + 1 + 1 + 1, 0, none⟩) B6 (by decide) (.slice Y (nw y) yc)
      have G4 := (G3.setY O4d).drew
      rw [← hW9] at G4
      have HG4 := hid G4
      clear hW9 B6 G3 O4d O4c G4 G2 Z2 kY kX kZ fX fY
      go_wp2_with fail
      go_roundw
      case rel => exact ⟨!g, r, t, y, z, R, D2, Y, D4, rc, d2, yc, d4, rfl, HG4.out, HS.out⟩
      case measure => rw [HN0.out, numAt_eq HG4.out.cR HG4.out.nR]; exact HM.out
end Go.Proofs.Ytckajjapockonaa
