/- natmod: what the exported functions are made of. -/
import Derived.Test.YtomkmkjkeihodaaDoorApp1
set_option linter.unusedVariables false
set_option linter.unusedSimpArgs false
namespace Go.Proofs.YtomkmkjkeihodaaDoor
open Go.RowKit

set_option maxHeartbeats 4000000 in
theorem remainder_any (A B' : Option Addr) (c d x m : Nat) (w : World) (hA : Num w w.heap.size A (nw x) x) (hB : Num w w.heap.size B' (nw m) m) (hx : nw x ≤ 64) (hm : nw m ≤ 64) (h0 : ¬ m = 0) :
    Calls Tryd.prog 86 #[.agg #[.slice A (nw x) c], .agg #[.slice B' (nw m) d]] w (RetNat w.heap.size (x % m) w) := by
  have H1 := hid (okB_nw hx)
  have H2 := hid (okB_nw hm)
  have HD := hid (divS_yes (a := x) h0)
  obtain ⟨q, hq⟩ : ∃ q, q = x / m := ⟨_, rfl⟩
  obtain ⟨r, hr⟩ : ∃ r, r = x % m := ⟨_, rfl⟩
  rw [← hq, ← hr] at HD
  rw [← hr]
  clear hq hr h0
  obtain ⟨b0, b1, b2, bw⟩ := boxes3 w (.slice A (nw x) c) (.slice B' (nw m) d) (.slice none 0 0)
  have XA := Box.mk b0 hA bw
  have XB := Box.mk b1 hB bw
  have XR := Box.mk b2 (Num.nil _ _ _) bw
  have WW := bw
  clear bw b0 b1 b2
  go_enter Tryd.func86, Tryd.ntmps86
  go_wp2_with fail
  generalize hV : (((w.alloc (.cells #[.slice A (nw x) c] 37)).alloc (.cells #[.slice B' (nw m) d] 37)).alloc (.cells #[.slice none 0 0] 37)) = V0 at XA XB XR WW ⊢
  clear hV
  have hbs : w.heap.size ≤ V0.heap.size := WW.size
  have hc := div_any A B' _ _ c d x m V0 XA.num XB.num (by omega) (by omega)
  rw [bothD_yes H1.out H2.out] at hc
  rw [HD.out] at hc
  refine hc.mono ?_
  clear hc
  rintro e V1 ⟨v, u', rfl, hv, hu, hb⟩
  replace XA := XA.below hb
  replace XB := XB.below hb
  replace XR := XR.below hb
  replace WW := WW.trans (hb.mono WW.size)
  obtain ⟨D1, d1, rfl, ho⟩ := hv
  obtain ⟨D2, d2, rfl, ho'⟩ := hu
  have O2 := ho'.weak (b := w.heap.size) hbs
  have fXR := XR.1.frozen 0
  clear ho ho'
  have kXA := XA.cell
  have zXA := XA.lt
  have kXB := XB.cell
  have zXB := XB.lt
  have kXR := XR.cell
  have zXR := XR.lt
  clear hb hbs
  go_wp2_with fail
  have ho2 := ((O2.box (p := ⟨w.heap.size + 1 + 1, 0, none⟩) XR.1 (by decide) (.slice D2 (nw r) d2)).alloc (.cells #[.slice D1 (nw q) d1] 37)).alloc (.cells #[.slice D2 (nw r) d2] 37)
  have hw2 := (WW.setCell (p := ⟨w.heap.size + 1 + 1, 0, none⟩) (by simp <;> omega) (.slice D2 (nw r) d2))
  have hk : (((V1.setCell ⟨w.heap.size + 1 + 1, 0, none⟩ (.slice D2 (nw r) d2)).alloc (.cells #[.slice D1 (nw q) d1] 37)).alloc (.cells #[.slice D2 (nw r) d2] 37)).cell? ⟨w.heap.size + 1 + 1, 0, none⟩ = some (.slice D2 (nw r) d2) := ((((XR.1.set_ 0 (.slice D2 (nw r) d2)).alloc _).alloc _).cell 0).trans rfl
  have hw3 := (hw2.alloc hw2.size (.cells #[.slice D1 (nw q) d1] 37))
  exact bodyPost_ret (v := .agg #[.slice D2 (nw r) d2]) (by simp [results, Tryd.results86, go_sem, hk]) rfl ⟨_, rfl, ⟨D2, d2, rfl, ho2⟩, hw3.alloc hw3.size _⟩

set_option maxHeartbeats 4000000 in
theorem product2_any (A B' C' : Option Addr) (c d p a b m : Nat) (w : World) (hA : Num w w.heap.size A (nw a) a) (hB : Num w w.heap.size B' (nw b) b) (hC : Num w w.heap.size C' (nw m) m) (ha : nw a ≤ 64) (hb : nw b ≤ 64) (hm : nw m ≤ 64) (h0 : ¬ m = 0) (hab : nw (a * b) ≤ 64) :
    Calls Tryd.prog 88 #[.agg #[.slice A (nw a) c], .agg #[.slice B' (nw b) d], .agg #[.slice C' (nw m) p]] w (RetNat w.heap.size ((a * b) % m) w) := by
  have H1 := hid (okB_nw ha)
  have H2 := hid (okB_nw hb)
  have HL := hid (limS_ok hab)
  obtain ⟨s, hs⟩ : ∃ s, s = a * b := ⟨_, rfl⟩
  rw [← hs] at HL hab ⊢
  have HS := hid hs
  clear hs
  obtain ⟨r, hr⟩ : ∃ r, r = s % m := ⟨_, rfl⟩
  rw [← hr]
  have HR := hid hr
  clear hr
  obtain ⟨b0, b1, b2, b3, bw⟩ := boxes4 w (.slice A (nw a) c) (.slice B' (nw b) d) (.slice C' (nw m) p) (.slice none 0 0)
  have XA := Box.mk b0 hA bw
  have XB := Box.mk b1 hB bw
  have XC := Box.mk b2 hC bw
  have XR := Box.mk b3 (Num.nil _ _ _) bw
  have WW := bw
  clear bw b0 b1 b2 b3
  go_enter Tryd.func88, Tryd.ntmps88
  go_wp2_with fail
  generalize hV : ((((w.alloc (.cells #[.slice A (nw a) c] 37)).alloc (.cells #[.slice B' (nw b) d] 37)).alloc (.cells #[.slice C' (nw m) p] 37)).alloc (.cells #[.slice none 0 0] 37)) = V0 at XA XB XC XR WW ⊢
  clear hV
  have hbs : w.heap.size ≤ V0.heap.size := WW.size
  have hc := mul_any A B' _ _ c d a b V0 XA.num XB.num (by omega) (by omega)
  rw [bothS_yes H1.out H2.out] at hc
  rw [← HS.out] at hc
  rw [HL.out] at hc
  refine hc.mono ?_
  clear hc
  rintro e V1 ⟨v, rfl, hv, hb⟩
  replace XA := XA.below hb
  replace XB := XB.below hb
  replace XC := XC.below hb
  replace XR := XR.below hb
  replace WW := WW.trans (hb.mono WW.size)
  obtain ⟨D1, d1, rfl, ho⟩ := hv
  have O1 := ho.weak (b := w.heap.size) hbs
  have hv' := O1.num
  clear ho
  have kXA := XA.cell
  have zXA := XA.lt
  have kXB := XB.cell
  have zXB := XB.lt
  have kXC := XC.cell
  have zXC := XC.lt
  have kXR := XR.cell
  have zXR := XR.lt
  clear hb hbs
  go_wp2_with fail
  obtain ⟨b0, bw⟩ := boxes1 V1 (.slice D1 (nw s) d1)
  clear kXA zXA kXB zXB kXC zXC kXR zXR
  replace XA := XA.below bw
  replace XB := XB.below bw
  replace XC := XC.below bw
  replace XR := XR.below bw
  have X1 := Box.mk b0 hv' bw
  replace O1 := O1.below bw (Nat.le_refl _)
  replace WW := WW.trans (bw.mono WW.size)
  clear bw b0 hv'
  generalize hV : (V1.alloc (.cells #[.slice D1 (nw s) d1] 37)) = V2 at XA XB XC XR X1 O1 WW ⊢
  clear hV
  have kXA := XA.cell
  have zXA := XA.lt
  have kXB := XB.cell
  have zXB := XB.lt
  have kXC := XC.cell
  have zXC := XC.lt
  have kXR := XR.cell
  have zXR := XR.lt
  have kX1 := X1.cell
  have zX1 := X1.lt
  have hbs : w.heap.size ≤ V2.heap.size := WW.size
  have hc := remainder_any D1 C' d1 p s m V2 X1.num XC.num hab hm h0
  rw [← HR.out] at hc
  refine hc.mono ?_
  clear hc
  rintro e V3 ⟨v, rfl, hv, hb⟩
  clear kXA zXA kXB zXB kXC zXC kXR zXR kX1 zX1
  replace XA := XA.below hb
  replace XB := XB.below hb
  replace XC := XC.below hb
  replace XR := XR.below hb
  replace X1 := X1.below hb
  replace O1 := O1.below hb (Nat.le_refl _)
  replace WW := WW.trans (hb.mono WW.size)
  obtain ⟨D2, d2, rfl, ho⟩ := hv
  have O2 := ho.weak (b := w.heap.size) hbs
  have fXR := XR.1.frozen 0
  clear ho
  have kXA := XA.cell
  have zXA := XA.lt
  have kXB := XB.cell
  have zXB := XB.lt
  have kXC := XC.cell
  have zXC := XC.lt
  have kXR := XR.cell
  have zXR := XR.lt
  have kX1 := X1.cell
  have zX1 := X1.lt
  clear hb hbs
  go_wp2_with fail
  have ho2 := O2.box (p := ⟨w.heap.size + 1 + 1 + 1, 0, none⟩) XR.1 (by decide) (.slice D2 (nw r) d2)
  exact bodyPost_ret (v := .agg #[.slice D2 (nw r) d2]) (by simp [results, Tryd.results88, go_sem, kXR, zXR]) rfl ⟨_, rfl, ⟨D2, d2, rfl, ho2⟩, WW.setCell (by simp <;> omega) _⟩

theorem nw_one : nw 1 = 1 := by decide
theorem words_one : words 1 1 = #[.int .u32 1] := by kernel_rfl
theorem one_any (w : World) : Calls Tryd.prog 87 #[] w (RetNat w.heap.size 1 w) := by
  obtain ⟨b0, bw⟩ := boxes1 w (.slice (some ⟨w.heap.size + 1, 0, none⟩) 1 1)
  have hb := Blk.new (w.alloc (.cells #[.slice (some ⟨w.heap.size + 1, 0, none⟩) 1 1] 37)) 48 (words 1 1)
  have hz : (w.alloc (.cells #[.slice (some ⟨w.heap.size + 1, 0, none⟩) 1 1] 37)).heap.size = w.heap.size + 1 := by simp
  rw [hz] at hb
  have hr : Row ((w.alloc (.cells #[.slice (some ⟨w.heap.size + 1, 0, none⟩) 1 1] 37)).alloc (.cells (words 1 1) 48)) (w.heap.size + 1) 1 1 := ⟨by decide, hb⟩
  have HR := hid (hr.own (base := w.heap.size) (by omega) (by decide))
  have BW := hid (bw.alloc bw.size (.cells (words 1 1) 48))
  rw [words_one] at HR BW
  clear b0 bw hb hz hr
  go_enter Tryd.func87, Tryd.ntmps87
  go_wp2_with fail
  exact bodyPost_ret (v := .agg #[.slice (some ⟨w.heap.size + 1, 0, none⟩) 1 1]) (by simp [results, Tryd.results87, go_sem]) rfl ⟨_, rfl, ⟨_, 1, by rw [nw_one], by rw [nw_one]; exact HR.out⟩, BW.out⟩
/-- Whether a slice of n words with the number m is a modulus. -/
def modB (n m : Nat) : Bool := okB n m && decide (1 ≤ nw m ∧ nw m ≤ 32)
theorem bl_1024 {n m : Nat} (h : okB n m = true) : (decide (1 ≤ ((bl m : Nat) : Int)) && decide (((bl m : Nat) : Int) ≤ 1024)) = decide (1 ≤ nw m ∧ nw m ≤ 32) := by
  have h1 : bl m ≤ 1024 ↔ nw m ≤ 32 := ⟨fun h => nw_le_bl (n := 32) h, fun h => Nat.le_trans (bl_le_nw m) (Nat.mul_le_mul_left 32 h)⟩
  have h2 : 1 ≤ bl m ↔ 1 ≤ nw m := by
    by_cases h0 : m = 0
    · rw [h0, bl_zero, nw_zero]
    · exact ⟨fun _ => nw_pos h0, fun _ => bl_pos h0⟩
  rw [← Bool.decide_and]
  congr 1
  rw [eq_iff_iff]
  omega
set_option maxHeartbeats 4000000 in
theorem modulus_hi (A : Option Addr) (n c m : Nat) (w : World) (hA : Num w w.heap.size A n m) (hn : n ≤ 9223372036854775807) (h : okB n m = true) (h1 : 1 ≤ bl m) :
    Calls Tryd.prog 101 #[.agg #[.slice A n c]] w (RetB (.bool (modB n m)) w) := by
  have HM : Hid (modB n m = (decide (1 ≤ ((bl m : Nat) : Int)) && decide (((bl m : Nat) : Int) ≤ 1024))) := (show modB n m = _ by unfold modB; rw [h, bl_1024 h]; rfl)
  rw [HM.out]
  have HB := hid (bitsS_yes h)
  obtain ⟨b, hb⟩ : ∃ b : Int, ((bl m : Nat) : Int) = b := ⟨_, rfl⟩
  rw [hb]
  have HE := hid hb
  have e1 : decide (1 ≤ b) = true := by simp; omega
  rw [e1]
  rw [Bool.true_and]
  clear h hb HM h1
  obtain ⟨b0, bw⟩ := boxes1 w (.slice A n c)
  have XA := Box.mk b0 hA bw
  have WW := bw
  clear bw b0
  go_enter Tryd.func101, Tryd.ntmps101
  go_wp2_with fail
  generalize hV : (w.alloc (.cells #[.slice A n c] 37)) = V0 at XA WW ⊢
  clear hV
  have hbs : w.heap.size ≤ V0.heap.size := WW.size
  have hc := bits_any A n c m V0 XA.num hn
  rw [HB.out] at hc
  rw [HE.out] at hc
  refine hc.mono ?_
  clear hc
  rintro e V1 ⟨rfl, hb⟩
  replace XA := XA.below hb
  replace WW := WW.trans (hb.mono WW.size)
  have kXA := XA.cell
  have zXA := XA.lt
  clear hb hbs
  go_wp2_with fail
  go_ret
  exact ⟨rfl, WW⟩

set_option maxHeartbeats 4000000 in
theorem modulus_lo (A : Option Addr) (n c m : Nat) (w : World) (hA : Num w w.heap.size A n m) (hn : n ≤ 9223372036854775807) (h : okB n m = true) (h1 : ¬ 1 ≤ bl m) :
    Calls Tryd.prog 101 #[.agg #[.slice A n c]] w (RetB (.bool (modB n m)) w) := by
  have HM : Hid (modB n m = (decide (1 ≤ ((bl m : Nat) : Int)) && decide (((bl m : Nat) : Int) ≤ 1024))) := (show modB n m = _ by unfold modB; rw [h, bl_1024 h]; rfl)
  rw [HM.out]
  have HB := hid (bitsS_yes h)
  obtain ⟨b, hb⟩ : ∃ b : Int, ((bl m : Nat) : Int) = b := ⟨_, rfl⟩
  rw [hb]
  have HE := hid hb
  have e1 : decide (1 ≤ b) = false := by simp; omega
  rw [e1]
  rw [Bool.false_and]
  clear h hb HM h1
  obtain ⟨b0, bw⟩ := boxes1 w (.slice A n c)
  have XA := Box.mk b0 hA bw
  have WW := bw
  clear bw b0
  go_enter Tryd.func101, Tryd.ntmps101
  go_wp2_with fail
  generalize hV : (w.alloc (.cells #[.slice A n c] 37)) = V0 at XA WW ⊢
  clear hV
  have hbs : w.heap.size ≤ V0.heap.size := WW.size
  have hc := bits_any A n c m V0 XA.num hn
  rw [HB.out] at hc
  rw [HE.out] at hc
  refine hc.mono ?_
  clear hc
  rintro e V1 ⟨rfl, hb⟩
  replace XA := XA.below hb
  replace WW := WW.trans (hb.mono WW.size)
  have kXA := XA.cell
  have zXA := XA.lt
  clear hb hbs
  go_wp2_with fail
  go_ret
  exact ⟨rfl, WW⟩

set_option maxHeartbeats 4000000 in
theorem modulus_no (A : Option Addr) (n c m : Nat) (w : World) (hA : Num w w.heap.size A n m) (hn : n ≤ 9223372036854775807) (h : okB n m = false) :
    Calls Tryd.prog 101 #[.agg #[.slice A n c]] w (RetB (.bool (modB n m)) w) := by
  have HM : Hid (modB n m = false) := (show modB n m = false by unfold modB; rw [h]; rfl)
  rw [HM.out]
  have HB := hid (bitsS_no h)
  clear h HM
  obtain ⟨b0, bw⟩ := boxes1 w (.slice A n c)
  have XA := Box.mk b0 hA bw
  have WW := bw
  clear bw b0
  go_enter Tryd.func101, Tryd.ntmps101
  go_wp2_with fail
  generalize hV : (w.alloc (.cells #[.slice A n c] 37)) = V0 at XA WW ⊢
  clear hV
  have hbs : w.heap.size ≤ V0.heap.size := WW.size
  have hc := bits_any A n c m V0 XA.num hn
  rw [HB.out] at hc
  refine hc.mono ?_
  clear hc
  rintro e V1 ⟨rfl, hb⟩
  replace XA := XA.below hb
  replace WW := WW.trans (hb.mono WW.size)
  have kXA := XA.cell
  have zXA := XA.lt
  clear hb hbs
  go_wp2_with fail
  go_ret
  exact ⟨rfl, WW⟩

theorem modulus_any (A : Option Addr) (n c m : Nat) (w : World) (hA : Num w w.heap.size A n m) (hn : n ≤ 9223372036854775807) :
    Calls Tryd.prog 101 #[.agg #[.slice A n c]] w (RetB (.bool (modB n m)) w) := by
  cases h : okB n m
  · exact modulus_no A n c m w hA hn h
  · by_cases h1 : 1 ≤ bl m
    · exact modulus_hi A n c m w hA hn h h1
    · exact modulus_lo A n c m w hA hn h h1

set_option maxHeartbeats 4000000 in
theorem residue_any (A B' : Option Addr) (c d a m : Nat) (w : World) (hA : Num w w.heap.size A (nw a) a) (hB : Num w w.heap.size B' (nw m) m) (ha : nw a ≤ 64) (hm : nw m ≤ 64) :
    Calls Tryd.prog 102 #[.agg #[.slice A (nw a) c], .agg #[.slice B' (nw m) d]] w (RetB (.bool (decide (a < m))) w) := by
  have H1 := hid (okB_nw ha)
  have H2 := hid (okB_nw hm)
  have HF : Hid (decide (a < m) = decide (ordN a m < 0)) := by
    show _ = _
    unfold ordN
    by_cases h2 : a < m
    · rw [if_pos h2]; simpa using h2
    · rw [if_neg h2]; split <;> simp <;> omega
  rw [HF.out]
  obtain ⟨od, hod⟩ : ∃ x, ordN a m = x := ⟨_, rfl⟩
  have OD := hid hod
  rw [hod]
  clear hod HF
  obtain ⟨b0, b1, bw⟩ := boxes2 w (.slice A (nw a) c) (.slice B' (nw m) d)
  have XA := Box.mk b0 hA bw
  have XB := Box.mk b1 hB bw
  have WW := bw
  clear bw b0 b1
  go_enter Tryd.func102, Tryd.ntmps102
  go_wp2_with fail
  generalize hV : ((w.alloc (.cells #[.slice A (nw a) c] 37)).alloc (.cells #[.slice B' (nw m) d] 37)) = V0 at XA XB WW ⊢
  clear hV
  have hbs : w.heap.size ≤ V0.heap.size := WW.size
  have hc := cmp_any A B' _ _ c d a m V0 XA.num XB.num (by omega) (by omega)
  rw [bothC_yes H1.out H2.out] at hc
  rw [OD.out] at hc
  refine hc.mono ?_
  clear hc
  rintro e V1 ⟨rfl, hb⟩
  replace XA := XA.below hb
  replace XB := XB.below hb
  replace WW := WW.trans (hb.mono WW.size)
  have kXA := XA.cell
  have zXA := XA.lt
  have kXB := XB.cell
  have zXB := XB.lt
  clear hb hbs
  go_wp2_with fail
  go_ret
  exact ⟨rfl, WW⟩

end Go.Proofs.YtomkmkjkeihodaaDoor
