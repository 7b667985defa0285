/- The law's awake. -/
import Derived.Test.YtomkmkjkeihodaaDoorP17
set_option linter.unusedVariables false
set_option linter.unusedSimpArgs false
namespace Go.Proofs.YtomkmkjkeihodaaDoor
open Go.RowKit

def t2 : CT := .node (nw 2) 2 (nw 1) 1 []
def t3 : CT := .node (nw 3) 3 (nw 2) 2 [t2]
def t7 : CT := .node (nw 7) 7 (nw 3) 3 [t2, t3]
set_option maxRecDepth 100000 in
theorem fac_6 : facS 6 = some [2, 3] := by decide +kernel
theorem fac_1 : facS 1 = some [] := by decide +kernel
theorem fac_2 : facS 2 = some [2] := by decide +kernel
theorem fac_12 : facS 12 = some [2, 2, 3] := by decide +kernel
theorem is_5 : isB 5 = true := by decide +kernel
theorem is_9 : isB 9 = false := by decide +kernel
theorem is_7 : isB 7 = true := by decide +kernel
theorem is_2 : isB 2 = true := by decide +kernel
theorem is_3 : isB 3 = true := by decide +kernel
theorem root_7 : RootIs 7 [2, 3] 3 := by
  refine ⟨by decide, by decide, by decide, fun s h1 h2 => ?_⟩
  obtain rfl | rfl : s = 1 ∨ s = 2 := by omega
  · decide
  · decide
theorem root_3 : RootIs 3 [2] 2 := by
  refine ⟨by decide, by decide, by decide, fun s h1 h2 => ?_⟩
  obtain rfl : s = 1 := by omega
  decide
theorem root_2 : RootIs 2 [] 1 := ⟨by decide, by decide, by decide, fun s h1 h2 => by omega⟩
theorem good_2 : Good 2 t2 := .mk 2 1 [] [] (by decide) (by decide) is_2 fac_1 (by simp) root_2 rfl (fun i h => absurd h (by simp))
theorem good_3 : Good 3 t3 := .mk 3 2 [2] [t2] (by decide) (by decide) is_3 fac_2 (by simp) root_3 rfl (fun i h h' => by
  obtain rfl : i = 0 := by simp at h; omega
  exact good_2)
theorem good_7 : Good 7 t7 := .mk 7 3 [2, 3] [t2, t3] (by decide) (by decide) is_7 fac_6 (by simp) root_7 rfl (fun i h h' => by
  obtain rfl | rfl : i = 0 ∨ i = 1 := by simp at h; omega
  · exact good_2
  · exact good_3)
theorem ver_7 : verB t7 = true := by decide +kernel
theorem size_7 : sizeN t7 = 4 := by decide +kernel
theorem t7_len {w : World} {S : Nat → Prop} {x y z : Value} (h : CVS w S x y z t7) : ∃ A n c A' m d P e, x = .slice A n c ∧ y = .slice A' m d ∧ z = .slice P 2 e := by
  have h' : CVS w S x y z (.node (nw 7) 7 (nw 3) 3 [t2, t3]) := h
  cases h' with
  | mk X Y Z hN hR hn hm hk hk2 hP hT => subst hk; exact ⟨_, _, _, _, _, _, _, _, rfl, rfl, rfl⟩
set_option maxHeartbeats 4000000 in
set_option maxRecDepth 100000 in
theorem awake_any (w : World) (hT : Tabs w) : Calls Tryd.prog 11 #[] w (RetB (.bool true) w) := by
  have HT := hid hT
  clear hT
  go_enter Tryd.func11, Tryd.ntmps11
  go_wp2_with fail
  have hc := rootE_any 7 3 [2, 3] w (by decide) (by decide) is_7 HT.out fac_6 (by simp) (by decide) (by decide) root_7.2.2.1
  refine (show Calls Tryd.prog 19 #[.int .i64 7] w _ from hc).mono ?_
  clear hc
  rintro e V1 ⟨r, rfl, hr, hb⟩
  obtain rfl : r = 3 := hr.unique root_7
  have WW := hb
  clear hb hr
  go_wp2_with fail
  have hc := certify_any _ t7 (Nat.le_refl _) 7 V1 good_7 (HT.out.below WW (Nat.le_refl _))
  refine (show Calls Tryd.prog 21 #[.int .i64 7] V1 _ from hc).mono ?_
  clear hc
  rintro e V2 ⟨x, y, z, rfl, hcv, hb⟩
  have hcv2 := hcv.cv (fun b hb => hb.2)
  obtain ⟨A1, n1, c1, A2, n2, c2, A3, c3, rfl, rfl, rfl⟩ := t7_len hcv
  replace WW := WW.trans (hb.mono WW.size)
  clear hb hcv
  go_wp2_with fail
  obtain ⟨V3, hV3⟩ : ∃ V, V = V2.alloc (.cells #[.slice A1 n1 c1, .slice A2 n2 c2, .slice A3 2 c3] 40) := ⟨_, rfl⟩
  obtain ⟨B, hb⟩ := box3 V2 (.slice A1 n1 c1) (.slice A2 n2 c2) (.slice A3 2 c3)
  rw [← hV3] at B hb ⊢
  clear hV3
  have HCV := hid (hcv2.go hb)
  replace WW := WW.trans (hb.mono WW.size)
  clear hb hcv2
  have hc := factors_any 12 V3 (by decide) (by decide) (HT.out.below WW (Nat.le_refl _))
  refine (show Calls Tryd.prog 16 #[.int .i64 12] V3 _ from hc).mono ?_
  clear hc
  rintro e V4 h
  rcases h with ⟨l, v, hf, rfl, ho, hl, hb⟩ | ⟨hf, rfl, hb⟩
  rotate_left
  · rw [fac_12] at hf; cases hf
  rw [fac_12] at hf
  injection hf with hf
  subst hf
  replace B := B.below hb B.lt
  replace WW := WW.trans (hb.mono WW.size)
  replace HCV := hid (HCV.out.go hb)
  obtain ⟨gl, hgl⟩ : ∃ g c, v = .slice (some ⟨g, 0, none⟩) 3 c := by
    obtain ⟨A, c, rfl⟩ := ho.slc
    obtain ⟨g, e, _⟩ := ho.cell (i := 0) (by decide)
    exact ⟨g, c, by rw [e]; rfl⟩
  obtain ⟨lc, rfl⟩ := hgl
  have z0 := B.lt
  obtain ⟨k0, k1, k2⟩ := blk3 B
  clear hb hl
  go_wp2_with fail
  have hc := verify_any t7 _ _ _ V4 HCV.out
  rw [ver_7] at hc
  refine hc.mono ?_
  clear hc
  rintro e V5 ⟨rfl, hb⟩
  clear k0 k1 k2 z0
  replace B := B.below hb B.lt
  have z0 := B.lt
  obtain ⟨k0, k1, k2⟩ := blk3 B
  replace ho := ho.below hb (Nat.le_refl _)
  replace HCV := hid (HCV.out.go hb)
  replace WW := WW.trans (hb.mono WW.size)
  clear hb
  go_wp2_with fail
  have hc := size_any t7 _ _ _ V5 HCV.out
  rw [size_7] at hc
  refine (show Calls Tryd.prog 33 _ V5 (RetB (.int .i64 4) V5) from hc).mono ?_
  clear hc
  rintro e V6 ⟨rfl, hb⟩
  clear k0 k1 k2 z0 B HCV
  replace ho := ho.below hb (Nat.le_refl _)
  replace WW := WW.trans (hb.mono WW.size)
  clear hb
  go_wp2_with fail
  obtain ⟨V7, hV7⟩ : ∃ V, V = V6.alloc (.cells #[.int .i64 2, .int .i64 2, .int .i64 3] 3) := ⟨_, rfl⟩
  have hb := (Below.refl V6.heap.size V6).alloc (Nat.le_refl _) (.cells #[.int .i64 2, .int .i64 2, .int .i64 3] 3)
  have hB := Blk.new V6 3 #[.int .i64 2, .int .i64 2, .int .i64 3]
  rw [← hV7] at hb hB ⊢
  clear hV7
  replace ho := ho.below hb (Nat.le_refl _)
  replace WW := WW.trans (hb.mono WW.size)
  have hc := Tryd.slices_Equal_int gl 0 3 lc V6.heap.size 0 3 3 [2, 2, 3] [2, 2, 3] V7 (by decide) (by decide) (by decide) (by decide) (fun j hj => by
    obtain ⟨g, e, _, h, _⟩ := ho.cell (i := j) hj
    injection e with e
    injection e with e
    subst e
    rw [Nat.zero_add, h]
    obtain rfl | rfl | rfl : j = 0 ∨ j = 1 ∨ j = 2 := by simp at hj; omega
    all_goals rfl) (fun j hj => by
    rw [Nat.zero_add, hB.cell]
    obtain rfl | rfl | rfl : j = 0 ∨ j = 1 ∨ j = 2 := by simp at hj; omega
    all_goals rfl)
  refine hc.mono ?_
  clear hc
  rintro e V8 ⟨rfl, q, rfl⟩
  replace WW := below_drewN WW q
  clear hb hB ho
  obtain ⟨V9, hV9⟩ : ∃ V, V = V7.drewN q := ⟨_, rfl⟩
  rw [← hV9] at WW ⊢
  clear hV9
  go_wp2_with fail
  have hc := is_any 5 V9 (by decide) (HT.out.below WW (Nat.le_refl _))
  rw [is_5] at hc
  refine (show Calls Tryd.prog 13 #[.int .i64 5] V9 _ from hc).mono ?_
  clear hc
  rintro e V10 ⟨rfl, hb⟩
  replace WW := WW.trans (hb.mono WW.size)
  clear hb
  go_wp2_with fail
  have hc := is_any 9 V10 (by decide) (HT.out.below WW (Nat.le_refl _))
  rw [is_9] at hc
  refine (show Calls Tryd.prog 13 #[.int .i64 9] V10 _ from hc).mono ?_
  clear hc
  rintro e V11 ⟨rfl, hb⟩
  replace WW := WW.trans (hb.mono WW.size)
  clear hb
  go_wp2_with fail
  go_ret
  exact ⟨rfl, WW⟩
end Go.Proofs.YtomkmkjkeihodaaDoor
