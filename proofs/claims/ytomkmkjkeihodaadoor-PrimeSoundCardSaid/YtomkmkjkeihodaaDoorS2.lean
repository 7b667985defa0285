/- PrimeSound: the law's few. -/
import Derived.Test.YtomkmkjkeihodaaDoorS1
set_option linter.unusedVariables false
set_option linter.unusedSimpArgs false
namespace Go.Proofs.YtomkmkjkeihodaaDoor
open Go.RowKit

set_option maxHeartbeats 4000000 in
set_option maxRecDepth 100000 in
theorem few_any : ∀ (s : Nat) (t : CT) (hs : t.size ≤ s) (x y z : Value) (g B : Nat) (zz : Int) (w : World) (hV : CV w B x y z t) (hB : B ≤ g) (hg : Blk w g 3 #[.int .i64 zz]) (h0 : 0 ≤ zz) (h1 : zz ≤ 10000),
    Calls Tryd.prog 28 #[.agg #[x, y, z], .pointer (some ⟨g, 0, none⟩)] w (FewE true g w)
  | 0, t, hs, _, _, _, _, _, _, _, _, _, _, _, _ => absurd hs (by have := t.size_pos; omega)
  | s + 1, t, hs, x, y, z, g, B, zz, w, hV, hB, hg, h0, h1 => by
    have IH := hid (few_any s)
    rcases hV with @⟨A, A', P, n, c, a, m, d, b, k, ex, ps, X, Y, Z, hN, hR, hn, hm, hk, hk2, hP, hT⟩
    have hBs : B ≤ w.heap.size := Nat.le_trans hB (Nat.le_of_lt hg.lt)
    have HP := hid hP
    have HT := hid hT
    have HK := hid hk
    have hgl := hg.lt
    have HSZ : Hid (∀ i (h : i < ps.length), ps[i].size ≤ s) := (show ∀ i (h : i < ps.length), _ from fun i h => by
      have := size_lt (n := n) (a := a) (m := m) (b := b) h
      omega)
    obtain ⟨W1, hW1⟩ : ∃ W, W = w.setCell ⟨g, 0, none⟩ (.int .i64 (zz - 1)) := ⟨_, rfl⟩
    have hsz : W1.heap.size = w.heap.size := by rw [hW1]; simp
    have hg1 : Blk W1 g 3 #[.int .i64 (zz - 1)] := by rw [hW1]; exact hg.set_ 0 _
    have GG1 : w.grownBy W1 (some g) := by rw [hW1]; exact grown_set w g 0 _
    obtain ⟨B1, B2, hb⟩ := boxf W1 (.slice A n c) (.slice A' m d) (.slice P k ex) (.pointer (some ⟨g, 0, none⟩))
    have BG := hg1.below hb hg1.lt
    have GG := grown_below GG1 hb (Nat.le_refl _)
    rw [hsz] at B2
    obtain ⟨W3, hW3⟩ : ∃ W, W = ((w.setCell ⟨g, 0, none⟩ (.int .i64 (zz - 1))).alloc (.cells #[.slice A n c, .slice A' m d, .slice P k ex] 40)).alloc (.cells #[.pointer (some ⟨g, 0, none⟩)] 55) := ⟨_, rfl⟩
    rw [hW1, ← hW3] at B2 BG GG
    have HBG := hid BG
    have HGG := hid GG
    have HB2 := hid B2
    have HW3 := hid hW3
    have kg := hg.cell0
    have fg := hg.frozen 0
    clear hP hT hk hN hR hs hg hb hW1 hsz hg1 GG1 B1 B2 BG GG hW3
    by_cases hz : zz = 0
    · have l1 : decide (zz - 1 < 0) = true := by simp; omega
      have hz1 : zz ≤ 0 := by omega
      clear hz
      go_enter Tryd.func28, Tryd.ntmps28
      go_wp2_with fail
      rw [← HW3.out]
      go_ret
      exact ⟨false, _, rfl, HBG.out, by omega, by omega, (fun h => by cases h), HGG.out⟩
    have l1 : decide (zz - 1 < 0) = false := by simp; omega
    have hz1 : 1 ≤ zz := by omega
    clear hz
    cases hn10 : decide (10 < n)
    rotate_left
    · have l2 : decide (((n : Nat) : Int) > 10) = true := by have := of_decide_eq_true hn10; simp; omega
      go_enter Tryd.func28, Tryd.ntmps28
      go_wp2_with fail
      rw [← HW3.out]
      go_ret
      exact ⟨false, _, rfl, HBG.out, by omega, by omega, (fun h => by cases h), HGG.out⟩
    have l2 : decide (((n : Nat) : Int) > 10) = false := by have := of_decide_eq_false hn10; simp; omega
    cases hm10 : decide (10 < m)
    rotate_left
    · have l3 : decide (((m : Nat) : Int) > 10) = true := by have := of_decide_eq_true hm10; simp; omega
      go_enter Tryd.func28, Tryd.ntmps28
      go_wp2_with fail
      rw [← HW3.out]
      go_ret
      exact ⟨false, _, rfl, HBG.out, by omega, by omega, (fun h => by cases h), HGG.out⟩
    have l3 : decide (((m : Nat) : Int) > 10) = false := by have := of_decide_eq_false hm10; simp; omega
    go_enter Tryd.func28, Tryd.ntmps28
    go_wp2_with fail
    rw [← HW3.out]
    have WB := below_of_grown HGG.out hB hBs
    have hc := contains_few P k ex g (w.heap.size + 1) W3 (index_few g (w.heap.size + 1) B k ex P X Y Z (zz - 1) W3 hk2 hB (Nat.le_trans hBs WB.size) HBG.out (by omega) (by omega) HB2.out (by omega)
      (fun i hi => by
        obtain ⟨ad, e, hb, c0, c1, c2⟩ := HP.out i hi
        exact ⟨ad, e, hb, (WB.cell (by rw [add_block]; exact hb)).trans c0, (WB.cell (by show (ad.add (i * 3)).block < _; rw [add_block]; exact hb)).trans c1, (WB.cell (by show (ad.add (i * 3)).block < _; rw [add_block]; exact hb)).trans c2⟩)
      (fun i hi => (HT.out i (by rw [HK.out]; exact hi)).slc)
      (fun i hi wr z h1 h2 h3 h4 => by
        have hil : i < ps.length := by rw [HK.out]; exact hi
        have WB2 := below_of_grown h1 hB (Nat.le_trans hBs WB.size)
        exact IH.out ps[i] (HSZ.out i hil) _ _ _ g B z wr (((HT.out i hil).to WB (Nat.le_refl _)).to WB2 (Nat.le_refl _)) hB h2 h3 h4))
    refine hc.mono ?_
    clear hc WB kg fg l1 l2 l3 hn10 hm10 HBG HB2 HP HT IH HW3
    rintro e V1 ⟨q, z, rfl, hz, h2, h3, h4, h5⟩
    have HZ := hid hz
    have H4 := hid h4
    have H5 := hid (grown_same HGG.out h5)
    clear hz h4 h5
    go_wp2_with fail
    go_ret
    exact ⟨!q, z, rfl, HZ.out, h2, h3, fun h => H4.out (by simpa using h), H5.out⟩
end Go.Proofs.YtomkmkjkeihodaaDoor
