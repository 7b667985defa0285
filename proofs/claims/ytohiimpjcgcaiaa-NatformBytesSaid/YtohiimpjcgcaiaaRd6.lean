/- The reference of layer 4: Bytes. -/
import Derived.Test.YtohiimpjcgcaiaaRd5
import Derived.Test.YtohiimpjcgcaiaaBts
set_option linter.unusedVariables false
set_option linter.unusedSimpArgs false
namespace Go.Proofs.Ytohiimpjcgcaiaa
open Go.RowKit

theorem ndg_le {b a s : Nat} (hb : 2 ≤ b) (h : a < b ^ s) : ndg b a ≤ s := by
  rcases Nat.lt_or_ge s (ndg b a) with h1 | h1
  · have h2 := (ndg_top (a := a) hb).2 (by omega)
    have h3 := Nat.pow_le_pow_right (n := b) (by omega) (show s ≤ ndg b a - 1 by omega)
    omega
  · exact h1
theorem ndg_lt {b a s : Nat} (hb : 2 ≤ b) (h : ndg b a ≤ s) : a < b ^ s := Nat.lt_of_lt_of_le (ndg_top hb).1 (Nat.pow_le_pow_right (by omega) h)
theorem dgs_more {b a k : Nat} (h : a < b ^ k) (hb : 0 < b) : ∀ t, dgs b a (k + t) = dgs b a k ++ List.replicate t 0
  | 0 => by simp
  | t + 1 => by
    have h2 : a / b ^ (k + t) = 0 := Nat.div_eq_of_lt (Nat.lt_of_lt_of_le h (Nat.pow_le_pow_right hb (by omega)))
    rw [← Nat.add_assoc, dgs_succ, dgs_more h hb t, h2, Nat.zero_mod, List.append_assoc, ← List.replicate_succ']
theorem bytesL_eq {s a : Nat} (h : ndg 256 a ≤ s) : (dgs 256 a s).reverse = bytesL s a := by
  unfold bytesL
  have e : s = ndg 256 a + (s - ndg 256 a) := by omega
  have h2 := dgs_more (ndg_top (b := 256) (a := a) (by decide)).1 (by decide) (s - ndg 256 a)
  rw [← e] at h2
  rw [h2, List.reverse_append, List.reverse_replicate]
theorem set_rep (D : List Nat) (i r : Nat) : (List.replicate (i + 1) 0 ++ D).set i r = List.replicate i 0 ++ r :: D := by
  rw [List.set_append_left _ _ (by simp), List.replicate_succ', List.set_append_right _ _ (by simp)]
  simp
theorem Blk.byte {w : World} {g : Nat} {l : List Nat} (h : Blk w g 5 (l.map byt).toArray) (i y : Nat) : Blk (w.setCell ⟨g, i, none⟩ (.int .u8 ((y : Nat) : Int))) g 5 ((l.set i y).map byt).toArray := by
  have h2 := h.set_ i (byt y)
  rw [List.setIfInBounds_toArray, ← List.map_set] at h2
  exact h2
def RetOB3 (base : Nat) (l : List Nat) (f : Int) (w : World) (e : Ending) (w' : World) : Prop := RetOB base l f w e w'
set_option maxHeartbeats 8000000 in
set_option maxRecDepth 100000 in
theorem rbytes_some (ad : Addr) (c a s : Nat) (w : World) (hA : Num w w.heap.size (some ad) (nw a) a) (hn64 : nw a ≤ 64) (hs : s ≤ 1000) :
    Calls Try.prog 20 #[.agg #[.slice (some ad) (nw a) c], .int .i64 ((s : Nat) : Int)] w (RetOB w.heap.size (bytesS (nw a) a ((s : Nat) : Int)).1 (bytesS (nw a) a ((s : Nat) : Int)).2 w) := by
  have H1 := hid (okB_nw hn64)
  obtain ⟨b0, bw⟩ := boxes1 w (.slice (some ad) (nw a) c)
  have XN := VB.mk (B := w.heap.size) (a := a) b0 (.inl hA) bw (Nat.le_refl _) (by omega)
  have WW := bw
  clear bw b0
  have l1 : decide (((s : Nat) : Int) < 0) = false := by simp
  have l2 : decide (((s : Nat) : Int) > 1000) = false := by simp; omega
  obtain ⟨i0, hi0, hz0, hz1, hz2⟩ := info_parts info49
  go_enter Try.func20, Try.ntmps20
  go_wp2_with fail
  generalize hV : (w.alloc (.cells #[.slice (some ad) (nw a) c] 24)) = V0 at XN WW ⊢
  clear hV
  have hc := rvalid_any (some ad) _ c a _ V0 XN.num (Nat.le_refl _) (by omega)
  rw [H1.out] at hc
  refine hc.mono ?_
  clear hc
  rintro e V1 ⟨rfl, hb⟩
  replace XN := XN.below hb
  replace WW := WW.trans (hb.mono WW.size)
  have kXN := XN.cell
  have zXN := XN.lt
  have hmk := make_bytes s (by omega)
  clear hb
  have HN := hid (XN.num.alloc (Nat.le_refl _) (.cells #[] 49))
  have HO := hid (OwnsV.empty V1 w.heap.size WW.size)
  have HW := hid (WW.alloc WW.size (.cells #[] 49))
  have HS := hid WW.size
  clear XN WW
  go_wp2_with (at_builtin; refine wpList_append_own _ rfl _ _ 22 rfl w.heap.size 49 i0 (.int .u32 0) 1 4 Try.underlying22 hi0 hz0 hz1 hz2 rfl (by decide) (.slice (some ⟨V1.heap.size, 0, none⟩) 0 0) 0 (words 0 0).toList rfl HO.out.2 ad (nw a) _ (words (nw a) a).toList rfl (words_len (nw a) a) HN.out.news (words_oneCell (nw a) a) (by unfold maxLen; omega) (by omega) (by have := HS.out; simp; omega) ?_; intro v1 w1 hown1 hg1 _; obtain ⟨A', c', rfl, ho⟩ := OwnsV.own (OwnsV.app (k := 0) (s := 0) (by simp) HN.out.lt hown1); have HO1 := hid ho; have HG1 := hid hg1; clear hown1 hg1 ho)
  have ho := HO1.out
  rw [Nat.zero_add, Nat.add_zero, show 2 ^ (32 * 0) = 1 from rfl, Nat.mul_one] at ho
  have hW1 : Below w.heap.size w w1 := HW.out.grown HG1.out (by have := HS.out; simp; omega) (fun k hk => by have := HS.out; simp [Value.ownBlock] at hk; omega)
  clear HO HN HG1 HW HO1
  have hB0 : Blk (w1.alloc (.cells (Array.replicate s (byt 0)) 5)) w1.heap.size 5 ((List.replicate s 0 ++ (dgs 256 a 0).reverse).map byt).toArray := by
    have e : List.replicate s 0 ++ (dgs 256 a 0).reverse = List.replicate s 0 := by simp [dgs]
    rw [e, ← rep_bytes]
    exact Blk.new w1 5 _
  have ho0 := ho.alloc (.cells (Array.replicate s (byt 0)) 5)
  have hW0 := hW1.alloc hW1.size (.cells (Array.replicate s (byt 0)) 5)
  have HG := hid hW1.size
  go_loopw [6, 8] (fun v i wr => ∃ (k j m : Nat) (zi : Int) (A1 : Option Addr) (c1 : Nat), v = .slice A1 (nw m) c1 ∧ i = .int .i64 zi ∧ zi + 1 = (k : Int) ∧ Hid (k + j = s) ∧ Hid (m = a / 256 ^ j) ∧ nw m ≤ 64 ∧ Own wr w.heap.size A1 (nw m) c1 m ∧ Blk wr w1.heap.size 5 ((List.replicate k 0 ++ (dgs 256 a j).reverse).map byt).toArray ∧ Below w.heap.size w wr) (fun _ i _ => (intOf i + 1).toNat)
  case atStart => exact ⟨s, 0, a, ((s : Nat) : Int) - 1, A', c', rfl, by go_num, by omega, (show s + 0 = s from rfl), (show a = a / 256 ^ 0 by simp), hn64, ho0, hB0, hW0⟩
  case round =>
    clear ho hW1 ho0 hW0 hB0
    obtain ⟨k, j, m, zi, A1, c1, rfl, rfl, hzi, HKJ, HM, hm, HOw, HB, WW⟩ := hrel
    by_cases hk0 : k = 0
    · subst hk0
      obtain rfl : zi = -1 := by omega
      have hjs : j = s := by have := HKJ.out; omega
      subst hjs
      have hrow : OB wr w.heap.size (.slice (some ⟨w1.heap.size, 0, none⟩) j j) (dgs 256 a j).reverse := OB.made HG.out (by rw [List.length_reverse, dgs_len]) (by omega) HB
      have HR := hid hrow
      by_cases hm0 : m = 0
      · have hle : ndg 256 a ≤ j := ndg_le (by decide) (lt_of_div (HM.out.symm.trans hm0) (Nat.pow_pos (by decide)))
        have HX : Hid (bytesS (nw a) a ((j : Nat) : Int) = ((dgs 256 a j).reverse, 0)) := (show _ = _ by unfold bytesS; rw [H1.out, if_pos rfl, if_pos (by omega), if_pos (by simpa using hle), Int.toNat_natCast, bytesL_eq hle])
        subst hm0
        have l1 : decide (0 < ((nw 0 : Nat) : Int)) = false := rfl
        clear HM HKJ hrow HB
        go_wp2_with fail
        exact bodyPost_ret (v := .tuple #[.slice (some ⟨w1.heap.size, 0, none⟩) j j, .int .i64 0]) (by simp [results, Try.results20, go_sem]) rfl (by show RetOB _ _ _ _ _ _; rw [HX.out]; exact ⟨_, rfl, HR.out, WW⟩)
      · have hmp := nw_pos hm0
        have l1 : decide (0 < ((nw m : Nat) : Int)) = true := by simpa using hmp
        have hle : ¬ ndg 256 a ≤ j := fun h => hm0 (HM.out.trans (Nat.div_eq_of_lt (ndg_lt (by decide) h)))
        have HX : Hid (bytesS (nw a) a ((j : Nat) : Int) = ([], 9)) := (show _ = _ by unfold bytesS; rw [H1.out, if_pos rfl, if_pos (by omega), if_neg (by simpa using hle)])
        clear HM HKJ hrow HB
        go_wp2_with fail
        exact bodyPost_ret (v := .tuple #[.slice none 0 0, .int .i64 9]) (by simp [results, Try.results20, go_sem]) rfl (by show RetOB _ _ _ _ _ _; rw [HX.out]; exact ⟨_, rfl, OB.nil _ _, WW⟩)
    · obtain ⟨i, rfl⟩ : ∃ i, k = i + 1 := ⟨k - 1, by omega⟩
      obtain rfl : zi = (i : Int) := by omega
      have his : i < s := by have := HKJ.out; omega
      obtain ⟨q, hq⟩ : ∃ q, q = m / 256 := ⟨_, rfl⟩
      obtain ⟨r, hr⟩ : ∃ r, r = m % 256 := ⟨_, rfl⟩
      have HQ := hid hq
      have HRr := hid hr
      have hr255 : r ≤ 255 := by omega
      have HQM : Hid (q = a / 256 ^ (j + 1)) := (show q = _ by rw [hq, HM.out, Nat.div_div_eq_div_mul, ← Nat.pow_succ])
      have HRM : Hid (r :: (dgs 256 a j).reverse = (dgs 256 a (j + 1)).reverse) := (show _ = _ by rw [dgs_succ, List.reverse_append, hr, HM.out]; rfl)
      have nq : nw q ≤ 64 := Nat.le_trans (nw_mono (by rw [hq]; exact Nat.div_le_self _ _)) hm
      have HKJ2 : Hid (i + (j + 1) = s) := (show _ = _ by have := HKJ.out; omega)
      clear hq hr HM HKJ hk0
      go_wp2_with fail
      have hc : Calls Try.prog 25 #[.slice A1 (nw m) c1, .int .u64 256] wr _ := rdivide_any A1 (nw m) c1 m wr.heap.size 256 wr HOw.num (Nat.le_refl _) (by omega) (by decide) (by decide)
      rw [← HQ.out, ← HRr.out] at hc
      refine hc.mono ?_
      clear hc
      rintro e w2 ⟨c2, rfl, ho2, hb⟩
      have hB2 := HB.below hb HB.lt
      have hO2 := ho2.weak (b := w.heap.size) WW.size
      have hW2 := WW.trans (hb.mono WW.size)
      have hfr := hB2.frozen i
      have hce : w2.cell? ⟨w1.heap.size, i, none⟩ = some (.int .u8 0) := (hB2.cell i).trans (by rw [List.getElem?_toArray, List.getElem?_map, List.getElem?_append_left (by simp), List.getElem?_replicate, if_pos (by omega)]; rfl)
      have hB3 := hB2.byte i r
      rw [set_rep, HRM.out] at hB3
      have HB3 := hid hB3
      have HO3 := hid (hO2.box (p := ⟨w1.heap.size, i, none⟩) hB2 (by decide) (.int .u8 ((r : Nat) : Int)))
      have HW3 := hid (hW2.setCell (p := ⟨w1.heap.size, i, none⟩) HG.out (.int .u8 ((r : Nat) : Int)))
      clear ho2 hb HOw WW HB hB2 hO2 hW2 hB3
      go_wp2_with fail
      go_roundw
      case rel => exact ⟨i, j + 1, q, ((i : Int) - 1), _, c2, rfl, by go_num, by omega, HKJ2, HQM, nq, HO3.out, HB3.out, HW3.out⟩
      case measure => simp [intOf] <;> omega
set_option maxHeartbeats 8000000 in
set_option maxRecDepth 100000 in
theorem rbytes_none (c s : Nat) (w : World) (hs : s ≤ 1000) :
    Calls Try.prog 20 #[.agg #[.slice none 0 c], .int .i64 ((s : Nat) : Int)] w (RetOB w.heap.size (bytesS (nw 0) 0 ((s : Nat) : Int)).1 (bytesS (nw 0) 0 ((s : Nat) : Int)).2 w) := by
  have hn64 : nw 0 ≤ 64 := by decide
  have H1 := hid (okB_nw hn64)
  obtain ⟨b0, bw⟩ := boxes1 w (.slice none 0 c)
  have XN := VB.mk (B := w.heap.size) (a := 0) b0 (.inl (Num.nil _ _ _)) bw (Nat.le_refl _) (by omega)
  have WW := bw
  clear bw b0
  have l1 : decide (((s : Nat) : Int) < 0) = false := by simp
  have l2 : decide (((s : Nat) : Int) > 1000) = false := by simp; omega
  go_enter Try.func20, Try.ntmps20
  go_wp2_with fail
  generalize hV : (w.alloc (.cells #[.slice none 0 c] 24)) = V0 at XN WW ⊢
  clear hV
  have hc := rvalid_any none 0 c 0 _ V0 XN.num (Nat.le_refl _) (by omega)
  rw [show okB 0 0 = true from H1.out] at hc
  refine hc.mono ?_
  clear hc
  rintro e V1 ⟨rfl, hb⟩
  replace XN := XN.below hb
  replace WW := WW.trans (hb.mono WW.size)
  have kXN := XN.cell
  have zXN := XN.lt
  have hmk := make_bytes s (by omega)
  clear hb
  have hW1 := WW.alloc WW.size (.cells #[] 49)
  clear XN WW
  go_wp2_with fail
  generalize hw1 : V1.alloc (.cells #[] 49) = w1 at hW1 ⊢
  have e1 : V1.heap.size + 1 = w1.heap.size := by rw [← hw1]; simp
  obtain ⟨A', hA'⟩ : ∃ A', A' = some (⟨V1.heap.size, 0, none⟩ : Addr) := ⟨_, rfl⟩
  obtain ⟨c', hc'⟩ : ∃ c' : Nat, c' = 0 := ⟨_, rfl⟩
  have ho : Own w1 w.heap.size A' (nw 0) c' 0 := Own.nil _ _ _ _ (by rw [hc']; exact Nat.zero_le _)
  subst hA' hc'
  rw [e1]
  clear e1 hw1 kXN zXN
  have hB0 : Blk (w1.alloc (.cells (Array.replicate s (byt 0)) 5)) w1.heap.size 5 ((List.replicate s 0 ++ (dgs 256 0 0).reverse).map byt).toArray := by
    have e : List.replicate s 0 ++ (dgs 256 0 0).reverse = List.replicate s 0 := by simp [dgs]
    rw [e, ← rep_bytes]
    exact Blk.new w1 5 _
  have ho0 := ho.alloc (.cells (Array.replicate s (byt 0)) 5)
  have hW0 := hW1.alloc hW1.size (.cells (Array.replicate s (byt 0)) 5)
  have HG := hid hW1.size
  go_loopw [6, 8] (fun v i wr => ∃ (k j m : Nat) (zi : Int) (A1 : Option Addr) (c1 : Nat), v = .slice A1 (nw m) c1 ∧ i = .int .i64 zi ∧ zi + 1 = (k : Int) ∧ Hid (k + j = s) ∧ Hid (m = 0 / 256 ^ j) ∧ nw m ≤ 64 ∧ Own wr w.heap.size A1 (nw m) c1 m ∧ Blk wr w1.heap.size 5 ((List.replicate k 0 ++ (dgs 256 0 j).reverse).map byt).toArray ∧ Below w.heap.size w wr) (fun _ i _ => (intOf i + 1).toNat)
  case atStart => exact ⟨s, 0, 0, ((s : Nat) : Int) - 1, some ⟨V1.heap.size, 0, none⟩, 0, rfl, by go_num, by omega, (show s + 0 = s from rfl), (show 0 = 0 / 256 ^ 0 by simp), hn64, ho0, hB0, hW0⟩
  case round =>
    clear ho hW1 ho0 hW0 hB0
    obtain ⟨k, j, m, zi, A1, c1, rfl, rfl, hzi, HKJ, HM, hm, HOw, HB, WW⟩ := hrel
    by_cases hk0 : k = 0
    · subst hk0
      obtain rfl : zi = -1 := by omega
      have hjs : j = s := by have := HKJ.out; omega
      subst hjs
      have hrow : OB wr w.heap.size (.slice (some ⟨w1.heap.size, 0, none⟩) j j) (dgs 256 0 j).reverse := OB.made HG.out (by rw [List.length_reverse, dgs_len]) (by omega) HB
      have HR := hid hrow
      by_cases hm0 : m = 0
      · have hle : ndg 256 0 ≤ j := ndg_le (by decide) (lt_of_div (HM.out.symm.trans hm0) (Nat.pow_pos (by decide)))
        have HX : Hid (bytesS (nw 0) 0 ((j : Nat) : Int) = ((dgs 256 0 j).reverse, 0)) := (show _ = _ by unfold bytesS; rw [H1.out, if_pos rfl, if_pos (by omega), if_pos (by simpa using hle), Int.toNat_natCast, bytesL_eq hle])
        subst hm0
        have l1 : decide (0 < ((nw 0 : Nat) : Int)) = false := rfl
        clear HM HKJ hrow HB
        go_wp2_with fail
        exact bodyPost_ret (v := .tuple #[.slice (some ⟨w1.heap.size, 0, none⟩) j j, .int .i64 0]) (by simp [results, Try.results20, go_sem]) rfl (by show RetOB _ _ _ _ _ _; rw [HX.out]; exact ⟨_, rfl, HR.out, WW⟩)
      · have hmp := nw_pos hm0
        have l1 : decide (0 < ((nw m : Nat) : Int)) = true := by simpa using hmp
        have hle : ¬ ndg 256 0 ≤ j := fun h => hm0 (HM.out.trans (Nat.div_eq_of_lt (ndg_lt (by decide) h)))
        have HX : Hid (bytesS (nw 0) 0 ((j : Nat) : Int) = ([], 9)) := (show _ = _ by unfold bytesS; rw [H1.out, if_pos rfl, if_pos (by omega), if_neg (by simpa using hle)])
        clear HM HKJ hrow HB
        go_wp2_with fail
        exact bodyPost_ret (v := .tuple #[.slice none 0 0, .int .i64 9]) (by simp [results, Try.results20, go_sem]) rfl (by show RetOB _ _ _ _ _ _; rw [HX.out]; exact ⟨_, rfl, OB.nil _ _, WW⟩)
    · obtain ⟨i, rfl⟩ : ∃ i, k = i + 1 := ⟨k - 1, by omega⟩
      obtain rfl : zi = (i : Int) := by omega
      have his : i < s := by have := HKJ.out; omega
      obtain ⟨q, hq⟩ : ∃ q, q = m / 256 := ⟨_, rfl⟩
      obtain ⟨r, hr⟩ : ∃ r, r = m % 256 := ⟨_, rfl⟩
      have HQ := hid hq
      have HRr := hid hr
      have hr255 : r ≤ 255 := by omega
      have HQM : Hid (q = 0 / 256 ^ (j + 1)) := (show q = _ by rw [hq, HM.out, Nat.div_div_eq_div_mul, ← Nat.pow_succ])
      have HRM : Hid (r :: (dgs 256 0 j).reverse = (dgs 256 0 (j + 1)).reverse) := (show _ = _ by rw [dgs_succ, List.reverse_append, hr, HM.out]; rfl)
      have nq : nw q ≤ 64 := Nat.le_trans (nw_mono (by rw [hq]; exact Nat.div_le_self _ _)) hm
      have HKJ2 : Hid (i + (j + 1) = s) := (show _ = _ by have := HKJ.out; omega)
      clear hq hr HM HKJ hk0
      go_wp2_with fail
      have hc : Calls Try.prog 25 #[.slice A1 (nw m) c1, .int .u64 256] wr _ := rdivide_any A1 (nw m) c1 m wr.heap.size 256 wr HOw.num (Nat.le_refl _) (by omega) (by decide) (by decide)
      rw [← HQ.out, ← HRr.out] at hc
      refine hc.mono ?_
      clear hc
      rintro e w2 ⟨c2, rfl, ho2, hb⟩
      have hB2 := HB.below hb HB.lt
      have hO2 := ho2.weak (b := w.heap.size) WW.size
      have hW2 := WW.trans (hb.mono WW.size)
      have hfr := hB2.frozen i
      have hce : w2.cell? ⟨w1.heap.size, i, none⟩ = some (.int .u8 0) := (hB2.cell i).trans (by rw [List.getElem?_toArray, List.getElem?_map, List.getElem?_append_left (by simp), List.getElem?_replicate, if_pos (by omega)]; rfl)
      have hB3 := hB2.byte i r
      rw [set_rep, HRM.out] at hB3
      have HB3 := hid hB3
      have HO3 := hid (hO2.box (p := ⟨w1.heap.size, i, none⟩) hB2 (by decide) (.int .u8 ((r : Nat) : Int)))
      have HW3 := hid (hW2.setCell (p := ⟨w1.heap.size, i, none⟩) HG.out (.int .u8 ((r : Nat) : Int)))
      clear ho2 hb HOw WW HB hB2 hO2 hW2 hB3
      go_wp2_with fail
      go_roundw
      case rel => exact ⟨i, j + 1, q, ((i : Int) - 1), _, c2, rfl, by go_num, by omega, HKJ2, HQM, nq, HO3.out, HB3.out, HW3.out⟩
      case measure => simp [intOf] <;> omega
end Go.Proofs.Ytohiimpjcgcaiaa
