/- natform.Bytes. -/
import Derived.Test.YtohiimpjcgcaiaaRd3
import Derived.Laws.CopyOwn
import Derived.Laws.OwnMore
import Derived.Deep.OwnRows
set_option linter.unusedVariables false
set_option linter.unusedSimpArgs false
namespace Go.Proofs.Ytohiimpjcgcaiaa
open Go.RowKit

/-- The size bytes of a, the highest first. -/
noncomputable def bytesL (size a : Nat) : List Nat := List.replicate (size - ndg 256 a) 0 ++ (dgs 256 a (ndg 256 a)).reverse
/-- What Bytes returns. -/
noncomputable def bytesS (n a : Nat) (z : Int) : List Nat × Int := if okB n a = true then (if 0 ≤ z ∧ z ≤ 1000 then (if ndg 256 a ≤ z.toNat then (bytesL z.toNat a, 0) else ([], 9)) else ([], 2)) else ([], 1)
/-- The call returns a row of bytes of its own (or nil), and the error number f. -/
def RetOB (base : Nat) (l : List Nat) (f : Int) (w : World) (e : Ending) (w' : World) : Prop := ∃ v, e = .returned (.tuple #[v, .int .i64 f]) ∧ OB w' base v l ∧ Below w.heap.size w w'
theorem made_bytes (n : Nat) : madeCells #[Value.int .u8 0] n = ((List.replicate n 0).map byt).toArray := by
  apply Array.ext'
  rw [toList_madeCells_one, List.map_replicate]
  rfl
theorem make_bytes (n : Nat) (h : n ≤ 1000000) (w : World) :
    (Instr.makeSlice 37 (.int .i64 (n : Int)) (.int .i64 (n : Int))).run Try.prog w = .ok (.slice (some ⟨w.heap.size, 0, none⟩) n n) (w.alloc (.cells ((List.replicate n 0).map byt).toArray 5)) := by
  rw [← made_bytes]
  exact run_make_row' (P := Try.prog) 37 5 (.int .u8 0) 1 Try.underlying37 info5 rfl .i64 .i64 n (by omega) (by omega) w
theorem splice_bytes (L : List Nat) (off : Nat) : splice ((List.replicate (off + L.length) 0).map byt) off (L.map byt) = (List.replicate off 0 ++ L).map byt := by
  unfold splice
  rw [List.length_map, List.map_append, ← List.map_take, List.take_replicate, Nat.min_eq_left (by omega), List.drop_eq_nil_of_le (by simp), List.append_nil]
theorem OB.made {w : World} {base g n : Nat} {l : List Nat} (hb : base ≤ g) (hn : l.length = n) (hm : n ≤ 1000000) (h : w.heap[g]? = some (.cells (l.map byt).toArray 5 (0, 0))) : OB w base (.slice (some ⟨g, 0, none⟩) n n) l := by
  subst hn
  exact ⟨by simp, .inr ⟨g, l.length, _, rfl, hb, h, Nat.le_refl _, by unfold maxLen; omega, by simp, by rw [Nat.mul_one, List.take_of_length_le (by simp)]⟩⟩
theorem rep_bytes (s : Nat) : Array.replicate s (byt 0) = ((List.replicate s 0).map byt).toArray := by
  apply Array.ext'
  rw [List.map_replicate]
  simp
theorem OB.src {w : World} {base n c : Nat} {A : Option Addr} {l : List Nat} (h : OB w base (.slice A n c) l) (h0 : 0 < l.length) : ∃ ad, A = some ad ∧ ∀ j v, (l.map byt)[j]? = some v → w.cell? (ad.add j) = some v := by
  obtain ⟨g, e, _⟩ := h.cell h0
  refine ⟨⟨g, 0, none⟩, e, fun j v hv => ?_⟩
  have hj : j < l.length := by
    rcases Nat.lt_or_ge j l.length with h1 | h1
    · exact h1
    · rw [List.getElem?_eq_none (by simpa using h1)] at hv; cases hv
  obtain ⟨g', e', _, hc, _⟩ := h.cell hj
  rw [e] at e'
  injection e' with e'
  injection e' with e'
  subst e'
  rw [add_at, Nat.zero_add, hc, ← hv, List.getElem?_map, List.getElem?_eq_getElem hj]
  rfl
set_option maxHeartbeats 4000000 in
set_option maxRecDepth 100000 in
theorem bytes_any (A : Option Addr) (n c a : Nat) (z : Int) (w : World) (hA : Num w w.heap.size A n a) (hn : n ≤ 9223372036854775807) (hz0 : -9223372036854775808 ≤ z) (hz1 : z ≤ 9223372036854775807) :
    Calls Try.prog 19 #[.agg #[.slice A n c], .int .i64 z] w (RetOB w.heap.size (bytesS n a z).1 (bytesS n a z).2 w) := by
  cases h1 : okB n a
  · have H1 := hid h1
    have HX : Hid (bytesS n a z = ([], 1)) := (show bytesS n a z = ([], 1) by unfold bytesS; rw [h1]; rfl)
    clear h1
    obtain ⟨b0, bw⟩ := boxes1 w (.slice A n c)
    have XN := VB.mk (B := w.heap.size) (a := a) b0 (.inl hA) bw (Nat.le_refl _) (by omega)
    have WW := bw
    clear bw b0
    go_enter Try.func19, Try.ntmps19
    go_wp2_with fail
    generalize hV : (w.alloc (.cells #[.slice A n c] 24)) = V0 at XN WW ⊢
    clear hV
    have hbs : w.heap.size ≤ V0.heap.size := WW.size
    have hc := valid_any A _ c a _ V0 XN.num (Nat.le_refl _) (by omega)
    rw [H1.out] at hc
    refine hc.mono ?_
    clear hc
    rintro e V1 ⟨rfl, hb⟩
    replace XN := XN.below hb
    replace WW := WW.trans (hb.mono WW.size)
    have kXN := XN.cell
    have zXN := XN.lt
    clear hb hbs
    go_wp2_with fail
    exact bodyPost_ret (v := .tuple #[.slice none 0 0, .int .i64 1]) (by simp [results, Try.results19, go_sem]) rfl (by show RetOB _ _ _ _ _ _; rw [HX.out]; exact ⟨_, rfl, OB.nil _ _, WW⟩)
  · obtain ⟨hna, hn64⟩ := okB_yes.1 h1
    have H1 := hid h1
    clear h1
    by_cases hr : 0 ≤ z ∧ z ≤ 1000
    · obtain ⟨s, rfl⟩ := Int.eq_ofNat_of_zero_le hr.1
      have hs : s ≤ 1000 := by omega
      clear hr hz0 hz1
      subst hna
      obtain ⟨L, hL⟩ : ∃ L, L = (dgs 256 a (ndg 256 a)).reverse := ⟨_, rfl⟩
      have hk : L.length = ndg 256 a := by rw [hL, List.length_reverse, dgs_len]
      obtain ⟨k, hk2⟩ : ∃ k, k = ndg 256 a := ⟨_, rfl⟩
      rw [← hk2] at hk
      by_cases hle : k ≤ s
      · have HX : Hid (bytesS (nw a) a ((s : Nat) : Int) = (List.replicate (s - k) 0 ++ L, 0)) := (show _ = _ by unfold bytesS; rw [H1.out, if_pos rfl, if_pos (by omega), if_pos (by rw [← hk2]; simpa using hle)]; unfold bytesL; rw [Int.toNat_natCast, ← hk2, hL, ← hk2])
        obtain ⟨off, hoff⟩ : ∃ off, s = off + k := ⟨s - k, by omega⟩
        have HK := hid hk
        have HL : Hid (L = (dgs 256 a (ndg 256 a)).reverse) := hL
        clear hk hk2 hL
        have j1 : ((s : Nat) : Int) - ((k : Nat) : Int) = ((off : Nat) : Int) := by omega
        have l1 : decide (((s : Nat) : Int) < 0) = false := by simp
        have l2 : decide (((s : Nat) : Int) > 1000) = false := by simp; omega
        have l3 : decide (((k : Nat) : Int) > ((s : Nat) : Int)) = false := by simp; omega
        have hmk := make_bytes s (by omega)
        have HOFF := hid hoff
        have hso : off ≤ s := by omega
        clear hoff
        obtain ⟨b0, bw⟩ := boxes1 w (.slice A (nw a) c)
        have XN := VB.mk (B := w.heap.size) (a := a) b0 (.inl hA) bw (Nat.le_refl _) (by omega)
        have WW := bw
        clear bw b0
        go_enter Try.func19, Try.ntmps19
        go_wp2_with fail
        generalize hV : (w.alloc (.cells #[.slice A (nw a) c] 24)) = V0 at XN WW ⊢
        clear hV
        have hbs : w.heap.size ≤ V0.heap.size := WW.size
        have hc := valid_any A _ c a _ V0 XN.num (Nat.le_refl _) (by omega)
        rw [H1.out] at hc
        refine hc.mono ?_
        clear hc
        rintro e V1 ⟨rfl, hb⟩
        replace XN := XN.below hb
        replace WW := WW.trans (hb.mono WW.size)
        have kXN := XN.cell
        have zXN := XN.lt
        clear hb hbs
        go_wp2_with fail
        have hbs : w.heap.size ≤ V1.heap.size := WW.size
        have hc := (show Calls Try.prog 31 #[.agg #[.slice A (nw a) c], .int .i64 256] V1 _ from digits_any A c a 256 V1 XN.num hn64 (by decide) (by decide))
        refine hc.mono ?_
        clear hc
        rintro e V2 ⟨v, rfl, ho, hb⟩
        clear kXN zXN
        replace XN := XN.below hb
        replace WW := WW.trans (hb.mono WW.size)
        replace ho := ho.weak (b := w.heap.size) hbs
        rw [← HL.out] at ho
        obtain ⟨A1, c1, rfl⟩ : ∃ A c, v = Value.slice A k c := (by rw [← HK.out]; exact ho.slc)
        have kXN := XN.cell
        have zXN := XN.lt
        clear hb hbs
        clear kXN zXN XN
        have hcp := ho.cap
        have HWW := hid (WW.alloc WW.size (.cells (Array.replicate s (byt 0)) 5))
        have HBS := hid WW.size
        have HG : Hid ((V2.alloc (.cells (Array.replicate s (byt 0)) 5)).heap[V2.heap.size]? = some (.cells ((List.replicate s 0).map byt).toArray 5 (0, 0))) := (by have h := Blk.new V2 5 (Array.replicate s (byt 0)); rw [rep_bytes] at h; rw [rep_bytes]; exact h)
        have HSRC := hid (ho.alloc (.cells (Array.replicate s (byt 0)) 5))
        have HSP : Hid (splice ((List.replicate s 0).map byt) off (L.map byt) = (List.replicate (s - k) 0 ++ L).map byt) := (by show _ = _; rw [HOFF.out, ← HK.out, splice_bytes, Nat.add_sub_cancel])
        have hsk : s - off = k := by omega
        have HSL : Hid ((List.replicate (s - k) 0 ++ L).length = s) := (show _ = s by rw [List.length_append, List.length_replicate, HK.out]; omega)
        clear WW ho hcp
        by_cases hk0 : k = 0
        · subst hk0
          obtain rfl : off = s := by omega
          clear hsk hso j1
          have j1 : ((off : Nat) : Int) - 0 = ((off : Nat) : Int) := by omega
          have j2 : off - off = 0 := by omega
          go_wp2_with (with_reducible refine wpList_copy_splice (o := ⟨some 34, _, _, _, _, _⟩) rfl (.tmp 32) (.tmp 33) 37 37 rfl 5 Try.underlying37 (by kernel_rfl) (some ⟨V2.heap.size, 0, none⟩) A1 0 0 0 c1 rfl rfl V2.heap.size off ((List.replicate off 0).map byt) 5 HG.out (L.map byt) (by rw [List.length_map, HK.out]; exact (Nat.min_self _).symm) (fun h => absurd h (by rw [List.length_map, HK.out]; omega)) (by rw [List.length_map, List.length_map, List.length_replicate, HK.out]; omega) (byt_one L) w.heap.size w HWW.out HBS.out ?_; intro w4 hg4 hb4)
          have hg5 := hg4.out
          rw [HSP.out] at hg5
          exact bodyPost_ret (v := .tuple #[.slice (some ⟨V2.heap.size, 0, none⟩) off off, .int .i64 0]) (by simp [results, Try.results19, go_sem]) rfl (by show RetOB _ _ _ _ _ _; rw [HX.out]; exact ⟨_, rfl, OB.made HBS.out HSL.out (by omega) hg5, hb4⟩)
        · have hso2 : ¬ s = off := by omega
          have hso3 : off < s := by omega
          go_wp2_with (with_reducible refine wpList_copy_splice (o := ⟨some 34, _, _, _, _, _⟩) rfl (.tmp 32) (.tmp 33) 37 37 rfl 5 Try.underlying37 (by kernel_rfl) (some ⟨V2.heap.size, off, none⟩) A1 k k k c1 rfl rfl V2.heap.size off ((List.replicate s 0).map byt) 5 HG.out (L.map byt) (by rw [List.length_map, HK.out]; exact (Nat.min_self _).symm) (fun _ => ⟨rfl, HSRC.out.src (by rw [HK.out]; omega)⟩) (by rw [List.length_map, List.length_map, List.length_replicate, HK.out]; omega) (byt_one L) w.heap.size w HWW.out HBS.out ?_; intro w4 hg4 hb4)
          have hg5 := hg4.out
          rw [HSP.out] at hg5
          exact bodyPost_ret (v := .tuple #[.slice (some ⟨V2.heap.size, 0, none⟩) s s, .int .i64 0]) (by simp [results, Try.results19, go_sem]) rfl (by show RetOB _ _ _ _ _ _; rw [HX.out]; exact ⟨_, rfl, OB.made HBS.out HSL.out (by omega) hg5, hb4⟩)
      · have HX : Hid (bytesS (nw a) a ((s : Nat) : Int) = ([], 9)) := (show _ = _ by unfold bytesS; rw [H1.out, if_pos rfl, if_pos (by omega), if_neg (by rw [← hk2]; simpa using hle)])
        have HK := hid hk
        have HL : Hid (L = (dgs 256 a (ndg 256 a)).reverse) := hL
        clear hk hk2 hL
        have l1 : decide (((s : Nat) : Int) < 0) = false := by simp
        have l2 : decide (((s : Nat) : Int) > 1000) = false := by simp; omega
        have l3 : decide (((k : Nat) : Int) > ((s : Nat) : Int)) = true := by simp; omega
        obtain ⟨b0, bw⟩ := boxes1 w (.slice A (nw a) c)
        have XN := VB.mk (B := w.heap.size) (a := a) b0 (.inl hA) bw (Nat.le_refl _) (by omega)
        have WW := bw
        clear bw b0
        go_enter Try.func19, Try.ntmps19
        go_wp2_with fail
        generalize hV : (w.alloc (.cells #[.slice A (nw a) c] 24)) = V0 at XN WW ⊢
        clear hV
        have hbs : w.heap.size ≤ V0.heap.size := WW.size
        have hc := valid_any A _ c a _ V0 XN.num (Nat.le_refl _) (by omega)
        rw [H1.out] at hc
        refine hc.mono ?_
        clear hc
        rintro e V1 ⟨rfl, hb⟩
        replace XN := XN.below hb
        replace WW := WW.trans (hb.mono WW.size)
        have kXN := XN.cell
        have zXN := XN.lt
        clear hb hbs
        go_wp2_with fail
        have hbs : w.heap.size ≤ V1.heap.size := WW.size
        have hc := (show Calls Try.prog 31 #[.agg #[.slice A (nw a) c], .int .i64 256] V1 _ from digits_any A c a 256 V1 XN.num hn64 (by decide) (by decide))
        refine hc.mono ?_
        clear hc
        rintro e V2 ⟨v, rfl, ho, hb⟩
        clear kXN zXN
        replace XN := XN.below hb
        replace WW := WW.trans (hb.mono WW.size)
        replace ho := ho.weak (b := w.heap.size) hbs
        rw [← HL.out] at ho
        obtain ⟨A1, c1, rfl⟩ : ∃ A c, v = Value.slice A k c := (by rw [← HK.out]; exact ho.slc)
        have kXN := XN.cell
        have zXN := XN.lt
        clear hb hbs
        have hcp := ho.cap
        go_wp2_with fail
        exact bodyPost_ret (v := .tuple #[.slice none 0 0, .int .i64 9]) (by simp [results, Try.results19, go_sem]) rfl (by show RetOB _ _ _ _ _ _; rw [HX.out]; exact ⟨_, rfl, OB.nil _ _, WW⟩)
    · have HX : Hid (bytesS n a z = ([], 2)) := (show _ = _ by unfold bytesS; rw [H1.out, if_pos rfl, if_neg hr])
      by_cases h0 : z < 0
      · have l1 : decide (z < 0) = true := by simp; omega
        clear hr h0
        obtain ⟨b0, bw⟩ := boxes1 w (.slice A n c)
        have XN := VB.mk (B := w.heap.size) (a := a) b0 (.inl hA) bw (Nat.le_refl _) (by omega)
        have WW := bw
        clear bw b0
        go_enter Try.func19, Try.ntmps19
        go_wp2_with fail
        generalize hV : (w.alloc (.cells #[.slice A n c] 24)) = V0 at XN WW ⊢
        clear hV
        have hbs : w.heap.size ≤ V0.heap.size := WW.size
        have hc := valid_any A _ c a _ V0 XN.num (Nat.le_refl _) (by omega)
        rw [H1.out] at hc
        refine hc.mono ?_
        clear hc
        rintro e V1 ⟨rfl, hb⟩
        replace XN := XN.below hb
        replace WW := WW.trans (hb.mono WW.size)
        have kXN := XN.cell
        have zXN := XN.lt
        clear hb hbs
        go_wp2_with fail
        exact bodyPost_ret (v := .tuple #[.slice none 0 0, .int .i64 2]) (by simp [results, Try.results19, go_sem]) rfl (by show RetOB _ _ _ _ _ _; rw [HX.out]; exact ⟨_, rfl, OB.nil _ _, WW⟩)
      · have l1 : decide (z < 0) = false := by simp; omega
        have l2 : decide (z > 1000) = true := by simp; omega
        clear hr h0
        obtain ⟨b0, bw⟩ := boxes1 w (.slice A n c)
        have XN := VB.mk (B := w.heap.size) (a := a) b0 (.inl hA) bw (Nat.le_refl _) (by omega)
        have WW := bw
        clear bw b0
        go_enter Try.func19, Try.ntmps19
        go_wp2_with fail
        generalize hV : (w.alloc (.cells #[.slice A n c] 24)) = V0 at XN WW ⊢
        clear hV
        have hbs : w.heap.size ≤ V0.heap.size := WW.size
        have hc := valid_any A _ c a _ V0 XN.num (Nat.le_refl _) (by omega)
        rw [H1.out] at hc
        refine hc.mono ?_
        clear hc
        rintro e V1 ⟨rfl, hb⟩
        replace XN := XN.below hb
        replace WW := WW.trans (hb.mono WW.size)
        have kXN := XN.cell
        have zXN := XN.lt
        clear hb hbs
        go_wp2_with fail
        exact bodyPost_ret (v := .tuple #[.slice none 0 0, .int .i64 2]) (by simp [results, Try.results19, go_sem]) rfl (by show RetOB _ _ _ _ _ _; rw [HX.out]; exact ⟨_, rfl, OB.nil _ _, WW⟩)

end Go.Proofs.Ytohiimpjcgcaiaa
