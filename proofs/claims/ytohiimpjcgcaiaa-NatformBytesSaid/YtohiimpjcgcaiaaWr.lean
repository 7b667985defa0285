/- natform.written, Text and Hex. -/
import Derived.Test.YtohiimpjcgcaiaaDig
set_option linter.unusedVariables false
set_option linter.unusedSimpArgs false
namespace Go.Proofs.Ytohiimpjcgcaiaa
open Go.RowKit

/-- The character of a digit. -/
def sym (d : Nat) : Nat := if d < 10 then 48 + d else 87 + d
theorem sym_le (d : Nat) (h : d ≤ 15) : sym d ≤ 255 := by unfold sym; split <;> omega
/-- A string of these bytes. -/
def strN (l : List Nat) : ByteArray := strOfNums (l.map fun d => ((d : Nat) : Int))
theorem index_sym (y : Nat) (hy : y ≤ 15) (w : World) : (Instr.index 9 (.string { data := #[48, 49, 50, 51, 52, 53, 54, 55, 56, 57, 97, 98, 99, 100, 101, 102] }) (.int .u8 ((y : Nat) : Int))).run Try.prog w = .ok (.int .u8 ((sym y : Nat) : Int)) w := by
  rw [run_index_string w 9 _ .u8 _ Try.underlying9]
  obtain rfl | rfl | rfl | rfl | rfl | rfl | rfl | rfl | rfl | rfl | rfl | rfl | rfl | rfl | rfl | rfl : y = 0 ∨ y = 1 ∨ y = 2 ∨ y = 3 ∨ y = 4 ∨ y = 5 ∨ y = 6 ∨ y = 7 ∨ y = 8 ∨ y = 9 ∨ y = 10 ∨ y = 11 ∨ y = 12 ∨ y = 13 ∨ y = 14 ∨ y = 15 := by omega
  all_goals rfl
section
variable {w : World} {base n c : Nat} {A : Option Addr} {l : List Nat}
theorem OB.str (h : OB w base (.slice A n c) l) : (convert 37 9 (.slice A n c)).run Try.prog w = .ok (.string (strN l)) w := by
  rcases h.blk with ⟨h1, h2⟩ | ⟨g, c', cur, h1, _⟩
  · injection h1 with e1 e2 e3
    subst h2 e1 e2 e3
    exact run_convert_bytes_nil (P := Try.prog) w 37 5 Try.underlying37 Try.underlying5 0 0 9 Try.underlying9
  · injection h1 with e1 e2 e3
    subst e1 e2 e3
    refine run_convert_bytes_arg (P := Try.prog) w 37 5 Try.underlying37 Try.underlying5 g 0 l.length c (l.map fun d => ((d : Nat) : Int)) (by simp) (fun i hi => ?_) 9 Try.underlying9
    obtain ⟨g', e, _, hc, _⟩ := h.cell hi
    injection e with e
    injection e with e
    subst e
    rw [Nat.zero_add, hc, List.getD_eq_getElem?_getD, List.getElem?_map, List.getElem?_eq_getElem hi]
    rfl
/-- A store into the row. -/
theorem OB.set_ {g : Nat} (h : OB w base (.slice (some ⟨g, 0, none⟩) n c) l) (i y : Nat) : OB (w.setCell ⟨g, i, none⟩ (.int .u8 ((y : Nat) : Int))) base (.slice (some ⟨g, 0, none⟩) n c) (l.set i y) := by
  obtain ⟨A', c', e⟩ := h.slc
  injection e with e1 e2 e3
  subst e2
  have h2 := (World.ownsRow.stored (h : w.ownsRow base 5 1 _ l.length (l.map byt)) i (byt y)).1
  unfold OB
  rw [List.length_set, List.map_set]
  exact h2
end
/-- The first k of them are characters already. -/
def half (L : List Nat) (k : Nat) : List Nat := (L.take k).map sym ++ L.drop k
theorem half_len (L : List Nat) (k : Nat) : (half L k).length = L.length := by simp [half]; omega
theorem half_zero (L : List Nat) : half L 0 = L := by simp [half]
theorem half_all (L : List Nat) {k : Nat} (h : L.length ≤ k) : half L k = L.map sym := by simp [half, List.take_of_length_le h, List.drop_eq_nil_of_le h]
theorem half_at (L : List Nat) {k : Nat} (h : k < L.length) (h' : k < (half L k).length) : (half L k)[k] = L[k] := by
  have e : ((L.take k).map sym).length = k := by simp; omega
  apply Option.some.inj
  rw [← List.getElem?_eq_getElem, ← List.getElem?_eq_getElem]
  unfold half
  rw [List.getElem?_append_right (by omega), e, Nat.sub_self, List.getElem?_drop, Nat.add_zero]
theorem half_set (L : List Nat) {k : Nat} (h : k < L.length) : (half L k).set k (sym L[k]) = half L (k + 1) := by
  unfold half
  have e : ((L.take k).map sym).length = k := by simp; omega
  rw [List.drop_eq_getElem_cons h, List.set_append_right _ _ (by omega), e, Nat.sub_self, List.set_cons_zero, List.take_succ_eq_append_getElem h, List.map_append]
  simp
theorem dgs_lt {b a k y : Nat} (hb : 0 < b) (h : y ∈ dgs b a k) : y < b := by
  unfold dgs at h
  obtain ⟨i, _, rfl⟩ := List.mem_map.1 h
  exact Nat.mod_lt _ hb
theorem ndg_zero {b : Nat} (hb : 2 ≤ b) : ndg b 0 = 0 := ndg_eq hb (by simp) (fun h => absurd h (by omega))
theorem ndg_top {b a : Nat} (hb : 2 ≤ b) : a < b ^ ndg b a ∧ (0 < ndg b a → b ^ (ndg b a - 1) ≤ a) := by
  have hex : ∃ j, a < b ^ j ∧ (0 < j → b ^ (j - 1) ≤ a) := by
    induction a using Nat.strongRecOn with
    | ind a ih =>
      by_cases h0 : a = 0
      · exact ⟨0, by simp [h0], fun h => absurd h (by omega)⟩
      · obtain ⟨j, h1, h2⟩ := ih (a / b) (Nat.div_lt_self (by omega) (by omega))
        refine ⟨j + 1, ?_, fun _ => ?_⟩
        · rw [Nat.pow_succ]; exact (Nat.div_lt_iff_lt_mul (by omega)).1 h1
        · rw [Nat.add_sub_cancel]
          by_cases hj : j = 0
          · subst hj; simp; omega
          · have h3 := h2 (by omega)
            have h4 : b ^ (j - 1) * b = b ^ j := by rw [← Nat.pow_succ]; congr 1; omega
            rw [Nat.le_div_iff_mul_le (by omega), h4] at h3
            exact h3
  obtain ⟨j, h1, h2⟩ := hex
  rw [ndg_eq hb h1 h2]
  exact ⟨h1, h2⟩
theorem ndg_pos {b a : Nat} (hb : 2 ≤ b) (h : a ≠ 0) : 0 < ndg b a := by
  rcases Nat.eq_zero_or_pos (ndg b a) with h0 | h0
  · have := (ndg_top (a := a) hb).1; rw [h0] at this; simp at this; omega
  · exact h0
/-- The characters of a in base b. -/
noncomputable def textN (b a : Nat) : List Nat := if a = 0 then [48] else (dgs b a (ndg b a)).reverse.map sym
noncomputable def textS (b n a : Nat) : List Nat := if okB n a = true then textN b a else []
set_option maxHeartbeats 4000000 in
theorem written_any (A : Option Addr) (n c a bs : Nat) (w : World) (hA : Num w w.heap.size A n a) (hn : n ≤ 9223372036854775807) (hb2 : 2 ≤ bs) (hbs : bs ≤ 16) :
    Calls Try.prog 24 #[.agg #[.slice A n c], .int .i64 ((bs : Nat) : Int)] w (RetB (.string (strN (textS bs n a))) w) := by
  cases h1 : okB n a
  · have H1 := hid h1
    have HX : Hid (textS bs n a = []) := (show textS bs n a = [] by unfold textS; rw [h1]; rfl)
    clear h1
    obtain ⟨b0, bw⟩ := boxes1 w (.slice A n c)
    have XN := VB.mk (B := w.heap.size) (a := a) b0 (.inl hA) bw (Nat.le_refl _) (by omega)
    have WW := bw
    clear bw b0
    go_enter Try.func24, Try.ntmps24
    go_wp2_with fail
    generalize hV : (w.alloc (.cells #[.slice A n c] 24)) = V0 at XN WW ⊢
    clear hV
    have hbs : w.heap.size ≤ V0.heap.size := WW.size
    have hc := valid_any A _ c a _ V0 XN.num (Nat.le_refl _) (by omega)
    rw [H1.out] at hc
    refine hc.mono ?_
    clear hc
    rintro e V1 ⟨rfl, hb⟩
    replace XN := XN.below hb
    replace WW := WW.trans (hb.mono WW.size)
    have kXN := XN.cell
    have zXN := XN.lt
    clear hb hbs
    go_wp2_with fail
    exact bodyPost_ret (v := .string (strN [])) (by simp [results, Try.results24, go_sem]; rfl) rfl (by show RetB _ _ _ _; rw [HX.out]; exact ⟨rfl, WW⟩)
  · obtain ⟨rfl, hn64⟩ := okB_yes.1 h1
    have H1 := hid h1
    clear h1
    by_cases h0 : a = 0
    · subst h0
      have HX : Hid (textS bs (nw 0) 0 = [48]) := (show textS bs (nw 0) 0 = [48] by unfold textS; rw [H1.out, if_pos rfl]; rfl)
      have HL : Hid ((dgs bs 0 (ndg bs 0)).reverse = []) := (show (dgs bs 0 (ndg bs 0)).reverse = [] by rw [ndg_zero hb2]; rfl)
      obtain ⟨b0, bw⟩ := boxes1 w (.slice A (nw 0) c)
      have XN := VB.mk (B := w.heap.size) (a := 0) b0 (.inl hA) bw (Nat.le_refl _) (by omega)
      have WW := bw
      clear bw b0
      go_enter Try.func24, Try.ntmps24
      go_wp2_with fail
      generalize hV : (w.alloc (.cells #[.slice A (nw 0) c] 24)) = V0 at XN WW ⊢
      clear hV
      have hbs : w.heap.size ≤ V0.heap.size := WW.size
      have hc := valid_any A _ c 0 _ V0 XN.num (Nat.le_refl _) (by omega)
      rw [H1.out] at hc
      refine hc.mono ?_
      clear hc
      rintro e V1 ⟨rfl, hb⟩
      replace XN := XN.below hb
      replace WW := WW.trans (hb.mono WW.size)
      have kXN := XN.cell
      have zXN := XN.lt
      clear hb hbs
      go_wp2_with fail
      have hbs : w.heap.size ≤ V1.heap.size := WW.size
      have hc := digits_any A c 0 bs V1 XN.num hn64 hb2 (by omega)
      refine hc.mono ?_
      clear hc
      rintro e V2 ⟨v, rfl, ho, hb⟩
      clear kXN zXN
      replace XN := XN.below hb
      replace WW := WW.trans (hb.mono WW.size)
      replace ho := ho.weak (b := w.heap.size) hbs
      have kXN := XN.cell
      have zXN := XN.lt
      clear hb hbs
      rw [HL.out] at ho
      obtain ⟨A1, c1, rfl⟩ := ho.slc
      go_wp2_with fail
      exact bodyPost_ret (v := .string (strN [48])) (by simp [results, Try.results24, go_sem]; rfl) rfl (by show RetB _ _ _ _; rw [HX.out]; exact ⟨rfl, WW⟩)
    · have HX : Hid (textS bs (nw a) a = ((dgs bs a (ndg bs a)).reverse).map sym) := (show textS bs (nw a) a = _ by unfold textS textN; rw [H1.out, if_pos rfl, if_neg h0])
      have HP := hid (ndg_pos hb2 h0)
      obtain ⟨L, hL⟩ : ∃ L, L = (dgs bs a (ndg bs a)).reverse := ⟨_, rfl⟩
      have HL := hid hL
      have HN : Hid (0 < L.length) := (show 0 < L.length by rw [hL, List.length_reverse, dgs_len]; exact HP.out)
      have HD : Hid (∀ y, y ∈ L → y ≤ 15) := (show ∀ y, y ∈ L → y ≤ 15 from fun y hy => by rw [hL, List.mem_reverse] at hy; have := dgs_lt (by omega) hy; omega)
      rw [← hL] at HX
      clear hL h0
      obtain ⟨b0, bw⟩ := boxes1 w (.slice A (nw a) c)
      have XN := VB.mk (B := w.heap.size) (a := a) b0 (.inl hA) bw (Nat.le_refl _) (by omega)
      have WW := bw
      clear bw b0
      go_enter Try.func24, Try.ntmps24
      go_wp2_with fail
      generalize hV : (w.alloc (.cells #[.slice A (nw a) c] 24)) = V0 at XN WW ⊢
      clear hV
      have hbs : w.heap.size ≤ V0.heap.size := WW.size
      have hc := valid_any A _ c a _ V0 XN.num (Nat.le_refl _) (by omega)
      rw [H1.out] at hc
      refine hc.mono ?_
      clear hc
      rintro e V1 ⟨rfl, hb⟩
      replace XN := XN.below hb
      replace WW := WW.trans (hb.mono WW.size)
      have kXN := XN.cell
      have zXN := XN.lt
      clear hb hbs
      go_wp2_with fail
      have hbs : w.heap.size ≤ V1.heap.size := WW.size
      have hc := digits_any A c a bs V1 XN.num hn64 hb2 (by omega)
      refine hc.mono ?_
      clear hc
      rintro e V2 ⟨v, rfl, ho, hb⟩
      clear kXN zXN
      replace XN := XN.below hb
      replace WW := WW.trans (hb.mono WW.size)
      replace ho := ho.weak (b := w.heap.size) hbs
      have kXN := XN.cell
      have zXN := XN.lt
      clear hb hbs
      rw [← HL.out] at ho
      obtain ⟨n1, hn1⟩ : ∃ n1, n1 = L.length := ⟨_, rfl⟩
      obtain ⟨A1, c1, rfl⟩ : ∃ A c, v = Value.slice A n1 c := (by rw [hn1]; exact ho.slc)
      have hn1p : 0 < n1 := by rw [hn1]; exact HN.out
      have hcap := ho.cap
      rw [← hn1] at hcap
      obtain ⟨hcap, hcap2⟩ := hcap
      have l1 : decide (((n1 : Nat) : Int) = 0) = false := by simp; omega
      clear kXN zXN XN
      have ho2 := ho
      rw [← half_zero L] at ho2
      clear ho
      obtain ⟨g, hg0⟩ : ∃ g, A1 = some ⟨g, 0, none⟩ := (by obtain ⟨g, e, _⟩ := ho2.cell (i := 0) (by rw [half_len]; omega); exact ⟨g, e⟩)
      subst hg0
      have HN1 := hid hn1
      clear hn1
      go_wp2_with fail
      go_loopw [19] (fun i wr => ∃ k : Nat, k ≤ n1 ∧ i = .int .i64 ((k : Nat) : Int) ∧ OB wr w.heap.size (.slice (some ⟨g, 0, none⟩) n1 c1) (half L k) ∧ Below w.heap.size w wr) (fun i wr => ((n1 : Int) - intOf i).toNat)
      case atStart => exact ⟨0, Nat.zero_le _, by go_num, ho2, WW⟩
      case round =>
        clear ho2 WW
        obtain ⟨k, hk, rfl, ho, WW⟩ := hrel
        by_cases hkn : k < n1
        · have hkl : k < (half L k).length := by rw [half_len, ← HN1.out]; exact hkn
          have hkL : k < L.length := by rw [← HN1.out]; exact hkn
          obtain ⟨g', e, hg, hc, hf⟩ := ho.cell hkl
          injection e with e
          injection e with e
          subst e
          rw [half_at L hkL hkl] at hc
          unfold byt at hc
          have HS := hid (half_set L hkL)
          have hy15 := HD.out L[k] (List.getElem_mem hkL)
          obtain ⟨y, hy⟩ : ∃ y, y = L[k] := ⟨_, rfl⟩
          rw [← hy] at hc HS hy15
          have hix := index_sym y hy15
          have l2 : decide (((k : Nat) : Int) < ((n1 : Nat) : Int)) = true := by simpa using hkn
          have HO2 := hid (ho.set_ k (sym y))
          rw [HS.out] at HO2
          have HW := hid (WW.setCell (p := ⟨g, k, none⟩) hg (.int .u8 ((sym y : Nat) : Int)))
          have hs := sym_le y hy15
          clear hkl hkL hy ho WW HS
          go_wp2_with fail
          go_roundw
          case rel => exact ⟨k + 1, by omega, by go_num, HO2.out, HW.out⟩
          case measure => simp [intOf] <;> omega
        · obtain rfl : k = n1 := by omega
          rw [half_all L (Nat.le_of_eq HN1.out.symm)] at ho
          have hcv := ho.str
          have l2 : decide (((k : Nat) : Int) < ((k : Nat) : Int)) = false := by simp
          go_wp2_with fail
          exact bodyPost_ret (v := .string (strN (L.map sym))) (by simp [results, Try.results24, go_sem]) rfl (by show RetB _ _ _ _; rw [HX.out]; exact ⟨rfl, WW⟩)
theorem text_any (A : Option Addr) (n c a : Nat) (w : World) (hA : Num w w.heap.size A n a) (hn : n ≤ 9223372036854775807) :
    Calls Try.prog 12 #[.agg #[.slice A n c]] w (RetB (.string (strN (textS 10 n a))) w) := by
  obtain ⟨b0, bw⟩ := boxes1 w (.slice A n c)
  have XN := VB.mk (B := w.heap.size) (a := a) b0 (.inl hA) bw (Nat.le_refl _) (by omega)
  have WW := bw
  clear bw b0
  go_enter Try.func12, Try.ntmps12
  go_wp2_with fail
  generalize hV : (w.alloc (.cells #[.slice A n c] 24)) = V0 at XN WW ⊢
  clear hV
  have hbs : w.heap.size ≤ V0.heap.size := WW.size
  have hc := (show Calls Try.prog 24 #[.agg #[.slice A n c], .int .i64 10] V0 (RetB (.string (strN (textS 10 n a))) V0) from written_any A n c a 10 V0 XN.num hn (by decide) (by decide))
  refine hc.mono ?_
  clear hc
  rintro e V1 ⟨rfl, hb⟩
  replace XN := XN.below hb
  replace WW := WW.trans (hb.mono WW.size)
  have kXN := XN.cell
  have zXN := XN.lt
  clear hb hbs
  go_wp2_with fail
  exact bodyPost_ret (v := .string (strN (textS 10 n a))) (by simp [results, Try.results12, go_sem]) rfl ⟨rfl, WW⟩
theorem hex_any (A : Option Addr) (n c a : Nat) (w : World) (hA : Num w w.heap.size A n a) (hn : n ≤ 9223372036854775807) :
    Calls Try.prog 13 #[.agg #[.slice A n c]] w (RetB (.string (strN (textS 16 n a))) w) := by
  obtain ⟨b0, bw⟩ := boxes1 w (.slice A n c)
  have XN := VB.mk (B := w.heap.size) (a := a) b0 (.inl hA) bw (Nat.le_refl _) (by omega)
  have WW := bw
  clear bw b0
  go_enter Try.func13, Try.ntmps13
  go_wp2_with fail
  generalize hV : (w.alloc (.cells #[.slice A n c] 24)) = V0 at XN WW ⊢
  clear hV
  have hbs : w.heap.size ≤ V0.heap.size := WW.size
  have hc := (show Calls Try.prog 24 #[.agg #[.slice A n c], .int .i64 16] V0 (RetB (.string (strN (textS 16 n a))) V0) from written_any A n c a 16 V0 XN.num hn (by decide) (by decide))
  refine hc.mono ?_
  clear hc
  rintro e V1 ⟨rfl, hb⟩
  replace XN := XN.below hb
  replace WW := WW.trans (hb.mono WW.size)
  have kXN := XN.cell
  have zXN := XN.lt
  clear hb hbs
  go_wp2_with fail
  exact bodyPost_ret (v := .string (strN (textS 16 n a))) (by simp [results, Try.results13, go_sem]) rfl ⟨rfl, WW⟩

end Go.Proofs.Ytohiimpjcgcaiaa
