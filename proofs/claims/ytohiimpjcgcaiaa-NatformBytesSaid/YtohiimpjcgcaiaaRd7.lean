/- the reference of layer 4: Bytes, every input. -/
import Derived.Test.YtohiimpjcgcaiaaRd6
set_option linter.unusedVariables false
set_option linter.unusedSimpArgs false
namespace Go.Proofs.Ytohiimpjcgcaiaa
open Go.RowKit

set_option maxHeartbeats 4000000 in
theorem rbytes_any (A : Option Addr) (n c a : Nat) (z : Int) (w : World) (hA : Num w w.heap.size A n a) (hn : n ≤ 9223372036854775807) (hz0 : -9223372036854775808 ≤ z) (hz1 : z ≤ 9223372036854775807) :
    Calls Try.prog 20 #[.agg #[.slice A n c], .int .i64 z] w (RetOB w.heap.size (bytesS n a z).1 (bytesS n a z).2 w) := by
  cases h1 : okB n a
  · have H1 := hid h1
    have HX : Hid (bytesS n a z = ([], 1)) := (show bytesS n a z = ([], 1) by unfold bytesS; rw [h1]; rfl)
    clear h1
    obtain ⟨b0, bw⟩ := boxes1 w (.slice A n c)
    have XN := VB.mk (B := w.heap.size) (a := a) b0 (.inl hA) bw (Nat.le_refl _) (by omega)
    have WW := bw
    clear bw b0
    go_enter Try.func20, Try.ntmps20
    go_wp2_with fail
    generalize hV : (w.alloc (.cells #[.slice A n c] 24)) = V0 at XN WW ⊢
    clear hV
    have hbs : w.heap.size ≤ V0.heap.size := WW.size
    have hc := rvalid_any A _ c a _ V0 XN.num (Nat.le_refl _) (by omega)
    rw [H1.out] at hc
    refine hc.mono ?_
    clear hc
    rintro e V1 ⟨rfl, hb⟩
    replace XN := XN.below hb
    replace WW := WW.trans (hb.mono WW.size)
    have kXN := XN.cell
    have zXN := XN.lt
    clear hb hbs
    go_wp2_with fail
    exact bodyPost_ret (v := .tuple #[.slice none 0 0, .int .i64 1]) (by simp [results, Try.results20, go_sem]) rfl (by show RetOB _ _ _ _ _ _; rw [HX.out]; exact ⟨_, rfl, OB.nil _ _, WW⟩)
  · obtain ⟨hna, hn64⟩ := okB_yes.1 h1
    have H1 := hid h1
    clear h1
    by_cases hr : 0 ≤ z ∧ z ≤ 1000
    · obtain ⟨s, rfl⟩ := Int.eq_ofNat_of_zero_le hr.1
      have hs : s ≤ 1000 := by omega
      subst hna
      cases A with
      | none =>
        have ha0 : nw a = 0 := by
          rcases Nat.eq_zero_or_pos (nw a) with h | h
          · exact h
          · obtain ⟨ad, e, _⟩ := hA.2 h; cases e
        have ha : a = 0 := nw_eq_zero.1 ha0
        subst ha
        exact rbytes_none c s w hs
      | some ad => exact rbytes_some ad c a s w hA hn64 hs
    · have HX : Hid (bytesS n a z = ([], 2)) := (show _ = _ by unfold bytesS; rw [H1.out, if_pos rfl, if_neg hr])
      by_cases h0 : z < 0
      · have l1 : decide (z < 0) = true := by simp; omega
        clear hr h0
        obtain ⟨b0, bw⟩ := boxes1 w (.slice A n c)
        have XN := VB.mk (B := w.heap.size) (a := a) b0 (.inl hA) bw (Nat.le_refl _) (by omega)
        have WW := bw
        clear bw b0
        go_enter Try.func20, Try.ntmps20
        go_wp2_with fail
        generalize hV : (w.alloc (.cells #[.slice A n c] 24)) = V0 at XN WW ⊢
        clear hV
        have hbs : w.heap.size ≤ V0.heap.size := WW.size
        have hc := rvalid_any A _ c a _ V0 XN.num (Nat.le_refl _) (by omega)
        rw [H1.out] at hc
        refine hc.mono ?_
        clear hc
        rintro e V1 ⟨rfl, hb⟩
        replace XN := XN.below hb
        replace WW := WW.trans (hb.mono WW.size)
        have kXN := XN.cell
        have zXN := XN.lt
        clear hb hbs
        go_wp2_with fail
        exact bodyPost_ret (v := .tuple #[.slice none 0 0, .int .i64 2]) (by simp [results, Try.results20, go_sem]) rfl (by show RetOB _ _ _ _ _ _; rw [HX.out]; exact ⟨_, rfl, OB.nil _ _, WW⟩)
      · have l1 : decide (z < 0) = false := by simp; omega
        have l2 : decide (z > 1000) = true := by simp; omega
        clear hr h0
        obtain ⟨b0, bw⟩ := boxes1 w (.slice A n c)
        have XN := VB.mk (B := w.heap.size) (a := a) b0 (.inl hA) bw (Nat.le_refl _) (by omega)
        have WW := bw
        clear bw b0
        go_enter Try.func20, Try.ntmps20
        go_wp2_with fail
        generalize hV : (w.alloc (.cells #[.slice A n c] 24)) = V0 at XN WW ⊢
        clear hV
        have hbs : w.heap.size ≤ V0.heap.size := WW.size
        have hc := rvalid_any A _ c a _ V0 XN.num (Nat.le_refl _) (by omega)
        rw [H1.out] at hc
        refine hc.mono ?_
        clear hc
        rintro e V1 ⟨rfl, hb⟩
        replace XN := XN.below hb
        replace WW := WW.trans (hb.mono WW.size)
        have kXN := XN.cell
        have zXN := XN.lt
        clear hb hbs
        go_wp2_with fail
        exact bodyPost_ret (v := .tuple #[.slice none 0 0, .int .i64 2]) (by simp [results, Try.results20, go_sem]) rfl (by show RetOB _ _ _ _ _ _; rw [HX.out]; exact ⟨_, rfl, OB.nil _ _, WW⟩)

end Go.Proofs.Ytohiimpjcgcaiaa
