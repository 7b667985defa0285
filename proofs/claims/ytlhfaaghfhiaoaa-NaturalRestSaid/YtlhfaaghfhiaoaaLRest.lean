/- NaturalRest: the walk. -/
import Derived.Test.YtlhfaaghfhiaoaaLaw
set_option linter.unusedVariables false
set_option linter.unusedSimpArgs false
namespace Go.Proofs.Ytlhfaaghfhiaoaa
open Go.RowKit

theorem naturalRest_walk (A B' : Option Addr) (n m c d a b : Nat) (w : World) (hA : Num w w.heap.size A n a) (hB : Num w w.heap.size B' m b) (hn : n ≤ 9223372036854775807) (hm : m ≤ 9223372036854775807) :
    Calls Try.prog 7 #[.agg #[.slice A n c], .agg #[.slice B' m d]] w (RetB (.bool true) w) := by
  by_cases hg : 100 < n ∨ 100 < m
  · have HG := hid (decide_eq_true hg)
    clear hg
    obtain ⟨b0, b1, bw⟩ := boxes2 w (.slice A n c) (.slice B' m d)
    have XA := Box.mk b0 hA bw
    have XB := Box.mk b1 hB bw
    have WW := bw
    clear bw b0 b1
    go_enter Try.func7, Try.ntmps7
    go_wp2_with fail
    generalize hV : ((w.alloc (.cells #[.slice A n c] 24)).alloc (.cells #[.slice B' m d] 24)) = V0 at XA XB WW ⊢
    clear hV
    have hc := awake_any V0
    refine hc.mono ?_
    clear hc
    rintro e V1 ⟨rfl, hb⟩
    replace XA := XA.below hb
    replace XB := XB.below hb
    replace WW := WW.trans (hb.mono WW.size)
    have kXA := XA.cell
    have zXA := XA.lt
    have kXB := XB.cell
    have zXB := XB.lt
    clear hb
    go_wp2_with fail
    have hc := great_2 V1 A B' _ c _ d hn hm
    rw [HG.out] at hc
    refine hc.mono ?_
    clear hc
    rintro e V2 ⟨rfl, hb⟩
    clear kXA zXA kXB zXB
    replace XA := XA.below hb
    replace XB := XB.below hb
    replace WW := WW.trans (hb.mono WW.size)
    have kXA := XA.cell
    have zXA := XA.lt
    have kXB := XB.cell
    have zXB := XB.lt
    clear hb
    go_wp2_with fail
    go_ret
    exact ⟨rfl, WW⟩
  · have HG := hid (decide_eq_false hg)
    clear hg
    cases h1 : okB n a
    · have H1 := hid h1
      clear h1
      obtain ⟨b0, b1, bw⟩ := boxes2 w (.slice A n c) (.slice B' m d)
      have XA := Box.mk b0 hA bw
      have XB := Box.mk b1 hB bw
      have WW := bw
      clear bw b0 b1
      go_enter Try.func7, Try.ntmps7
      go_wp2_with fail
      generalize hV : ((w.alloc (.cells #[.slice A n c] 24)).alloc (.cells #[.slice B' m d] 24)) = V0 at XA XB WW ⊢
      clear hV
      have hc := awake_any V0
      refine hc.mono ?_
      clear hc
      rintro e V1 ⟨rfl, hb⟩
      replace XA := XA.below hb
      replace XB := XB.below hb
      replace WW := WW.trans (hb.mono WW.size)
      have kXA := XA.cell
      have zXA := XA.lt
      have kXB := XB.cell
      have zXB := XB.lt
      clear hb
      go_wp2_with fail
      have hc := great_2 V1 A B' _ c _ d hn hm
      rw [HG.out] at hc
      refine hc.mono ?_
      clear hc
      rintro e V2 ⟨rfl, hb⟩
      clear kXA zXA kXB zXB
      replace XA := XA.below hb
      replace XB := XB.below hb
      replace WW := WW.trans (hb.mono WW.size)
      have kXA := XA.cell
      have zXA := XA.lt
      have kXB := XB.cell
      have zXB := XB.lt
      clear hb
      go_wp2_with fail
      have hc := rvalid_any A _ c a _ V2 XA.num (Nat.le_refl _) hn
      rw [H1.out] at hc
      refine hc.mono ?_
      clear hc
      rintro e V3 ⟨rfl, hb⟩
      clear kXA zXA kXB zXB
      replace XA := XA.below hb
      replace XB := XB.below hb
      replace WW := WW.trans (hb.mono WW.size)
      have kXA := XA.cell
      have zXA := XA.lt
      have kXB := XB.cell
      have zXB := XB.lt
      clear hb
      go_wp2_with fail
      go_ret
      exact ⟨rfl, WW⟩
    · cases h2 : okB m b
      · have H1 := hid h1
        have H2 := hid h2
        clear h1 h2
        obtain ⟨b0, b1, bw⟩ := boxes2 w (.slice A n c) (.slice B' m d)
        have XA := Box.mk b0 hA bw
        have XB := Box.mk b1 hB bw
        have WW := bw
        clear bw b0 b1
        go_enter Try.func7, Try.ntmps7
        go_wp2_with fail
        generalize hV : ((w.alloc (.cells #[.slice A n c] 24)).alloc (.cells #[.slice B' m d] 24)) = V0 at XA XB WW ⊢
        clear hV
        have hc := awake_any V0
        refine hc.mono ?_
        clear hc
        rintro e V1 ⟨rfl, hb⟩
        replace XA := XA.below hb
        replace XB := XB.below hb
        replace WW := WW.trans (hb.mono WW.size)
        have kXA := XA.cell
        have zXA := XA.lt
        have kXB := XB.cell
        have zXB := XB.lt
        clear hb
        go_wp2_with fail
        have hc := great_2 V1 A B' _ c _ d hn hm
        rw [HG.out] at hc
        refine hc.mono ?_
        clear hc
        rintro e V2 ⟨rfl, hb⟩
        clear kXA zXA kXB zXB
        replace XA := XA.below hb
        replace XB := XB.below hb
        replace WW := WW.trans (hb.mono WW.size)
        have kXA := XA.cell
        have zXA := XA.lt
        have kXB := XB.cell
        have zXB := XB.lt
        clear hb
        go_wp2_with fail
        have hc := rvalid_any A _ c a _ V2 XA.num (Nat.le_refl _) hn
        rw [H1.out] at hc
        refine hc.mono ?_
        clear hc
        rintro e V3 ⟨rfl, hb⟩
        clear kXA zXA kXB zXB
        replace XA := XA.below hb
        replace XB := XB.below hb
        replace WW := WW.trans (hb.mono WW.size)
        have kXA := XA.cell
        have zXA := XA.lt
        have kXB := XB.cell
        have zXB := XB.lt
        clear hb
        go_wp2_with fail
        have hc := rvalid_any B' _ d b _ V3 XB.num (Nat.le_refl _) hm
        rw [H2.out] at hc
        refine hc.mono ?_
        clear hc
        rintro e V4 ⟨rfl, hb⟩
        clear kXA zXA kXB zXB
        replace XA := XA.below hb
        replace XB := XB.below hb
        replace WW := WW.trans (hb.mono WW.size)
        have kXA := XA.cell
        have zXA := XA.lt
        have kXB := XB.cell
        have zXB := XB.lt
        clear hb
        go_wp2_with fail
        go_ret
        exact ⟨rfl, WW⟩
      · by_cases hm0 : m = 0
        · subst hm0
          have H1 := hid h1
          have H2 := hid h2
          clear h1 h2
          obtain ⟨b0, b1, bw⟩ := boxes2 w (.slice A n c) (.slice B' 0 d)
          have XA := Box.mk b0 hA bw
          have XB := Box.mk b1 hB bw
          have WW := bw
          clear bw b0 b1
          go_enter Try.func7, Try.ntmps7
          go_wp2_with fail
          generalize hV : ((w.alloc (.cells #[.slice A n c] 24)).alloc (.cells #[.slice B' 0 d] 24)) = V0 at XA XB WW ⊢
          clear hV
          have hc := awake_any V0
          refine hc.mono ?_
          clear hc
          rintro e V1 ⟨rfl, hb⟩
          replace XA := XA.below hb
          replace XB := XB.below hb
          replace WW := WW.trans (hb.mono WW.size)
          have kXA := XA.cell
          have zXA := XA.lt
          have kXB := XB.cell
          have zXB := XB.lt
          clear hb
          go_wp2_with fail
          have hc := great_2 V1 A B' _ c _ d hn hm
          rw [HG.out] at hc
          refine hc.mono ?_
          clear hc
          rintro e V2 ⟨rfl, hb⟩
          clear kXA zXA kXB zXB
          replace XA := XA.below hb
          replace XB := XB.below hb
          replace WW := WW.trans (hb.mono WW.size)
          have kXA := XA.cell
          have zXA := XA.lt
          have kXB := XB.cell
          have zXB := XB.lt
          clear hb
          go_wp2_with fail
          have hc := rvalid_any A _ c a _ V2 XA.num (Nat.le_refl _) hn
          rw [H1.out] at hc
          refine hc.mono ?_
          clear hc
          rintro e V3 ⟨rfl, hb⟩
          clear kXA zXA kXB zXB
          replace XA := XA.below hb
          replace XB := XB.below hb
          replace WW := WW.trans (hb.mono WW.size)
          have kXA := XA.cell
          have zXA := XA.lt
          have kXB := XB.cell
          have zXB := XB.lt
          clear hb
          go_wp2_with fail
          have hc := rvalid_any B' _ d b _ V3 XB.num (Nat.le_refl _) hm
          rw [H2.out] at hc
          refine hc.mono ?_
          clear hc
          rintro e V4 ⟨rfl, hb⟩
          clear kXA zXA kXB zXB
          replace XA := XA.below hb
          replace XB := XB.below hb
          replace WW := WW.trans (hb.mono WW.size)
          have kXA := XA.cell
          have zXA := XA.lt
          have kXB := XB.cell
          have zXB := XB.lt
          clear hb
          go_wp2_with fail
          go_ret
          exact ⟨rfl, WW⟩
        · obtain ⟨hna, hn1⟩ := okB_yes.1 h1
          obtain ⟨hmb, hm1⟩ := okB_yes.1 h2
          subst hna hmb
          have hz : (((nw b : Nat) : Int) == 0) = false := by simp; omega
          have hb0 : b ≠ 0 := fun h => hm0 (by rw [h]; rfl)
          have HD := hid (divS_yes (a := a) hb0)
          have hqle : a / b ≤ a := Nat.div_le_self a b
          have hrlt : a % b < b := Nat.mod_lt _ (Nat.pos_of_ne_zero hb0)
          have hqn : nw (a / b) ≤ 64 := Nat.le_trans (nw_mono hqle) hn1
          have hrn : nw (a % b) ≤ 64 := Nat.le_trans (nw_mono (Nat.le_of_lt hrlt)) hm1
          have HC := hid (ordN_lt hrlt)
          have HE := hid (Nat.div_add_mod' a b)
          have HM1 := hid (limS_ok (a := a / b * b) (Nat.le_trans (nw_mono (Nat.div_mul_le_self a b)) hn1))
          have HA1 := hid (limS_ok (a := a) hn1)
          have HQ := hid (okB_nw hqn)
          have HR := hid (okB_nw hrn)
          have HP := hid (okB_nw (Nat.le_trans (nw_mono (Nat.div_mul_le_self a b)) hn1))
          have H1 := hid h1
          have H2 := hid h2
          have HB0 := hid hb0
          clear h1 h2 hm0 hqle hrlt hb0
          by_cases hp : nw (a * b) ≤ 64
          · have HM2 := hid (limS_ok hp)
            have HX := hid (okB_nw hp)
            have HD2 : Hid (divS (a * b) b = (a, 0, 0)) := by
              show _ = _
              rw [divS_yes HB0.out, Nat.mul_div_cancel _ (Nat.pos_of_ne_zero HB0.out), Nat.mul_mod_left]
            obtain ⟨b0, b1, bw⟩ := boxes2 w (.slice A (nw a) c) (.slice B' (nw b) d)
            have XA := Box.mk b0 hA bw
            have XB := Box.mk b1 hB bw
            have WW := bw
            clear bw b0 b1
            go_enter Try.func7, Try.ntmps7
            go_wp2_with fail
            generalize hV : ((w.alloc (.cells #[.slice A (nw a) c] 24)).alloc (.cells #[.slice B' (nw b) d] 24)) = V0 at XA XB WW ⊢
            clear hV
            have hc := awake_any V0
            refine hc.mono ?_
            clear hc
            rintro e V1 ⟨rfl, hb⟩
            replace XA := XA.below hb
            replace XB := XB.below hb
            replace WW := WW.trans (hb.mono WW.size)
            have kXA := XA.cell
            have zXA := XA.lt
            have kXB := XB.cell
            have zXB := XB.lt
            clear hb
            go_wp2_with fail
            have hc := great_2 V1 A B' _ c _ d hn hm
            rw [HG.out] at hc
            refine hc.mono ?_
            clear hc
            rintro e V2 ⟨rfl, hb⟩
            clear kXA zXA kXB zXB
            replace XA := XA.below hb
            replace XB := XB.below hb
            replace WW := WW.trans (hb.mono WW.size)
            have kXA := XA.cell
            have zXA := XA.lt
            have kXB := XB.cell
            have zXB := XB.lt
            clear hb
            go_wp2_with fail
            have hc := rvalid_any A _ c a _ V2 XA.num (Nat.le_refl _) hn
            rw [H1.out] at hc
            refine hc.mono ?_
            clear hc
            rintro e V3 ⟨rfl, hb⟩
            clear kXA zXA kXB zXB
            replace XA := XA.below hb
            replace XB := XB.below hb
            replace WW := WW.trans (hb.mono WW.size)
            have kXA := XA.cell
            have zXA := XA.lt
            have kXB := XB.cell
            have zXB := XB.lt
            clear hb
            go_wp2_with fail
            have hc := rvalid_any B' _ d b _ V3 XB.num (Nat.le_refl _) hm
            rw [H2.out] at hc
            refine hc.mono ?_
            clear hc
            rintro e V4 ⟨rfl, hb⟩
            clear kXA zXA kXB zXB
            replace XA := XA.below hb
            replace XB := XB.below hb
            replace WW := WW.trans (hb.mono WW.size)
            have kXA := XA.cell
            have zXA := XA.lt
            have kXB := XB.cell
            have zXB := XB.lt
            clear hb
            go_wp2_with fail
            have hc := div_any A B' _ _ c d a b V4 XA.num XB.num hn hm
            rw [bothD_yes H1.out H2.out] at hc
            rw [HD.out] at hc
            refine hc.mono ?_
            clear hc
            rintro e V5 ⟨v, u, rfl, hv, hu, hb⟩
            clear kXA zXA kXB zXB
            replace XA := XA.below hb
            replace XB := XB.below hb
            replace WW := WW.trans (hb.mono WW.size)
            obtain ⟨A3, c3, rfl, hv'⟩ := hv.open_
            obtain ⟨A4, c4, rfl, hu'⟩ := hu.open_
            clear hv hu
            have kXA := XA.cell
            have zXA := XA.lt
            have kXB := XB.cell
            have zXB := XB.lt
            clear hb
            go_wp2_with fail
            obtain ⟨b0, b1, bw⟩ := boxes2 V5 (.slice A3 (nw (a / b)) c3) (.slice A4 (nw (a % b)) c4)
            clear kXA zXA kXB zXB
            replace XA := XA.below bw
            replace XB := XB.below bw
            have XQ := Box.mk b0 hv' bw
            have XR := Box.mk b1 hu' bw
            replace WW := WW.trans (bw.mono WW.size)
            clear bw b0 b1 hv' hu'
            generalize hV : ((V5.alloc (.cells #[.slice A3 (nw (a / b)) c3] 24)).alloc (.cells #[.slice A4 (nw (a % b)) c4] 24)) = V6 at XA XB XQ XR WW ⊢
            clear hV
            have kXA := XA.cell
            have zXA := XA.lt
            have kXB := XB.cell
            have zXB := XB.lt
            have kXQ := XQ.cell
            have zXQ := XQ.lt
            have kXR := XR.cell
            have zXR := XR.lt
            have hc := valid_any A3 _ c3 (a / b) _ V6 XQ.num (Nat.le_refl _) (by omega)
            rw [HQ.out] at hc
            refine hc.mono ?_
            clear hc
            rintro e V7 ⟨rfl, hb⟩
            clear kXA zXA kXB zXB kXQ zXQ kXR zXR
            replace XA := XA.below hb
            replace XB := XB.below hb
            replace XQ := XQ.below hb
            replace XR := XR.below hb
            replace WW := WW.trans (hb.mono WW.size)
            have kXA := XA.cell
            have zXA := XA.lt
            have kXB := XB.cell
            have zXB := XB.lt
            have kXQ := XQ.cell
            have zXQ := XQ.lt
            have kXR := XR.cell
            have zXR := XR.lt
            clear hb
            go_wp2_with fail
            have hc := valid_any A4 _ c4 (a % b) _ V7 XR.num (Nat.le_refl _) (by omega)
            rw [HR.out] at hc
            refine hc.mono ?_
            clear hc
            rintro e V8 ⟨rfl, hb⟩
            clear kXA zXA kXB zXB kXQ zXQ kXR zXR
            replace XA := XA.below hb
            replace XB := XB.below hb
            replace XQ := XQ.below hb
            replace XR := XR.below hb
            replace WW := WW.trans (hb.mono WW.size)
            have kXA := XA.cell
            have zXA := XA.lt
            have kXB := XB.cell
            have zXB := XB.lt
            have kXQ := XQ.cell
            have zXQ := XQ.lt
            have kXR := XR.cell
            have zXR := XR.lt
            clear hb
            go_wp2_with fail
            have hc := cmp_any A4 B' _ _ c4 d (a % b) b V8 XR.num XB.num (by omega) hm
            rw [bothC_yes HR.out H2.out] at hc
            rw [HC.out] at hc
            refine hc.mono ?_
            clear hc
            rintro e V9 ⟨rfl, hb⟩
            clear kXA zXA kXB zXB kXQ zXQ kXR zXR
            replace XA := XA.below hb
            replace XB := XB.below hb
            replace XQ := XQ.below hb
            replace XR := XR.below hb
            replace WW := WW.trans (hb.mono WW.size)
            have kXA := XA.cell
            have zXA := XA.lt
            have kXB := XB.cell
            have zXB := XB.lt
            have kXQ := XQ.cell
            have zXQ := XQ.lt
            have kXR := XR.cell
            have zXR := XR.lt
            clear hb
            go_wp2_with fail
            have hc := mul_any A3 B' _ _ c3 d (a / b) b V9 XQ.num XB.num (by omega) hm
            rw [bothS_yes HQ.out H2.out] at hc
            rw [HM1.out] at hc
            refine hc.mono ?_
            clear hc
            rintro e V10 ⟨v, rfl, hv, hb⟩
            clear kXA zXA kXB zXB kXQ zXQ kXR zXR
            replace XA := XA.below hb
            replace XB := XB.below hb
            replace XQ := XQ.below hb
            replace XR := XR.below hb
            replace WW := WW.trans (hb.mono WW.size)
            obtain ⟨A5, c5, rfl, hv'⟩ := hv.open_
            clear hv
            have kXA := XA.cell
            have zXA := XA.lt
            have kXB := XB.cell
            have zXB := XB.lt
            have kXQ := XQ.cell
            have zXQ := XQ.lt
            have kXR := XR.cell
            have zXR := XR.lt
            clear hb
            go_wp2_with fail
            obtain ⟨b0, bw⟩ := boxes1 V10 (.slice A5 (nw (a / b * b)) c5)
            clear kXA zXA kXB zXB kXQ zXQ kXR zXR
            replace XA := XA.below bw
            replace XB := XB.below bw
            replace XQ := XQ.below bw
            replace XR := XR.below bw
            have XP := Box.mk b0 hv' bw
            replace WW := WW.trans (bw.mono WW.size)
            clear bw b0 hv'
            generalize hV : (V10.alloc (.cells #[.slice A5 (nw (a / b * b)) c5] 24)) = V11 at XA XB XQ XR XP WW ⊢
            clear hV
            have kXA := XA.cell
            have zXA := XA.lt
            have kXB := XB.cell
            have zXB := XB.lt
            have kXQ := XQ.cell
            have zXQ := XQ.lt
            have kXR := XR.cell
            have zXR := XR.lt
            have kXP := XP.cell
            have zXP := XP.lt
            have hc := add_any A5 A4 _ _ c5 c4 (a / b * b) (a % b) V11 XP.num XR.num (by have := (okB_yes.1 HP.out).2; omega) (by omega)
            rw [bothS_yes HP.out HR.out] at hc
            rw [HE.out] at hc
            rw [HA1.out] at hc
            refine hc.mono ?_
            clear hc
            rintro e V12 ⟨v, rfl, hv, hb⟩
            clear kXA zXA kXB zXB kXQ zXQ kXR zXR kXP zXP
            replace XA := XA.below hb
            replace XB := XB.below hb
            replace XQ := XQ.below hb
            replace XR := XR.below hb
            replace XP := XP.below hb
            replace WW := WW.trans (hb.mono WW.size)
            obtain ⟨A6, c6, rfl, hv'⟩ := hv.open_
            clear hv
            have kXA := XA.cell
            have zXA := XA.lt
            have kXB := XB.cell
            have zXB := XB.lt
            have kXQ := XQ.cell
            have zXQ := XQ.lt
            have kXR := XR.cell
            have zXR := XR.lt
            have kXP := XP.cell
            have zXP := XP.lt
            clear hb
            go_wp2_with fail
            obtain ⟨b0, bw⟩ := boxes1 V12 (.slice A6 (nw a) c6)
            clear kXA zXA kXB zXB kXQ zXQ kXR zXR kXP zXP
            replace XA := XA.below bw
            replace XB := XB.below bw
            replace XQ := XQ.below bw
            replace XR := XR.below bw
            replace XP := XP.below bw
            have XS := Box.mk b0 hv' bw
            replace WW := WW.trans (bw.mono WW.size)
            clear bw b0 hv'
            generalize hV : (V12.alloc (.cells #[.slice A6 (nw a) c6] 24)) = V13 at XA XB XQ XR XP XS WW ⊢
            clear hV
            have kXA := XA.cell
            have zXA := XA.lt
            have kXB := XB.cell
            have zXB := XB.lt
            have kXQ := XQ.cell
            have zXQ := XQ.lt
            have kXR := XR.cell
            have zXR := XR.lt
            have kXP := XP.cell
            have zXP := XP.lt
            have kXS := XS.cell
            have zXS := XS.lt
            have hc := same_any A6 A _ _ c6 c a a V13 XS.num XA.num (by omega) hn
            rw [sameB_yes] at hc
            refine hc.mono ?_
            clear hc
            rintro e V14 ⟨rfl, hb⟩
            clear kXA zXA kXB zXB kXQ zXQ kXR zXR kXP zXP kXS zXS
            replace XA := XA.below hb
            replace XB := XB.below hb
            replace XQ := XQ.below hb
            replace XR := XR.below hb
            replace XP := XP.below hb
            replace XS := XS.below hb
            replace WW := WW.trans (hb.mono WW.size)
            have kXA := XA.cell
            have zXA := XA.lt
            have kXB := XB.cell
            have zXB := XB.lt
            have kXQ := XQ.cell
            have zXQ := XQ.lt
            have kXR := XR.cell
            have zXR := XR.lt
            have kXP := XP.cell
            have zXP := XP.lt
            have kXS := XS.cell
            have zXS := XS.lt
            clear hb
            go_wp2_with fail
            have hc := mul_any A B' _ _ c d a b V14 XA.num XB.num hn hm
            rw [bothS_yes H1.out H2.out] at hc
            rw [HM2.out] at hc
            refine hc.mono ?_
            clear hc
            rintro e V15 ⟨v, rfl, hv, hb⟩
            clear kXA zXA kXB zXB kXQ zXQ kXR zXR kXP zXP kXS zXS
            replace XA := XA.below hb
            replace XB := XB.below hb
            replace XQ := XQ.below hb
            replace XR := XR.below hb
            replace XP := XP.below hb
            replace XS := XS.below hb
            replace WW := WW.trans (hb.mono WW.size)
            obtain ⟨A7, c7, rfl, hv'⟩ := hv.open_
            clear hv
            have kXA := XA.cell
            have zXA := XA.lt
            have kXB := XB.cell
            have zXB := XB.lt
            have kXQ := XQ.cell
            have zXQ := XQ.lt
            have kXR := XR.cell
            have zXR := XR.lt
            have kXP := XP.cell
            have zXP := XP.lt
            have kXS := XS.cell
            have zXS := XS.lt
            clear hb
            go_wp2_with fail
            obtain ⟨b0, bw⟩ := boxes1 V15 (.slice A7 (nw (a * b)) c7)
            clear kXA zXA kXB zXB kXQ zXQ kXR zXR kXP zXP kXS zXS
            replace XA := XA.below bw
            replace XB := XB.below bw
            replace XQ := XQ.below bw
            replace XR := XR.below bw
            replace XP := XP.below bw
            replace XS := XS.below bw
            have XX := Box.mk b0 hv' bw
            replace WW := WW.trans (bw.mono WW.size)
            clear bw b0 hv'
            generalize hV : (V15.alloc (.cells #[.slice A7 (nw (a * b)) c7] 24)) = V16 at XA XB XQ XR XP XS XX WW ⊢
            clear hV
            have kXA := XA.cell
            have zXA := XA.lt
            have kXB := XB.cell
            have zXB := XB.lt
            have kXQ := XQ.cell
            have zXQ := XQ.lt
            have kXR := XR.cell
            have zXR := XR.lt
            have kXP := XP.cell
            have zXP := XP.lt
            have kXS := XS.cell
            have zXS := XS.lt
            have kXX := XX.cell
            have zXX := XX.lt
            have hc := div_any A7 B' _ _ c7 d (a * b) b V16 XX.num XB.num (by omega) hm
            rw [bothD_yes HX.out H2.out] at hc
            rw [HD2.out] at hc
            refine hc.mono ?_
            clear hc
            rintro e V17 ⟨v, u, rfl, hv, hu, hb⟩
            clear kXA zXA kXB zXB kXQ zXQ kXR zXR kXP zXP kXS zXS kXX zXX
            replace XA := XA.below hb
            replace XB := XB.below hb
            replace XQ := XQ.below hb
            replace XR := XR.below hb
            replace XP := XP.below hb
            replace XS := XS.below hb
            replace XX := XX.below hb
            replace WW := WW.trans (hb.mono WW.size)
            obtain ⟨A8, c8, rfl, hv'⟩ := hv.open_
            obtain ⟨A9, c9, rfl, hu'⟩ := hu.open_
            clear hv hu
            have kXA := XA.cell
            have zXA := XA.lt
            have kXB := XB.cell
            have zXB := XB.lt
            have kXQ := XQ.cell
            have zXQ := XQ.lt
            have kXR := XR.cell
            have zXR := XR.lt
            have kXP := XP.cell
            have zXP := XP.lt
            have kXS := XS.cell
            have zXS := XS.lt
            have kXX := XX.cell
            have zXX := XX.lt
            clear hb
            go_wp2_with fail
            obtain ⟨b0, b1, bw⟩ := boxes2 V17 (.slice A8 (nw a) c8) (.slice A9 (nw 0) c9)
            clear kXA zXA kXB zXB kXQ zXQ kXR zXR kXP zXP kXS zXS kXX zXX
            replace XA := XA.below bw
            replace XB := XB.below bw
            replace XQ := XQ.below bw
            replace XR := XR.below bw
            replace XP := XP.below bw
            replace XS := XS.below bw
            replace XX := XX.below bw
            have XY := Box.mk b0 hv' bw
            have XZ := Box.mk b1 hu' bw
            replace WW := WW.trans (bw.mono WW.size)
            clear bw b0 b1 hv' hu'
            generalize hV : ((V17.alloc (.cells #[.slice A8 (nw a) c8] 24)).alloc (.cells #[.slice A9 (nw 0) c9] 24)) = V18 at XA XB XQ XR XP XS XX XY XZ WW ⊢
            clear hV
            have kXA := XA.cell
            have zXA := XA.lt
            have kXB := XB.cell
            have zXB := XB.lt
            have kXQ := XQ.cell
            have zXQ := XQ.lt
            have kXR := XR.cell
            have zXR := XR.lt
            have kXP := XP.cell
            have zXP := XP.lt
            have kXS := XS.cell
            have zXS := XS.lt
            have kXX := XX.cell
            have zXX := XX.lt
            have kXY := XY.cell
            have zXY := XY.lt
            have kXZ := XZ.cell
            have zXZ := XZ.lt
            have hc := same_any A8 A _ _ c8 c a a V18 XY.num XA.num (by omega) hn
            rw [sameB_yes] at hc
            refine hc.mono ?_
            clear hc
            rintro e V19 ⟨rfl, hb⟩
            clear kXA zXA kXB zXB kXQ zXQ kXR zXR kXP zXP kXS zXS kXX zXX kXY zXY kXZ zXZ
            replace XA := XA.below hb
            replace XB := XB.below hb
            replace XQ := XQ.below hb
            replace XR := XR.below hb
            replace XP := XP.below hb
            replace XS := XS.below hb
            replace XX := XX.below hb
            replace XY := XY.below hb
            replace XZ := XZ.below hb
            replace WW := WW.trans (hb.mono WW.size)
            have kXA := XA.cell
            have zXA := XA.lt
            have kXB := XB.cell
            have zXB := XB.lt
            have kXQ := XQ.cell
            have zXQ := XQ.lt
            have kXR := XR.cell
            have zXR := XR.lt
            have kXP := XP.cell
            have zXP := XP.lt
            have kXS := XS.cell
            have zXS := XS.lt
            have kXX := XX.cell
            have zXX := XX.lt
            have kXY := XY.cell
            have zXY := XY.lt
            have kXZ := XZ.cell
            have zXZ := XZ.lt
            clear hb
            go_wp2_with fail
            go_ret
            exact ⟨rfl, WW⟩
          · have HM2 := hid (limS_big hp)
            clear hp
            obtain ⟨b0, b1, bw⟩ := boxes2 w (.slice A (nw a) c) (.slice B' (nw b) d)
            have XA := Box.mk b0 hA bw
            have XB := Box.mk b1 hB bw
            have WW := bw
            clear bw b0 b1
            go_enter Try.func7, Try.ntmps7
            go_wp2_with fail
            generalize hV : ((w.alloc (.cells #[.slice A (nw a) c] 24)).alloc (.cells #[.slice B' (nw b) d] 24)) = V0 at XA XB WW ⊢
            clear hV
            have hc := awake_any V0
            refine hc.mono ?_
            clear hc
            rintro e V1 ⟨rfl, hb⟩
            replace XA := XA.below hb
            replace XB := XB.below hb
            replace WW := WW.trans (hb.mono WW.size)
            have kXA := XA.cell
            have zXA := XA.lt
            have kXB := XB.cell
            have zXB := XB.lt
            clear hb
            go_wp2_with fail
            have hc := great_2 V1 A B' _ c _ d hn hm
            rw [HG.out] at hc
            refine hc.mono ?_
            clear hc
            rintro e V2 ⟨rfl, hb⟩
            clear kXA zXA kXB zXB
            replace XA := XA.below hb
            replace XB := XB.below hb
            replace WW := WW.trans (hb.mono WW.size)
            have kXA := XA.cell
            have zXA := XA.lt
            have kXB := XB.cell
            have zXB := XB.lt
            clear hb
            go_wp2_with fail
            have hc := rvalid_any A _ c a _ V2 XA.num (Nat.le_refl _) hn
            rw [H1.out] at hc
            refine hc.mono ?_
            clear hc
            rintro e V3 ⟨rfl, hb⟩
            clear kXA zXA kXB zXB
            replace XA := XA.below hb
            replace XB := XB.below hb
            replace WW := WW.trans (hb.mono WW.size)
            have kXA := XA.cell
            have zXA := XA.lt
            have kXB := XB.cell
            have zXB := XB.lt
            clear hb
            go_wp2_with fail
            have hc := rvalid_any B' _ d b _ V3 XB.num (Nat.le_refl _) hm
            rw [H2.out] at hc
            refine hc.mono ?_
            clear hc
            rintro e V4 ⟨rfl, hb⟩
            clear kXA zXA kXB zXB
            replace XA := XA.below hb
            replace XB := XB.below hb
            replace WW := WW.trans (hb.mono WW.size)
            have kXA := XA.cell
            have zXA := XA.lt
            have kXB := XB.cell
            have zXB := XB.lt
            clear hb
            go_wp2_with fail
            have hc := div_any A B' _ _ c d a b V4 XA.num XB.num hn hm
            rw [bothD_yes H1.out H2.out] at hc
            rw [HD.out] at hc
            refine hc.mono ?_
            clear hc
            rintro e V5 ⟨v, u, rfl, hv, hu, hb⟩
            clear kXA zXA kXB zXB
            replace XA := XA.below hb
            replace XB := XB.below hb
            replace WW := WW.trans (hb.mono WW.size)
            obtain ⟨A3, c3, rfl, hv'⟩ := hv.open_
            obtain ⟨A4, c4, rfl, hu'⟩ := hu.open_
            clear hv hu
            have kXA := XA.cell
            have zXA := XA.lt
            have kXB := XB.cell
            have zXB := XB.lt
            clear hb
            go_wp2_with fail
            obtain ⟨b0, b1, bw⟩ := boxes2 V5 (.slice A3 (nw (a / b)) c3) (.slice A4 (nw (a % b)) c4)
            clear kXA zXA kXB zXB
            replace XA := XA.below bw
            replace XB := XB.below bw
            have XQ := Box.mk b0 hv' bw
            have XR := Box.mk b1 hu' bw
            replace WW := WW.trans (bw.mono WW.size)
            clear bw b0 b1 hv' hu'
            generalize hV : ((V5.alloc (.cells #[.slice A3 (nw (a / b)) c3] 24)).alloc (.cells #[.slice A4 (nw (a % b)) c4] 24)) = V6 at XA XB XQ XR WW ⊢
            clear hV
            have kXA := XA.cell
            have zXA := XA.lt
            have kXB := XB.cell
            have zXB := XB.lt
            have kXQ := XQ.cell
            have zXQ := XQ.lt
            have kXR := XR.cell
            have zXR := XR.lt
            have hc := valid_any A3 _ c3 (a / b) _ V6 XQ.num (Nat.le_refl _) (by omega)
            rw [HQ.out] at hc
            refine hc.mono ?_
            clear hc
            rintro e V7 ⟨rfl, hb⟩
            clear kXA zXA kXB zXB kXQ zXQ kXR zXR
            replace XA := XA.below hb
            replace XB := XB.below hb
            replace XQ := XQ.below hb
            replace XR := XR.below hb
            replace WW := WW.trans (hb.mono WW.size)
            have kXA := XA.cell
            have zXA := XA.lt
            have kXB := XB.cell
            have zXB := XB.lt
            have kXQ := XQ.cell
            have zXQ := XQ.lt
            have kXR := XR.cell
            have zXR := XR.lt
            clear hb
            go_wp2_with fail
            have hc := valid_any A4 _ c4 (a % b) _ V7 XR.num (Nat.le_refl _) (by omega)
            rw [HR.out] at hc
            refine hc.mono ?_
            clear hc
            rintro e V8 ⟨rfl, hb⟩
            clear kXA zXA kXB zXB kXQ zXQ kXR zXR
            replace XA := XA.below hb
            replace XB := XB.below hb
            replace XQ := XQ.below hb
            replace XR := XR.below hb
            replace WW := WW.trans (hb.mono WW.size)
            have kXA := XA.cell
            have zXA := XA.lt
            have kXB := XB.cell
            have zXB := XB.lt
            have kXQ := XQ.cell
            have zXQ := XQ.lt
            have kXR := XR.cell
            have zXR := XR.lt
            clear hb
            go_wp2_with fail
            have hc := cmp_any A4 B' _ _ c4 d (a % b) b V8 XR.num XB.num (by omega) hm
            rw [bothC_yes HR.out H2.out] at hc
            rw [HC.out] at hc
            refine hc.mono ?_
            clear hc
            rintro e V9 ⟨rfl, hb⟩
            clear kXA zXA kXB zXB kXQ zXQ kXR zXR
            replace XA := XA.below hb
            replace XB := XB.below hb
            replace XQ := XQ.below hb
            replace XR := XR.below hb
            replace WW := WW.trans (hb.mono WW.size)
            have kXA := XA.cell
            have zXA := XA.lt
            have kXB := XB.cell
            have zXB := XB.lt
            have kXQ := XQ.cell
            have zXQ := XQ.lt
            have kXR := XR.cell
            have zXR := XR.lt
            clear hb
            go_wp2_with fail
            have hc := mul_any A3 B' _ _ c3 d (a / b) b V9 XQ.num XB.num (by omega) hm
            rw [bothS_yes HQ.out H2.out] at hc
            rw [HM1.out] at hc
            refine hc.mono ?_
            clear hc
            rintro e V10 ⟨v, rfl, hv, hb⟩
            clear kXA zXA kXB zXB kXQ zXQ kXR zXR
            replace XA := XA.below hb
            replace XB := XB.below hb
            replace XQ := XQ.below hb
            replace XR := XR.below hb
            replace WW := WW.trans (hb.mono WW.size)
            obtain ⟨A5, c5, rfl, hv'⟩ := hv.open_
            clear hv
            have kXA := XA.cell
            have zXA := XA.lt
            have kXB := XB.cell
            have zXB := XB.lt
            have kXQ := XQ.cell
            have zXQ := XQ.lt
            have kXR := XR.cell
            have zXR := XR.lt
            clear hb
            go_wp2_with fail
            obtain ⟨b0, bw⟩ := boxes1 V10 (.slice A5 (nw (a / b * b)) c5)
            clear kXA zXA kXB zXB kXQ zXQ kXR zXR
            replace XA := XA.below bw
            replace XB := XB.below bw
            replace XQ := XQ.below bw
            replace XR := XR.below bw
            have XP := Box.mk b0 hv' bw
            replace WW := WW.trans (bw.mono WW.size)
            clear bw b0 hv'
            generalize hV : (V10.alloc (.cells #[.slice A5 (nw (a / b * b)) c5] 24)) = V11 at XA XB XQ XR XP WW ⊢
            clear hV
            have kXA := XA.cell
            have zXA := XA.lt
            have kXB := XB.cell
            have zXB := XB.lt
            have kXQ := XQ.cell
            have zXQ := XQ.lt
            have kXR := XR.cell
            have zXR := XR.lt
            have kXP := XP.cell
            have zXP := XP.lt
            have hc := add_any A5 A4 _ _ c5 c4 (a / b * b) (a % b) V11 XP.num XR.num (by have := (okB_yes.1 HP.out).2; omega) (by omega)
            rw [bothS_yes HP.out HR.out] at hc
            rw [HE.out] at hc
            rw [HA1.out] at hc
            refine hc.mono ?_
            clear hc
            rintro e V12 ⟨v, rfl, hv, hb⟩
            clear kXA zXA kXB zXB kXQ zXQ kXR zXR kXP zXP
            replace XA := XA.below hb
            replace XB := XB.below hb
            replace XQ := XQ.below hb
            replace XR := XR.below hb
            replace XP := XP.below hb
            replace WW := WW.trans (hb.mono WW.size)
            obtain ⟨A6, c6, rfl, hv'⟩ := hv.open_
            clear hv
            have kXA := XA.cell
            have zXA := XA.lt
            have kXB := XB.cell
            have zXB := XB.lt
            have kXQ := XQ.cell
            have zXQ := XQ.lt
            have kXR := XR.cell
            have zXR := XR.lt
            have kXP := XP.cell
            have zXP := XP.lt
            clear hb
            go_wp2_with fail
            obtain ⟨b0, bw⟩ := boxes1 V12 (.slice A6 (nw a) c6)
            clear kXA zXA kXB zXB kXQ zXQ kXR zXR kXP zXP
            replace XA := XA.below bw
            replace XB := XB.below bw
            replace XQ := XQ.below bw
            replace XR := XR.below bw
            replace XP := XP.below bw
            have XS := Box.mk b0 hv' bw
            replace WW := WW.trans (bw.mono WW.size)
            clear bw b0 hv'
            generalize hV : (V12.alloc (.cells #[.slice A6 (nw a) c6] 24)) = V13 at XA XB XQ XR XP XS WW ⊢
            clear hV
            have kXA := XA.cell
            have zXA := XA.lt
            have kXB := XB.cell
            have zXB := XB.lt
            have kXQ := XQ.cell
            have zXQ := XQ.lt
            have kXR := XR.cell
            have zXR := XR.lt
            have kXP := XP.cell
            have zXP := XP.lt
            have kXS := XS.cell
            have zXS := XS.lt
            have hc := same_any A6 A _ _ c6 c a a V13 XS.num XA.num (by omega) hn
            rw [sameB_yes] at hc
            refine hc.mono ?_
            clear hc
            rintro e V14 ⟨rfl, hb⟩
            clear kXA zXA kXB zXB kXQ zXQ kXR zXR kXP zXP kXS zXS
            replace XA := XA.below hb
            replace XB := XB.below hb
            replace XQ := XQ.below hb
            replace XR := XR.below hb
            replace XP := XP.below hb
            replace XS := XS.below hb
            replace WW := WW.trans (hb.mono WW.size)
            have kXA := XA.cell
            have zXA := XA.lt
            have kXB := XB.cell
            have zXB := XB.lt
            have kXQ := XQ.cell
            have zXQ := XQ.lt
            have kXR := XR.cell
            have zXR := XR.lt
            have kXP := XP.cell
            have zXP := XP.lt
            have kXS := XS.cell
            have zXS := XS.lt
            clear hb
            go_wp2_with fail
            have hc := mul_any A B' _ _ c d a b V14 XA.num XB.num hn hm
            rw [bothS_yes H1.out H2.out] at hc
            rw [HM2.out] at hc
            refine hc.mono ?_
            clear hc
            rintro e V15 ⟨v, rfl, hv, hb⟩
            clear kXA zXA kXB zXB kXQ zXQ kXR zXR kXP zXP kXS zXS
            replace XA := XA.below hb
            replace XB := XB.below hb
            replace XQ := XQ.below hb
            replace XR := XR.below hb
            replace XP := XP.below hb
            replace XS := XS.below hb
            replace WW := WW.trans (hb.mono WW.size)
            obtain ⟨A7, c7, rfl, hv'⟩ := hv.open_
            clear hv
            have kXA := XA.cell
            have zXA := XA.lt
            have kXB := XB.cell
            have zXB := XB.lt
            have kXQ := XQ.cell
            have zXQ := XQ.lt
            have kXR := XR.cell
            have zXR := XR.lt
            have kXP := XP.cell
            have zXP := XP.lt
            have kXS := XS.cell
            have zXS := XS.lt
            clear hb
            go_wp2_with fail
            go_ret
            exact ⟨rfl, WW.alloc WW.size _⟩

end Go.Proofs.Ytlhfaaghfhiaoaa
