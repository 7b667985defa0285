/- NaturalWords: the walk. -/
import Derived.Test.YtlhfaaghfhiaoaaEq
import Derived.Deep.RegionWith
import Derived.Deep.RegionHeld3
set_option linter.unusedVariables false
set_option linter.unusedSimpArgs false
namespace Go.Proofs.Ytlhfaaghfhiaoaa
open Go.RowKit

theorem int_ok {a : Nat} (h : a ≤ 9223372036854775807) : intS (nw a) a = ((a : Int), 0) ∧ nw a ≤ 2 := by
  have h2 : nw a ≤ 2 := nw_le (n := 2) (by rw [show 2 ^ (32 * 2) = 18446744073709551616 from rfl]; omega)
  have h3 : bl a ≤ 63 := bl_le (k := 63) (by rw [show 2 ^ 63 = 9223372036854775808 from rfl]; omega)
  exact ⟨intS_ok (okB_nw (by omega)) h3, h2⟩

set_option maxHeartbeats 8000000 in
theorem naturalWords_walk (x y : Int) (w : World) (hx : -9223372036854775808 ≤ x ∧ x ≤ 9223372036854775807) (hy : -9223372036854775808 ≤ y ∧ y ≤ 9223372036854775807) :
    Calls Try.prog 9 #[.int .i64 x, .int .i64 y] w (RetB (.bool true) w) := by
  by_cases h1 : x < 0
  · have hd : decide (x < 0) = true := by simpa using h1
    have WW := Below.refl w.heap.size w
    go_enter Try.func9, Try.ntmps9
    go_wp2_with fail
    obtain ⟨V0, hV⟩ : ∃ V, V = w := ⟨_, rfl⟩
    rw [← hV]
    replace WW : Below w.heap.size w V0 := by rw [hV]; exact WW
    clear hV
    have hc := awake_any V0
    refine hc.mono ?_
    clear hc
    rintro e V1 ⟨rfl, hb⟩
    replace WW := WW.trans (hb.mono WW.size)
    clear hb
    go_wp2_with fail
    go_ret
    exact ⟨rfl, WW⟩
  · have hd1 : decide (x < 0) = false := by simpa using h1
    by_cases h2 : y < 0
    · have hd2 : decide (y < 0) = true := by simpa using h2
      have WW := Below.refl w.heap.size w
      go_enter Try.func9, Try.ntmps9
      go_wp2_with fail
      obtain ⟨V0, hV⟩ : ∃ V, V = w := ⟨_, rfl⟩
      rw [← hV]
      replace WW : Below w.heap.size w V0 := by rw [hV]; exact WW
      clear hV
      have hc := awake_any V0
      refine hc.mono ?_
      clear hc
      rintro e V1 ⟨rfl, hb⟩
      replace WW := WW.trans (hb.mono WW.size)
      clear hb
      go_wp2_with fail
      go_ret
      exact ⟨rfl, WW⟩
    · have hd2 : decide (y < 0) = false := by simpa using h2
      obtain ⟨a, rfl⟩ := Int.eq_ofNat_of_zero_le (show 0 ≤ x by omega)
      obtain ⟨b, rfl⟩ := Int.eq_ofNat_of_zero_le (show 0 ≤ y by omega)
      have ha : a ≤ 9223372036854775807 := by omega
      have hb : b ≤ 9223372036854775807 := by omega
      obtain ⟨ia, na⟩ := int_ok ha
      have nb := (int_ok hb).2
      have IA := hid ia
      have OA := hid (okB_nw (a := a) (by omega))
      have OB := hid (okB_nw (a := b) (by omega))
      have hsn : nw (a + b) ≤ 2 := nw_le (n := 2) (by rw [show 2 ^ (32 * 2) = 18446744073709551616 from rfl]; omega)
      have hpn : nw (a * b) ≤ 4 := by
        refine nw_le (n := 4) (Nat.lt_of_lt_of_le (mul_lt_pw (lt_nw a) (lt_nw b)) (pw_le (by omega)))
      have LS := hid (limS_ok (a := a + b) (by omega))
      have LP := hid (limS_ok (a := a * b) (by omega))
      have hab : a * b < 340282366920938463463374607431768211456 := by
        have : a * b ≤ 9223372036854775807 * 9223372036854775807 := Nat.mul_le_mul ha hb
        omega
      have M := fun W => Try.bits_Mul64 a b (by omega) (by omega) W
      have HM := hid M
      clear M
      obtain ⟨lo, hlo⟩ := named (a * b % 18446744073709551616)
      obtain ⟨hi, hhi⟩ := named (a * b / 18446744073709551616)
      have HLO : Hid (((a * b % 18446744073709551616 : Nat) : Int) = (lo : Int)) := by show _ = _; rw [hlo.out]
      have HHI : Hid (((a * b / 18446744073709551616 : Nat) : Int) = (hi : Int)) := by show _ = _; rw [hhi.out]
      have EP : Hid (a * b = lo + hi * 18446744073709551616) := by show _ = _; rw [hlo.out, hhi.out]; omega
      have blo : lo ≤ 18446744073709551615 := by have := hlo.out; omega
      have bhi : hi ≤ 18446744073709551615 := by have := hhi.out; omega
      have cs : ((a : Int) + (b : Int)) = ((a + b : Nat) : Int) := by omega
      have wa : ((a : Int) % 18446744073709551616) = (a : Int) := by omega
      have ne : (((a : Nat) : Int) != ((a : Nat) : Int)) = false := by simp
      have CS := hid cs
      have hab2 : a + b ≤ 18446744073709551614 := by omega
      clear ia hab cs wa hlo hhi
      by_cases hb0 : b = 0
      · have hz : (((b : Nat) : Int) == 0) = true := by rw [hb0]; rfl
        clear hb0
        rcases Nat.lt_trichotomy a b with hlt | heq | hgt
        · have HC := hid (ordN_lt hlt)
          have l1 : (a : Int) < b := by omega
          have WW := Below.refl w.heap.size w
          go_enter Try.func9, Try.ntmps9
          go_wp2_with fail
          obtain ⟨V0, hV⟩ : ∃ V, V = w := ⟨_, rfl⟩
          rw [← hV]
          replace WW : Below w.heap.size w V0 := by rw [hV]; exact WW
          clear hV
          have hc := awake_any V0
          refine hc.mono ?_
          clear hc
          rintro e V1 ⟨rfl, hb⟩
          replace WW := WW.trans (hb.mono WW.size)
          clear hb
          go_wp2_with fail
          have hc := of_any (a : Int) V1 (by omega) (by omega)
          rw [ofS_nat] at hc
          refine hc.mono ?_
          clear hc
          rintro e V2 ⟨v, rfl, hv, hb⟩
          replace WW := WW.trans (hb.mono WW.size)
          obtain ⟨A1, c1, rfl, hv'⟩ := hv.open_
          clear hv
          clear hb
          go_wp2_with fail
          obtain ⟨b0, bw⟩ := boxes1 V2 (.slice A1 (nw a) c1)
          have XA := Box.mk b0 hv' bw
          replace WW := WW.trans (bw.mono WW.size)
          clear bw b0 hv'
          generalize hV : (V2.alloc (.cells #[.slice A1 (nw a) c1] 24)) = V3 at XA WW ⊢
          clear hV
          have kXA := XA.cell
          have zXA := XA.lt
          have hc := of_any (b : Int) V3 (by omega) (by omega)
          rw [ofS_nat] at hc
          refine hc.mono ?_
          clear hc
          rintro e V4 ⟨v, rfl, hv, hb⟩
          clear kXA zXA
          replace XA := XA.below hb
          replace WW := WW.trans (hb.mono WW.size)
          obtain ⟨A2, c2, rfl, hv'⟩ := hv.open_
          clear hv
          have kXA := XA.cell
          have zXA := XA.lt
          clear hb
          go_wp2_with fail
          obtain ⟨b0, bw⟩ := boxes1 V4 (.slice A2 (nw b) c2)
          clear kXA zXA
          replace XA := XA.below bw
          have XB := Box.mk b0 hv' bw
          replace WW := WW.trans (bw.mono WW.size)
          clear bw b0 hv'
          generalize hV : (V4.alloc (.cells #[.slice A2 (nw b) c2] 24)) = V5 at XA XB WW ⊢
          clear hV
          have kXA := XA.cell
          have zXA := XA.lt
          have kXB := XB.cell
          have zXB := XB.lt
          have hc := int_any A1 _ c1 a V5 XA.num (by omega)
          rw [IA.out] at hc
          refine hc.mono ?_
          clear hc
          rintro e V6 ⟨rfl, hb⟩
          clear kXA zXA kXB zXB
          replace XA := XA.below hb
          replace XB := XB.below hb
          replace WW := WW.trans (hb.mono WW.size)
          have kXA := XA.cell
          have zXA := XA.lt
          have kXB := XB.cell
          have zXB := XB.lt
          clear hb
          go_wp2_with fail
          have hc := add_any A1 A2 _ _ c1 c2 a b V6 XA.num XB.num (by omega) (by omega)
          rw [bothS_yes OA.out OB.out] at hc
          rw [LS.out] at hc
          refine hc.mono ?_
          clear hc
          rintro e V7 ⟨v, rfl, hv, hb⟩
          clear kXA zXA kXB zXB
          replace XA := XA.below hb
          replace XB := XB.below hb
          replace WW := WW.trans (hb.mono WW.size)
          obtain ⟨A3, c3, rfl, hv'⟩ := hv.open_
          clear hv
          have kXA := XA.cell
          have zXA := XA.lt
          have kXB := XB.cell
          have zXB := XB.lt
          clear hb
          go_wp2_with fail
          obtain ⟨b0, bw⟩ := boxes1 V7 (.slice A3 (nw (a + b)) c3)
          clear kXA zXA kXB zXB
          replace XA := XA.below bw
          replace XB := XB.below bw
          have XS := Box.mk b0 hv' bw
          replace WW := WW.trans (bw.mono WW.size)
          clear bw b0 hv'
          generalize hV : (V7.alloc (.cells #[.slice A3 (nw (a + b)) c3] 24)) = V8 at XA XB XS WW ⊢
          clear hV
          have kXA := XA.cell
          have zXA := XA.lt
          have kXB := XB.cell
          have zXB := XB.lt
          have kXS := XS.cell
          have zXS := XS.lt
          have hc := mul_any A1 A2 _ _ c1 c2 a b V8 XA.num XB.num (by omega) (by omega)
          rw [bothS_yes OA.out OB.out] at hc
          rw [LP.out] at hc
          refine hc.mono ?_
          clear hc
          rintro e V9 ⟨v, rfl, hv, hb⟩
          clear kXA zXA kXB zXB kXS zXS
          replace XA := XA.below hb
          replace XB := XB.below hb
          replace XS := XS.below hb
          replace WW := WW.trans (hb.mono WW.size)
          obtain ⟨A4, c4, rfl, hv'⟩ := hv.open_
          clear hv
          have kXA := XA.cell
          have zXA := XA.lt
          have kXB := XB.cell
          have zXB := XB.lt
          have kXS := XS.cell
          have zXS := XS.lt
          clear hb
          go_wp2_with fail
          obtain ⟨b0, bw⟩ := boxes1 V9 (.slice A4 (nw (a * b)) c4)
          clear kXA zXA kXB zXB kXS zXS
          replace XA := XA.below bw
          replace XB := XB.below bw
          replace XS := XS.below bw
          have XP := Box.mk b0 hv' bw
          replace WW := WW.trans (bw.mono WW.size)
          clear bw b0 hv'
          generalize hV : (V9.alloc (.cells #[.slice A4 (nw (a * b)) c4] 24)) = V10 at XA XB XS XP WW ⊢
          clear hV
          have kXA := XA.cell
          have zXA := XA.lt
          have kXB := XB.cell
          have zXB := XB.lt
          have kXS := XS.cell
          have zXS := XS.lt
          have kXP := XP.cell
          have zXP := XP.lt
          have hc := cmp_any A1 A2 _ _ c1 c2 a b V10 XA.num XB.num (by omega) (by omega)
          rw [bothC_yes OA.out OB.out] at hc
          rw [HC.out] at hc
          refine hc.mono ?_
          clear hc
          rintro e V11 ⟨rfl, hb⟩
          clear kXA zXA kXB zXB kXS zXS kXP zXP
          replace XA := XA.below hb
          replace XB := XB.below hb
          replace XS := XS.below hb
          replace XP := XP.below hb
          replace WW := WW.trans (hb.mono WW.size)
          have kXA := XA.cell
          have zXA := XA.lt
          have kXB := XB.cell
          have zXB := XB.lt
          have kXS := XS.cell
          have zXS := XS.lt
          have kXP := XP.cell
          have zXP := XP.lt
          clear hb
          go_wp2_with fail
          have hc := HM.out V11
          rw [HHI.out, HLO.out] at hc
          refine hc.mono ?_
          clear hc
          rintro e w' ⟨rfl, hw⟩
          obtain rfl := hw.symm
          go_wp2_with fail
          rw [CS.out]
          have hc := equal_yes0 A3 c3 (a + b) (a + b) V11 XS.num (by omega) rfl
          refine hc.mono ?_
          clear hc
          rintro e V12 ⟨rfl, hb⟩
          clear kXA zXA kXB zXB kXS zXS kXP zXP
          replace XA := XA.below hb
          replace XB := XB.below hb
          replace XS := XS.below hb
          replace XP := XP.below hb
          replace WW := WW.trans (hb.mono WW.size)
          have kXA := XA.cell
          have zXA := XA.lt
          have kXB := XB.cell
          have zXB := XB.lt
          have kXS := XS.cell
          have zXS := XS.lt
          have kXP := XP.cell
          have zXP := XP.lt
          clear hb
          go_wp2_with fail
          have hc := equal_yes A4 c4 (a * b) lo hi V12 XP.num blo bhi EP.out
          refine hc.mono ?_
          clear hc
          rintro e V13 ⟨rfl, hb⟩
          clear kXA zXA kXB zXB kXS zXS kXP zXP
          replace XA := XA.below hb
          replace XB := XB.below hb
          replace XS := XS.below hb
          replace XP := XP.below hb
          replace WW := WW.trans (hb.mono WW.size)
          have kXA := XA.cell
          have zXA := XA.lt
          have kXB := XB.cell
          have zXB := XB.lt
          have kXS := XS.cell
          have zXS := XS.lt
          have kXP := XP.cell
          have zXP := XP.lt
          clear hb
          go_wp2_with fail
          go_ret
          exact ⟨rfl, WW⟩
        · have HC : Hid (ordN a b = 0) := by show _ = _; rw [heq]; exact ordN_eq b
          have l1 : (a : Int) ≤ b := by omega
          have l2 : (b : Int) ≤ a := by omega
          clear heq
          have WW := Below.refl w.heap.size w
          go_enter Try.func9, Try.ntmps9
          go_wp2_with fail
          obtain ⟨V0, hV⟩ : ∃ V, V = w := ⟨_, rfl⟩
          rw [← hV]
          replace WW : Below w.heap.size w V0 := by rw [hV]; exact WW
          clear hV
          have hc := awake_any V0
          refine hc.mono ?_
          clear hc
          rintro e V1 ⟨rfl, hb⟩
          replace WW := WW.trans (hb.mono WW.size)
          clear hb
          go_wp2_with fail
          have hc := of_any (a : Int) V1 (by omega) (by omega)
          rw [ofS_nat] at hc
          refine hc.mono ?_
          clear hc
          rintro e V2 ⟨v, rfl, hv, hb⟩
          replace WW := WW.trans (hb.mono WW.size)
          obtain ⟨A1, c1, rfl, hv'⟩ := hv.open_
          clear hv
          clear hb
          go_wp2_with fail
          obtain ⟨b0, bw⟩ := boxes1 V2 (.slice A1 (nw a) c1)
          have XA := Box.mk b0 hv' bw
          replace WW := WW.trans (bw.mono WW.size)
          clear bw b0 hv'
          generalize hV : (V2.alloc (.cells #[.slice A1 (nw a) c1] 24)) = V3 at XA WW ⊢
          clear hV
          have kXA := XA.cell
          have zXA := XA.lt
          have hc := of_any (b : Int) V3 (by omega) (by omega)
          rw [ofS_nat] at hc
          refine hc.mono ?_
          clear hc
          rintro e V4 ⟨v, rfl, hv, hb⟩
          clear kXA zXA
          replace XA := XA.below hb
          replace WW := WW.trans (hb.mono WW.size)
          obtain ⟨A2, c2, rfl, hv'⟩ := hv.open_
          clear hv
          have kXA := XA.cell
          have zXA := XA.lt
          clear hb
          go_wp2_with fail
          obtain ⟨b0, bw⟩ := boxes1 V4 (.slice A2 (nw b) c2)
          clear kXA zXA
          replace XA := XA.below bw
          have XB := Box.mk b0 hv' bw
          replace WW := WW.trans (bw.mono WW.size)
          clear bw b0 hv'
          generalize hV : (V4.alloc (.cells #[.slice A2 (nw b) c2] 24)) = V5 at XA XB WW ⊢
          clear hV
          have kXA := XA.cell
          have zXA := XA.lt
          have kXB := XB.cell
          have zXB := XB.lt
          have hc := int_any A1 _ c1 a V5 XA.num (by omega)
          rw [IA.out] at hc
          refine hc.mono ?_
          clear hc
          rintro e V6 ⟨rfl, hb⟩
          clear kXA zXA kXB zXB
          replace XA := XA.below hb
          replace XB := XB.below hb
          replace WW := WW.trans (hb.mono WW.size)
          have kXA := XA.cell
          have zXA := XA.lt
          have kXB := XB.cell
          have zXB := XB.lt
          clear hb
          go_wp2_with fail
          have hc := add_any A1 A2 _ _ c1 c2 a b V6 XA.num XB.num (by omega) (by omega)
          rw [bothS_yes OA.out OB.out] at hc
          rw [LS.out] at hc
          refine hc.mono ?_
          clear hc
          rintro e V7 ⟨v, rfl, hv, hb⟩
          clear kXA zXA kXB zXB
          replace XA := XA.below hb
          replace XB := XB.below hb
          replace WW := WW.trans (hb.mono WW.size)
          obtain ⟨A3, c3, rfl, hv'⟩ := hv.open_
          clear hv
          have kXA := XA.cell
          have zXA := XA.lt
          have kXB := XB.cell
          have zXB := XB.lt
          clear hb
          go_wp2_with fail
          obtain ⟨b0, bw⟩ := boxes1 V7 (.slice A3 (nw (a + b)) c3)
          clear kXA zXA kXB zXB
          replace XA := XA.below bw
          replace XB := XB.below bw
          have XS := Box.mk b0 hv' bw
          replace WW := WW.trans (bw.mono WW.size)
          clear bw b0 hv'
          generalize hV : (V7.alloc (.cells #[.slice A3 (nw (a + b)) c3] 24)) = V8 at XA XB XS WW ⊢
          clear hV
          have kXA := XA.cell
          have zXA := XA.lt
          have kXB := XB.cell
          have zXB := XB.lt
          have kXS := XS.cell
          have zXS := XS.lt
          have hc := mul_any A1 A2 _ _ c1 c2 a b V8 XA.num XB.num (by omega) (by omega)
          rw [bothS_yes OA.out OB.out] at hc
          rw [LP.out] at hc
          refine hc.mono ?_
          clear hc
          rintro e V9 ⟨v, rfl, hv, hb⟩
          clear kXA zXA kXB zXB kXS zXS
          replace XA := XA.below hb
          replace XB := XB.below hb
          replace XS := XS.below hb
          replace WW := WW.trans (hb.mono WW.size)
          obtain ⟨A4, c4, rfl, hv'⟩ := hv.open_
          clear hv
          have kXA := XA.cell
          have zXA := XA.lt
          have kXB := XB.cell
          have zXB := XB.lt
          have kXS := XS.cell
          have zXS := XS.lt
          clear hb
          go_wp2_with fail
          obtain ⟨b0, bw⟩ := boxes1 V9 (.slice A4 (nw (a * b)) c4)
          clear kXA zXA kXB zXB kXS zXS
          replace XA := XA.below bw
          replace XB := XB.below bw
          replace XS := XS.below bw
          have XP := Box.mk b0 hv' bw
          replace WW := WW.trans (bw.mono WW.size)
          clear bw b0 hv'
          generalize hV : (V9.alloc (.cells #[.slice A4 (nw (a * b)) c4] 24)) = V10 at XA XB XS XP WW ⊢
          clear hV
          have kXA := XA.cell
          have zXA := XA.lt
          have kXB := XB.cell
          have zXB := XB.lt
          have kXS := XS.cell
          have zXS := XS.lt
          have kXP := XP.cell
          have zXP := XP.lt
          have hc := cmp_any A1 A2 _ _ c1 c2 a b V10 XA.num XB.num (by omega) (by omega)
          rw [bothC_yes OA.out OB.out] at hc
          rw [HC.out] at hc
          refine hc.mono ?_
          clear hc
          rintro e V11 ⟨rfl, hb⟩
          clear kXA zXA kXB zXB kXS zXS kXP zXP
          replace XA := XA.below hb
          replace XB := XB.below hb
          replace XS := XS.below hb
          replace XP := XP.below hb
          replace WW := WW.trans (hb.mono WW.size)
          have kXA := XA.cell
          have zXA := XA.lt
          have kXB := XB.cell
          have zXB := XB.lt
          have kXS := XS.cell
          have zXS := XS.lt
          have kXP := XP.cell
          have zXP := XP.lt
          clear hb
          go_wp2_with fail
          have hc := HM.out V11
          rw [HHI.out, HLO.out] at hc
          refine hc.mono ?_
          clear hc
          rintro e w' ⟨rfl, hw⟩
          obtain rfl := hw.symm
          go_wp2_with fail
          rw [CS.out]
          have hc := equal_yes0 A3 c3 (a + b) (a + b) V11 XS.num (by omega) rfl
          refine hc.mono ?_
          clear hc
          rintro e V12 ⟨rfl, hb⟩
          clear kXA zXA kXB zXB kXS zXS kXP zXP
          replace XA := XA.below hb
          replace XB := XB.below hb
          replace XS := XS.below hb
          replace XP := XP.below hb
          replace WW := WW.trans (hb.mono WW.size)
          have kXA := XA.cell
          have zXA := XA.lt
          have kXB := XB.cell
          have zXB := XB.lt
          have kXS := XS.cell
          have zXS := XS.lt
          have kXP := XP.cell
          have zXP := XP.lt
          clear hb
          go_wp2_with fail
          have hc := equal_yes A4 c4 (a * b) lo hi V12 XP.num blo bhi EP.out
          refine hc.mono ?_
          clear hc
          rintro e V13 ⟨rfl, hb⟩
          clear kXA zXA kXB zXB kXS zXS kXP zXP
          replace XA := XA.below hb
          replace XB := XB.below hb
          replace XS := XS.below hb
          replace XP := XP.below hb
          replace WW := WW.trans (hb.mono WW.size)
          have kXA := XA.cell
          have zXA := XA.lt
          have kXB := XB.cell
          have zXB := XB.lt
          have kXS := XS.cell
          have zXS := XS.lt
          have kXP := XP.cell
          have zXP := XP.lt
          clear hb
          go_wp2_with fail
          go_ret
          exact ⟨rfl, WW⟩
        · have HC := hid (ordN_gt hgt)
          have l1 : (b : Int) < a := by omega
          have WW := Below.refl w.heap.size w
          go_enter Try.func9, Try.ntmps9
          go_wp2_with fail
          obtain ⟨V0, hV⟩ : ∃ V, V = w := ⟨_, rfl⟩
          rw [← hV]
          replace WW : Below w.heap.size w V0 := by rw [hV]; exact WW
          clear hV
          have hc := awake_any V0
          refine hc.mono ?_
          clear hc
          rintro e V1 ⟨rfl, hb⟩
          replace WW := WW.trans (hb.mono WW.size)
          clear hb
          go_wp2_with fail
          have hc := of_any (a : Int) V1 (by omega) (by omega)
          rw [ofS_nat] at hc
          refine hc.mono ?_
          clear hc
          rintro e V2 ⟨v, rfl, hv, hb⟩
          replace WW := WW.trans (hb.mono WW.size)
          obtain ⟨A1, c1, rfl, hv'⟩ := hv.open_
          clear hv
          clear hb
          go_wp2_with fail
          obtain ⟨b0, bw⟩ := boxes1 V2 (.slice A1 (nw a) c1)
          have XA := Box.mk b0 hv' bw
          replace WW := WW.trans (bw.mono WW.size)
          clear bw b0 hv'
          generalize hV : (V2.alloc (.cells #[.slice A1 (nw a) c1] 24)) = V3 at XA WW ⊢
          clear hV
          have kXA := XA.cell
          have zXA := XA.lt
          have hc := of_any (b : Int) V3 (by omega) (by omega)
          rw [ofS_nat] at hc
          refine hc.mono ?_
          clear hc
          rintro e V4 ⟨v, rfl, hv, hb⟩
          clear kXA zXA
          replace XA := XA.below hb
          replace WW := WW.trans (hb.mono WW.size)
          obtain ⟨A2, c2, rfl, hv'⟩ := hv.open_
          clear hv
          have kXA := XA.cell
          have zXA := XA.lt
          clear hb
          go_wp2_with fail
          obtain ⟨b0, bw⟩ := boxes1 V4 (.slice A2 (nw b) c2)
          clear kXA zXA
          replace XA := XA.below bw
          have XB := Box.mk b0 hv' bw
          replace WW := WW.trans (bw.mono WW.size)
          clear bw b0 hv'
          generalize hV : (V4.alloc (.cells #[.slice A2 (nw b) c2] 24)) = V5 at XA XB WW ⊢
          clear hV
          have kXA := XA.cell
          have zXA := XA.lt
          have kXB := XB.cell
          have zXB := XB.lt
          have hc := int_any A1 _ c1 a V5 XA.num (by omega)
          rw [IA.out] at hc
          refine hc.mono ?_
          clear hc
          rintro e V6 ⟨rfl, hb⟩
          clear kXA zXA kXB zXB
          replace XA := XA.below hb
          replace XB := XB.below hb
          replace WW := WW.trans (hb.mono WW.size)
          have kXA := XA.cell
          have zXA := XA.lt
          have kXB := XB.cell
          have zXB := XB.lt
          clear hb
          go_wp2_with fail
          have hc := add_any A1 A2 _ _ c1 c2 a b V6 XA.num XB.num (by omega) (by omega)
          rw [bothS_yes OA.out OB.out] at hc
          rw [LS.out] at hc
          refine hc.mono ?_
          clear hc
          rintro e V7 ⟨v, rfl, hv, hb⟩
          clear kXA zXA kXB zXB
          replace XA := XA.below hb
          replace XB := XB.below hb
          replace WW := WW.trans (hb.mono WW.size)
          obtain ⟨A3, c3, rfl, hv'⟩ := hv.open_
          clear hv
          have kXA := XA.cell
          have zXA := XA.lt
          have kXB := XB.cell
          have zXB := XB.lt
          clear hb
          go_wp2_with fail
          obtain ⟨b0, bw⟩ := boxes1 V7 (.slice A3 (nw (a + b)) c3)
          clear kXA zXA kXB zXB
          replace XA := XA.below bw
          replace XB := XB.below bw
          have XS := Box.mk b0 hv' bw
          replace WW := WW.trans (bw.mono WW.size)
          clear bw b0 hv'
          generalize hV : (V7.alloc (.cells #[.slice A3 (nw (a + b)) c3] 24)) = V8 at XA XB XS WW ⊢
          clear hV
          have kXA := XA.cell
          have zXA := XA.lt
          have kXB := XB.cell
          have zXB := XB.lt
          have kXS := XS.cell
          have zXS := XS.lt
          have hc := mul_any A1 A2 _ _ c1 c2 a b V8 XA.num XB.num (by omega) (by omega)
          rw [bothS_yes OA.out OB.out] at hc
          rw [LP.out] at hc
          refine hc.mono ?_
          clear hc
          rintro e V9 ⟨v, rfl, hv, hb⟩
          clear kXA zXA kXB zXB kXS zXS
          replace XA := XA.below hb
          replace XB := XB.below hb
          replace XS := XS.below hb
          replace WW := WW.trans (hb.mono WW.size)
          obtain ⟨A4, c4, rfl, hv'⟩ := hv.open_
          clear hv
          have kXA := XA.cell
          have zXA := XA.lt
          have kXB := XB.cell
          have zXB := XB.lt
          have kXS := XS.cell
          have zXS := XS.lt
          clear hb
          go_wp2_with fail
          obtain ⟨b0, bw⟩ := boxes1 V9 (.slice A4 (nw (a * b)) c4)
          clear kXA zXA kXB zXB kXS zXS
          replace XA := XA.below bw
          replace XB := XB.below bw
          replace XS := XS.below bw
          have XP := Box.mk b0 hv' bw
          replace WW := WW.trans (bw.mono WW.size)
          clear bw b0 hv'
          generalize hV : (V9.alloc (.cells #[.slice A4 (nw (a * b)) c4] 24)) = V10 at XA XB XS XP WW ⊢
          clear hV
          have kXA := XA.cell
          have zXA := XA.lt
          have kXB := XB.cell
          have zXB := XB.lt
          have kXS := XS.cell
          have zXS := XS.lt
          have kXP := XP.cell
          have zXP := XP.lt
          have hc := cmp_any A1 A2 _ _ c1 c2 a b V10 XA.num XB.num (by omega) (by omega)
          rw [bothC_yes OA.out OB.out] at hc
          rw [HC.out] at hc
          refine hc.mono ?_
          clear hc
          rintro e V11 ⟨rfl, hb⟩
          clear kXA zXA kXB zXB kXS zXS kXP zXP
          replace XA := XA.below hb
          replace XB := XB.below hb
          replace XS := XS.below hb
          replace XP := XP.below hb
          replace WW := WW.trans (hb.mono WW.size)
          have kXA := XA.cell
          have zXA := XA.lt
          have kXB := XB.cell
          have zXB := XB.lt
          have kXS := XS.cell
          have zXS := XS.lt
          have kXP := XP.cell
          have zXP := XP.lt
          clear hb
          go_wp2_with fail
          have hc := HM.out V11
          rw [HHI.out, HLO.out] at hc
          refine hc.mono ?_
          clear hc
          rintro e w' ⟨rfl, hw⟩
          obtain rfl := hw.symm
          go_wp2_with fail
          rw [CS.out]
          have hc := equal_yes0 A3 c3 (a + b) (a + b) V11 XS.num (by omega) rfl
          refine hc.mono ?_
          clear hc
          rintro e V12 ⟨rfl, hb⟩
          clear kXA zXA kXB zXB kXS zXS kXP zXP
          replace XA := XA.below hb
          replace XB := XB.below hb
          replace XS := XS.below hb
          replace XP := XP.below hb
          replace WW := WW.trans (hb.mono WW.size)
          have kXA := XA.cell
          have zXA := XA.lt
          have kXB := XB.cell
          have zXB := XB.lt
          have kXS := XS.cell
          have zXS := XS.lt
          have kXP := XP.cell
          have zXP := XP.lt
          clear hb
          go_wp2_with fail
          have hc := equal_yes A4 c4 (a * b) lo hi V12 XP.num blo bhi EP.out
          refine hc.mono ?_
          clear hc
          rintro e V13 ⟨rfl, hb⟩
          clear kXA zXA kXB zXB kXS zXS kXP zXP
          replace XA := XA.below hb
          replace XB := XB.below hb
          replace XS := XS.below hb
          replace XP := XP.below hb
          replace WW := WW.trans (hb.mono WW.size)
          have kXA := XA.cell
          have zXA := XA.lt
          have kXB := XB.cell
          have zXB := XB.lt
          have kXS := XS.cell
          have zXS := XS.lt
          have kXP := XP.cell
          have zXP := XP.lt
          clear hb
          go_wp2_with fail
          go_ret
          exact ⟨rfl, WW⟩
      · have HD := hid (divS_yes (a := a) hb0)
        have hb1 : 1 ≤ b := by omega
        have q1 : a / b ≤ a := Nat.div_le_self a b
        have r1 : a % b < b := Nat.mod_lt _ (by omega)
        have tq : Int.tdiv (a : Int) (b : Int) = ((a / b : Nat) : Int) := by rw [Int.tdiv_eq_ediv_of_nonneg (by omega)]; simp
        have tr : Int.tmod (a : Int) (b : Int) = ((a % b : Nat) : Int) := by rw [Int.tmod_eq_emod_of_nonneg (by omega)]; simp
        have eq : ((a : Int) / (b : Int)) = ((a / b : Nat) : Int) := by simp
        have er : ((a : Int) % (b : Int)) = ((a % b : Nat) : Int) := by simp
        obtain ⟨qq, hqq⟩ : ∃ q, q = a / b := ⟨_, rfl⟩
        obtain ⟨rr, hrr⟩ : ∃ r, r = a % b := ⟨_, rfl⟩
        rw [← hqq] at HD q1 tq eq
        rw [← hrr] at HD r1 tr er
        have nq : nw qq ≤ 2 := Nat.le_trans (nw_mono q1) na
        have nr : nw rr ≤ 2 := Nat.le_trans (nw_mono (Nat.le_of_lt r1)) nb
        have y1 : IntKind.i64.wrap (qq : Int) = (qq : Int) := IntWalk.i64_in _ (by omega)
        have y2 : IntKind.i64.wrap (rr : Int) = (rr : Int) := IntWalk.i64_in _ (by omega)
        have y3 : IntKind.u64.wrap (qq : Int) = (qq : Int) := by rw [IntKind.wrap_u64]; omega
        have y4 : IntKind.u64.wrap (rr : Int) = (rr : Int) := by rw [IntKind.wrap_u64]; omega
        have hz : ((b : Int) == 0) = false := by simp; omega
        clear hqq hrr
        rcases Nat.lt_trichotomy a b with hlt | heq | hgt
        · have HC := hid (ordN_lt hlt)
          have l1 : (a : Int) < b := by omega
          have WW := Below.refl w.heap.size w
          go_enter Try.func9, Try.ntmps9
          go_wp2_with fail
          obtain ⟨V0, hV⟩ : ∃ V, V = w := ⟨_, rfl⟩
          rw [← hV]
          replace WW : Below w.heap.size w V0 := by rw [hV]; exact WW
          clear hV
          have hc := awake_any V0
          refine hc.mono ?_
          clear hc
          rintro e V1 ⟨rfl, hb⟩
          replace WW := WW.trans (hb.mono WW.size)
          clear hb
          go_wp2_with fail
          have hc := of_any (a : Int) V1 (by omega) (by omega)
          rw [ofS_nat] at hc
          refine hc.mono ?_
          clear hc
          rintro e V2 ⟨v, rfl, hv, hb⟩
          replace WW := WW.trans (hb.mono WW.size)
          obtain ⟨A1, c1, rfl, hv'⟩ := hv.open_
          clear hv
          clear hb
          go_wp2_with fail
          obtain ⟨b0, bw⟩ := boxes1 V2 (.slice A1 (nw a) c1)
          have XA := Box.mk b0 hv' bw
          replace WW := WW.trans (bw.mono WW.size)
          clear bw b0 hv'
          generalize hV : (V2.alloc (.cells #[.slice A1 (nw a) c1] 24)) = V3 at XA WW ⊢
          clear hV
          have kXA := XA.cell
          have zXA := XA.lt
          have hc := of_any (b : Int) V3 (by omega) (by omega)
          rw [ofS_nat] at hc
          refine hc.mono ?_
          clear hc
          rintro e V4 ⟨v, rfl, hv, hb⟩
          clear kXA zXA
          replace XA := XA.below hb
          replace WW := WW.trans (hb.mono WW.size)
          obtain ⟨A2, c2, rfl, hv'⟩ := hv.open_
          clear hv
          have kXA := XA.cell
          have zXA := XA.lt
          clear hb
          go_wp2_with fail
          obtain ⟨b0, bw⟩ := boxes1 V4 (.slice A2 (nw b) c2)
          clear kXA zXA
          replace XA := XA.below bw
          have XB := Box.mk b0 hv' bw
          replace WW := WW.trans (bw.mono WW.size)
          clear bw b0 hv'
          generalize hV : (V4.alloc (.cells #[.slice A2 (nw b) c2] 24)) = V5 at XA XB WW ⊢
          clear hV
          have kXA := XA.cell
          have zXA := XA.lt
          have kXB := XB.cell
          have zXB := XB.lt
          have hc := int_any A1 _ c1 a V5 XA.num (by omega)
          rw [IA.out] at hc
          refine hc.mono ?_
          clear hc
          rintro e V6 ⟨rfl, hb⟩
          clear kXA zXA kXB zXB
          replace XA := XA.below hb
          replace XB := XB.below hb
          replace WW := WW.trans (hb.mono WW.size)
          have kXA := XA.cell
          have zXA := XA.lt
          have kXB := XB.cell
          have zXB := XB.lt
          clear hb
          go_wp2_with fail
          have hc := add_any A1 A2 _ _ c1 c2 a b V6 XA.num XB.num (by omega) (by omega)
          rw [bothS_yes OA.out OB.out] at hc
          rw [LS.out] at hc
          refine hc.mono ?_
          clear hc
          rintro e V7 ⟨v, rfl, hv, hb⟩
          clear kXA zXA kXB zXB
          replace XA := XA.below hb
          replace XB := XB.below hb
          replace WW := WW.trans (hb.mono WW.size)
          obtain ⟨A3, c3, rfl, hv'⟩ := hv.open_
          clear hv
          have kXA := XA.cell
          have zXA := XA.lt
          have kXB := XB.cell
          have zXB := XB.lt
          clear hb
          go_wp2_with fail
          obtain ⟨b0, bw⟩ := boxes1 V7 (.slice A3 (nw (a + b)) c3)
          clear kXA zXA kXB zXB
          replace XA := XA.below bw
          replace XB := XB.below bw
          have XS := Box.mk b0 hv' bw
          replace WW := WW.trans (bw.mono WW.size)
          clear bw b0 hv'
          generalize hV : (V7.alloc (.cells #[.slice A3 (nw (a + b)) c3] 24)) = V8 at XA XB XS WW ⊢
          clear hV
          have kXA := XA.cell
          have zXA := XA.lt
          have kXB := XB.cell
          have zXB := XB.lt
          have kXS := XS.cell
          have zXS := XS.lt
          have hc := mul_any A1 A2 _ _ c1 c2 a b V8 XA.num XB.num (by omega) (by omega)
          rw [bothS_yes OA.out OB.out] at hc
          rw [LP.out] at hc
          refine hc.mono ?_
          clear hc
          rintro e V9 ⟨v, rfl, hv, hb⟩
          clear kXA zXA kXB zXB kXS zXS
          replace XA := XA.below hb
          replace XB := XB.below hb
          replace XS := XS.below hb
          replace WW := WW.trans (hb.mono WW.size)
          obtain ⟨A4, c4, rfl, hv'⟩ := hv.open_
          clear hv
          have kXA := XA.cell
          have zXA := XA.lt
          have kXB := XB.cell
          have zXB := XB.lt
          have kXS := XS.cell
          have zXS := XS.lt
          clear hb
          go_wp2_with fail
          obtain ⟨b0, bw⟩ := boxes1 V9 (.slice A4 (nw (a * b)) c4)
          clear kXA zXA kXB zXB kXS zXS
          replace XA := XA.below bw
          replace XB := XB.below bw
          replace XS := XS.below bw
          have XP := Box.mk b0 hv' bw
          replace WW := WW.trans (bw.mono WW.size)
          clear bw b0 hv'
          generalize hV : (V9.alloc (.cells #[.slice A4 (nw (a * b)) c4] 24)) = V10 at XA XB XS XP WW ⊢
          clear hV
          have kXA := XA.cell
          have zXA := XA.lt
          have kXB := XB.cell
          have zXB := XB.lt
          have kXS := XS.cell
          have zXS := XS.lt
          have kXP := XP.cell
          have zXP := XP.lt
          have hc := cmp_any A1 A2 _ _ c1 c2 a b V10 XA.num XB.num (by omega) (by omega)
          rw [bothC_yes OA.out OB.out] at hc
          rw [HC.out] at hc
          refine hc.mono ?_
          clear hc
          rintro e V11 ⟨rfl, hb⟩
          clear kXA zXA kXB zXB kXS zXS kXP zXP
          replace XA := XA.below hb
          replace XB := XB.below hb
          replace XS := XS.below hb
          replace XP := XP.below hb
          replace WW := WW.trans (hb.mono WW.size)
          have kXA := XA.cell
          have zXA := XA.lt
          have kXB := XB.cell
          have zXB := XB.lt
          have kXS := XS.cell
          have zXS := XS.lt
          have kXP := XP.cell
          have zXP := XP.lt
          clear hb
          go_wp2_with fail
          have hc := HM.out V11
          rw [HHI.out, HLO.out] at hc
          refine hc.mono ?_
          clear hc
          rintro e w' ⟨rfl, hw⟩
          obtain rfl := hw.symm
          go_wp2_with fail
          rw [CS.out]
          have hc := equal_yes0 A3 c3 (a + b) (a + b) V11 XS.num (by omega) rfl
          refine hc.mono ?_
          clear hc
          rintro e V12 ⟨rfl, hb⟩
          clear kXA zXA kXB zXB kXS zXS kXP zXP
          replace XA := XA.below hb
          replace XB := XB.below hb
          replace XS := XS.below hb
          replace XP := XP.below hb
          replace WW := WW.trans (hb.mono WW.size)
          have kXA := XA.cell
          have zXA := XA.lt
          have kXB := XB.cell
          have zXB := XB.lt
          have kXS := XS.cell
          have zXS := XS.lt
          have kXP := XP.cell
          have zXP := XP.lt
          clear hb
          go_wp2_with fail
          have hc := equal_yes A4 c4 (a * b) lo hi V12 XP.num blo bhi EP.out
          refine hc.mono ?_
          clear hc
          rintro e V13 ⟨rfl, hb⟩
          clear kXA zXA kXB zXB kXS zXS kXP zXP
          replace XA := XA.below hb
          replace XB := XB.below hb
          replace XS := XS.below hb
          replace XP := XP.below hb
          replace WW := WW.trans (hb.mono WW.size)
          have kXA := XA.cell
          have zXA := XA.lt
          have kXB := XB.cell
          have zXB := XB.lt
          have kXS := XS.cell
          have zXS := XS.lt
          have kXP := XP.cell
          have zXP := XP.lt
          clear hb
          go_wp2_with fail
          have hc := div_any A1 A2 _ _ c1 c2 a b V13 XA.num XB.num (by omega) (by omega)
          rw [bothD_yes OA.out OB.out] at hc
          rw [HD.out] at hc
          refine hc.mono ?_
          clear hc
          rintro e V14 ⟨v, u, rfl, hv, hu, hb⟩
          clear kXA zXA kXB zXB kXS zXS kXP zXP
          replace XA := XA.below hb
          replace XB := XB.below hb
          replace XS := XS.below hb
          replace XP := XP.below hb
          replace WW := WW.trans (hb.mono WW.size)
          obtain ⟨A5, c5, rfl, hv'⟩ := hv.open_
          obtain ⟨A6, c6, rfl, hu'⟩ := hu.open_
          clear hv hu
          have kXA := XA.cell
          have zXA := XA.lt
          have kXB := XB.cell
          have zXB := XB.lt
          have kXS := XS.cell
          have zXS := XS.lt
          have kXP := XP.cell
          have zXP := XP.lt
          clear hb
          go_wp2_with fail
          obtain ⟨b0, b1, bw⟩ := boxes2 V14 (.slice A5 (nw qq) c5) (.slice A6 (nw rr) c6)
          clear kXA zXA kXB zXB kXS zXS kXP zXP
          replace XA := XA.below bw
          replace XB := XB.below bw
          replace XS := XS.below bw
          replace XP := XP.below bw
          have XQ := Box.mk b0 hv' bw
          have XR := Box.mk b1 hu' bw
          replace WW := WW.trans (bw.mono WW.size)
          clear bw b0 b1 hv' hu'
          generalize hV : ((V14.alloc (.cells #[.slice A5 (nw qq) c5] 24)).alloc (.cells #[.slice A6 (nw rr) c6] 24)) = V15 at XA XB XS XP XQ XR WW ⊢
          clear hV
          have kXA := XA.cell
          have zXA := XA.lt
          have kXB := XB.cell
          have zXB := XB.lt
          have kXS := XS.cell
          have zXS := XS.lt
          have kXP := XP.cell
          have zXP := XP.lt
          have kXQ := XQ.cell
          have zXQ := XQ.lt
          have kXR := XR.cell
          have zXR := XR.lt
          have XQd := XQ.drew
          have XRd := XR.drew
          have WD := WW.drew
          clear zXA zXB zXS zXP zXQ zXR
          have HQd := hid XQd
          have HRd := hid XRd
          have HWD := hid WD
          clear XQd XRd WD XA XB XS XP XQ XR WW kXA kXB kXS kXP
          go_region_held3 (fun w' => w'.cell? ⟨V14.heap.size, 0, none⟩ = some (.slice A5 (nw qq) c5) ∧ w'.cell? ⟨V14.heap.size + 1, 0, none⟩ = some (.slice A6 (nw rr) c6)) (first | exact ⟨kXQ, kXR⟩ | exact ⟨kQ1, kR1⟩ | exact ⟨kQ2, kR2⟩)
            (first
            | (go_at_call 38; (with_reducible refine (equal_yes0 A5 c5 qq qq _ HQd.out.num (by omega) rfl).mono ?_); rintro e w1 ⟨rfl, hb⟩; have HR1 := hid (HRd.out.below hb); have HQ1 := hid (HQd.out.below hb); have kQ1 := HQ1.out.cell; have kR1 := HR1.out.cell; have HWD1 := hid (HWD.out.trans (hb.mono HWD.out.size)); clear hb)
            | (go_at_call 38; (with_reducible refine (equal_yes0 A6 c6 rr rr _ HR1.out.num (by omega) rfl).mono ?_); rintro e w2 ⟨rfl, hb⟩; have kQ2 := (HQ1.out.below hb).cell; have kR2 := (HR1.out.below hb).cell; have HWD2 := hid (HWD1.out.trans (hb.mono HWD1.out.size)); clear hb))
          all_goals
            go_wp2_with fail
            go_ret
            exact ⟨rfl, HWD2.out⟩
        · have HC : Hid (ordN a b = 0) := by show _ = _; rw [heq]; exact ordN_eq b
          have l1 : (a : Int) ≤ b := by omega
          have l2 : (b : Int) ≤ a := by omega
          clear heq
          have WW := Below.refl w.heap.size w
          go_enter Try.func9, Try.ntmps9
          go_wp2_with fail
          obtain ⟨V0, hV⟩ : ∃ V, V = w := ⟨_, rfl⟩
          rw [← hV]
          replace WW : Below w.heap.size w V0 := by rw [hV]; exact WW
          clear hV
          have hc := awake_any V0
          refine hc.mono ?_
          clear hc
          rintro e V1 ⟨rfl, hb⟩
          replace WW := WW.trans (hb.mono WW.size)
          clear hb
          go_wp2_with fail
          have hc := of_any (a : Int) V1 (by omega) (by omega)
          rw [ofS_nat] at hc
          refine hc.mono ?_
          clear hc
          rintro e V2 ⟨v, rfl, hv, hb⟩
          replace WW := WW.trans (hb.mono WW.size)
          obtain ⟨A1, c1, rfl, hv'⟩ := hv.open_
          clear hv
          clear hb
          go_wp2_with fail
          obtain ⟨b0, bw⟩ := boxes1 V2 (.slice A1 (nw a) c1)
          have XA := Box.mk b0 hv' bw
          replace WW := WW.trans (bw.mono WW.size)
          clear bw b0 hv'
          generalize hV : (V2.alloc (.cells #[.slice A1 (nw a) c1] 24)) = V3 at XA WW ⊢
          clear hV
          have kXA := XA.cell
          have zXA := XA.lt
          have hc := of_any (b : Int) V3 (by omega) (by omega)
          rw [ofS_nat] at hc
          refine hc.mono ?_
          clear hc
          rintro e V4 ⟨v, rfl, hv, hb⟩
          clear kXA zXA
          replace XA := XA.below hb
          replace WW := WW.trans (hb.mono WW.size)
          obtain ⟨A2, c2, rfl, hv'⟩ := hv.open_
          clear hv
          have kXA := XA.cell
          have zXA := XA.lt
          clear hb
          go_wp2_with fail
          obtain ⟨b0, bw⟩ := boxes1 V4 (.slice A2 (nw b) c2)
          clear kXA zXA
          replace XA := XA.below bw
          have XB := Box.mk b0 hv' bw
          replace WW := WW.trans (bw.mono WW.size)
          clear bw b0 hv'
          generalize hV : (V4.alloc (.cells #[.slice A2 (nw b) c2] 24)) = V5 at XA XB WW ⊢
          clear hV
          have kXA := XA.cell
          have zXA := XA.lt
          have kXB := XB.cell
          have zXB := XB.lt
          have hc := int_any A1 _ c1 a V5 XA.num (by omega)
          rw [IA.out] at hc
          refine hc.mono ?_
          clear hc
          rintro e V6 ⟨rfl, hb⟩
          clear kXA zXA kXB zXB
          replace XA := XA.below hb
          replace XB := XB.below hb
          replace WW := WW.trans (hb.mono WW.size)
          have kXA := XA.cell
          have zXA := XA.lt
          have kXB := XB.cell
          have zXB := XB.lt
          clear hb
          go_wp2_with fail
          have hc := add_any A1 A2 _ _ c1 c2 a b V6 XA.num XB.num (by omega) (by omega)
          rw [bothS_yes OA.out OB.out] at hc
          rw [LS.out] at hc
          refine hc.mono ?_
          clear hc
          rintro e V7 ⟨v, rfl, hv, hb⟩
          clear kXA zXA kXB zXB
          replace XA := XA.below hb
          replace XB := XB.below hb
          replace WW := WW.trans (hb.mono WW.size)
          obtain ⟨A3, c3, rfl, hv'⟩ := hv.open_
          clear hv
          have kXA := XA.cell
          have zXA := XA.lt
          have kXB := XB.cell
          have zXB := XB.lt
          clear hb
          go_wp2_with fail
          obtain ⟨b0, bw⟩ := boxes1 V7 (.slice A3 (nw (a + b)) c3)
          clear kXA zXA kXB zXB
          replace XA := XA.below bw
          replace XB := XB.below bw
          have XS := Box.mk b0 hv' bw
          replace WW := WW.trans (bw.mono WW.size)
          clear bw b0 hv'
          generalize hV : (V7.alloc (.cells #[.slice A3 (nw (a + b)) c3] 24)) = V8 at XA XB XS WW ⊢
          clear hV
          have kXA := XA.cell
          have zXA := XA.lt
          have kXB := XB.cell
          have zXB := XB.lt
          have kXS := XS.cell
          have zXS := XS.lt
          have hc := mul_any A1 A2 _ _ c1 c2 a b V8 XA.num XB.num (by omega) (by omega)
          rw [bothS_yes OA.out OB.out] at hc
          rw [LP.out] at hc
          refine hc.mono ?_
          clear hc
          rintro e V9 ⟨v, rfl, hv, hb⟩
          clear kXA zXA kXB zXB kXS zXS
          replace XA := XA.below hb
          replace XB := XB.below hb
          replace XS := XS.below hb
          replace WW := WW.trans (hb.mono WW.size)
          obtain ⟨A4, c4, rfl, hv'⟩ := hv.open_
          clear hv
          have kXA := XA.cell
          have zXA := XA.lt
          have kXB := XB.cell
          have zXB := XB.lt
          have kXS := XS.cell
          have zXS := XS.lt
          clear hb
          go_wp2_with fail
          obtain ⟨b0, bw⟩ := boxes1 V9 (.slice A4 (nw (a * b)) c4)
          clear kXA zXA kXB zXB kXS zXS
          replace XA := XA.below bw
          replace XB := XB.below bw
          replace XS := XS.below bw
          have XP := Box.mk b0 hv' bw
          replace WW := WW.trans (bw.mono WW.size)
          clear bw b0 hv'
          generalize hV : (V9.alloc (.cells #[.slice A4 (nw (a * b)) c4] 24)) = V10 at XA XB XS XP WW ⊢
          clear hV
          have kXA := XA.cell
          have zXA := XA.lt
          have kXB := XB.cell
          have zXB := XB.lt
          have kXS := XS.cell
          have zXS := XS.lt
          have kXP := XP.cell
          have zXP := XP.lt
          have hc := cmp_any A1 A2 _ _ c1 c2 a b V10 XA.num XB.num (by omega) (by omega)
          rw [bothC_yes OA.out OB.out] at hc
          rw [HC.out] at hc
          refine hc.mono ?_
          clear hc
          rintro e V11 ⟨rfl, hb⟩
          clear kXA zXA kXB zXB kXS zXS kXP zXP
          replace XA := XA.below hb
          replace XB := XB.below hb
          replace XS := XS.below hb
          replace XP := XP.below hb
          replace WW := WW.trans (hb.mono WW.size)
          have kXA := XA.cell
          have zXA := XA.lt
          have kXB := XB.cell
          have zXB := XB.lt
          have kXS := XS.cell
          have zXS := XS.lt
          have kXP := XP.cell
          have zXP := XP.lt
          clear hb
          go_wp2_with fail
          have hc := HM.out V11
          rw [HHI.out, HLO.out] at hc
          refine hc.mono ?_
          clear hc
          rintro e w' ⟨rfl, hw⟩
          obtain rfl := hw.symm
          go_wp2_with fail
          rw [CS.out]
          have hc := equal_yes0 A3 c3 (a + b) (a + b) V11 XS.num (by omega) rfl
          refine hc.mono ?_
          clear hc
          rintro e V12 ⟨rfl, hb⟩
          clear kXA zXA kXB zXB kXS zXS kXP zXP
          replace XA := XA.below hb
          replace XB := XB.below hb
          replace XS := XS.below hb
          replace XP := XP.below hb
          replace WW := WW.trans (hb.mono WW.size)
          have kXA := XA.cell
          have zXA := XA.lt
          have kXB := XB.cell
          have zXB := XB.lt
          have kXS := XS.cell
          have zXS := XS.lt
          have kXP := XP.cell
          have zXP := XP.lt
          clear hb
          go_wp2_with fail
          have hc := equal_yes A4 c4 (a * b) lo hi V12 XP.num blo bhi EP.out
          refine hc.mono ?_
          clear hc
          rintro e V13 ⟨rfl, hb⟩
          clear kXA zXA kXB zXB kXS zXS kXP zXP
          replace XA := XA.below hb
          replace XB := XB.below hb
          replace XS := XS.below hb
          replace XP := XP.below hb
          replace WW := WW.trans (hb.mono WW.size)
          have kXA := XA.cell
          have zXA := XA.lt
          have kXB := XB.cell
          have zXB := XB.lt
          have kXS := XS.cell
          have zXS := XS.lt
          have kXP := XP.cell
          have zXP := XP.lt
          clear hb
          go_wp2_with fail
          have hc := div_any A1 A2 _ _ c1 c2 a b V13 XA.num XB.num (by omega) (by omega)
          rw [bothD_yes OA.out OB.out] at hc
          rw [HD.out] at hc
          refine hc.mono ?_
          clear hc
          rintro e V14 ⟨v, u, rfl, hv, hu, hb⟩
          clear kXA zXA kXB zXB kXS zXS kXP zXP
          replace XA := XA.below hb
          replace XB := XB.below hb
          replace XS := XS.below hb
          replace XP := XP.below hb
          replace WW := WW.trans (hb.mono WW.size)
          obtain ⟨A5, c5, rfl, hv'⟩ := hv.open_
          obtain ⟨A6, c6, rfl, hu'⟩ := hu.open_
          clear hv hu
          have kXA := XA.cell
          have zXA := XA.lt
          have kXB := XB.cell
          have zXB := XB.lt
          have kXS := XS.cell
          have zXS := XS.lt
          have kXP := XP.cell
          have zXP := XP.lt
          clear hb
          go_wp2_with fail
          obtain ⟨b0, b1, bw⟩ := boxes2 V14 (.slice A5 (nw qq) c5) (.slice A6 (nw rr) c6)
          clear kXA zXA kXB zXB kXS zXS kXP zXP
          replace XA := XA.below bw
          replace XB := XB.below bw
          replace XS := XS.below bw
          replace XP := XP.below bw
          have XQ := Box.mk b0 hv' bw
          have XR := Box.mk b1 hu' bw
          replace WW := WW.trans (bw.mono WW.size)
          clear bw b0 b1 hv' hu'
          generalize hV : ((V14.alloc (.cells #[.slice A5 (nw qq) c5] 24)).alloc (.cells #[.slice A6 (nw rr) c6] 24)) = V15 at XA XB XS XP XQ XR WW ⊢
          clear hV
          have kXA := XA.cell
          have zXA := XA.lt
          have kXB := XB.cell
          have zXB := XB.lt
          have kXS := XS.cell
          have zXS := XS.lt
          have kXP := XP.cell
          have zXP := XP.lt
          have kXQ := XQ.cell
          have zXQ := XQ.lt
          have kXR := XR.cell
          have zXR := XR.lt
          have XQd := XQ.drew
          have XRd := XR.drew
          have WD := WW.drew
          clear zXA zXB zXS zXP zXQ zXR
          have HQd := hid XQd
          have HRd := hid XRd
          have HWD := hid WD
          clear XQd XRd WD XA XB XS XP XQ XR WW kXA kXB kXS kXP
          go_region_held3 (fun w' => w'.cell? ⟨V14.heap.size, 0, none⟩ = some (.slice A5 (nw qq) c5) ∧ w'.cell? ⟨V14.heap.size + 1, 0, none⟩ = some (.slice A6 (nw rr) c6)) (first | exact ⟨kXQ, kXR⟩ | exact ⟨kQ1, kR1⟩ | exact ⟨kQ2, kR2⟩)
            (first
            | (go_at_call 38; (with_reducible refine (equal_yes0 A5 c5 qq qq _ HQd.out.num (by omega) rfl).mono ?_); rintro e w1 ⟨rfl, hb⟩; have HR1 := hid (HRd.out.below hb); have HQ1 := hid (HQd.out.below hb); have kQ1 := HQ1.out.cell; have kR1 := HR1.out.cell; have HWD1 := hid (HWD.out.trans (hb.mono HWD.out.size)); clear hb)
            | (go_at_call 38; (with_reducible refine (equal_yes0 A6 c6 rr rr _ HR1.out.num (by omega) rfl).mono ?_); rintro e w2 ⟨rfl, hb⟩; have kQ2 := (HQ1.out.below hb).cell; have kR2 := (HR1.out.below hb).cell; have HWD2 := hid (HWD1.out.trans (hb.mono HWD1.out.size)); clear hb))
          all_goals
            go_wp2_with fail
            go_ret
            exact ⟨rfl, HWD2.out⟩
        · have HC := hid (ordN_gt hgt)
          have l1 : (b : Int) < a := by omega
          have WW := Below.refl w.heap.size w
          go_enter Try.func9, Try.ntmps9
          go_wp2_with fail
          obtain ⟨V0, hV⟩ : ∃ V, V = w := ⟨_, rfl⟩
          rw [← hV]
          replace WW : Below w.heap.size w V0 := by rw [hV]; exact WW
          clear hV
          have hc := awake_any V0
          refine hc.mono ?_
          clear hc
          rintro e V1 ⟨rfl, hb⟩
          replace WW := WW.trans (hb.mono WW.size)
          clear hb
          go_wp2_with fail
          have hc := of_any (a : Int) V1 (by omega) (by omega)
          rw [ofS_nat] at hc
          refine hc.mono ?_
          clear hc
          rintro e V2 ⟨v, rfl, hv, hb⟩
          replace WW := WW.trans (hb.mono WW.size)
          obtain ⟨A1, c1, rfl, hv'⟩ := hv.open_
          clear hv
          clear hb
          go_wp2_with fail
          obtain ⟨b0, bw⟩ := boxes1 V2 (.slice A1 (nw a) c1)
          have XA := Box.mk b0 hv' bw
          replace WW := WW.trans (bw.mono WW.size)
          clear bw b0 hv'
          generalize hV : (V2.alloc (.cells #[.slice A1 (nw a) c1] 24)) = V3 at XA WW ⊢
          clear hV
          have kXA := XA.cell
          have zXA := XA.lt
          have hc := of_any (b : Int) V3 (by omega) (by omega)
          rw [ofS_nat] at hc
          refine hc.mono ?_
          clear hc
          rintro e V4 ⟨v, rfl, hv, hb⟩
          clear kXA zXA
          replace XA := XA.below hb
          replace WW := WW.trans (hb.mono WW.size)
          obtain ⟨A2, c2, rfl, hv'⟩ := hv.open_
          clear hv
          have kXA := XA.cell
          have zXA := XA.lt
          clear hb
          go_wp2_with fail
          obtain ⟨b0, bw⟩ := boxes1 V4 (.slice A2 (nw b) c2)
          clear kXA zXA
          replace XA := XA.below bw
          have XB := Box.mk b0 hv' bw
          replace WW := WW.trans (bw.mono WW.size)
          clear bw b0 hv'
          generalize hV : (V4.alloc (.cells #[.slice A2 (nw b) c2] 24)) = V5 at XA XB WW ⊢
          clear hV
          have kXA := XA.cell
          have zXA := XA.lt
          have kXB := XB.cell
          have zXB := XB.lt
          have hc := int_any A1 _ c1 a V5 XA.num (by omega)
          rw [IA.out] at hc
          refine hc.mono ?_
          clear hc
          rintro e V6 ⟨rfl, hb⟩
          clear kXA zXA kXB zXB
          replace XA := XA.below hb
          replace XB := XB.below hb
          replace WW := WW.trans (hb.mono WW.size)
          have kXA := XA.cell
          have zXA := XA.lt
          have kXB := XB.cell
          have zXB := XB.lt
          clear hb
          go_wp2_with fail
          have hc := add_any A1 A2 _ _ c1 c2 a b V6 XA.num XB.num (by omega) (by omega)
          rw [bothS_yes OA.out OB.out] at hc
          rw [LS.out] at hc
          refine hc.mono ?_
          clear hc
          rintro e V7 ⟨v, rfl, hv, hb⟩
          clear kXA zXA kXB zXB
          replace XA := XA.below hb
          replace XB := XB.below hb
          replace WW := WW.trans (hb.mono WW.size)
          obtain ⟨A3, c3, rfl, hv'⟩ := hv.open_
          clear hv
          have kXA := XA.cell
          have zXA := XA.lt
          have kXB := XB.cell
          have zXB := XB.lt
          clear hb
          go_wp2_with fail
          obtain ⟨b0, bw⟩ := boxes1 V7 (.slice A3 (nw (a + b)) c3)
          clear kXA zXA kXB zXB
          replace XA := XA.below bw
          replace XB := XB.below bw
          have XS := Box.mk b0 hv' bw
          replace WW := WW.trans (bw.mono WW.size)
          clear bw b0 hv'
          generalize hV : (V7.alloc (.cells #[.slice A3 (nw (a + b)) c3] 24)) = V8 at XA XB XS WW ⊢
          clear hV
          have kXA := XA.cell
          have zXA := XA.lt
          have kXB := XB.cell
          have zXB := XB.lt
          have kXS := XS.cell
          have zXS := XS.lt
          have hc := mul_any A1 A2 _ _ c1 c2 a b V8 XA.num XB.num (by omega) (by omega)
          rw [bothS_yes OA.out OB.out] at hc
          rw [LP.out] at hc
          refine hc.mono ?_
          clear hc
          rintro e V9 ⟨v, rfl, hv, hb⟩
          clear kXA zXA kXB zXB kXS zXS
          replace XA := XA.below hb
          replace XB := XB.below hb
          replace XS := XS.below hb
          replace WW := WW.trans (hb.mono WW.size)
          obtain ⟨A4, c4, rfl, hv'⟩ := hv.open_
          clear hv
          have kXA := XA.cell
          have zXA := XA.lt
          have kXB := XB.cell
          have zXB := XB.lt
          have kXS := XS.cell
          have zXS := XS.lt
          clear hb
          go_wp2_with fail
          obtain ⟨b0, bw⟩ := boxes1 V9 (.slice A4 (nw (a * b)) c4)
          clear kXA zXA kXB zXB kXS zXS
          replace XA := XA.below bw
          replace XB := XB.below bw
          replace XS := XS.below bw
          have XP := Box.mk b0 hv' bw
          replace WW := WW.trans (bw.mono WW.size)
          clear bw b0 hv'
          generalize hV : (V9.alloc (.cells #[.slice A4 (nw (a * b)) c4] 24)) = V10 at XA XB XS XP WW ⊢
          clear hV
          have kXA := XA.cell
          have zXA := XA.lt
          have kXB := XB.cell
          have zXB := XB.lt
          have kXS := XS.cell
          have zXS := XS.lt
          have kXP := XP.cell
          have zXP := XP.lt
          have hc := cmp_any A1 A2 _ _ c1 c2 a b V10 XA.num XB.num (by omega) (by omega)
          rw [bothC_yes OA.out OB.out] at hc
          rw [HC.out] at hc
          refine hc.mono ?_
          clear hc
          rintro e V11 ⟨rfl, hb⟩
          clear kXA zXA kXB zXB kXS zXS kXP zXP
          replace XA := XA.below hb
          replace XB := XB.below hb
          replace XS := XS.below hb
          replace XP := XP.below hb
          replace WW := WW.trans (hb.mono WW.size)
          have kXA := XA.cell
          have zXA := XA.lt
          have kXB := XB.cell
          have zXB := XB.lt
          have kXS := XS.cell
          have zXS := XS.lt
          have kXP := XP.cell
          have zXP := XP.lt
          clear hb
          go_wp2_with fail
          have hc := HM.out V11
          rw [HHI.out, HLO.out] at hc
          refine hc.mono ?_
          clear hc
          rintro e w' ⟨rfl, hw⟩
          obtain rfl := hw.symm
          go_wp2_with fail
          rw [CS.out]
          have hc := equal_yes0 A3 c3 (a + b) (a + b) V11 XS.num (by omega) rfl
          refine hc.mono ?_
          clear hc
          rintro e V12 ⟨rfl, hb⟩
          clear kXA zXA kXB zXB kXS zXS kXP zXP
          replace XA := XA.below hb
          replace XB := XB.below hb
          replace XS := XS.below hb
          replace XP := XP.below hb
          replace WW := WW.trans (hb.mono WW.size)
          have kXA := XA.cell
          have zXA := XA.lt
          have kXB := XB.cell
          have zXB := XB.lt
          have kXS := XS.cell
          have zXS := XS.lt
          have kXP := XP.cell
          have zXP := XP.lt
          clear hb
          go_wp2_with fail
          have hc := equal_yes A4 c4 (a * b) lo hi V12 XP.num blo bhi EP.out
          refine hc.mono ?_
          clear hc
          rintro e V13 ⟨rfl, hb⟩
          clear kXA zXA kXB zXB kXS zXS kXP zXP
          replace XA := XA.below hb
          replace XB := XB.below hb
          replace XS := XS.below hb
          replace XP := XP.below hb
          replace WW := WW.trans (hb.mono WW.size)
          have kXA := XA.cell
          have zXA := XA.lt
          have kXB := XB.cell
          have zXB := XB.lt
          have kXS := XS.cell
          have zXS := XS.lt
          have kXP := XP.cell
          have zXP := XP.lt
          clear hb
          go_wp2_with fail
          have hc := div_any A1 A2 _ _ c1 c2 a b V13 XA.num XB.num (by omega) (by omega)
          rw [bothD_yes OA.out OB.out] at hc
          rw [HD.out] at hc
          refine hc.mono ?_
          clear hc
          rintro e V14 ⟨v, u, rfl, hv, hu, hb⟩
          clear kXA zXA kXB zXB kXS zXS kXP zXP
          replace XA := XA.below hb
          replace XB := XB.below hb
          replace XS := XS.below hb
          replace XP := XP.below hb
          replace WW := WW.trans (hb.mono WW.size)
          obtain ⟨A5, c5, rfl, hv'⟩ := hv.open_
          obtain ⟨A6, c6, rfl, hu'⟩ := hu.open_
          clear hv hu
          have kXA := XA.cell
          have zXA := XA.lt
          have kXB := XB.cell
          have zXB := XB.lt
          have kXS := XS.cell
          have zXS := XS.lt
          have kXP := XP.cell
          have zXP := XP.lt
          clear hb
          go_wp2_with fail
          obtain ⟨b0, b1, bw⟩ := boxes2 V14 (.slice A5 (nw qq) c5) (.slice A6 (nw rr) c6)
          clear kXA zXA kXB zXB kXS zXS kXP zXP
          replace XA := XA.below bw
          replace XB := XB.below bw
          replace XS := XS.below bw
          replace XP := XP.below bw
          have XQ := Box.mk b0 hv' bw
          have XR := Box.mk b1 hu' bw
          replace WW := WW.trans (bw.mono WW.size)
          clear bw b0 b1 hv' hu'
          generalize hV : ((V14.alloc (.cells #[.slice A5 (nw qq) c5] 24)).alloc (.cells #[.slice A6 (nw rr) c6] 24)) = V15 at XA XB XS XP XQ XR WW ⊢
          clear hV
          have kXA := XA.cell
          have zXA := XA.lt
          have kXB := XB.cell
          have zXB := XB.lt
          have kXS := XS.cell
          have zXS := XS.lt
          have kXP := XP.cell
          have zXP := XP.lt
          have kXQ := XQ.cell
          have zXQ := XQ.lt
          have kXR := XR.cell
          have zXR := XR.lt
          have XQd := XQ.drew
          have XRd := XR.drew
          have WD := WW.drew
          clear zXA zXB zXS zXP zXQ zXR
          have HQd := hid XQd
          have HRd := hid XRd
          have HWD := hid WD
          clear XQd XRd WD XA XB XS XP XQ XR WW kXA kXB kXS kXP
          go_region_held3 (fun w' => w'.cell? ⟨V14.heap.size, 0, none⟩ = some (.slice A5 (nw qq) c5) ∧ w'.cell? ⟨V14.heap.size + 1, 0, none⟩ = some (.slice A6 (nw rr) c6)) (first | exact ⟨kXQ, kXR⟩ | exact ⟨kQ1, kR1⟩ | exact ⟨kQ2, kR2⟩)
            (first
            | (go_at_call 38; (with_reducible refine (equal_yes0 A5 c5 qq qq _ HQd.out.num (by omega) rfl).mono ?_); rintro e w1 ⟨rfl, hb⟩; have HR1 := hid (HRd.out.below hb); have HQ1 := hid (HQd.out.below hb); have kQ1 := HQ1.out.cell; have kR1 := HR1.out.cell; have HWD1 := hid (HWD.out.trans (hb.mono HWD.out.size)); clear hb)
            | (go_at_call 38; (with_reducible refine (equal_yes0 A6 c6 rr rr _ HR1.out.num (by omega) rfl).mono ?_); rintro e w2 ⟨rfl, hb⟩; have kQ2 := (HQ1.out.below hb).cell; have kR2 := (HR1.out.below hb).cell; have HWD2 := hid (HWD1.out.trans (hb.mono HWD1.out.size)); clear hb))
          all_goals
            go_wp2_with fail
            go_ret
            exact ⟨rfl, HWD2.out⟩

end Go.Proofs.Ytlhfaaghfhiaoaa
