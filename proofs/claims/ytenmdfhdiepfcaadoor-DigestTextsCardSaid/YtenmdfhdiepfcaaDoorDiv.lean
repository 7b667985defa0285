/- The library's Div64 divides. -/
import Derived.Test.YtenmdfhdiepfcaaDoorRows
import Derived.Test.YtenmdfhdiepfcaaDoorShelf
import Derived.Test.YtenmdfhdiepfcaaDoorKnuth
import Derived.WalkKit
import Derived.WalkSpells
import Derived.WalkLawsBesides
import Derived.Lib.Hide
import Derived.Deep.CutBlock
import Derived.Deep.DeepCutAuto
set_option linter.unusedVariables false
set_option linter.unusedSimpArgs false
namespace Go.Proofs.YtenmdfhdiepfcaaDoor
open Go.RowKit

def DivGives (N y : Int) (w : World) (e : Ending) (w' : World) : Prop := e = .returned (.tuple #[.int .u64 (N / y), .int .u64 (N % y)]) ∧ w = w'

set_option maxHeartbeats 1000000 in
theorem div_big (hi lo y : Int) (s : Nat) (w : World) (h0 : (y == 0) = false) (h1 : hi < y) (h2 : (hi == 0) = false) (b0 : 0 ≤ hi) (b1 : 0 ≤ lo) (b2 : lo ≤ 18446744073709551615) (b3 : y ≤ 18446744073709551615) (hs : s ≤ 63)
   (y1 : 9223372036854775808 ≤ y * 2 ^ s) (y2 : y * 2 ^ s ≤ 18446744073709551615)
   (hlz : Calls Tryd.prog 68 #[.int .u64 y] w fun e w' => e = .returned (.int .i64 s) ∧ w = w') :
    Calls Tryd.prog 66 #[.int .u64 hi, .int .u64 lo, .int .u64 y] w (DivGives (hi * 18446744073709551616 + lo) y w) := by
  have HL := Lib.hid hlz
  clear hlz
  obtain ⟨Y, U, V, p, r, v1, v0, eY, eU, eV, eP, eR, ev1, ev0, hd, hv0, hv0', hY, hV, hN, hYs⟩ := norm hi lo y s hs h1 b0 b1 b2 y1 y2
  have p1 := hd.p1; have p2 := hd.p2; have r1 := hd.r1; have r2 := hd.r2; have u1 := hd.u1; have u2 := hd.u2; have v1a := hd.v1; have v1b := hd.v2
  have hG := guess_start hd
  have Y0 : 0 ≤ Y := by omega
  have Y1 : Y ≤ 18446744073709551615 := by omega
  have V0 : 0 ≤ V := by omega
  have V1 : V ≤ 18446744073709551615 := by omega
  have U1 : U ≤ 18446744073709551615 := by omega
  obtain ⟨q, eQ⟩ : ∃ q, U / p = q := ⟨_, rfl⟩
  rw [eQ] at hG
  have q0 := hG.q0; have q1 := hG.q2
  obtain ⟨t, eT⟩ : ∃ t, U - q * p = t := ⟨_, rfl⟩
  rw [eT] at hG
  have t0 := hG.t1; have t1 := hG.t2
  have m0 : 0 ≤ q * p := Int.mul_nonneg q0 (by omega)
  have m1 : q * p ≤ 18446744073709551615 := by omega
  obtain ⟨D, eD⟩ : ∃ D : Int, Hid (digit p r U v1 = D) := ⟨_, Lib.hid rfl⟩
  have D0 : 0 ≤ D := by have := digit_nonneg hd; have := eD.out; omega
  have D1 : D < 4294967296 := by have := digit_small hd; have := eD.out; omega
  have eWr := rest_wrap hd hY eD.out
  obtain ⟨W, eW⟩ : ∃ W : Int, Hid ((U * 4294967296 + v1) % Y = W) := ⟨_, Lib.hid rfl⟩
  have W0 : 0 ≤ W := by have := Int.emod_nonneg (U * 4294967296 + v1) (show Y ≠ 0 by omega); have := eW.out; omega
  have W1 : W < Y := by have := Int.emod_lt_of_pos (U * 4294967296 + v1) (show 0 < Y by omega); have := eW.out; omega
  have hd2 : Digit p r W v0 := ⟨p1, p2, r1, r2, W0, by omega, hv0, hv0'⟩
  rw [eW.out] at eWr
  have hG2 := guess_start hd2
  obtain ⟨q2, eQ2⟩ : ∃ q, W / p = q := ⟨_, rfl⟩
  rw [eQ2] at hG2
  have q20 := hG2.q0; have q21 := hG2.q2
  obtain ⟨t2, eT2⟩ : ∃ t, W - q2 * p = t := ⟨_, rfl⟩
  rw [eT2] at hG2
  have t20 := hG2.t1; have t21 := hG2.t2
  have m20 : 0 ≤ q2 * p := Int.mul_nonneg q20 (by omega)
  have m21 : q2 * p ≤ 18446744073709551615 := by omega
  obtain ⟨D2, eD2⟩ : ∃ D : Int, Hid (digit p r W v0 = D) := ⟨_, Lib.hid rfl⟩
  have D20 : 0 ≤ D2 := by have := digit_nonneg hd2; have := eD2.out; omega
  have D21 : D2 < 4294967296 := by have := digit_small hd2; have := eD2.out; omega
  have eRr := rest_wrap hd2 hY eD2.out
  obtain ⟨R, eR'⟩ : ∃ R : Int, Hid ((W * 4294967296 + v0) % Y = R) := ⟨_, Lib.hid rfl⟩
  have R0 : 0 ≤ R := by have := Int.emod_nonneg (W * 4294967296 + v0) (show Y ≠ 0 by omega); have := eR'.out; omega
  have R1 : R < Y := by have := Int.emod_lt_of_pos (W * 4294967296 + v0) (show 0 < Y by omega); have := eR'.out; omega
  rw [eR'.out] at eRr
  have hfin : D * 4294967296 + D2 = (hi * 18446744073709551616 + lo) / y ∧ R / 2 ^ s = (hi * 18446744073709551616 + lo) % y := by
    have ha : Digit p r ((U * 4294967296 + v1) % Y) v0 := by rw [eW.out]; exact hd2
    have hb : digit p r ((U * 4294967296 + v1) % Y) v0 = D2 := by rw [eW.out]; exact eD2.out
    have h2 := two_digits hd ha hY hV eD.out hb hN
    rw [eW.out, eR'.out, hYs] at h2
    exact denorm _ _ _ _ s h2 R0 (by omega)
  have HF := Lib.hid hfin
  have HD2 := Lib.hid hd2
  have HG2 := Lib.hid hG2
  clear hfin hd2 hG2
  have HD := Lib.hid hd
  have HG := Lib.hid hG
  have HY := Lib.hid hY
  have HV := Lib.hid hV
  have HN := Lib.hid hN
  have HS := Lib.hid hYs
  clear hd hG hY hV hN hYs
  go_enter Tryd.func66, Tryd.ntmps66
  go_upto_block 0 with (go_at_call 68; refine (HL.out).mono ?_; rintro e w' ⟨rfl, rfl⟩)
  go_cut [15] (fun a wx => a = .int .u64 D ∧ w = wx)
  case first =>
    go_wp2_with fail
    go_loop [15, 16] (fun a b => ∃ q t : Int, a = .int .u64 q ∧ b = .int .u64 t ∧ Guess p r U v1 q t) (fun a _ => (intOf a).toNat)
    case atStart => exact ⟨_, _, by rw [eQ], rfl, HG.out⟩
    case round =>
      clear HG HG2 q0 q1 eT t0 t1 m0 m1 eQ q20 q21 eT2 t20 t21 m20 m21 eQ2
      obtain ⟨q, t, rfl, rfl, g⟩ := hrel
      have q0 := g.q0; have q1 := g.q2; have t0 := g.t1; have t1 := g.t2
      have G := Lib.hid g
      clear g
      by_cases hA : q < 4294967296 ∧ q * r ≤ 4294967296 * t + v1
      · obtain ⟨hq, hA⟩ := hA
        obtain ⟨f0, f1⟩ := guess_fits HD.out G.out hq
        obtain rfl : D = q := eD.out.symm.trans (guess_done HD.out G.out hA).symm
        clear G
        go_wp2
        go_meet
        exact ⟨rfl, rfl⟩
      · have hB := guess_large HD.out G.out (by omega)
        have hB1 := hB.2
        have hor : 4294967296 ≤ q ∨ 4294967296 * t + v1 < q * r := by omega
        have hE : 4294967296 ≤ t + p → q - 1 = D := fun h => (guess_break HD.out G.out hor h).trans eD.out
        have hn : t + p < 4294967296 → Guess p r U v1 (q - 1) (t + p) := fun h => guess_next HD.out G.out hor h
        have Hn := Lib.hid hn
        have HE := Lib.hid hE
        by_cases hq : q < 4294967296
        · obtain ⟨f0, f1⟩ := guess_fits HD.out G.out hq
          have hlt : 4294967296 * t + v1 < q * r := by omega
          clear hB hA hor hE hn
          go_wp2
          · have hs : 4294967296 ≤ t + p := by assumption
            go_meet
            exact ⟨by rw [HE.out hs], rfl⟩
          · have hs : t + p < 4294967296 := by assumption
            exact ⟨⟨q - 1, t + p, rfl, rfl, Hn.out hs⟩, by simp [intOf]; omega⟩
        · clear hB hA hor hE hn
          go_wp2
          · have hs : 4294967296 ≤ t + p := by assumption
            go_meet
            exact ⟨by rw [HE.out hs], rfl⟩
          · have hs : t + p < 4294967296 := by assumption
            exact ⟨⟨q - 1, t + p, rfl, rfl, Hn.out hs⟩, by simp [intOf]; omega⟩
  case rest =>
    obtain ⟨rfl, rfl⟩ := hcut
    go_upto_block 2 with fail
    go_cut [18] (fun a wx => a = .int .u64 D2 ∧ w = wx)
    case first =>
      go_wp2_with fail
      go_loop [18, 16] (fun a b => ∃ q t : Int, a = .int .u64 q ∧ b = .int .u64 t ∧ Guess p r W v0 q t) (fun a _ => (intOf a).toNat)
      case atStart => exact ⟨_, _, by rw [eQ2], rfl, HG2.out⟩
      case round =>
        clear HG HG2 q0 q1 eT t0 t1 m0 m1 eQ q20 q21 eT2 t20 t21 m20 m21 eQ2
        obtain ⟨q, t, rfl, rfl, g⟩ := hrel
        have q0 := g.q0; have q1 := g.q2; have t0 := g.t1; have t1 := g.t2
        have G := Lib.hid g
        clear g
        by_cases hA : q < 4294967296 ∧ q * r ≤ 4294967296 * t + v0
        · obtain ⟨hq, hA⟩ := hA
          obtain ⟨f0, f1⟩ := guess_fits HD2.out G.out hq
          obtain rfl : D2 = q := eD2.out.symm.trans (guess_done HD2.out G.out hA).symm
          clear G
          go_wp2
          go_meet
          exact ⟨rfl, rfl⟩
        · have hB := guess_large HD2.out G.out (by omega)
          have hB1 := hB.2
          have hor : 4294967296 ≤ q ∨ 4294967296 * t + v0 < q * r := by omega
          have hE : 4294967296 ≤ t + p → q - 1 = D2 := fun h => (guess_break HD2.out G.out hor h).trans eD2.out
          have hn : t + p < 4294967296 → Guess p r W v0 (q - 1) (t + p) := fun h => guess_next HD2.out G.out hor h
          have Hn := Lib.hid hn
          have HE := Lib.hid hE
          by_cases hq : q < 4294967296
          · obtain ⟨f0, f1⟩ := guess_fits HD2.out G.out hq
            have hlt : 4294967296 * t + v0 < q * r := by omega
            clear hB hA hor hE hn
            go_wp2
            · have hs : 4294967296 ≤ t + p := by assumption
              go_meet
              exact ⟨by rw [HE.out hs], rfl⟩
            · have hs : t + p < 4294967296 := by assumption
              exact ⟨⟨q - 1, t + p, rfl, rfl, Hn.out hs⟩, by simp [intOf]; omega⟩
          · clear hB hA hor hE hn
            go_wp2
            · have hs : 4294967296 ≤ t + p := by assumption
              go_meet
              exact ⟨by rw [HE.out hs], rfl⟩
            · have hs : t + p < 4294967296 := by assumption
              exact ⟨⟨q - 1, t + p, rfl, rfl, Hn.out hs⟩, by simp [intOf]; omega⟩
    case rest =>
      obtain ⟨rfl, rfl⟩ := hcut
      go_wp2
      go_ret2
      refine ⟨?_, rfl⟩
      rw [HF.out.1, HF.out.2]
      rfl
end Go.Proofs.YtenmdfhdiepfcaaDoor
