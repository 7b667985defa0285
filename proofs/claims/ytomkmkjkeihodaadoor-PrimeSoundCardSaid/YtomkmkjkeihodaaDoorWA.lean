/- WKnuth, WDiv, WLow, WFns, WPow: merged. -/
import Derived.Laws.MathBits
import Derived.Laws.Bits64b
import Derived.Test.YtomkmkjkeihodaaDoorRows
import Derived.Test.YtomkmkjkeihodaaDoorShelf
import Derived.WalkKit
import Derived.WalkSpells
import Derived.WalkLawsBesides
import Derived.Lib.Hide
import Derived.Deep.CutBlock
import Derived.Deep.DeepCutAuto
import Derived.Deep.QuietTactic
import Derived.BigQuiet
import Derived.Lib.TrailingZeros
set_option linter.unusedVariables false
set_option linter.unusedSimpArgs false
namespace Go.Proofs.YtomkmkjkeihodaaDoor.Wd
open Go

/-- One digit: the divisor is p B + r, the dividend u B + v. -/
structure Digit (p r u v : Int) : Prop where
  p1 : 2147483648 ≤ p
  p2 : p < 4294967296
  r1 : 0 ≤ r
  r2 : r < 4294967296
  u1 : 0 ≤ u
  u2 : u < p * 4294967296 + r
  v1 : 0 ≤ v
  v2 : v < 4294967296

def digit (p r u v : Int) : Int := (u * 4294967296 + v) / (p * 4294967296 + r)

structure Guess (p r u v q t : Int) : Prop where
  e : q * p + t = u
  t1 : 0 ≤ t
  t2 : t < 4294967296
  q1 : digit p r u v ≤ q
  q2 : q ≤ 4294967297
  q0 : 0 ≤ q

theorem digit_le {p r u v q : Int} (h : Digit p r u v) (hq : q * (p * 4294967296 + r) ≤ u * 4294967296 + v) : q ≤ digit p r u v := by
  have := h.p1; have := h.r1
  exact (Int.le_ediv_iff_mul_le (by omega)).2 hq

theorem digit_lt {p r u v q : Int} (h : Digit p r u v) (hq : u * 4294967296 + v < q * (p * 4294967296 + r)) : digit p r u v < q := by
  have := h.p1; have := h.r1
  exact (Int.ediv_lt_iff_lt_mul (by omega)).2 hq

theorem digit_nonneg {p r u v : Int} (h : Digit p r u v) : 0 ≤ digit p r u v := by
  have := h.p1; have := h.r1; have := h.u1; have := h.v1
  exact Int.ediv_nonneg (by omega) (by omega)

theorem digit_small {p r u v : Int} (h : Digit p r u v) : digit p r u v < 4294967296 := by
  have := h.u2; have := h.v2
  refine digit_lt h ?_
  generalize p * 4294967296 + r = y at *
  omega

theorem guess_start {p r u v : Int} (h : Digit p r u v) : Guess p r u v (u / p) (u - u / p * p) := by
  have hp1 := h.p1; have hp2 := h.p2; have hr1 := h.r1; have hr2 := h.r2; have hu1 := h.u1; have hu2 := h.u2; have hv1 := h.v1; have hv2 := h.v2
  have hd : u / p * p + u % p = u := by have := Int.mul_ediv_add_emod u p; rw [Int.mul_comm] at this; exact this
  have hm1 := Int.emod_nonneg u (show p ≠ 0 by omega)
  have hm2 := Int.emod_lt_of_pos u (show 0 < p by omega)
  have hq0 : 0 ≤ u / p := Int.ediv_nonneg hu1 (by omega)
  refine ⟨by omega, by omega, by omega, ?_, ?_, hq0⟩
  · -- the digit is at most u / p
    have : digit p r u v < u / p + 1 := by
      refine digit_lt h ?_
      have e : (u / p + 1) * (p * 4294967296 + r) = (u / p * p + p) * 4294967296 + (u / p + 1) * r := by
        rw [Int.mul_add, ← Int.mul_assoc, Int.add_mul (u / p) 1 p, Int.one_mul]
      have hz : 0 ≤ (u / p + 1) * r := Int.mul_nonneg (by omega) hr1
      rw [e]
      omega
    omega
  · have : u / p < 4294967298 := by
      refine (Int.ediv_lt_iff_lt_mul (by omega)).2 ?_
      omega
    omega

/-- The test fails: the guess is the digit. -/
theorem guess_done {p r u v q t : Int} (h : Digit p r u v) (g : Guess p r u v q t) (hr : q * r ≤ 4294967296 * t + v) : q = digit p r u v := by
  have h1 := g.q1
  have : q ≤ digit p r u v := by
    refine digit_le h ?_
    have e : q * (p * 4294967296 + r) = q * p * 4294967296 + q * r := by rw [Int.mul_add, Int.mul_assoc]
    have := g.e
    rw [e]; omega
  omega

/-- The test holds: the guess is too large. -/
theorem guess_large {p r u v q t : Int} (h : Digit p r u v) (g : Guess p r u v q t) (ht : 4294967296 ≤ q ∨ 4294967296 * t + v < q * r) : digit p r u v ≤ q - 1 ∧ 1 ≤ q := by
  have h0 := digit_nonneg h
  rcases ht with ht | ht
  · have := digit_small h; omega
  · have : digit p r u v < q := by
      refine digit_lt h ?_
      have e : q * (p * 4294967296 + r) = q * p * 4294967296 + q * r := by rw [Int.mul_add, Int.mul_assoc]
      have := g.e
      rw [e]; omega
    omega

theorem guess_next {p r u v q t : Int} (h : Digit p r u v) (g : Guess p r u v q t) (ht : 4294967296 ≤ q ∨ 4294967296 * t + v < q * r) (hs : t + p < 4294967296) : Guess p r u v (q - 1) (t + p) := by
  have hl := guess_large h g ht
  have := g.e; have := g.t1; have := g.q2; have := h.p1
  refine ⟨?_, by omega, by omega, by omega, by omega, by omega⟩
  rw [Int.sub_mul]; omega

theorem guess_break {p r u v q t : Int} (h : Digit p r u v) (g : Guess p r u v q t) (ht : 4294967296 ≤ q ∨ 4294967296 * t + v < q * r) (hs : 4294967296 ≤ t + p) : q - 1 = digit p r u v := by
  have hl := guess_large h g ht
  have hv := h.v1
  have : q - 1 ≤ digit p r u v := by
    refine digit_le h ?_
    have e : (q - 1) * (p * 4294967296 + r) = (q * p - p) * 4294967296 + (q - 1) * r := by
      rw [Int.mul_add, ← Int.mul_assoc, Int.sub_mul, Int.one_mul]
    have h2 : (q - 1) * r ≤ 4294967296 * 4294967296 := by
      have a := g.q2; have b := h.r1; have c := h.r2
      exact Int.mul_le_mul (by omega) (by omega) b (by omega)
    have := g.e
    rw [e]; omega
  omega

/-- What is left. -/
theorem digit_rest {p r u v : Int} (h : Digit p r u v) : u * 4294967296 + v - digit p r u v * (p * 4294967296 + r) = (u * 4294967296 + v) % (p * 4294967296 + r) ∧ 0 ≤ (u * 4294967296 + v) % (p * 4294967296 + r) ∧ (u * 4294967296 + v) % (p * 4294967296 + r) < p * 4294967296 + r := by
  have := h.p1; have := h.r1
  refine ⟨?_, Int.emod_nonneg _ (by omega), Int.emod_lt_of_pos _ (by omega)⟩
  have := Int.mul_ediv_add_emod (u * 4294967296 + v) (p * 4294967296 + r)
  unfold digit
  rw [Int.mul_comm] at this
  omega

/-- While the guess is below B: the product fits. -/
theorem guess_fits {p r u v q t : Int} (h : Digit p r u v) (g : Guess p r u v q t) (hq : q < 4294967296) : 0 ≤ q * r ∧ q * r ≤ 18446744073709551615 := by
  have a := g.q0; have b := h.r1; have c := h.r2
  refine ⟨Int.mul_nonneg a b, ?_⟩
  have : q * r ≤ 4294967295 * 4294967295 := Int.mul_le_mul (by omega) (by omega) b (by omega)
  omega


theorem or_apart (a b : Int) (s : Nat) (hs : s ≤ 64) (ha0 : 0 ≤ a) (ha : a * 2 ^ s < 18446744073709551616) (hb0 : 0 ≤ b) (hb : b < 2 ^ s) :
    bits BinOp.or IntKind.u64 (a * 2 ^ s) b = a * 2 ^ s + b := by
  obtain ⟨x, rfl⟩ := Int.eq_ofNat_of_zero_le ha0
  obtain ⟨y, rfl⟩ := Int.eq_ofNat_of_zero_le hb0
  have hp : 2 ^ s ≤ 2 ^ 64 := Nat.pow_le_pow_right (by omega) hs
  have e : ((x : Int) * 2 ^ s) = ((x * 2 ^ s : Nat) : Int) := by simp
  have e2 : (2 : Int) ^ s = ((2 ^ s : Nat) : Int) := by simp
  have hb' : y < 2 ^ s := by rw [e2] at hb; omega
  have ha' : x * 2 ^ s < 18446744073709551616 := by rw [e] at ha; omega
  rw [e, bits_or_u64_nat _ _ ha' (by omega), Nat.mul_comm x, ← Nat.two_pow_add_eq_or_of_lt hb']
  simp

theorem and_low (z : Int) (h0 : 0 ≤ z) (h1 : z ≤ 18446744073709551615) : bits .and .u64 z 4294967295 = z % 4294967296 := Go.and_low32 z h0 (by omega)

/-- The divisor made large, the dividend with it. -/
theorem norm (hi lo y : Int) (s : Nat) (hs : s ≤ 63) (h1 : hi < y) (b0 : 0 ≤ hi) (b1 : 0 ≤ lo) (b2 : lo ≤ 18446744073709551615)
    (y1 : 9223372036854775808 ≤ y * 2 ^ s) (y2 : y * 2 ^ s ≤ 18446744073709551615) :
    ∃ Y U V p r v1 v0 : Int, IntKind.u64.wrap (y * 2 ^ s) = Y ∧ bits BinOp.or IntKind.u64 (IntKind.u64.wrap (hi * 2 ^ s)) (lo / 2 ^ (64 - s)) = U ∧ IntKind.u64.wrap (lo * 2 ^ s) = V ∧
      Y / 4294967296 = p ∧ bits BinOp.and IntKind.u64 Y 4294967295 = r ∧ V / 4294967296 = v1 ∧ bits BinOp.and IntKind.u64 V 4294967295 = v0 ∧
      Digit p r U v1 ∧ 0 ≤ v0 ∧ v0 < 4294967296 ∧ Y = p * 4294967296 + r ∧ V = v1 * 4294967296 + v0 ∧ U * 18446744073709551616 + V = (hi * 18446744073709551616 + lo) * 2 ^ s ∧ Y = y * 2 ^ s := by
  have hT : (2 : Int) ^ s * 2 ^ (64 - s) = 18446744073709551616 := by
    rw [← Int.pow_add, show s + (64 - s) = 64 by omega]; rfl
  have hT0 : (0 : Int) < 2 ^ s := Int.pow_pos (by omega)
  have hT1 : (0 : Int) < 2 ^ (64 - s) := Int.pow_pos (by omega)
  have hh : hi * 2 ^ s + 2 ^ s ≤ y * 2 ^ s := by
    have := Int.mul_le_mul_of_nonneg_right (show hi + 1 ≤ y by omega) (Int.le_of_lt hT0)
    rw [Int.add_mul, Int.one_mul] at this; exact this
  have hh0 : 0 ≤ hi * 2 ^ s := Int.mul_nonneg b0 (by omega)
  have hl0 : 0 ≤ lo / 2 ^ (64 - s) := Int.ediv_nonneg b1 (by omega)
  have hl1 : lo / 2 ^ (64 - s) < 2 ^ s := by
    refine (Int.ediv_lt_iff_lt_mul hT1).2 ?_
    rw [hT]; omega
  have eY : IntKind.u64.wrap (y * 2 ^ s) = y * 2 ^ s := by rw [IntKind.wrap_u64]; omega
  have eH : IntKind.u64.wrap (hi * 2 ^ s) = hi * 2 ^ s := by rw [IntKind.wrap_u64]; omega
  have eU : bits BinOp.or IntKind.u64 (IntKind.u64.wrap (hi * 2 ^ s)) (lo / 2 ^ (64 - s)) = hi * 2 ^ s + lo / 2 ^ (64 - s) := by
    rw [eH]; exact or_apart hi _ s (by omega) b0 (by omega) hl0 hl1
  have eV : IntKind.u64.wrap (lo * 2 ^ s) = lo * 2 ^ s % 18446744073709551616 := IntKind.wrap_u64 _
  have hw : lo / 2 ^ (64 - s) * 18446744073709551616 + lo * 2 ^ s % 18446744073709551616 = lo * 2 ^ s := by
    have e1 : lo * 2 ^ s % 18446744073709551616 = lo % 2 ^ (64 - s) * 2 ^ s := by
      rw [← hT, Int.mul_comm lo, Int.mul_emod_mul_of_pos _ _ hT0, Int.mul_comm]
    have e2 := Int.mul_ediv_add_emod lo (2 ^ (64 - s))
    have e3 : lo / 2 ^ (64 - s) * 18446744073709551616 = 2 ^ (64 - s) * (lo / 2 ^ (64 - s)) * 2 ^ s := by
      rw [← hT, Int.mul_comm (2 ^ s) (2 ^ (64 - s)), ← Int.mul_assoc, Int.mul_comm (lo / 2 ^ (64 - s))]
    rw [e1, e3, ← Int.add_mul, e2]
  have hV0 : 0 ≤ lo * 2 ^ s % 18446744073709551616 := by omega
  have hV1 : lo * 2 ^ s % 18446744073709551616 < 18446744073709551616 := by omega
  have hN : (hi * 2 ^ s + lo / 2 ^ (64 - s)) * 18446744073709551616 + lo * 2 ^ s % 18446744073709551616 = (hi * 18446744073709551616 + lo) * 2 ^ s := by
    rw [Int.add_mul, Int.add_mul, Int.add_assoc, hw, Int.mul_assoc, Int.mul_assoc, Int.mul_comm (2 ^ s) 18446744073709551616]
  have eA : bits BinOp.and IntKind.u64 (y * 2 ^ s) 4294967295 = y * 2 ^ s % 4294967296 := and_low _ (by omega) (by omega)
  have eB : bits BinOp.and IntKind.u64 (lo * 2 ^ s % 18446744073709551616) 4294967295 = lo * 2 ^ s % 18446744073709551616 % 4294967296 := and_low _ (by omega) (by omega)
  refine ⟨y * 2 ^ s, hi * 2 ^ s + lo / 2 ^ (64 - s), lo * 2 ^ s % 18446744073709551616, _, _, _, _, eY, eU, eV, rfl, eA, rfl, eB, ?_, ?_, ?_, ?_, ?_, hN, rfl⟩
  · generalize y * 2 ^ s = Y at *
    generalize lo * 2 ^ s % 18446744073709551616 = V at *
    generalize lo / 2 ^ (64 - s) = l at *
    generalize hi * 2 ^ s = H at *
    constructor <;> omega
  all_goals omega

/-- The quotient and the rest, made small again. -/
theorem denorm (N y Q R : Int) (s : Nat) (h : N * 2 ^ s = Q * (y * 2 ^ s) + R) (r0 : 0 ≤ R) (r1 : R < y * 2 ^ s) :
    Q = N / y ∧ R / 2 ^ s = N % y := by
  have hT0 : (0 : Int) < 2 ^ s := Int.pow_pos (by omega)
  have hq : N * 2 ^ s / (y * 2 ^ s) = N / y := Int.mul_ediv_mul_of_pos_left _ _ hT0
  have hr : N * 2 ^ s % (y * 2 ^ s) = N % y * 2 ^ s := by
    rw [Int.mul_comm N, Int.mul_comm y, Int.mul_emod_mul_of_pos _ _ hT0, Int.mul_comm]
  have hd := Int.ediv_emod_unique (a := N * 2 ^ s) (b := y * 2 ^ s) (r := R) (q := Q) (by omega)
  have := hd.2 ⟨by rw [h, Int.mul_comm Q]; omega, r0, r1⟩
  refine ⟨by rw [← hq]; exact this.1.symm, ?_⟩
  rw [← this.2, hr]
  exact Int.mul_ediv_cancel _ (by omega)

/-- What is left, as the text reckons it: modulo 2^64. -/
theorem rest_wrap {p r u v Y D : Int} (h : Digit p r u v) (hY : Y = p * 4294967296 + r) (hD : digit p r u v = D) :
    IntKind.u64.wrap (IntKind.u64.wrap (IntKind.u64.wrap (u * 4294967296) + v) - IntKind.u64.wrap (D * Y)) = (u * 4294967296 + v) % Y := by
  obtain ⟨e, e0, e1⟩ := digit_rest h
  have := h.p1; have := h.p2; have := h.r1; have := h.r2
  subst hD
  rw [← hY] at e e0 e1
  simp only [IntKind.wrap_u64]
  omega

/-- Two digits. -/
theorem two_digits {p r U v1 v0 Y D D2 V N : Int} (h : Digit p r U v1) (h2 : Digit p r ((U * 4294967296 + v1) % Y) v0) (hY : Y = p * 4294967296 + r) (hV : V = v1 * 4294967296 + v0)
    (hD : digit p r U v1 = D) (hD2 : digit p r ((U * 4294967296 + v1) % Y) v0 = D2) (hN : U * 18446744073709551616 + V = N) :
    N = (D * 4294967296 + D2) * Y + ((U * 4294967296 + v1) % Y * 4294967296 + v0) % Y := by
  obtain ⟨e, _, _⟩ := digit_rest h
  obtain ⟨e2, _, _⟩ := digit_rest h2
  rw [hD, ← hY] at e
  rw [hD2, ← hY] at e2
  generalize (U * 4294967296 + v1) % Y = W at *
  generalize (W * 4294967296 + v0) % Y = R at *
  have : (D * 4294967296 + D2) * Y = D * Y * 4294967296 + D2 * Y := by
    rw [Int.add_mul, Int.mul_assoc, Int.mul_comm 4294967296 Y, Int.mul_assoc]
  rw [this]
  omega

end Go.Proofs.YtomkmkjkeihodaaDoor.Wd

namespace Go.Proofs.YtomkmkjkeihodaaDoor.Wd
open Go.RowKit

def DivGives (N y : Int) (w : World) (e : Ending) (w' : World) : Prop := e = .returned (.tuple #[.int .u64 (N / y), .int .u64 (N % y)]) ∧ w = w'

set_option maxHeartbeats 1000000 in
theorem div_big (hi lo y : Int) (s : Nat) (w : World) (h0 : (y == 0) = false) (h1 : hi < y) (h2 : (hi == 0) = false) (b0 : 0 ≤ hi) (b1 : 0 ≤ lo) (b2 : lo ≤ 18446744073709551615) (b3 : y ≤ 18446744073709551615) (hs : s ≤ 63)
   (y1 : 9223372036854775808 ≤ y * 2 ^ s) (y2 : y * 2 ^ s ≤ 18446744073709551615)
   (hlz : Calls Tryd.prog 84 #[.int .u64 y] w fun e w' => e = .returned (.int .i64 s) ∧ w = w') :
    Calls Tryd.prog 68 #[.int .u64 hi, .int .u64 lo, .int .u64 y] w (DivGives (hi * 18446744073709551616 + lo) y w) := by
  have HL := Lib.hid hlz
  clear hlz
  obtain ⟨Y, U, V, p, r, v1, v0, eY, eU, eV, eP, eR, ev1, ev0, hd, hv0, hv0', hY, hV, hN, hYs⟩ := norm hi lo y s hs h1 b0 b1 b2 y1 y2
  have p1 := hd.p1; have p2 := hd.p2; have r1 := hd.r1; have r2 := hd.r2; have u1 := hd.u1; have u2 := hd.u2; have v1a := hd.v1; have v1b := hd.v2
  have hG := guess_start hd
  have Y0 : 0 ≤ Y := by omega
  have Y1 : Y ≤ 18446744073709551615 := by omega
  have V0 : 0 ≤ V := by omega
  have V1 : V ≤ 18446744073709551615 := by omega
  have U1 : U ≤ 18446744073709551615 := by omega
  obtain ⟨q, eQ⟩ : ∃ q, U / p = q := ⟨_, rfl⟩
  rw [eQ] at hG
  have q0 := hG.q0; have q1 := hG.q2
  obtain ⟨t, eT⟩ : ∃ t, U - q * p = t := ⟨_, rfl⟩
  rw [eT] at hG
  have t0 := hG.t1; have t1 := hG.t2
  have m0 : 0 ≤ q * p := Int.mul_nonneg q0 (by omega)
  have m1 : q * p ≤ 18446744073709551615 := by omega
  obtain ⟨D, eD⟩ : ∃ D : Int, Hid (digit p r U v1 = D) := ⟨_, Lib.hid rfl⟩
  have D0 : 0 ≤ D := by have := digit_nonneg hd; have := eD.out; omega
  have D1 : D < 4294967296 := by have := digit_small hd; have := eD.out; omega
  have eWr := rest_wrap hd hY eD.out
  obtain ⟨W, eW⟩ : ∃ W : Int, Hid ((U * 4294967296 + v1) % Y = W) := ⟨_, Lib.hid rfl⟩
  have W0 : 0 ≤ W := by have := Int.emod_nonneg (U * 4294967296 + v1) (show Y ≠ 0 by omega); have := eW.out; omega
  have W1 : W < Y := by have := Int.emod_lt_of_pos (U * 4294967296 + v1) (show 0 < Y by omega); have := eW.out; omega
  have hd2 : Digit p r W v0 := ⟨p1, p2, r1, r2, W0, by omega, hv0, hv0'⟩
  rw [eW.out] at eWr
  have hG2 := guess_start hd2
  obtain ⟨q2, eQ2⟩ : ∃ q, W / p = q := ⟨_, rfl⟩
  rw [eQ2] at hG2
  have q20 := hG2.q0; have q21 := hG2.q2
  obtain ⟨t2, eT2⟩ : ∃ t, W - q2 * p = t := ⟨_, rfl⟩
  rw [eT2] at hG2
  have t20 := hG2.t1; have t21 := hG2.t2
  have m20 : 0 ≤ q2 * p := Int.mul_nonneg q20 (by omega)
  have m21 : q2 * p ≤ 18446744073709551615 := by omega
  obtain ⟨D2, eD2⟩ : ∃ D : Int, Hid (digit p r W v0 = D) := ⟨_, Lib.hid rfl⟩
  have D20 : 0 ≤ D2 := by have := digit_nonneg hd2; have := eD2.out; omega
  have D21 : D2 < 4294967296 := by have := digit_small hd2; have := eD2.out; omega
  have eRr := rest_wrap hd2 hY eD2.out
  obtain ⟨R, eR'⟩ : ∃ R : Int, Hid ((W * 4294967296 + v0) % Y = R) := ⟨_, Lib.hid rfl⟩
  have R0 : 0 ≤ R := by have := Int.emod_nonneg (W * 4294967296 + v0) (show Y ≠ 0 by omega); have := eR'.out; omega
  have R1 : R < Y := by have := Int.emod_lt_of_pos (W * 4294967296 + v0) (show 0 < Y by omega); have := eR'.out; omega
  rw [eR'.out] at eRr
  have hfin : D * 4294967296 + D2 = (hi * 18446744073709551616 + lo) / y ∧ R / 2 ^ s = (hi * 18446744073709551616 + lo) % y := by
    have ha : Digit p r ((U * 4294967296 + v1) % Y) v0 := by rw [eW.out]; exact hd2
    have hb : digit p r ((U * 4294967296 + v1) % Y) v0 = D2 := by rw [eW.out]; exact eD2.out
    have h2 := two_digits hd ha hY hV eD.out hb hN
    rw [eW.out, eR'.out, hYs] at h2
    exact denorm _ _ _ _ s h2 R0 (by omega)
  have HF := Lib.hid hfin
  have HD2 := Lib.hid hd2
  have HG2 := Lib.hid hG2
  clear hfin hd2 hG2
  have HD := Lib.hid hd
  have HG := Lib.hid hG
  have HY := Lib.hid hY
  have HV := Lib.hid hV
  have HN := Lib.hid hN
  have HS := Lib.hid hYs
  clear hd hG hY hV hN hYs
  go_enter Tryd.func68, Tryd.ntmps68
  go_upto_block 0 with (go_at_call 84; refine (HL.out).mono ?_; rintro e w' ⟨rfl, rfl⟩)
  go_cut [15] (fun a wx => a = .int .u64 D ∧ w = wx)
  case first =>
    go_wp2_with fail
    go_loop [15, 16] (fun a b => ∃ q t : Int, a = .int .u64 q ∧ b = .int .u64 t ∧ Guess p r U v1 q t) (fun a _ => (intOf a).toNat)
    case atStart => exact ⟨_, _, by rw [eQ], rfl, HG.out⟩
    case round =>
      clear HG HG2 q0 q1 eT t0 t1 m0 m1 eQ q20 q21 eT2 t20 t21 m20 m21 eQ2
      obtain ⟨q, t, rfl, rfl, g⟩ := hrel
      have q0 := g.q0; have q1 := g.q2; have t0 := g.t1; have t1 := g.t2
      have G := Lib.hid g
      clear g
      by_cases hA : q < 4294967296 ∧ q * r ≤ 4294967296 * t + v1
      · obtain ⟨hq, hA⟩ := hA
        obtain ⟨f0, f1⟩ := guess_fits HD.out G.out hq
        obtain rfl : D = q := eD.out.symm.trans (guess_done HD.out G.out hA).symm
        clear G
        go_wp2
        go_meet
        exact ⟨rfl, rfl⟩
      · have hB := guess_large HD.out G.out (by omega)
        have hB1 := hB.2
        have hor : 4294967296 ≤ q ∨ 4294967296 * t + v1 < q * r := by omega
        have hE : 4294967296 ≤ t + p → q - 1 = D := fun h => (guess_break HD.out G.out hor h).trans eD.out
        have hn : t + p < 4294967296 → Guess p r U v1 (q - 1) (t + p) := fun h => guess_next HD.out G.out hor h
        have Hn := Lib.hid hn
        have HE := Lib.hid hE
        by_cases hq : q < 4294967296
        · obtain ⟨f0, f1⟩ := guess_fits HD.out G.out hq
          have hlt : 4294967296 * t + v1 < q * r := by omega
          clear hB hA hor hE hn
          go_wp2
          · have hs : 4294967296 ≤ t + p := by assumption
            go_meet
            exact ⟨by rw [HE.out hs], rfl⟩
          · have hs : t + p < 4294967296 := by assumption
            exact ⟨⟨q - 1, t + p, rfl, rfl, Hn.out hs⟩, by simp [intOf]; omega⟩
        · clear hB hA hor hE hn
          go_wp2
          · have hs : 4294967296 ≤ t + p := by assumption
            go_meet
            exact ⟨by rw [HE.out hs], rfl⟩
          · have hs : t + p < 4294967296 := by assumption
            exact ⟨⟨q - 1, t + p, rfl, rfl, Hn.out hs⟩, by simp [intOf]; omega⟩
  case rest =>
    obtain ⟨rfl, rfl⟩ := hcut
    go_upto_block 2 with fail
    go_cut [18] (fun a wx => a = .int .u64 D2 ∧ w = wx)
    case first =>
      go_wp2_with fail
      go_loop [18, 16] (fun a b => ∃ q t : Int, a = .int .u64 q ∧ b = .int .u64 t ∧ Guess p r W v0 q t) (fun a _ => (intOf a).toNat)
      case atStart => exact ⟨_, _, by rw [eQ2], rfl, HG2.out⟩
      case round =>
        clear HG HG2 q0 q1 eT t0 t1 m0 m1 eQ q20 q21 eT2 t20 t21 m20 m21 eQ2
        obtain ⟨q, t, rfl, rfl, g⟩ := hrel
        have q0 := g.q0; have q1 := g.q2; have t0 := g.t1; have t1 := g.t2
        have G := Lib.hid g
        clear g
        by_cases hA : q < 4294967296 ∧ q * r ≤ 4294967296 * t + v0
        · obtain ⟨hq, hA⟩ := hA
          obtain ⟨f0, f1⟩ := guess_fits HD2.out G.out hq
          obtain rfl : D2 = q := eD2.out.symm.trans (guess_done HD2.out G.out hA).symm
          clear G
          go_wp2
          go_meet
          exact ⟨rfl, rfl⟩
        · have hB := guess_large HD2.out G.out (by omega)
          have hB1 := hB.2
          have hor : 4294967296 ≤ q ∨ 4294967296 * t + v0 < q * r := by omega
          have hE : 4294967296 ≤ t + p → q - 1 = D2 := fun h => (guess_break HD2.out G.out hor h).trans eD2.out
          have hn : t + p < 4294967296 → Guess p r W v0 (q - 1) (t + p) := fun h => guess_next HD2.out G.out hor h
          have Hn := Lib.hid hn
          have HE := Lib.hid hE
          by_cases hq : q < 4294967296
          · obtain ⟨f0, f1⟩ := guess_fits HD2.out G.out hq
            have hlt : 4294967296 * t + v0 < q * r := by omega
            clear hB hA hor hE hn
            go_wp2
            · have hs : 4294967296 ≤ t + p := by assumption
              go_meet
              exact ⟨by rw [HE.out hs], rfl⟩
            · have hs : t + p < 4294967296 := by assumption
              exact ⟨⟨q - 1, t + p, rfl, rfl, Hn.out hs⟩, by simp [intOf]; omega⟩
          · clear hB hA hor hE hn
            go_wp2
            · have hs : 4294967296 ≤ t + p := by assumption
              go_meet
              exact ⟨by rw [HE.out hs], rfl⟩
            · have hs : t + p < 4294967296 := by assumption
              exact ⟨⟨q - 1, t + p, rfl, rfl, Hn.out hs⟩, by simp [intOf]; omega⟩
    case rest =>
      obtain ⟨rfl, rfl⟩ := hcut
      go_wp2
      go_ret2
      refine ⟨?_, rfl⟩
      rw [HF.out.1, HF.out.2]
      rfl
end Go.Proofs.YtomkmkjkeihodaaDoor.Wd

namespace Go.Proofs.YtomkmkjkeihodaaDoor.Wd
open Go.RowKit

/-- The call returns v and does nothing else (it may draw). -/
def Ret (v : Value) (w : World) (e : Ending) (w' : World) : Prop := e = .returned v ∧ ∃ n, w' = w.drewN n

theorem ret_int {k : IntKind} {a b : Int} (h : a = b) : Ending.returned (.int k a) = .returned (.int k b) := by rw [h]
theorem ret_two {k l : IntKind} {a b c d : Int} (h : a = b) (h' : c = d) : Ending.returned (.tuple #[.int k a, .int l c]) = .returned (.tuple #[.int k b, .int l d]) := by rw [h, h']

theorem check_any (a b m : Int) (w : World) :
    Calls Tryd.prog 44 #[.int .i64 a, .int .i64 b, .int .i64 m] w (Ret (.int .i64 (if m < 1 ∨ 2305843009213693952 ≤ m then 1 else if a < 0 ∨ m ≤ a ∨ b < 0 ∨ m ≤ b then 2 else 0)) w) := by
  go_enter Tryd.func44, Tryd.ntmps44
  go_wp2
  all_goals
    go_ret
    refine ⟨ret_int ?_, 0, rfl⟩
    repeat' split
  all_goals omega

theorem check_ok (a b m : Int) (w : World) (h1 : 1 ≤ m) (h2 : m < 2305843009213693952) (a0 : 0 ≤ a) (a1 : a < m) (b0 : 0 ≤ b) (b1 : b < m) :
    Calls Tryd.prog 44 #[.int .i64 a, .int .i64 b, .int .i64 m] w (Ret (.int .i64 0) w) := by
  have h := check_any a b m w
  rwa [if_neg (by omega), if_neg (by omega)] at h

theorem check_arg (a b m : Int) (w : World) (h1 : m < 1 ∨ 2305843009213693952 ≤ m) :
    Calls Tryd.prog 44 #[.int .i64 a, .int .i64 b, .int .i64 m] w (Ret (.int .i64 1) w) := by
  have h := check_any a b m w
  rwa [if_pos h1] at h

theorem check_range (a b m : Int) (w : World) (h1 : 1 ≤ m) (h2 : m < 2305843009213693952) (h3 : a < 0 ∨ m ≤ a ∨ b < 0 ∨ m ≤ b) :
    Calls Tryd.prog 44 #[.int .i64 a, .int .i64 b, .int .i64 m] w (Ret (.int .i64 2) w) := by
  have h := check_any a b m w
  rwa [if_neg (by omega), if_pos h3] at h

theorem div_small (lo y : Int) (w : World) (h1 : 0 < y) (b1 : 0 ≤ lo) (b2 : lo ≤ 18446744073709551615) (b3 : y ≤ 18446744073709551615) :
    Calls Tryd.prog 68 #[.int .u64 0, .int .u64 lo, .int .u64 y] w (Ret (.tuple #[.int .u64 (lo / y), .int .u64 (lo % y)]) w) := by
  have h0 : (y == 0) = false := by simp; omega
  go_enter Tryd.func68, Tryd.ntmps68
  go_wp2
  go_quiet (fail)
  go_wp2
  go_ret2
  exact ⟨rfl, _, rfl⟩

theorem bitLenAux_spec : ∀ (f x : Nat), x < 2 ^ f → 0 < x → 1 ≤ Lib.bitLenAux f x ∧ Lib.bitLenAux f x ≤ f ∧ 2 ^ (Lib.bitLenAux f x - 1) ≤ x ∧ x < 2 ^ Lib.bitLenAux f x
  | 0, x, h, h0 => by simp at h; omega
  | f + 1, x, h, h0 => by
    unfold Lib.bitLenAux
    rw [if_neg (by omega)]
    by_cases hx : x / 2 = 0
    · have : x = 1 := by omega
      subst this
      have e : Lib.bitLenAux f (1 / 2) = 0 := by cases f <;> simp [Lib.bitLenAux]
      rw [e]
      simp
    · obtain ⟨a, b, c, d⟩ := bitLenAux_spec f (x / 2) (by rw [Nat.pow_succ] at h; omega) (by omega)
      generalize Lib.bitLenAux f (x / 2) = L at *
      refine ⟨by omega, by omega, ?_, ?_⟩
      · rw [show 1 + L - 1 = (L - 1) + 1 by omega, Nat.pow_succ]; omega
      · rw [show 1 + L = L + 1 by omega, Nat.pow_succ]; omega

theorem bitLen_shifted (y : Nat) (h0 : 0 < y) (h1 : y < 18446744073709551616) : Lib.bitLen y ≤ 64 ∧ 1 ≤ Lib.bitLen y ∧ 9223372036854775808 ≤ y * 2 ^ (64 - Lib.bitLen y) ∧ y * 2 ^ (64 - Lib.bitLen y) < 18446744073709551616 := by
  obtain ⟨a, b, c, d⟩ := bitLenAux_spec 64 y h1 h0
  unfold Lib.bitLen
  generalize Lib.bitLenAux 64 y = L at *
  have h2 : 0 < 2 ^ (64 - L) := Nat.pow_pos (by omega)
  have e1 : 2 ^ (L - 1) * 2 ^ (64 - L) = 9223372036854775808 := by rw [← Nat.pow_add, show L - 1 + (64 - L) = 63 by omega]
  have e2 : 2 ^ L * 2 ^ (64 - L) = 18446744073709551616 := by rw [← Nat.pow_add, show L + (64 - L) = 64 by omega]
  refine ⟨b, a, ?_, ?_⟩
  · rw [← e1]; exact Nat.mul_le_mul_right _ c
  · rw [← e2]; exact Nat.mul_lt_mul_of_pos_right d h2

theorem div_any (hi lo y : Int) (w : World) (h1 : hi < y) (b0 : 0 ≤ hi) (b1 : 0 ≤ lo) (b2 : lo ≤ 18446744073709551615) (b3 : y ≤ 18446744073709551615) :
    Calls Tryd.prog 68 #[.int .u64 hi, .int .u64 lo, .int .u64 y] w (Ret (.tuple #[.int .u64 ((hi * 18446744073709551616 + lo) / y), .int .u64 ((hi * 18446744073709551616 + lo) % y)]) w) := by
  by_cases h : hi = 0
  · subst h
    have := div_small lo y w h1 b1 b2 b3
    rw [show (0 : Int) * 18446744073709551616 + lo = lo by omega]
    exact this
  · obtain ⟨n, rfl⟩ := Int.eq_ofNat_of_zero_le (show 0 ≤ y by omega)
    obtain ⟨c1, c2, c3, c4⟩ := bitLen_shifted n (by omega) (by omega)
    have hz := Tryd.bits_LeadingZeros64 n w (by omega) b3
    rw [Int.toNat_natCast, show (64 - (Lib.bitLen n : Int)) = ((64 - Lib.bitLen n : Nat) : Int) by omega] at hz
    have hs : 64 - Lib.bitLen n ≤ 63 := by omega
    generalize 64 - Lib.bitLen n = s at *
    have e : ((n : Int) * 2 ^ s) = ((n * 2 ^ s : Nat) : Int) := by simp
    refine (div_big hi lo n s w (by simp; omega) h1 (by simp; omega) b0 b1 b2 b3 hs (by rw [e]; omega) (by rw [e]; omega) (hz.mono fun _ _ h => ⟨h.1, h.2.symm⟩)).mono ?_
    rintro e w' ⟨rfl, rfl⟩
    exact ⟨rfl, 0, rfl⟩

theorem product_any (a b m : Int) (w : World) (h1 : 1 ≤ m) (h2 : m < 2305843009213693952) (a0 : 0 ≤ a) (a1 : a < m) (b0 : 0 ≤ b) (b1 : b < m) :
    Calls Tryd.prog 45 #[.int .i64 a, .int .i64 b, .int .i64 m] w (Ret (.int .i64 (a * b % m)) w) := by
  obtain ⟨x, rfl⟩ := Int.eq_ofNat_of_zero_le a0
  obtain ⟨y, rfl⟩ := Int.eq_ofNat_of_zero_le b0
  have hm := Tryd.bits_Mul64 x y (by omega) (by omega) w
  have hp : (x : Int) * y < m * m := Int.lt_of_le_of_lt (Int.mul_le_mul_of_nonneg_left (Int.le_of_lt b1) a0) (Int.mul_lt_mul_of_pos_right a1 (by omega))
  have hp1 : m * m ≤ m * 18446744073709551615 := Int.mul_le_mul_of_nonneg_left (by omega) (by omega)
  have e : ((x : Int) * y) = ((x * y : Nat) : Int) := by simp
  rw [e] at hp ⊢
  have hr0 : 0 ≤ ((x * y : Nat) : Int) % m := Int.emod_nonneg _ (by omega)
  have hr1 : ((x * y : Nat) : Int) % m < m := Int.emod_lt_of_pos _ (by omega)
  clear e
  generalize x * y = z at *
  have hd := div_any ((z / 18446744073709551616 : Nat) : Int) ((z % 18446744073709551616 : Nat) : Int) m w (by omega) (by omega) (by omega) (by omega) (by omega)
  rw [show ((z / 18446744073709551616 : Nat) : Int) * 18446744073709551616 + ((z % 18446744073709551616 : Nat) : Int) = (z : Int) by omega] at hd
  have z0 : (0 : Int) ≤ (z / 18446744073709551616 : Nat) := by omega
  generalize (z / 18446744073709551616 : Nat) = hi at *
  generalize (z % 18446744073709551616 : Nat) = lo at *
  generalize (z : Int) % m = r at *
  generalize (z : Int) / m = q at *
  have HM := Lib.hid hm
  have HD := Lib.hid hd
  clear hm hd hp hp1
  go_enter Tryd.func45, Tryd.ntmps45
  go_wp2_with fail
  refine HM.out.mono ?_
  rintro e w' ⟨rfl, rfl⟩
  go_wp2_with fail
  refine HD.out.mono ?_
  rintro e w' ⟨rfl, n, rfl⟩
  go_wp2_with fail
  go_ret
  exact ⟨rfl, _, rfl⟩

end Go.Proofs.YtomkmkjkeihodaaDoor.Wd

namespace Go.Proofs.YtomkmkjkeihodaaDoor.Wd
open Go.RowKit

/-- The number of the first error. -/
def fault (a b m : Int) : Int := if m < 1 ∨ 2305843009213693952 ≤ m then 1 else if a < 0 ∨ m ≤ a ∨ b < 0 ∨ m ≤ b then 2 else 0

theorem fault_cases (a b m : Int) : fault a b m = 0 ∨ fault a b m = 1 ∨ fault a b m = 2 := by
  unfold fault; repeat' split
  all_goals simp

theorem fault_ok {a b m : Int} (h : fault a b m = 0) : 1 ≤ m ∧ m < 2305843009213693952 ∧ 0 ≤ a ∧ a < m ∧ 0 ≤ b ∧ b < m := by
  unfold fault at h; repeat' split at h
  all_goals omega

theorem fault_zero {a b m : Int} (h1 : 1 ≤ m) (h2 : m < 2305843009213693952) (a0 : 0 ≤ a) (a1 : a < m) (b0 : 0 ≤ b) (b1 : b < m) : fault a b m = 0 := by
  unfold fault; rw [if_neg (by omega), if_neg (by omega)]

theorem check_f (a b m f : Int) (w : World) (h : fault a b m = f) :
    Calls Tryd.prog 44 #[.int .i64 a, .int .i64 b, .int .i64 m] w (Ret (.int .i64 f) w) := by
  have := check_any a b m w
  unfold fault at h
  rwa [h] at this

theorem mul_ok (a b m : Int) (w : World) (h : fault a b m = 0) :
    Calls Tryd.prog 27 #[.int .i64 a, .int .i64 b, .int .i64 m] w (Ret (.tuple #[.int .i64 (a * b % m), .int .i64 0]) w) := by
  obtain ⟨h1, h2, a0, a1, b0, b1⟩ := fault_ok h
  have H := Lib.hid h
  have hp := fun w => product_any a b m w h1 h2 a0 a1 b0 b1
  have HP := Lib.hid hp
  clear h hp
  go_enter Tryd.func27, Tryd.ntmps27
  go_wp2_with (first | (go_at_call 44; refine (check_f _ _ _ _ _ H.out).mono ?_; rintro e w' ⟨rfl, n, rfl⟩) | (go_at_call 45; refine (HP.out _).mono ?_; rintro e w' ⟨rfl, n, rfl⟩))
  go_ret2
  exact ⟨rfl, _, rfl⟩

theorem mul_err (a b m f : Int) (w : World) (h : fault a b m = f) (hf : f = 1 ∨ f = 2) :
    Calls Tryd.prog 27 #[.int .i64 a, .int .i64 b, .int .i64 m] w (Ret (.tuple #[.int .i64 0, .int .i64 f]) w) := by
  have H := Lib.hid h
  clear h
  rcases hf with rfl | rfl
  all_goals
    go_enter Tryd.func27, Tryd.ntmps27
    go_wp2_with (go_at_call 44; refine (check_f _ _ _ _ _ H.out).mono ?_; rintro e w' ⟨rfl, n, rfl⟩)
    go_ret2
    exact ⟨rfl, _, rfl⟩

theorem tmod_least (a m : Int) (h1 : 1 ≤ m) : (if a.tmod m < 0 then a.tmod m + m else a.tmod m) = a % m := by
  have h2 := Int.emod_nonneg a (show m ≠ 0 by omega)
  have h3 := Int.emod_lt_of_pos a (show 0 < m by omega)
  rw [Int.tmod_eq_emod]
  split <;> split <;> omega

theorem tmod_bounds (a m : Int) (h1 : 1 ≤ m) : -m < a.tmod m ∧ a.tmod m < m := by
  have h2 := Int.emod_nonneg a (show m ≠ 0 by omega)
  have h3 := Int.emod_lt_of_pos a (show 0 < m by omega)
  rw [Int.tmod_eq_emod]
  split <;> omega

theorem mul_mod_left (x y m : Int) : x % m * y % m = x * y % m := by rw [Int.mul_emod, Int.emod_emod, ← Int.mul_emod]
theorem mul_mod_right (x y m : Int) : x * (y % m) % m = x * y % m := by rw [Int.mul_emod, Int.emod_emod, ← Int.mul_emod]
theorem add_mul_mod (o x y m : Int) : (o + x % m * y) % m = (o + x * y) % m := by rw [Int.add_emod, mul_mod_left, ← Int.add_emod]

theorem double_even (a b m out : Int) (h2 : b % 2 = 0) : (out + (a + a) % m * (b / 2)) % m = (out + a * b) % m := by
  rw [add_mul_mod]
  have h : b = 2 * (b / 2) := by omega
  have e : a * b = (a + a) * (b / 2) := by
    rw [show a + a = a * 2 by omega, Int.mul_assoc, ← h]
  rw [e]

theorem double_odd (a b m out : Int) (h2 : b % 2 = 1) : ((out + a) % m + (a + a) % m * (b / 2)) % m = (out + a * b) % m := by
  rw [add_mul_mod, Int.emod_add_emod]
  have h : b = 2 * (b / 2) + 1 := by omega
  have e : a * b = a + (a + a) * (b / 2) := by
    rw [show a + a = a * 2 by omega, Int.mul_assoc]
    have : a * b = a * (2 * (b / 2) + 1) := by rw [← h]
    rw [this, Int.mul_add]; omega
  rw [e, Int.add_assoc]

set_option maxHeartbeats 400000 in
theorem ref_mul (a b m : Int) (w : World) (h1 : 1 ≤ m) (h2 : m < 2305843009213693952) (a0 : 0 ≤ a) (a1 : a < m) (b0 : 0 ≤ b) (b1 : b < m) :
    Calls Tryd.prog 58 #[.int .i64 a, .int .i64 b, .int .i64 m] w (Ret (.int .i64 (a * b % m)) w) := by
  by_cases hs : a < 2147483648 ∧ b < 2147483648
  · obtain ⟨ha, hb⟩ := hs
    have p0 : 0 ≤ a * b := Int.mul_nonneg a0 b0
    have p1 : a * b ≤ 2147483648 * 2147483648 := Int.mul_le_mul (by omega) (by omega) b0 (by omega)
    go_enter Tryd.func58, Tryd.ntmps58
    go_wp2
    go_ret
    exact ⟨rfl, 0, rfl⟩
  · obtain ⟨r, hr⟩ : ∃ r, Hid (a * b % m = r) := ⟨_, Lib.hid rfl⟩
    rw [hr.out]
    have hs' : (2147483648 ≤ a) ∨ (a < 2147483648 ∧ 2147483648 ≤ b) := by omega
    clear hs
    rcases hs' with hs | ⟨hs, hs2⟩
    all_goals
      go_enter Tryd.func58, Tryd.ntmps58
      go_wp2
      go_loop [0, 1, 7] (fun x y o => ∃ a b o' : Int, x = .int .i64 a ∧ y = .int .i64 b ∧ o = .int .i64 o' ∧ 0 ≤ a ∧ a < m ∧ 0 ≤ b ∧ b < 2305843009213693952 ∧ 0 ≤ o' ∧ o' < m ∧ (o' + a * b) % m = r) (fun _ y _ => (intOf y).toNat)
      case atStart => exact ⟨_, _, _, rfl, rfl, rfl, a0, a1, b0, by omega, by omega, by omega, by have := hr.out; simpa using this⟩
      case round =>
        clear hs a0 a1 b0 b1
        obtain ⟨a, b, o, rfl, rfl, rfl, a0, a1, b0, b1, o0, o1, he⟩ := hrel
        have HE := Lib.hid he
        clear he
        have oa0 := Int.emod_nonneg (o + a) (show m ≠ 0 by omega)
        have oa1 := Int.emod_lt_of_pos (o + a) (show 0 < m by omega)
        have aa0 := Int.emod_nonneg (a + a) (show m ≠ 0 by omega)
        have aa1 := Int.emod_lt_of_pos (a + a) (show 0 < m by omega)
        by_cases hb : 0 < b
        · by_cases hb2 : b % 2 = 1
          · have Hb := Lib.hid hb2
            have hb3 : (b % 2 == 1) = true := by simp [hb2]
            clear hb2
            go_wp2
            exact ⟨⟨_, _, _, rfl, rfl, rfl, aa0, aa1, by omega, by omega, oa0, oa1, (double_odd a b m o Hb.out).trans HE.out⟩, by simp [intOf]; omega⟩
          · have Hb : Hid (b % 2 = 0) := Lib.hid (by omega)
            have hb3 : (b % 2 == 1) = false := by simp [hb2]
            clear hb2
            go_wp2
            exact ⟨⟨_, _, _, rfl, rfl, rfl, aa0, aa1, by omega, by omega, o0, o1, (double_even a b m o Hb.out).trans HE.out⟩, by simp [intOf]; omega⟩
        · have hb0 : b = 0 := by omega
          have hfin : o = r := by have := HE.out; rw [hb0, Int.mul_zero, Int.add_zero, Int.emod_eq_of_lt o0 o1] at this; exact this
          have HF := Lib.hid hfin
          clear hfin hb0
          go_wp2
          go_ret
          exact ⟨ret_int HF.out, 0, rfl⟩

end Go.Proofs.YtomkmkjkeihodaaDoor.Wd

namespace Go.Proofs.YtomkmkjkeihodaaDoor.Wd
open Go.RowKit

theorem pow_mod (x m : Int) (k : Nat) : (x % m) ^ k % m = x ^ k % m := by
  induction k with
  | zero => simp
  | succ k ih => rw [Int.pow_succ, Int.pow_succ, Int.mul_emod, ih, Int.emod_emod, ← Int.mul_emod]

theorem mul_pow_mod (o x m : Int) (k : Nat) : o * (x % m) ^ k % m = o * x ^ k % m := by
  rw [Int.mul_emod, pow_mod, ← Int.mul_emod]

theorem square_pow (a : Int) (k : Nat) : (a * a) ^ k = a ^ (2 * k) := by
  rw [Int.pow_mul, Int.pow_succ, Int.pow_succ, Int.pow_zero, Int.one_mul]

theorem power_even (o a b m : Int) (h0 : 0 ≤ b) (h2 : b % 2 = 0) : o * (a * a % m) ^ (b / 2).toNat % m = o * a ^ b.toNat % m := by
  rw [mul_pow_mod, square_pow, show 2 * (b / 2).toNat = b.toNat by omega]

theorem power_odd (o a b m : Int) (h0 : 0 ≤ b) (h2 : b % 2 = 1) : (o * a % m) * (a * a % m) ^ (b / 2).toNat % m = o * a ^ b.toNat % m := by
  rw [mul_pow_mod, square_pow, mul_mod_left, show b.toNat = 2 * (b / 2).toNat + 1 by omega, Int.pow_succ, Int.mul_comm (a ^ _) a, Int.mul_assoc]

theorem power_one (m : Int) (h : 1 ≤ m) : 0 ≤ 1 % m ∧ 1 % m < m := ⟨Int.emod_nonneg _ (by omega), Int.emod_lt_of_pos _ (by omega)⟩

theorem and_one (e : Int) (h0 : 0 ≤ e) (h1 : e ≤ 9223372036854775807) : bits BinOp.and IntKind.i64 e 1 = e % 2 := by
  obtain ⟨x, rfl⟩ := Int.eq_ofNat_of_zero_le h0
  have e1 : (BitVec.ofInt 64 (x : Int)).toNat = x := by
    rw [BitVec.ofInt_natCast, BitVec.toNat_ofNat]; exact Nat.mod_eq_of_lt (by omega)
  have e2 : (BitVec.ofInt 64 (1 : Int)).toNat = 1 := by decide
  show IntKind.i64.wrap ((BitVec.ofInt 64 (x : Int) &&& BitVec.ofInt 64 1).toNat : Int) = _
  rw [BitVec.toNat_and, e1, e2, Nat.and_one_is_mod, IntWalk.i64_in _ (by omega)]
  omega

set_option maxHeartbeats 400000 in
theorem ref_pow (a e m : Int) (w : World) (h1 : 1 ≤ m) (h2 : m < 2305843009213693952) (a0 : 0 ≤ a) (a1 : a < m) (b0 : 0 ≤ e) (b1 : e ≤ 9223372036854775807) :
    Calls Tryd.prog 40 #[.int .i64 a, .int .i64 e, .int .i64 m] w (Ret (.int .i64 (a ^ e.toNat % m)) w) := by
  obtain ⟨r, hr⟩ : ∃ r, Hid (a ^ e.toNat % m = r) := ⟨_, Lib.hid rfl⟩
  rw [hr.out]
  obtain ⟨o0, o1⟩ := power_one m h1
  have hst : 1 % m * a ^ e.toNat % m = r := by rw [mul_mod_left, Int.one_mul]; exact hr.out
  have HST := Lib.hid hst
  clear hst
  go_enter Tryd.func40, Tryd.ntmps40
  go_wp2
  go_loopw [0, 1, 7] (fun x y o wr => ∃ a b o' : Int, x = .int .i64 a ∧ y = .int .i64 b ∧ o = .int .i64 o' ∧ 0 ≤ a ∧ a < m ∧ 0 ≤ b ∧ b ≤ 9223372036854775807 ∧ 0 ≤ o' ∧ o' < m ∧ o' * a ^ b.toNat % m = r ∧ ∃ n, wr = w.drewN n) (fun _ y _ _ => (intOf y).toNat)
  case atStart => exact ⟨_, _, _, rfl, rfl, rfl, a0, a1, b0, b1, o0, o1, HST.out, 0, rfl⟩
  case round =>
    clear a0 a1 b0 b1 o0 o1 HST
    obtain ⟨a, b, o, rfl, rfl, rfl, a0, a1, b0, b1, o0, o1, he, n, rfl⟩ := hrel
    have HE := Lib.hid he
    clear he
    have oa0 := Int.emod_nonneg (o * a) (show m ≠ 0 by omega)
    have oa1 := Int.emod_lt_of_pos (o * a) (show 0 < m by omega)
    have aa0 := Int.emod_nonneg (a * a) (show m ≠ 0 by omega)
    have aa1 := Int.emod_lt_of_pos (a * a) (show 0 < m by omega)
    have H1 := Lib.hid fun w => ref_mul o a m w h1 h2 o0 o1 a0 a1
    have H2 := Lib.hid fun w => ref_mul a a m w h1 h2 a0 a1 a0 a1
    by_cases hb : 0 < b
    · by_cases hb2 : b % 2 = 1
      · have Hb := Lib.hid hb2
        have hb3 : (b % 2 == 1) = true := by simp [hb2]
        clear hb2
        go_wp2_with fail
        refine (H1.out _).mono ?_
        rintro e w' ⟨rfl, n1, rfl⟩
        go_wp2_with fail
        refine (H2.out _).mono ?_
        rintro e w' ⟨rfl, n2, rfl⟩
        go_wp2_with fail
        exact ⟨⟨_, _, _, rfl, rfl, rfl, aa0, aa1, by omega, by omega, oa0, oa1, (power_odd o a b m b0 Hb.out).trans HE.out, _, rfl⟩, by simp [intOf]; omega⟩
      · have Hb : Hid (b % 2 = 0) := Lib.hid (by omega)
        have hb3 : (b % 2 == 1) = false := by simp [hb2]
        clear hb2
        go_wp2_with fail
        refine (H2.out _).mono ?_
        rintro e w' ⟨rfl, n2, rfl⟩
        go_wp2_with fail
        exact ⟨⟨_, _, _, rfl, rfl, rfl, aa0, aa1, by omega, by omega, o0, o1, (power_even o a b m b0 Hb.out).trans HE.out, _, rfl⟩, by simp [intOf]; omega⟩
    · have hb0 : b = 0 := by omega
      have hfin : o = r := by have := HE.out; rw [hb0, Int.toNat_zero, Int.pow_zero, Int.mul_one, Int.emod_eq_of_lt o0 o1] at this; exact this
      have HF := Lib.hid hfin
      clear hfin hb0
      go_wp2
      go_ret
      exact ⟨ret_int HF.out, _, rfl⟩

set_option maxHeartbeats 400000 in
theorem pow_ok (a e m : Int) (w : World) (h1 : 1 ≤ m) (h2 : m < 2305843009213693952) (a0 : 0 ≤ a) (a1 : a < m) (b0 : 0 ≤ e) (b1 : e ≤ 9223372036854775807) :
    Calls Tryd.prog 71 #[.int .i64 a, .int .i64 e, .int .i64 m] w (Ret (.tuple #[.int .i64 (a ^ e.toNat % m), .int .i64 0]) w) := by
  obtain ⟨r, hr⟩ : ∃ r, Hid (a ^ e.toNat % m = r) := ⟨_, Lib.hid rfl⟩
  rw [hr.out]
  obtain ⟨o0, o1⟩ := power_one m h1
  have hst : 1 % m * a ^ e.toNat % m = r := by rw [mul_mod_left, Int.one_mul]; exact hr.out
  have HST := Lib.hid hst
  have HC := Lib.hid fun w => check_ok a 0 m w h1 h2 a0 a1 (by omega) (by omega)
  clear hst
  go_enter Tryd.func71, Tryd.ntmps71
  go_wp2_with (go_at_call 44; refine (HC.out _).mono ?_; rintro e w' ⟨rfl, n, rfl⟩)
  go_loopw [0, 1, 9] (fun x y o wr => ∃ a b o' : Int, x = .int .i64 a ∧ y = .int .i64 b ∧ o = .int .i64 o' ∧ 0 ≤ a ∧ a < m ∧ 0 ≤ b ∧ b ≤ 9223372036854775807 ∧ 0 ≤ o' ∧ o' < m ∧ o' * a ^ b.toNat % m = r ∧ ∃ n, wr = w.drewN n) (fun _ y _ _ => (intOf y).toNat)
  case atStart => exact ⟨_, _, _, rfl, rfl, rfl, a0, a1, b0, b1, o0, o1, HST.out, _, rfl⟩
  case round =>
    clear a0 a1 b0 b1 o0 o1 HST
    obtain ⟨a, b, o, rfl, rfl, rfl, a0, a1, b0, b1, o0, o1, he, n, rfl⟩ := hrel
    have HE := Lib.hid he
    clear he
    have oa0 := Int.emod_nonneg (o * a) (show m ≠ 0 by omega)
    have oa1 := Int.emod_lt_of_pos (o * a) (show 0 < m by omega)
    have aa0 := Int.emod_nonneg (a * a) (show m ≠ 0 by omega)
    have aa1 := Int.emod_lt_of_pos (a * a) (show 0 < m by omega)
    have H1 := Lib.hid fun w => product_any o a m w h1 h2 o0 o1 a0 a1
    have H2 := Lib.hid fun w => product_any a a m w h1 h2 a0 a1 a0 a1
    have hand := and_one b b0 b1
    by_cases hb : 0 < b
    · by_cases hb2 : b % 2 = 1
      · have Hb := Lib.hid hb2
        have hb3 : (b % 2 == 1) = true := by simp [hb2]
        clear hb2
        go_wp2_with fail
        refine (H1.out _).mono ?_
        rintro e w' ⟨rfl, n1, rfl⟩
        go_wp2_with fail
        refine (H2.out _).mono ?_
        rintro e w' ⟨rfl, n2, rfl⟩
        go_wp2_with fail
        exact ⟨⟨_, _, _, rfl, rfl, rfl, aa0, aa1, by omega, by omega, oa0, oa1, (power_odd o a b m b0 Hb.out).trans HE.out, _, rfl⟩, by simp [intOf]; omega⟩
      · have Hb : Hid (b % 2 = 0) := Lib.hid (by omega)
        have hb3 : (b % 2 == 1) = false := by simp [hb2]
        clear hb2
        go_wp2_with fail
        refine (H2.out _).mono ?_
        rintro e w' ⟨rfl, n2, rfl⟩
        go_wp2_with fail
        exact ⟨⟨_, _, _, rfl, rfl, rfl, aa0, aa1, by omega, by omega, o0, o1, (power_even o a b m b0 Hb.out).trans HE.out, _, rfl⟩, by simp [intOf]; omega⟩
    · have hb0 : b = 0 := by omega
      have hfin : o = r := by have := HE.out; rw [hb0, Int.toNat_zero, Int.pow_zero, Int.mul_one, Int.emod_eq_of_lt o0 o1] at this; exact this
      have HF := Lib.hid hfin
      clear hfin hb0
      go_wp2
      go_ret2
      exact ⟨ret_two HF.out rfl, _, rfl⟩

theorem pow_arg (a e m : Int) (w : World) (h1 : m < 1 ∨ 2305843009213693952 ≤ m) :
    Calls Tryd.prog 71 #[.int .i64 a, .int .i64 e, .int .i64 m] w (Ret (.tuple #[.int .i64 0, .int .i64 1]) w) := by
  have HC := Lib.hid fun w => check_arg a 0 m w h1
  clear h1
  go_enter Tryd.func71, Tryd.ntmps71
  go_wp2_with (go_at_call 44; refine (HC.out _).mono ?_; rintro e w' ⟨rfl, n, rfl⟩)
  go_ret2
  exact ⟨rfl, _, rfl⟩

theorem pow_range (a e m : Int) (w : World) (h1 : 1 ≤ m) (h2 : m < 2305843009213693952) (h3 : a < 0 ∨ m ≤ a ∨ e < 0) :
    Calls Tryd.prog 71 #[.int .i64 a, .int .i64 e, .int .i64 m] w (Ret (.tuple #[.int .i64 0, .int .i64 2]) w) := by
  by_cases h : a < 0 ∨ m ≤ a
  · have HC := Lib.hid fun w => check_range a 0 m w h1 h2 (by omega)
    clear h3 h
    go_enter Tryd.func71, Tryd.ntmps71
    go_wp2_with (go_at_call 44; refine (HC.out _).mono ?_; rintro e w' ⟨rfl, n, rfl⟩)
    go_ret2
    exact ⟨rfl, _, rfl⟩
  · have HC := Lib.hid fun w => check_ok a 0 m w h1 h2 (by omega) (by omega) (by omega) (by omega)
    have he : e < 0 := by omega
    clear h3 h
    go_enter Tryd.func71, Tryd.ntmps71
    go_wp2_with (go_at_call 44; refine (HC.out _).mono ?_; rintro e w' ⟨rfl, n, rfl⟩)
    go_ret2
    exact ⟨rfl, _, rfl⟩

end Go.Proofs.YtomkmkjkeihodaaDoor.Wd
