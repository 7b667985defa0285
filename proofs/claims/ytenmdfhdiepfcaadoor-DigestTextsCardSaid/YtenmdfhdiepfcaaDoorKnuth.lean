/- Long division of two words by one, one half word at a time: plain arithmetic. -/
import Derived.Laws.MathBits
import Derived.Laws.Bits64b
namespace Go.Proofs.YtenmdfhdiepfcaaDoor
open Go

/-- One digit: the divisor is p B + r, the dividend u B + v. -/
structure Digit (p r u v : Int) : Prop where
  p1 : 2147483648 ≤ p
  p2 : p < 4294967296
  r1 : 0 ≤ r
  r2 : r < 4294967296
  u1 : 0 ≤ u
  u2 : u < p * 4294967296 + r
  v1 : 0 ≤ v
  v2 : v < 4294967296

def digit (p r u v : Int) : Int := (u * 4294967296 + v) / (p * 4294967296 + r)

structure Guess (p r u v q t : Int) : Prop where
  e : q * p + t = u
  t1 : 0 ≤ t
  t2 : t < 4294967296
  q1 : digit p r u v ≤ q
  q2 : q ≤ 4294967297
  q0 : 0 ≤ q

theorem digit_le {p r u v q : Int} (h : Digit p r u v) (hq : q * (p * 4294967296 + r) ≤ u * 4294967296 + v) : q ≤ digit p r u v := by
  have := h.p1; have := h.r1
  exact (Int.le_ediv_iff_mul_le (by omega)).2 hq

theorem digit_lt {p r u v q : Int} (h : Digit p r u v) (hq : u * 4294967296 + v < q * (p * 4294967296 + r)) : digit p r u v < q := by
  have := h.p1; have := h.r1
  exact (Int.ediv_lt_iff_lt_mul (by omega)).2 hq

theorem digit_nonneg {p r u v : Int} (h : Digit p r u v) : 0 ≤ digit p r u v := by
  have := h.p1; have := h.r1; have := h.u1; have := h.v1
  exact Int.ediv_nonneg (by omega) (by omega)

theorem digit_small {p r u v : Int} (h : Digit p r u v) : digit p r u v < 4294967296 := by
  have := h.u2; have := h.v2
  refine digit_lt h ?_
  generalize p * 4294967296 + r = y at *
  omega

theorem guess_start {p r u v : Int} (h : Digit p r u v) : Guess p r u v (u / p) (u - u / p * p) := by
  have hp1 := h.p1; have hp2 := h.p2; have hr1 := h.r1; have hr2 := h.r2; have hu1 := h.u1; have hu2 := h.u2; have hv1 := h.v1; have hv2 := h.v2
  have hd : u / p * p + u % p = u := by have := Int.mul_ediv_add_emod u p; rw [Int.mul_comm] at this; exact this
  have hm1 := Int.emod_nonneg u (show p ≠ 0 by omega)
  have hm2 := Int.emod_lt_of_pos u (show 0 < p by omega)
  have hq0 : 0 ≤ u / p := Int.ediv_nonneg hu1 (by omega)
  refine ⟨by omega, by omega, by omega, ?_, ?_, hq0⟩
  · -- the digit is at most u / p
    have : digit p r u v < u / p + 1 := by
      refine digit_lt h ?_
      have e : (u / p + 1) * (p * 4294967296 + r) = (u / p * p + p) * 4294967296 + (u / p + 1) * r := by
        rw [Int.mul_add, ← Int.mul_assoc, Int.add_mul (u / p) 1 p, Int.one_mul]
      have hz : 0 ≤ (u / p + 1) * r := Int.mul_nonneg (by omega) hr1
      rw [e]
      omega
    omega
  · have : u / p < 4294967298 := by
      refine (Int.ediv_lt_iff_lt_mul (by omega)).2 ?_
      omega
    omega

/-- The test fails: the guess is the digit. -/
theorem guess_done {p r u v q t : Int} (h : Digit p r u v) (g : Guess p r u v q t) (hr : q * r ≤ 4294967296 * t + v) : q = digit p r u v := by
  have h1 := g.q1
  have : q ≤ digit p r u v := by
    refine digit_le h ?_
    have e : q * (p * 4294967296 + r) = q * p * 4294967296 + q * r := by rw [Int.mul_add, Int.mul_assoc]
    have := g.e
    rw [e]; omega
  omega

/-- The test holds: the guess is too large. -/
theorem guess_large {p r u v q t : Int} (h : Digit p r u v) (g : Guess p r u v q t) (ht : 4294967296 ≤ q ∨ 4294967296 * t + v < q * r) : digit p r u v ≤ q - 1 ∧ 1 ≤ q := by
  have h0 := digit_nonneg h
  rcases ht with ht | ht
  · have := digit_small h; omega
  · have : digit p r u v < q := by
      refine digit_lt h ?_
      have e : q * (p * 4294967296 + r) = q * p * 4294967296 + q * r := by rw [Int.mul_add, Int.mul_assoc]
      have := g.e
      rw [e]; omega
    omega

theorem guess_next {p r u v q t : Int} (h : Digit p r u v) (g : Guess p r u v q t) (ht : 4294967296 ≤ q ∨ 4294967296 * t + v < q * r) (hs : t + p < 4294967296) : Guess p r u v (q - 1) (t + p) := by
  have hl := guess_large h g ht
  have := g.e; have := g.t1; have := g.q2; have := h.p1
  refine ⟨?_, by omega, by omega, by omega, by omega, by omega⟩
  rw [Int.sub_mul]; omega

theorem guess_break {p r u v q t : Int} (h : Digit p r u v) (g : Guess p r u v q t) (ht : 4294967296 ≤ q ∨ 4294967296 * t + v < q * r) (hs : 4294967296 ≤ t + p) : q - 1 = digit p r u v := by
  have hl := guess_large h g ht
  have hv := h.v1
  have : q - 1 ≤ digit p r u v := by
    refine digit_le h ?_
    have e : (q - 1) * (p * 4294967296 + r) = (q * p - p) * 4294967296 + (q - 1) * r := by
      rw [Int.mul_add, ← Int.mul_assoc, Int.sub_mul, Int.one_mul]
    have h2 : (q - 1) * r ≤ 4294967296 * 4294967296 := by
      have a := g.q2; have b := h.r1; have c := h.r2
      exact Int.mul_le_mul (by omega) (by omega) b (by omega)
    have := g.e
    rw [e]; omega
  omega

/-- What is left. -/
theorem digit_rest {p r u v : Int} (h : Digit p r u v) : u * 4294967296 + v - digit p r u v * (p * 4294967296 + r) = (u * 4294967296 + v) % (p * 4294967296 + r) ∧ 0 ≤ (u * 4294967296 + v) % (p * 4294967296 + r) ∧ (u * 4294967296 + v) % (p * 4294967296 + r) < p * 4294967296 + r := by
  have := h.p1; have := h.r1
  refine ⟨?_, Int.emod_nonneg _ (by omega), Int.emod_lt_of_pos _ (by omega)⟩
  have := Int.mul_ediv_add_emod (u * 4294967296 + v) (p * 4294967296 + r)
  unfold digit
  rw [Int.mul_comm] at this
  omega

/-- While the guess is below B: the product fits. -/
theorem guess_fits {p r u v q t : Int} (h : Digit p r u v) (g : Guess p r u v q t) (hq : q < 4294967296) : 0 ≤ q * r ∧ q * r ≤ 18446744073709551615 := by
  have a := g.q0; have b := h.r1; have c := h.r2
  refine ⟨Int.mul_nonneg a b, ?_⟩
  have : q * r ≤ 4294967295 * 4294967295 := Int.mul_le_mul (by omega) (by omega) b (by omega)
  omega


theorem or_apart (a b : Int) (s : Nat) (hs : s ≤ 64) (ha0 : 0 ≤ a) (ha : a * 2 ^ s < 18446744073709551616) (hb0 : 0 ≤ b) (hb : b < 2 ^ s) :
    bits BinOp.or IntKind.u64 (a * 2 ^ s) b = a * 2 ^ s + b := by
  obtain ⟨x, rfl⟩ := Int.eq_ofNat_of_zero_le ha0
  obtain ⟨y, rfl⟩ := Int.eq_ofNat_of_zero_le hb0
  have hp : 2 ^ s ≤ 2 ^ 64 := Nat.pow_le_pow_right (by omega) hs
  have e : ((x : Int) * 2 ^ s) = ((x * 2 ^ s : Nat) : Int) := by simp
  have e2 : (2 : Int) ^ s = ((2 ^ s : Nat) : Int) := by simp
  have hb' : y < 2 ^ s := by rw [e2] at hb; omega
  have ha' : x * 2 ^ s < 18446744073709551616 := by rw [e] at ha; omega
  rw [e, bits_or_u64_nat _ _ ha' (by omega), Nat.mul_comm x, ← Nat.two_pow_add_eq_or_of_lt hb']
  simp

theorem and_low (z : Int) (h0 : 0 ≤ z) (h1 : z ≤ 18446744073709551615) : bits .and .u64 z 4294967295 = z % 4294967296 := Go.and_low32 z h0 (by omega)

/-- The divisor made large, the dividend with it. -/
theorem norm (hi lo y : Int) (s : Nat) (hs : s ≤ 63) (h1 : hi < y) (b0 : 0 ≤ hi) (b1 : 0 ≤ lo) (b2 : lo ≤ 18446744073709551615)
    (y1 : 9223372036854775808 ≤ y * 2 ^ s) (y2 : y * 2 ^ s ≤ 18446744073709551615) :
    ∃ Y U V p r v1 v0 : Int, IntKind.u64.wrap (y * 2 ^ s) = Y ∧ bits BinOp.or IntKind.u64 (IntKind.u64.wrap (hi * 2 ^ s)) (lo / 2 ^ (64 - s)) = U ∧ IntKind.u64.wrap (lo * 2 ^ s) = V ∧
      Y / 4294967296 = p ∧ bits BinOp.and IntKind.u64 Y 4294967295 = r ∧ V / 4294967296 = v1 ∧ bits BinOp.and IntKind.u64 V 4294967295 = v0 ∧
      Digit p r U v1 ∧ 0 ≤ v0 ∧ v0 < 4294967296 ∧ Y = p * 4294967296 + r ∧ V = v1 * 4294967296 + v0 ∧ U * 18446744073709551616 + V = (hi * 18446744073709551616 + lo) * 2 ^ s ∧ Y = y * 2 ^ s := by
  have hT : (2 : Int) ^ s * 2 ^ (64 - s) = 18446744073709551616 := by
    rw [← Int.pow_add, show s + (64 - s) = 64 by omega]; rfl
  have hT0 : (0 : Int) < 2 ^ s := Int.pow_pos (by omega)
  have hT1 : (0 : Int) < 2 ^ (64 - s) := Int.pow_pos (by omega)
  have hh : hi * 2 ^ s + 2 ^ s ≤ y * 2 ^ s := by
    have := Int.mul_le_mul_of_nonneg_right (show hi + 1 ≤ y by omega) (Int.le_of_lt hT0)
    rw [Int.add_mul, Int.one_mul] at this; exact this
  have hh0 : 0 ≤ hi * 2 ^ s := Int.mul_nonneg b0 (by omega)
  have hl0 : 0 ≤ lo / 2 ^ (64 - s) := Int.ediv_nonneg b1 (by omega)
  have hl1 : lo / 2 ^ (64 - s) < 2 ^ s := by
    refine (Int.ediv_lt_iff_lt_mul hT1).2 ?_
    rw [hT]; omega
  have eY : IntKind.u64.wrap (y * 2 ^ s) = y * 2 ^ s := by rw [IntKind.wrap_u64]; omega
  have eH : IntKind.u64.wrap (hi * 2 ^ s) = hi * 2 ^ s := by rw [IntKind.wrap_u64]; omega
  have eU : bits BinOp.or IntKind.u64 (IntKind.u64.wrap (hi * 2 ^ s)) (lo / 2 ^ (64 - s)) = hi * 2 ^ s + lo / 2 ^ (64 - s) := by
    rw [eH]; exact or_apart hi _ s (by omega) b0 (by omega) hl0 hl1
  have eV : IntKind.u64.wrap (lo * 2 ^ s) = lo * 2 ^ s % 18446744073709551616 := IntKind.wrap_u64 _
  have hw : lo / 2 ^ (64 - s) * 18446744073709551616 + lo * 2 ^ s % 18446744073709551616 = lo * 2 ^ s := by
    have e1 : lo * 2 ^ s % 18446744073709551616 = lo % 2 ^ (64 - s) * 2 ^ s := by
      rw [← hT, Int.mul_comm lo, Int.mul_emod_mul_of_pos _ _ hT0, Int.mul_comm]
    have e2 := Int.mul_ediv_add_emod lo (2 ^ (64 - s))
    have e3 : lo / 2 ^ (64 - s) * 18446744073709551616 = 2 ^ (64 - s) * (lo / 2 ^ (64 - s)) * 2 ^ s := by
      rw [← hT, Int.mul_comm (2 ^ s) (2 ^ (64 - s)), ← Int.mul_assoc, Int.mul_comm (lo / 2 ^ (64 - s))]
    rw [e1, e3, ← Int.add_mul, e2]
  have hV0 : 0 ≤ lo * 2 ^ s % 18446744073709551616 := by omega
  have hV1 : lo * 2 ^ s % 18446744073709551616 < 18446744073709551616 := by omega
  have hN : (hi * 2 ^ s + lo / 2 ^ (64 - s)) * 18446744073709551616 + lo * 2 ^ s % 18446744073709551616 = (hi * 18446744073709551616 + lo) * 2 ^ s := by
    rw [Int.add_mul, Int.add_mul, Int.add_assoc, hw, Int.mul_assoc, Int.mul_assoc, Int.mul_comm (2 ^ s) 18446744073709551616]
  have eA : bits BinOp.and IntKind.u64 (y * 2 ^ s) 4294967295 = y * 2 ^ s % 4294967296 := and_low _ (by omega) (by omega)
  have eB : bits BinOp.and IntKind.u64 (lo * 2 ^ s % 18446744073709551616) 4294967295 = lo * 2 ^ s % 18446744073709551616 % 4294967296 := and_low _ (by omega) (by omega)
  refine ⟨y * 2 ^ s, hi * 2 ^ s + lo / 2 ^ (64 - s), lo * 2 ^ s % 18446744073709551616, _, _, _, _, eY, eU, eV, rfl, eA, rfl, eB, ?_, ?_, ?_, ?_, ?_, hN, rfl⟩
  · generalize y * 2 ^ s = Y at *
    generalize lo * 2 ^ s % 18446744073709551616 = V at *
    generalize lo / 2 ^ (64 - s) = l at *
    generalize hi * 2 ^ s = H at *
    constructor <;> omega
  all_goals omega

/-- The quotient and the rest, made small again. -/
theorem denorm (N y Q R : Int) (s : Nat) (h : N * 2 ^ s = Q * (y * 2 ^ s) + R) (r0 : 0 ≤ R) (r1 : R < y * 2 ^ s) :
    Q = N / y ∧ R / 2 ^ s = N % y := by
  have hT0 : (0 : Int) < 2 ^ s := Int.pow_pos (by omega)
  have hq : N * 2 ^ s / (y * 2 ^ s) = N / y := Int.mul_ediv_mul_of_pos_left _ _ hT0
  have hr : N * 2 ^ s % (y * 2 ^ s) = N % y * 2 ^ s := by
    rw [Int.mul_comm N, Int.mul_comm y, Int.mul_emod_mul_of_pos _ _ hT0, Int.mul_comm]
  have hd := Int.ediv_emod_unique (a := N * 2 ^ s) (b := y * 2 ^ s) (r := R) (q := Q) (by omega)
  have := hd.2 ⟨by rw [h, Int.mul_comm Q]; omega, r0, r1⟩
  refine ⟨by rw [← hq]; exact this.1.symm, ?_⟩
  rw [← this.2, hr]
  exact Int.mul_ediv_cancel _ (by omega)

/-- What is left, as the text reckons it: modulo 2^64. -/
theorem rest_wrap {p r u v Y D : Int} (h : Digit p r u v) (hY : Y = p * 4294967296 + r) (hD : digit p r u v = D) :
    IntKind.u64.wrap (IntKind.u64.wrap (IntKind.u64.wrap (u * 4294967296) + v) - IntKind.u64.wrap (D * Y)) = (u * 4294967296 + v) % Y := by
  obtain ⟨e, e0, e1⟩ := digit_rest h
  have := h.p1; have := h.p2; have := h.r1; have := h.r2
  subst hD
  rw [← hY] at e e0 e1
  simp only [IntKind.wrap_u64]
  omega

/-- Two digits. -/
theorem two_digits {p r U v1 v0 Y D D2 V N : Int} (h : Digit p r U v1) (h2 : Digit p r ((U * 4294967296 + v1) % Y) v0) (hY : Y = p * 4294967296 + r) (hV : V = v1 * 4294967296 + v0)
    (hD : digit p r U v1 = D) (hD2 : digit p r ((U * 4294967296 + v1) % Y) v0 = D2) (hN : U * 18446744073709551616 + V = N) :
    N = (D * 4294967296 + D2) * Y + ((U * 4294967296 + v1) % Y * 4294967296 + v0) % Y := by
  obtain ⟨e, _, _⟩ := digit_rest h
  obtain ⟨e2, _, _⟩ := digit_rest h2
  rw [hD, ← hY] at e
  rw [hD2, ← hY] at e2
  generalize (U * 4294967296 + v1) % Y = W at *
  generalize (W * 4294967296 + v0) % Y = R at *
  have : (D * 4294967296 + D2) * Y = D * Y * 4294967296 + D2 * Y := by
    rw [Int.add_mul, Int.mul_assoc, Int.mul_comm 4294967296 Y, Int.mul_assoc]
  rw [this]
  omega

end Go.Proofs.YtenmdfhdiepfcaaDoor
