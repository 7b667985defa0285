/- The small functions of package word and of its reference: what each call returns. -/
import Derived.Test.YtenmdfhdiepfcaaDoorDiv
import Derived.Deep.QuietTactic
import Derived.BigQuiet
import Derived.Lib.TrailingZeros
set_option linter.unusedVariables false
set_option linter.unusedSimpArgs false
namespace Go.Proofs.YtenmdfhdiepfcaaDoor
open Go.RowKit

/-- The call returns v and does nothing else (it may draw). -/
def Ret (v : Value) (w : World) (e : Ending) (w' : World) : Prop := e = .returned v ∧ ∃ n, w' = w.drewN n

theorem ret_int {k : IntKind} {a b : Int} (h : a = b) : Ending.returned (.int k a) = .returned (.int k b) := by rw [h]
theorem ret_two {k l : IntKind} {a b c d : Int} (h : a = b) (h' : c = d) : Ending.returned (.tuple #[.int k a, .int l c]) = .returned (.tuple #[.int k b, .int l d]) := by rw [h, h']

theorem check_any (a b m : Int) (w : World) :
    Calls Tryd.prog 58 #[.int .i64 a, .int .i64 b, .int .i64 m] w (Ret (.int .i64 (if m < 1 ∨ 2305843009213693952 ≤ m then 1 else if a < 0 ∨ m ≤ a ∨ b < 0 ∨ m ≤ b then 2 else 0)) w) := by
  go_enter Tryd.func58, Tryd.ntmps58
  go_wp2
  all_goals
    go_ret
    refine ⟨ret_int ?_, 0, rfl⟩
    repeat' split
  all_goals omega

theorem check_ok (a b m : Int) (w : World) (h1 : 1 ≤ m) (h2 : m < 2305843009213693952) (a0 : 0 ≤ a) (a1 : a < m) (b0 : 0 ≤ b) (b1 : b < m) :
    Calls Tryd.prog 58 #[.int .i64 a, .int .i64 b, .int .i64 m] w (Ret (.int .i64 0) w) := by
  have h := check_any a b m w
  rwa [if_neg (by omega), if_neg (by omega)] at h

theorem check_arg (a b m : Int) (w : World) (h1 : m < 1 ∨ 2305843009213693952 ≤ m) :
    Calls Tryd.prog 58 #[.int .i64 a, .int .i64 b, .int .i64 m] w (Ret (.int .i64 1) w) := by
  have h := check_any a b m w
  rwa [if_pos h1] at h

theorem check_range (a b m : Int) (w : World) (h1 : 1 ≤ m) (h2 : m < 2305843009213693952) (h3 : a < 0 ∨ m ≤ a ∨ b < 0 ∨ m ≤ b) :
    Calls Tryd.prog 58 #[.int .i64 a, .int .i64 b, .int .i64 m] w (Ret (.int .i64 2) w) := by
  have h := check_any a b m w
  rwa [if_neg (by omega), if_pos h3] at h

theorem least_any (a m : Int) (w : World) (h1 : 0 ≤ m) (h2 : m < 2305843009213693952) (a0 : -2305843009213693952 ≤ a) (a1 : a < 2305843009213693952) :
    Calls Tryd.prog 59 #[.int .i64 a, .int .i64 m] w (Ret (.int .i64 (if a < 0 then a + m else a)) w) := by
  go_enter Tryd.func59, Tryd.ntmps59
  go_wp2
  all_goals
    go_ret
    refine ⟨ret_int ?_, 0, rfl⟩
  all_goals first | rfl | (split <;> omega)

theorem div_small (lo y : Int) (w : World) (h1 : 0 < y) (b1 : 0 ≤ lo) (b2 : lo ≤ 18446744073709551615) (b3 : y ≤ 18446744073709551615) :
    Calls Tryd.prog 66 #[.int .u64 0, .int .u64 lo, .int .u64 y] w (Ret (.tuple #[.int .u64 (lo / y), .int .u64 (lo % y)]) w) := by
  have h0 : (y == 0) = false := by simp; omega
  go_enter Tryd.func66, Tryd.ntmps66
  go_wp2
  go_quiet (fail)
  go_wp2
  go_ret2
  exact ⟨rfl, _, rfl⟩

theorem bitLenAux_spec : ∀ (f x : Nat), x < 2 ^ f → 0 < x → 1 ≤ Lib.bitLenAux f x ∧ Lib.bitLenAux f x ≤ f ∧ 2 ^ (Lib.bitLenAux f x - 1) ≤ x ∧ x < 2 ^ Lib.bitLenAux f x
  | 0, x, h, h0 => by simp at h; omega
  | f + 1, x, h, h0 => by
    unfold Lib.bitLenAux
    rw [if_neg (by omega)]
    by_cases hx : x / 2 = 0
    · have : x = 1 := by omega
      subst this
      have e : Lib.bitLenAux f (1 / 2) = 0 := by cases f <;> simp [Lib.bitLenAux]
      rw [e]
      simp
    · obtain ⟨a, b, c, d⟩ := bitLenAux_spec f (x / 2) (by rw [Nat.pow_succ] at h; omega) (by omega)
      generalize Lib.bitLenAux f (x / 2) = L at *
      refine ⟨by omega, by omega, ?_, ?_⟩
      · rw [show 1 + L - 1 = (L - 1) + 1 by omega, Nat.pow_succ]; omega
      · rw [show 1 + L = L + 1 by omega, Nat.pow_succ]; omega

theorem bitLen_shifted (y : Nat) (h0 : 0 < y) (h1 : y < 18446744073709551616) : Lib.bitLen y ≤ 64 ∧ 1 ≤ Lib.bitLen y ∧ 9223372036854775808 ≤ y * 2 ^ (64 - Lib.bitLen y) ∧ y * 2 ^ (64 - Lib.bitLen y) < 18446744073709551616 := by
  obtain ⟨a, b, c, d⟩ := bitLenAux_spec 64 y h1 h0
  unfold Lib.bitLen
  generalize Lib.bitLenAux 64 y = L at *
  have h2 : 0 < 2 ^ (64 - L) := Nat.pow_pos (by omega)
  have e1 : 2 ^ (L - 1) * 2 ^ (64 - L) = 9223372036854775808 := by rw [← Nat.pow_add, show L - 1 + (64 - L) = 63 by omega]
  have e2 : 2 ^ L * 2 ^ (64 - L) = 18446744073709551616 := by rw [← Nat.pow_add, show L + (64 - L) = 64 by omega]
  refine ⟨b, a, ?_, ?_⟩
  · rw [← e1]; exact Nat.mul_le_mul_right _ c
  · rw [← e2]; exact Nat.mul_lt_mul_of_pos_right d h2

theorem div_any (hi lo y : Int) (w : World) (h1 : hi < y) (b0 : 0 ≤ hi) (b1 : 0 ≤ lo) (b2 : lo ≤ 18446744073709551615) (b3 : y ≤ 18446744073709551615) :
    Calls Tryd.prog 66 #[.int .u64 hi, .int .u64 lo, .int .u64 y] w (Ret (.tuple #[.int .u64 ((hi * 18446744073709551616 + lo) / y), .int .u64 ((hi * 18446744073709551616 + lo) % y)]) w) := by
  by_cases h : hi = 0
  · subst h
    have := div_small lo y w h1 b1 b2 b3
    rw [show (0 : Int) * 18446744073709551616 + lo = lo by omega]
    exact this
  · obtain ⟨n, rfl⟩ := Int.eq_ofNat_of_zero_le (show 0 ≤ y by omega)
    obtain ⟨c1, c2, c3, c4⟩ := bitLen_shifted n (by omega) (by omega)
    have hz := Tryd.bits_LeadingZeros64 n w (by omega) b3
    rw [Int.toNat_natCast, show (64 - (Lib.bitLen n : Int)) = ((64 - Lib.bitLen n : Nat) : Int) by omega] at hz
    have hs : 64 - Lib.bitLen n ≤ 63 := by omega
    generalize 64 - Lib.bitLen n = s at *
    have e : ((n : Int) * 2 ^ s) = ((n * 2 ^ s : Nat) : Int) := by simp
    refine (div_big hi lo n s w (by simp; omega) h1 (by simp; omega) b0 b1 b2 b3 hs (by rw [e]; omega) (by rw [e]; omega) (hz.mono fun _ _ h => ⟨h.1, h.2.symm⟩)).mono ?_
    rintro e w' ⟨rfl, rfl⟩
    exact ⟨rfl, 0, rfl⟩

theorem product_any (a b m : Int) (w : World) (h1 : 1 ≤ m) (h2 : m < 2305843009213693952) (a0 : 0 ≤ a) (a1 : a < m) (b0 : 0 ≤ b) (b1 : b < m) :
    Calls Tryd.prog 60 #[.int .i64 a, .int .i64 b, .int .i64 m] w (Ret (.int .i64 (a * b % m)) w) := by
  obtain ⟨x, rfl⟩ := Int.eq_ofNat_of_zero_le a0
  obtain ⟨y, rfl⟩ := Int.eq_ofNat_of_zero_le b0
  have hm := Tryd.bits_Mul64 x y (by omega) (by omega) w
  have hp : (x : Int) * y < m * m := Int.lt_of_le_of_lt (Int.mul_le_mul_of_nonneg_left (Int.le_of_lt b1) a0) (Int.mul_lt_mul_of_pos_right a1 (by omega))
  have hp1 : m * m ≤ m * 18446744073709551615 := Int.mul_le_mul_of_nonneg_left (by omega) (by omega)
  have e : ((x : Int) * y) = ((x * y : Nat) : Int) := by simp
  rw [e] at hp ⊢
  have hr0 : 0 ≤ ((x * y : Nat) : Int) % m := Int.emod_nonneg _ (by omega)
  have hr1 : ((x * y : Nat) : Int) % m < m := Int.emod_lt_of_pos _ (by omega)
  clear e
  generalize x * y = z at *
  have hd := div_any ((z / 18446744073709551616 : Nat) : Int) ((z % 18446744073709551616 : Nat) : Int) m w (by omega) (by omega) (by omega) (by omega) (by omega)
  rw [show ((z / 18446744073709551616 : Nat) : Int) * 18446744073709551616 + ((z % 18446744073709551616 : Nat) : Int) = (z : Int) by omega] at hd
  have z0 : (0 : Int) ≤ (z / 18446744073709551616 : Nat) := by omega
  generalize (z / 18446744073709551616 : Nat) = hi at *
  generalize (z % 18446744073709551616 : Nat) = lo at *
  generalize (z : Int) % m = r at *
  generalize (z : Int) / m = q at *
  have HM := Lib.hid hm
  have HD := Lib.hid hd
  clear hm hd hp hp1
  go_enter Tryd.func60, Tryd.ntmps60
  go_wp2_with fail
  refine HM.out.mono ?_
  rintro e w' ⟨rfl, rfl⟩
  go_wp2_with fail
  refine HD.out.mono ?_
  rintro e w' ⟨rfl, n, rfl⟩
  go_wp2_with fail
  go_ret
  exact ⟨rfl, _, rfl⟩

end Go.Proofs.YtenmdfhdiepfcaaDoor
