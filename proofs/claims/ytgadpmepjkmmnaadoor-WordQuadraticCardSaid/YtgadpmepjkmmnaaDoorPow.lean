/- Powers: of package word and of its reference. -/
import Derived.Test.YtgadpmepjkmmnaaDoorFns
set_option linter.unusedVariables false
set_option linter.unusedSimpArgs false
namespace Go.Proofs.YtgadpmepjkmmnaaDoor
open Go.RowKit

theorem pow_mod (x m : Int) (k : Nat) : (x % m) ^ k % m = x ^ k % m := by
  induction k with
  | zero => simp
  | succ k ih => rw [Int.pow_succ, Int.pow_succ, Int.mul_emod, ih, Int.emod_emod, ← Int.mul_emod]

theorem mul_pow_mod (o x m : Int) (k : Nat) : o * (x % m) ^ k % m = o * x ^ k % m := by
  rw [Int.mul_emod, pow_mod, ← Int.mul_emod]

theorem square_pow (a : Int) (k : Nat) : (a * a) ^ k = a ^ (2 * k) := by
  rw [Int.pow_mul, Int.pow_succ, Int.pow_succ, Int.pow_zero, Int.one_mul]

theorem power_even (o a b m : Int) (h0 : 0 ≤ b) (h2 : b % 2 = 0) : o * (a * a % m) ^ (b / 2).toNat % m = o * a ^ b.toNat % m := by
  rw [mul_pow_mod, square_pow, show 2 * (b / 2).toNat = b.toNat by omega]

theorem power_odd (o a b m : Int) (h0 : 0 ≤ b) (h2 : b % 2 = 1) : (o * a % m) * (a * a % m) ^ (b / 2).toNat % m = o * a ^ b.toNat % m := by
  rw [mul_pow_mod, square_pow, mul_mod_left, show b.toNat = 2 * (b / 2).toNat + 1 by omega, Int.pow_succ, Int.mul_comm (a ^ _) a, Int.mul_assoc]

theorem power_one (m : Int) (h : 1 ≤ m) : 0 ≤ 1 % m ∧ 1 % m < m := ⟨Int.emod_nonneg _ (by omega), Int.emod_lt_of_pos _ (by omega)⟩

theorem and_one (e : Int) (h0 : 0 ≤ e) (h1 : e ≤ 9223372036854775807) : bits BinOp.and IntKind.i64 e 1 = e % 2 := by
  obtain ⟨x, rfl⟩ := Int.eq_ofNat_of_zero_le h0
  have e1 : (BitVec.ofInt 64 (x : Int)).toNat = x := by
    rw [BitVec.ofInt_natCast, BitVec.toNat_ofNat]; exact Nat.mod_eq_of_lt (by omega)
  have e2 : (BitVec.ofInt 64 (1 : Int)).toNat = 1 := by decide
  show IntKind.i64.wrap ((BitVec.ofInt 64 (x : Int) &&& BitVec.ofInt 64 1).toNat : Int) = _
  rw [BitVec.toNat_and, e1, e2, Nat.and_one_is_mod, IntWalk.i64_in _ (by omega)]
  omega

set_option maxHeartbeats 400000 in
theorem ref_pow (a e m : Int) (w : World) (h1 : 1 ≤ m) (h2 : m < 2305843009213693952) (a0 : 0 ≤ a) (a1 : a < m) (b0 : 0 ≤ e) (b1 : e ≤ 9223372036854775807) :
    Calls Tryd.prog 23 #[.int .i64 a, .int .i64 e, .int .i64 m] w (Ret (.int .i64 (a ^ e.toNat % m)) w) := by
  obtain ⟨r, hr⟩ : ∃ r, Hid (a ^ e.toNat % m = r) := ⟨_, Lib.hid rfl⟩
  rw [hr.out]
  obtain ⟨o0, o1⟩ := power_one m h1
  have hst : 1 % m * a ^ e.toNat % m = r := by rw [mul_mod_left, Int.one_mul]; exact hr.out
  have HST := Lib.hid hst
  clear hst
  go_enter Tryd.func23, Tryd.ntmps23
  go_wp2
  go_loopw [0, 1, 7] (fun x y o wr => ∃ a b o' : Int, x = .int .i64 a ∧ y = .int .i64 b ∧ o = .int .i64 o' ∧ 0 ≤ a ∧ a < m ∧ 0 ≤ b ∧ b ≤ 9223372036854775807 ∧ 0 ≤ o' ∧ o' < m ∧ o' * a ^ b.toNat % m = r ∧ ∃ n, wr = w.drewN n) (fun _ y _ _ => (intOf y).toNat)
  case atStart => exact ⟨_, _, _, rfl, rfl, rfl, a0, a1, b0, b1, o0, o1, HST.out, 0, rfl⟩
  case round =>
    clear a0 a1 b0 b1 o0 o1 HST
    obtain ⟨a, b, o, rfl, rfl, rfl, a0, a1, b0, b1, o0, o1, he, n, rfl⟩ := hrel
    have HE := Lib.hid he
    clear he
    have oa0 := Int.emod_nonneg (o * a) (show m ≠ 0 by omega)
    have oa1 := Int.emod_lt_of_pos (o * a) (show 0 < m by omega)
    have aa0 := Int.emod_nonneg (a * a) (show m ≠ 0 by omega)
    have aa1 := Int.emod_lt_of_pos (a * a) (show 0 < m by omega)
    have H1 := Lib.hid fun w => ref_mul o a m w h1 h2 o0 o1 a0 a1
    have H2 := Lib.hid fun w => ref_mul a a m w h1 h2 a0 a1 a0 a1
    by_cases hb : 0 < b
    · by_cases hb2 : b % 2 = 1
      · have Hb := Lib.hid hb2
        have hb3 : (b % 2 == 1) = true := by simp [hb2]
        clear hb2
        go_wp2_with fail
        refine (H1.out _).mono ?_
        rintro e w' ⟨rfl, n1, rfl⟩
        go_wp2_with fail
        refine (H2.out _).mono ?_
        rintro e w' ⟨rfl, n2, rfl⟩
        go_wp2_with fail
        exact ⟨⟨_, _, _, rfl, rfl, rfl, aa0, aa1, by omega, by omega, oa0, oa1, (power_odd o a b m b0 Hb.out).trans HE.out, _, rfl⟩, by simp [intOf]; omega⟩
      · have Hb : Hid (b % 2 = 0) := Lib.hid (by omega)
        have hb3 : (b % 2 == 1) = false := by simp [hb2]
        clear hb2
        go_wp2_with fail
        refine (H2.out _).mono ?_
        rintro e w' ⟨rfl, n2, rfl⟩
        go_wp2_with fail
        exact ⟨⟨_, _, _, rfl, rfl, rfl, aa0, aa1, by omega, by omega, o0, o1, (power_even o a b m b0 Hb.out).trans HE.out, _, rfl⟩, by simp [intOf]; omega⟩
    · have hb0 : b = 0 := by omega
      have hfin : o = r := by have := HE.out; rw [hb0, Int.toNat_zero, Int.pow_zero, Int.mul_one, Int.emod_eq_of_lt o0 o1] at this; exact this
      have HF := Lib.hid hfin
      clear hfin hb0
      go_wp2
      go_ret
      exact ⟨ret_int HF.out, _, rfl⟩

set_option maxHeartbeats 400000 in
theorem pow_ok (a e m : Int) (w : World) (h1 : 1 ≤ m) (h2 : m < 2305843009213693952) (a0 : 0 ≤ a) (a1 : a < m) (b0 : 0 ≤ e) (b1 : e ≤ 9223372036854775807) :
    Calls Tryd.prog 20 #[.int .i64 a, .int .i64 e, .int .i64 m] w (Ret (.tuple #[.int .i64 (a ^ e.toNat % m), .int .i64 0]) w) := by
  obtain ⟨r, hr⟩ : ∃ r, Hid (a ^ e.toNat % m = r) := ⟨_, Lib.hid rfl⟩
  rw [hr.out]
  obtain ⟨o0, o1⟩ := power_one m h1
  have hst : 1 % m * a ^ e.toNat % m = r := by rw [mul_mod_left, Int.one_mul]; exact hr.out
  have HST := Lib.hid hst
  have HC := Lib.hid fun w => check_ok a 0 m w h1 h2 a0 a1 (by omega) (by omega)
  clear hst
  go_enter Tryd.func20, Tryd.ntmps20
  go_wp2_with (go_at_call 32; refine (HC.out _).mono ?_; rintro e w' ⟨rfl, n, rfl⟩)
  go_loopw [0, 1, 9] (fun x y o wr => ∃ a b o' : Int, x = .int .i64 a ∧ y = .int .i64 b ∧ o = .int .i64 o' ∧ 0 ≤ a ∧ a < m ∧ 0 ≤ b ∧ b ≤ 9223372036854775807 ∧ 0 ≤ o' ∧ o' < m ∧ o' * a ^ b.toNat % m = r ∧ ∃ n, wr = w.drewN n) (fun _ y _ _ => (intOf y).toNat)
  case atStart => exact ⟨_, _, _, rfl, rfl, rfl, a0, a1, b0, b1, o0, o1, HST.out, _, rfl⟩
  case round =>
    clear a0 a1 b0 b1 o0 o1 HST
    obtain ⟨a, b, o, rfl, rfl, rfl, a0, a1, b0, b1, o0, o1, he, n, rfl⟩ := hrel
    have HE := Lib.hid he
    clear he
    have oa0 := Int.emod_nonneg (o * a) (show m ≠ 0 by omega)
    have oa1 := Int.emod_lt_of_pos (o * a) (show 0 < m by omega)
    have aa0 := Int.emod_nonneg (a * a) (show m ≠ 0 by omega)
    have aa1 := Int.emod_lt_of_pos (a * a) (show 0 < m by omega)
    have H1 := Lib.hid fun w => product_any o a m w h1 h2 o0 o1 a0 a1
    have H2 := Lib.hid fun w => product_any a a m w h1 h2 a0 a1 a0 a1
    have hand := and_one b b0 b1
    by_cases hb : 0 < b
    · by_cases hb2 : b % 2 = 1
      · have Hb := Lib.hid hb2
        have hb3 : (b % 2 == 1) = true := by simp [hb2]
        clear hb2
        go_wp2_with fail
        refine (H1.out _).mono ?_
        rintro e w' ⟨rfl, n1, rfl⟩
        go_wp2_with fail
        refine (H2.out _).mono ?_
        rintro e w' ⟨rfl, n2, rfl⟩
        go_wp2_with fail
        exact ⟨⟨_, _, _, rfl, rfl, rfl, aa0, aa1, by omega, by omega, oa0, oa1, (power_odd o a b m b0 Hb.out).trans HE.out, _, rfl⟩, by simp [intOf]; omega⟩
      · have Hb : Hid (b % 2 = 0) := Lib.hid (by omega)
        have hb3 : (b % 2 == 1) = false := by simp [hb2]
        clear hb2
        go_wp2_with fail
        refine (H2.out _).mono ?_
        rintro e w' ⟨rfl, n2, rfl⟩
        go_wp2_with fail
        exact ⟨⟨_, _, _, rfl, rfl, rfl, aa0, aa1, by omega, by omega, o0, o1, (power_even o a b m b0 Hb.out).trans HE.out, _, rfl⟩, by simp [intOf]; omega⟩
    · have hb0 : b = 0 := by omega
      have hfin : o = r := by have := HE.out; rw [hb0, Int.toNat_zero, Int.pow_zero, Int.mul_one, Int.emod_eq_of_lt o0 o1] at this; exact this
      have HF := Lib.hid hfin
      clear hfin hb0
      go_wp2
      go_ret2
      exact ⟨ret_two HF.out rfl, _, rfl⟩

theorem pow_arg (a e m : Int) (w : World) (h1 : m < 1 ∨ 2305843009213693952 ≤ m) :
    Calls Tryd.prog 20 #[.int .i64 a, .int .i64 e, .int .i64 m] w (Ret (.tuple #[.int .i64 0, .int .i64 1]) w) := by
  have HC := Lib.hid fun w => check_arg a 0 m w h1
  clear h1
  go_enter Tryd.func20, Tryd.ntmps20
  go_wp2_with (go_at_call 32; refine (HC.out _).mono ?_; rintro e w' ⟨rfl, n, rfl⟩)
  go_ret2
  exact ⟨rfl, _, rfl⟩

theorem pow_range (a e m : Int) (w : World) (h1 : 1 ≤ m) (h2 : m < 2305843009213693952) (h3 : a < 0 ∨ m ≤ a ∨ e < 0) :
    Calls Tryd.prog 20 #[.int .i64 a, .int .i64 e, .int .i64 m] w (Ret (.tuple #[.int .i64 0, .int .i64 2]) w) := by
  by_cases h : a < 0 ∨ m ≤ a
  · have HC := Lib.hid fun w => check_range a 0 m w h1 h2 (by omega)
    clear h3 h
    go_enter Tryd.func20, Tryd.ntmps20
    go_wp2_with (go_at_call 32; refine (HC.out _).mono ?_; rintro e w' ⟨rfl, n, rfl⟩)
    go_ret2
    exact ⟨rfl, _, rfl⟩
  · have HC := Lib.hid fun w => check_ok a 0 m w h1 h2 (by omega) (by omega) (by omega) (by omega)
    have he : e < 0 := by omega
    clear h3 h
    go_enter Tryd.func20, Tryd.ntmps20
    go_wp2_with (go_at_call 32; refine (HC.out _).mono ?_; rintro e w' ⟨rfl, n, rfl⟩)
    go_ret2
    exact ⟨rfl, _, rfl⟩

end Go.Proofs.YtgadpmepjkmmnaaDoor
