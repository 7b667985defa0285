/- The functions of package word without loops, and their reference's: what each call returns. -/
import Derived.Test.YtenmdfhdiepfcaaDoorLow
set_option linter.unusedVariables false
set_option linter.unusedSimpArgs false
namespace Go.Proofs.YtenmdfhdiepfcaaDoor
open Go.RowKit

/-- The number of the first error. -/
def fault (a b m : Int) : Int := if m < 1 ∨ 2305843009213693952 ≤ m then 1 else if a < 0 ∨ m ≤ a ∨ b < 0 ∨ m ≤ b then 2 else 0

theorem fault_cases (a b m : Int) : fault a b m = 0 ∨ fault a b m = 1 ∨ fault a b m = 2 := by
  unfold fault; repeat' split
  all_goals simp

theorem fault_ok {a b m : Int} (h : fault a b m = 0) : 1 ≤ m ∧ m < 2305843009213693952 ∧ 0 ≤ a ∧ a < m ∧ 0 ≤ b ∧ b < m := by
  unfold fault at h; repeat' split at h
  all_goals omega

theorem fault_zero {a b m : Int} (h1 : 1 ≤ m) (h2 : m < 2305843009213693952) (a0 : 0 ≤ a) (a1 : a < m) (b0 : 0 ≤ b) (b1 : b < m) : fault a b m = 0 := by
  unfold fault; rw [if_neg (by omega), if_neg (by omega)]

theorem check_f (a b m f : Int) (w : World) (h : fault a b m = f) :
    Calls Tryd.prog 58 #[.int .i64 a, .int .i64 b, .int .i64 m] w (Ret (.int .i64 f) w) := by
  have := check_any a b m w
  unfold fault at h
  rwa [h] at this

theorem add_ok (a b m : Int) (w : World) (h : fault a b m = 0) :
    Calls Tryd.prog 47 #[.int .i64 a, .int .i64 b, .int .i64 m] w (Ret (.tuple #[.int .i64 ((a + b) % m), .int .i64 0]) w) := by
  obtain ⟨h1, h2, a0, a1, b0, b1⟩ := fault_ok h
  have H := Lib.hid h
  clear h
  go_enter Tryd.func47, Tryd.ntmps47
  go_wp2_with (go_at_call 58; refine (check_f _ _ _ _ _ H.out).mono ?_; rintro e w' ⟨rfl, n, rfl⟩)
  go_ret2
  exact ⟨rfl, _, rfl⟩

theorem add_err (a b m f : Int) (w : World) (h : fault a b m = f) (hf : f = 1 ∨ f = 2) :
    Calls Tryd.prog 47 #[.int .i64 a, .int .i64 b, .int .i64 m] w (Ret (.tuple #[.int .i64 0, .int .i64 f]) w) := by
  have H := Lib.hid h
  clear h
  rcases hf with rfl | rfl
  all_goals
    go_enter Tryd.func47, Tryd.ntmps47
    go_wp2_with (go_at_call 58; refine (check_f _ _ _ _ _ H.out).mono ?_; rintro e w' ⟨rfl, n, rfl⟩)
    go_ret2
    exact ⟨rfl, _, rfl⟩

theorem mul_ok (a b m : Int) (w : World) (h : fault a b m = 0) :
    Calls Tryd.prog 45 #[.int .i64 a, .int .i64 b, .int .i64 m] w (Ret (.tuple #[.int .i64 (a * b % m), .int .i64 0]) w) := by
  obtain ⟨h1, h2, a0, a1, b0, b1⟩ := fault_ok h
  have H := Lib.hid h
  have hp := fun w => product_any a b m w h1 h2 a0 a1 b0 b1
  have HP := Lib.hid hp
  clear h hp
  go_enter Tryd.func45, Tryd.ntmps45
  go_wp2_with (first | (go_at_call 58; refine (check_f _ _ _ _ _ H.out).mono ?_; rintro e w' ⟨rfl, n, rfl⟩) | (go_at_call 60; refine (HP.out _).mono ?_; rintro e w' ⟨rfl, n, rfl⟩))
  go_ret2
  exact ⟨rfl, _, rfl⟩

theorem mul_err (a b m f : Int) (w : World) (h : fault a b m = f) (hf : f = 1 ∨ f = 2) :
    Calls Tryd.prog 45 #[.int .i64 a, .int .i64 b, .int .i64 m] w (Ret (.tuple #[.int .i64 0, .int .i64 f]) w) := by
  have H := Lib.hid h
  clear h
  rcases hf with rfl | rfl
  all_goals
    go_enter Tryd.func45, Tryd.ntmps45
    go_wp2_with (go_at_call 58; refine (check_f _ _ _ _ _ H.out).mono ?_; rintro e w' ⟨rfl, n, rfl⟩)
    go_ret2
    exact ⟨rfl, _, rfl⟩

theorem tmod_least (a m : Int) (h1 : 1 ≤ m) : (if a.tmod m < 0 then a.tmod m + m else a.tmod m) = a % m := by
  have h2 := Int.emod_nonneg a (show m ≠ 0 by omega)
  have h3 := Int.emod_lt_of_pos a (show 0 < m by omega)
  rw [Int.tmod_eq_emod]
  split <;> split <;> omega

theorem tmod_bounds (a m : Int) (h1 : 1 ≤ m) : -m < a.tmod m ∧ a.tmod m < m := by
  have h2 := Int.emod_nonneg a (show m ≠ 0 by omega)
  have h3 := Int.emod_lt_of_pos a (show 0 < m by omega)
  rw [Int.tmod_eq_emod]
  split <;> omega

theorem reduce_ok (a m : Int) (w : World) (h1 : 1 ≤ m) (h2 : m < 2305843009213693952) (a0 : -9223372036854775808 ≤ a) (a1 : a ≤ 9223372036854775807) :
    Calls Tryd.prog 44 #[.int .i64 a, .int .i64 m] w (Ret (.tuple #[.int .i64 (a % m), .int .i64 0]) w) := by
  have H := Lib.hid (fault_zero (a := 0) (b := 0) h1 h2 (by omega) (by omega) (by omega) (by omega))
  obtain ⟨t0, t1⟩ := tmod_bounds a m h1
  have hl := fun w => least_any (a.tmod m) m w (by omega) h2 (by omega) (by omega)
  rw [tmod_least a m h1] at hl
  have HL := Lib.hid hl
  have HE : Hid (0 ≤ a → a.tmod m = a % m) := Lib.hid fun h => Int.tmod_eq_emod_of_nonneg h
  clear hl
  go_enter Tryd.func44, Tryd.ntmps44
  go_wp2_with (first | (go_at_call 58; refine (check_f _ _ _ _ _ H.out).mono ?_; rintro e w' ⟨rfl, n, rfl⟩) | (go_at_call 59; refine (HL.out _).mono ?_; rintro e w' ⟨rfl, n, rfl⟩))
  go_ret2
  exact ⟨rfl, _, rfl⟩

theorem reduce_err (a m : Int) (w : World) (h1 : m < 1 ∨ 2305843009213693952 ≤ m) :
    Calls Tryd.prog 44 #[.int .i64 a, .int .i64 m] w (Ret (.tuple #[.int .i64 0, .int .i64 1]) w) := by
  have H : Hid (fault 0 0 m = 1) := Lib.hid (by unfold fault; rw [if_pos h1])
  go_enter Tryd.func44, Tryd.ntmps44
  go_wp2_with (go_at_call 58; refine (check_f _ _ _ _ _ H.out).mono ?_; rintro e w' ⟨rfl, n, rfl⟩)
  go_ret2
  exact ⟨rfl, _, rfl⟩

theorem ref_reduce (a m : Int) (w : World) (h1 : 1 ≤ m) (h2 : m < 4611686018427387904) (a0 : -9223372036854775808 ≤ a) (a1 : a ≤ 9223372036854775807) :
    Calls Tryd.prog 48 #[.int .i64 a, .int .i64 m] w (Ret (.int .i64 (a % m)) w) := by
  obtain ⟨t0, t1⟩ := tmod_bounds a m h1
  have HE := Lib.hid (tmod_least a m h1)
  by_cases ha : 0 ≤ a
  · have e0 := Int.emod_nonneg a (show m ≠ 0 by omega)
    go_enter Tryd.func48, Tryd.ntmps48
    go_wp2
    go_ret
    exact ⟨rfl, 0, rfl⟩
  · go_enter Tryd.func48, Tryd.ntmps48
    go_wp2
    · have : a.tmod m < 0 := by assumption
      have := HE.out
      rw [if_pos (by assumption)] at this
      go_ret
      exact ⟨ret_int (by simpa using this), 0, rfl⟩
    · have : 0 ≤ a.tmod m := by assumption
      have := HE.out
      rw [if_neg (by omega)] at this
      go_ret
      exact ⟨ret_int (by simpa using this), 0, rfl⟩

theorem mul_mod_left (x y m : Int) : x % m * y % m = x * y % m := by rw [Int.mul_emod, Int.emod_emod, ← Int.mul_emod]
theorem mul_mod_right (x y m : Int) : x * (y % m) % m = x * y % m := by rw [Int.mul_emod, Int.emod_emod, ← Int.mul_emod]
theorem add_mul_mod (o x y m : Int) : (o + x % m * y) % m = (o + x * y) % m := by rw [Int.add_emod, mul_mod_left, ← Int.add_emod]

theorem double_even (a b m out : Int) (h2 : b % 2 = 0) : (out + (a + a) % m * (b / 2)) % m = (out + a * b) % m := by
  rw [add_mul_mod]
  have h : b = 2 * (b / 2) := by omega
  have e : a * b = (a + a) * (b / 2) := by
    rw [show a + a = a * 2 by omega, Int.mul_assoc, ← h]
  rw [e]

theorem double_odd (a b m out : Int) (h2 : b % 2 = 1) : ((out + a) % m + (a + a) % m * (b / 2)) % m = (out + a * b) % m := by
  rw [add_mul_mod, Int.emod_add_emod]
  have h : b = 2 * (b / 2) + 1 := by omega
  have e : a * b = a + (a + a) * (b / 2) := by
    rw [show a + a = a * 2 by omega, Int.mul_assoc]
    have : a * b = a * (2 * (b / 2) + 1) := by rw [← h]
    rw [this, Int.mul_add]; omega
  rw [e, Int.add_assoc]

set_option maxHeartbeats 400000 in
theorem ref_mul (a b m : Int) (w : World) (h1 : 1 ≤ m) (h2 : m < 2305843009213693952) (a0 : 0 ≤ a) (a1 : a < m) (b0 : 0 ≤ b) (b1 : b < m) :
    Calls Tryd.prog 49 #[.int .i64 a, .int .i64 b, .int .i64 m] w (Ret (.int .i64 (a * b % m)) w) := by
  by_cases hs : a < 2147483648 ∧ b < 2147483648
  · obtain ⟨ha, hb⟩ := hs
    have p0 : 0 ≤ a * b := Int.mul_nonneg a0 b0
    have p1 : a * b ≤ 2147483648 * 2147483648 := Int.mul_le_mul (by omega) (by omega) b0 (by omega)
    go_enter Tryd.func49, Tryd.ntmps49
    go_wp2
    go_ret
    exact ⟨rfl, 0, rfl⟩
  · obtain ⟨r, hr⟩ : ∃ r, Hid (a * b % m = r) := ⟨_, Lib.hid rfl⟩
    rw [hr.out]
    have hs' : (2147483648 ≤ a) ∨ (a < 2147483648 ∧ 2147483648 ≤ b) := by omega
    clear hs
    rcases hs' with hs | ⟨hs, hs2⟩
    all_goals
      go_enter Tryd.func49, Tryd.ntmps49
      go_wp2
      go_loop [0, 1, 7] (fun x y o => ∃ a b o' : Int, x = .int .i64 a ∧ y = .int .i64 b ∧ o = .int .i64 o' ∧ 0 ≤ a ∧ a < m ∧ 0 ≤ b ∧ b < 2305843009213693952 ∧ 0 ≤ o' ∧ o' < m ∧ (o' + a * b) % m = r) (fun _ y _ => (intOf y).toNat)
      case atStart => exact ⟨_, _, _, rfl, rfl, rfl, a0, a1, b0, by omega, by omega, by omega, by have := hr.out; simpa using this⟩
      case round =>
        clear hs a0 a1 b0 b1
        obtain ⟨a, b, o, rfl, rfl, rfl, a0, a1, b0, b1, o0, o1, he⟩ := hrel
        have HE := Lib.hid he
        clear he
        have oa0 := Int.emod_nonneg (o + a) (show m ≠ 0 by omega)
        have oa1 := Int.emod_lt_of_pos (o + a) (show 0 < m by omega)
        have aa0 := Int.emod_nonneg (a + a) (show m ≠ 0 by omega)
        have aa1 := Int.emod_lt_of_pos (a + a) (show 0 < m by omega)
        by_cases hb : 0 < b
        · by_cases hb2 : b % 2 = 1
          · have Hb := Lib.hid hb2
            have hb3 : (b % 2 == 1) = true := by simp [hb2]
            clear hb2
            go_wp2
            exact ⟨⟨_, _, _, rfl, rfl, rfl, aa0, aa1, by omega, by omega, oa0, oa1, (double_odd a b m o Hb.out).trans HE.out⟩, by simp [intOf]; omega⟩
          · have Hb : Hid (b % 2 = 0) := Lib.hid (by omega)
            have hb3 : (b % 2 == 1) = false := by simp [hb2]
            clear hb2
            go_wp2
            exact ⟨⟨_, _, _, rfl, rfl, rfl, aa0, aa1, by omega, by omega, o0, o1, (double_even a b m o Hb.out).trans HE.out⟩, by simp [intOf]; omega⟩
        · have hb0 : b = 0 := by omega
          have hfin : o = r := by have := HE.out; rw [hb0, Int.mul_zero, Int.add_zero, Int.emod_eq_of_lt o0 o1] at this; exact this
          have HF := Lib.hid hfin
          clear hfin hb0
          go_wp2
          go_ret
          exact ⟨ret_int HF.out, 0, rfl⟩

end Go.Proofs.YtenmdfhdiepfcaaDoor
