/- Greatest common divisors: of package word and of its reference. -/
import Derived.Test.YtgadpmepjkmmnaaDoorPow
set_option linter.unusedVariables false
set_option linter.unusedSimpArgs false
namespace Go.Proofs.YtgadpmepjkmmnaaDoor
open Go.RowKit

theorem drew2 (w : World) (n m : Nat) : (w.drewN n).drewN m = w.drewN (n + m) := by simp

theorem magnitude_any (a : Int) (w : World) (a0 : -9223372036854775808 ≤ a) (a1 : a ≤ 9223372036854775807) :
    Calls Tryd.prog 35 #[.int .i64 a] w (Ret (.int .u64 (a.natAbs : Int)) w) := by
  by_cases h : a < 0
  · go_enter Tryd.func35, Tryd.ntmps35
    go_wp2
    go_ret
    exact ⟨ret_int (by simp only [IntKind.wrap_u64]; omega), 0, rfl⟩
  · have h' : 0 ≤ a := by omega
    go_enter Tryd.func35, Tryd.ntmps35
    go_wp2
    go_ret
    exact ⟨ret_int (by omega), 0, rfl⟩

theorem size_any (a : Int) (w : World) (a0 : -9223372036854775808 ≤ a) (a1 : a ≤ 9223372036854775807) :
    Calls Tryd.prog 36 #[.int .i64 a] w (Ret (.int .u64 (a.natAbs : Int)) w) := by
  by_cases h : a < 0
  · go_enter Tryd.func36, Tryd.ntmps36
    go_wp2
    go_ret
    exact ⟨ret_int (by omega), 0, rfl⟩
  · have h' : 0 ≤ a := by omega
    go_enter Tryd.func36, Tryd.ntmps36
    go_wp2
    go_ret
    exact ⟨ret_int (by omega), 0, rfl⟩

/-- The greatest common divisor, as both say it. -/
def gcdR (a b : Int) : Int := if (Int.gcd a b : Int) = 9223372036854775808 then 0 else (Int.gcd a b : Int)

theorem gcd_step (x y : Int) (h0 : 0 ≤ x) (h1 : 0 < y) : Nat.gcd y.toNat (x % y).toNat = Nat.gcd x.toNat y.toNat := by
  obtain ⟨n, rfl⟩ := Int.eq_ofNat_of_zero_le h0
  obtain ⟨k, rfl⟩ := Int.eq_ofNat_of_zero_le (show 0 ≤ y by omega)
  rw [← Int.natCast_emod, Int.toNat_natCast, Int.toNat_natCast, Int.toNat_natCast, Nat.gcd_comm n k, Nat.gcd_rec k n, Nat.gcd_comm]

theorem gcd_bound (a b : Int) (a0 : -9223372036854775808 ≤ a) (a1 : a ≤ 9223372036854775807) (b0 : -9223372036854775808 ≤ b) (b1 : b ≤ 9223372036854775807) : (Int.gcd a b : Int) ≤ 9223372036854775808 := by
  unfold Int.gcd
  by_cases h : a = 0
  · subst h; simp; omega
  · have := Nat.gcd_le_left b.natAbs (show 0 < a.natAbs by omega)
    omega

set_option maxHeartbeats 400000 in
theorem gcd_any (a b : Int) (w : World) (a0 : -9223372036854775808 ≤ a) (a1 : a ≤ 9223372036854775807) (b0 : -9223372036854775808 ≤ b) (b1 : b ≤ 9223372036854775807) :
    Calls Tryd.prog 25 #[.int .i64 a, .int .i64 b] w (Ret (.int .i64 (gcdR a b)) w) := by
  obtain ⟨g, hg⟩ : ∃ g : Nat, Hid (Int.gcd a b = g) := ⟨_, Lib.hid rfl⟩
  have hb := gcd_bound a b a0 a1 b0 b1
  rw [hg.out] at hb
  have hr : gcdR a b = if (g : Int) = 9223372036854775808 then 0 else (g : Int) := by unfold gcdR; rw [hg.out]
  rw [hr]
  obtain ⟨r, HR⟩ : ∃ r : Int, Hid ((if (g : Int) = 9223372036854775808 then 0 else (g : Int)) = r) := ⟨_, Lib.hid rfl⟩
  rw [HR.out]
  have hst : Nat.gcd ((a.natAbs : Int)).toNat ((b.natAbs : Int)).toNat = g := hg.out
  have HST := Lib.hid hst
  have HA := Lib.hid fun w => magnitude_any a w a0 a1
  have HB := Lib.hid fun w => magnitude_any b w b0 b1
  have s0 : 0 ≤ (a.natAbs : Int) ∧ (a.natAbs : Int) ≤ 9223372036854775808 := by omega
  have s1 : 0 ≤ (b.natAbs : Int) ∧ (b.natAbs : Int) ≤ 9223372036854775808 := by omega
  clear hst hr
  generalize (a.natAbs : Int) = x at *
  generalize (b.natAbs : Int) = y at *
  obtain ⟨x0, x1⟩ := s0
  obtain ⟨y0, y1⟩ := s1
  go_enter Tryd.func25, Tryd.ntmps25
  go_wp2_with fail
  refine (HA.out _).mono ?_
  rintro e w' ⟨rfl, n1, rfl⟩
  go_wp2_with fail
  refine (HB.out _).mono ?_
  rintro e w' ⟨rfl, n2, rfl⟩
  go_wp2_with fail
  go_loopw [5, 6] (fun s t wr => ∃ x y : Int, s = .int .u64 x ∧ t = .int .u64 y ∧ 0 ≤ x ∧ x ≤ 9223372036854775808 ∧ 0 ≤ y ∧ y ≤ 9223372036854775808 ∧ Nat.gcd x.toNat y.toNat = g ∧ ∃ n, wr = w.drewN n) (fun _ t _ => (intOf t).toNat)
  case atStart => exact ⟨_, _, rfl, rfl, x0, x1, y0, y1, HST.out, _, rfl⟩
  case round =>
    clear x0 x1 y0 y1 HST
    obtain ⟨x, y, rfl, rfl, x0, x1, y0, y1, he, n, rfl⟩ := hrel
    have HE := Lib.hid he
    clear he
    by_cases hy : 0 < y
    · have m0 := Int.emod_nonneg x (show y ≠ 0 by omega)
      have m1 := Int.emod_lt_of_pos x hy
      go_wp2
      go_quiet (fail)
      go_wp2
      exact ⟨⟨_, _, rfl, rfl, y0, y1, m0, by omega, (gcd_step x y x0 hy).trans HE.out, _, drew2 _ _ _⟩, by simp [intOf]; omega⟩
    · have hy0 : y = 0 := by omega
      have hfin : (g : Int) = x := by have := HE.out; rw [hy0] at this; simp at this; omega
      have HF := Lib.hid hfin
      clear hfin hy0
      by_cases hx : 9223372036854775807 < x
      · go_wp2
        go_ret
        exact ⟨ret_int (by rw [← HR.out, HF.out, if_pos (by omega)]), _, rfl⟩
      · go_wp2
        go_ret
        exact ⟨ret_int (by rw [← HR.out, HF.out, if_neg (by omega)]), _, rfl⟩

set_option maxHeartbeats 400000 in
theorem ref_gcd (a b : Int) (w : World) (a0 : -9223372036854775808 ≤ a) (a1 : a ≤ 9223372036854775807) (b0 : -9223372036854775808 ≤ b) (b1 : b ≤ 9223372036854775807) :
    Calls Tryd.prog 26 #[.int .i64 a, .int .i64 b] w (Ret (.int .i64 (gcdR a b)) w) := by
  obtain ⟨g, hg⟩ : ∃ g : Nat, Hid (Int.gcd a b = g) := ⟨_, Lib.hid rfl⟩
  have hb := gcd_bound a b a0 a1 b0 b1
  rw [hg.out] at hb
  have hr : gcdR a b = if (g : Int) = 9223372036854775808 then 0 else (g : Int) := by unfold gcdR; rw [hg.out]
  rw [hr]
  obtain ⟨r, HR⟩ : ∃ r : Int, Hid ((if (g : Int) = 9223372036854775808 then 0 else (g : Int)) = r) := ⟨_, Lib.hid rfl⟩
  rw [HR.out]
  have hst : Nat.gcd ((a.natAbs : Int)).toNat ((b.natAbs : Int)).toNat = g := hg.out
  have HST := Lib.hid hst
  have HA := Lib.hid fun w => size_any a w a0 a1
  have HB := Lib.hid fun w => size_any b w b0 b1
  have s0 : 0 ≤ (a.natAbs : Int) ∧ (a.natAbs : Int) ≤ 9223372036854775808 := by omega
  have s1 : 0 ≤ (b.natAbs : Int) ∧ (b.natAbs : Int) ≤ 9223372036854775808 := by omega
  clear hst hr
  generalize (a.natAbs : Int) = x at *
  generalize (b.natAbs : Int) = y at *
  obtain ⟨x0, x1⟩ := s0
  obtain ⟨y0, y1⟩ := s1
  go_enter Tryd.func26, Tryd.ntmps26
  go_wp2_with fail
  refine (HA.out _).mono ?_
  rintro e w' ⟨rfl, n1, rfl⟩
  go_wp2_with fail
  refine (HB.out _).mono ?_
  rintro e w' ⟨rfl, n2, rfl⟩
  go_wp2_with fail
  go_loopw [5, 6] (fun s t wr => ∃ x y : Int, s = .int .u64 x ∧ t = .int .u64 y ∧ 0 ≤ x ∧ x ≤ 9223372036854775808 ∧ 0 ≤ y ∧ y ≤ 9223372036854775808 ∧ Nat.gcd x.toNat y.toNat = g ∧ ∃ n, wr = w.drewN n) (fun _ t _ => (intOf t).toNat)
  case atStart => exact ⟨_, _, rfl, rfl, x0, x1, y0, y1, HST.out, _, rfl⟩
  case round =>
    clear x0 x1 y0 y1 HST
    obtain ⟨x, y, rfl, rfl, x0, x1, y0, y1, he, n, rfl⟩ := hrel
    have HE := Lib.hid he
    clear he
    by_cases hy : 0 < y
    · have m0 := Int.emod_nonneg x (show y ≠ 0 by omega)
      have m1 := Int.emod_lt_of_pos x hy
      go_wp2
      go_quiet (fail)
      go_wp2
      exact ⟨⟨_, _, rfl, rfl, y0, y1, m0, by omega, (gcd_step x y x0 hy).trans HE.out, _, drew2 _ _ _⟩, by simp [intOf]; omega⟩
    · have hy0 : y = 0 := by omega
      have hfin : (g : Int) = x := by have := HE.out; rw [hy0] at this; simp at this; omega
      have HF := Lib.hid hfin
      clear hfin hy0
      by_cases hx : 9223372036854775807 < x
      · go_wp2
        go_ret
        exact ⟨ret_int (by rw [← HR.out, HF.out, if_pos (by omega)]), _, rfl⟩
      · go_wp2
        go_ret
        exact ⟨ret_int (by rw [← HR.out, HF.out, if_neg (by omega)]), _, rfl⟩

end Go.Proofs.YtgadpmepjkmmnaaDoor
