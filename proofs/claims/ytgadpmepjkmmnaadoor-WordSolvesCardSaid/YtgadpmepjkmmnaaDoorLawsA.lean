/- The statements of the single functions: the walks. -/
import Derived.Test.YtgadpmepjkmmnaaDoorAwake
set_option linter.unusedVariables false
set_option linter.unusedSimpArgs false
namespace Go.Proofs.YtgadpmepjkmmnaaDoor
open Go.RowKit

theorem wordSums_walk (a b m : Int) (w : World) (hT : Tab w) :
    Calls Tryd.prog 3 #[.int .i64 a, .int .i64 b, .int .i64 m] w (Ret (.bool true) w) := by
  have HAW := Lib.hid (awake_any w hT)
  have HF := Lib.hid fun w => ref_fault a b m w
  rcases fault_cases a b m with h | h | h
  · have HA := Lib.hid fun w => add_ok a b m w h
    have HS := Lib.hid fun w => sub_ok a b m w h
    have HM := Lib.hid fun w => mul_ok a b m w h
    obtain ⟨h1, h2, a0, a1, b0, b1⟩ := fault_ok h
    have HR1 := Lib.hid fun w => ref_reduce (a + b) m w h1 (by omega) (by omega) (by omega)
    have HR2 := Lib.hid fun w => ref_reduce (a - b) m w h1 (by omega) (by omega) (by omega)
    have HRM := Lib.hid fun w => ref_mul a b m w h1 h2 a0 a1 b0 b1
    rw [h] at HF
    clear h
    go_enter Tryd.func3, Tryd.ntmps3
    go_wp2_with fail
    refine (HAW.out).mono ?_
    rintro e w' ⟨rfl, n0, rfl⟩
    go_wp2_with fail
    refine (HA.out _).mono ?_
    rintro e w' ⟨rfl, n1, rfl⟩
    go_wp2_with fail
    refine (HS.out _).mono ?_
    rintro e w' ⟨rfl, n2, rfl⟩
    go_wp2_with fail
    refine (HM.out _).mono ?_
    rintro e w' ⟨rfl, n3, rfl⟩
    go_wp2_with fail
    refine (HF.out _).mono ?_
    rintro e w' ⟨rfl, n4, rfl⟩
    go_wp2_with fail
    refine (HR1.out _).mono ?_
    rintro e w' ⟨rfl, n5, rfl⟩
    go_wp2_with fail
    refine (HR2.out _).mono ?_
    rintro e w' ⟨rfl, n6, rfl⟩
    go_wp2_with fail
    refine (HRM.out _).mono ?_
    rintro e w' ⟨rfl, n7, rfl⟩
    go_wp2_with fail
    go_ret
    exact ⟨rfl, _, rfl⟩
  · have HA := Lib.hid fun w => add_err a b m 1 w h (by omega)
    have HS := Lib.hid fun w => sub_err a b m 1 w h (by omega)
    have HM := Lib.hid fun w => mul_err a b m 1 w h (by omega)
    rw [h] at HF
    clear h
    go_enter Tryd.func3, Tryd.ntmps3
    go_wp2_with fail
    refine (HAW.out).mono ?_
    rintro e w' ⟨rfl, n0, rfl⟩
    go_wp2_with fail
    refine (HA.out _).mono ?_
    rintro e w' ⟨rfl, n1, rfl⟩
    go_wp2_with fail
    refine (HS.out _).mono ?_
    rintro e w' ⟨rfl, n2, rfl⟩
    go_wp2_with fail
    refine (HM.out _).mono ?_
    rintro e w' ⟨rfl, n3, rfl⟩
    go_wp2_with fail
    refine (HF.out _).mono ?_
    rintro e w' ⟨rfl, n4, rfl⟩
    go_wp2_with fail
    go_ret
    exact ⟨rfl, _, rfl⟩
  · have HA := Lib.hid fun w => add_err a b m 2 w h (by omega)
    have HS := Lib.hid fun w => sub_err a b m 2 w h (by omega)
    have HM := Lib.hid fun w => mul_err a b m 2 w h (by omega)
    rw [h] at HF
    clear h
    go_enter Tryd.func3, Tryd.ntmps3
    go_wp2_with fail
    refine (HAW.out).mono ?_
    rintro e w' ⟨rfl, n0, rfl⟩
    go_wp2_with fail
    refine (HA.out _).mono ?_
    rintro e w' ⟨rfl, n1, rfl⟩
    go_wp2_with fail
    refine (HS.out _).mono ?_
    rintro e w' ⟨rfl, n2, rfl⟩
    go_wp2_with fail
    refine (HM.out _).mono ?_
    rintro e w' ⟨rfl, n3, rfl⟩
    go_wp2_with fail
    refine (HF.out _).mono ?_
    rintro e w' ⟨rfl, n4, rfl⟩
    go_wp2_with fail
    go_ret
    exact ⟨rfl, _, rfl⟩

theorem wordPowers_walk (a e m : Int) (w : World) (hT : Tab w) (e1 : e ≤ 9223372036854775807) :
    Calls Tryd.prog 4 #[.int .i64 a, .int .i64 e, .int .i64 m] w (Ret (.bool true) w) := by
  have HAW := Lib.hid (awake_any w hT)
  by_cases hm : m < 1 ∨ 2305843009213693952 ≤ m
  · have HP := Lib.hid fun w => pow_arg a e m w hm
    have HM := Lib.hid fun w => modulus_no m w hm
    clear hm
    go_enter Tryd.func4, Tryd.ntmps4
    go_wp2_with fail
    refine (HAW.out).mono ?_
    rintro e w' ⟨rfl, n0, rfl⟩
    go_wp2_with fail
    refine (HP.out _).mono ?_
    rintro e w' ⟨rfl, n1, rfl⟩
    go_wp2_with fail
    refine (HM.out _).mono ?_
    rintro e w' ⟨rfl, n2, rfl⟩
    go_wp2_with fail
    go_ret
    exact ⟨rfl, _, rfl⟩
  · have h1 : 1 ≤ m := by omega
    have h2 : m < 2305843009213693952 := by omega
    have HM := Lib.hid fun w => modulus_yes m w h1 h2
    clear hm
    by_cases ha : a < 0 ∨ m ≤ a
    · have HP := Lib.hid fun w => pow_range a e m w h1 h2 (by omega)
      have HR := Lib.hid fun w => residue_no a m w ha
      clear ha
      go_enter Tryd.func4, Tryd.ntmps4
      go_wp2_with fail
      refine (HAW.out).mono ?_
      rintro e w' ⟨rfl, n0, rfl⟩
      go_wp2_with fail
      refine (HP.out _).mono ?_
      rintro e w' ⟨rfl, n1, rfl⟩
      go_wp2_with fail
      refine (HM.out _).mono ?_
      rintro e w' ⟨rfl, n2, rfl⟩
      go_wp2_with fail
      refine (HR.out _).mono ?_
      rintro e w' ⟨rfl, n3, rfl⟩
      go_wp2_with fail
      go_ret
      exact ⟨rfl, _, rfl⟩
    · have a0 : 0 ≤ a := by omega
      have a1 : a < m := by omega
      have HR := Lib.hid fun w => residue_yes a m w a0 a1
      clear ha
      by_cases he : e < 0
      · have HP := Lib.hid fun w => pow_range a e m w h1 h2 (by omega)
        go_enter Tryd.func4, Tryd.ntmps4
        go_wp2_with fail
        refine (HAW.out).mono ?_
        rintro e w' ⟨rfl, n0, rfl⟩
        go_wp2_with fail
        refine (HP.out _).mono ?_
        rintro e w' ⟨rfl, n1, rfl⟩
        go_wp2_with fail
        refine (HM.out _).mono ?_
        rintro e w' ⟨rfl, n2, rfl⟩
        go_wp2_with fail
        refine (HR.out _).mono ?_
        rintro e w' ⟨rfl, n3, rfl⟩
        go_wp2_with fail
        go_ret
        exact ⟨rfl, _, rfl⟩
      · have e0 : 0 ≤ e := by omega
        have HP := Lib.hid fun w => pow_ok a e m w h1 h2 a0 a1 e0 e1
        have HRP := Lib.hid fun w => ref_pow a e m w h1 h2 a0 a1 e0 e1
        clear he
        generalize a ^ e.toNat % m = r at *
        go_enter Tryd.func4, Tryd.ntmps4
        go_wp2_with fail
        refine (HAW.out).mono ?_
        rintro e w' ⟨rfl, n0, rfl⟩
        go_wp2_with fail
        refine (HP.out _).mono ?_
        rintro e w' ⟨rfl, n1, rfl⟩
        go_wp2_with fail
        refine (HM.out _).mono ?_
        rintro e w' ⟨rfl, n2, rfl⟩
        go_wp2_with fail
        refine (HR.out _).mono ?_
        rintro e w' ⟨rfl, n3, rfl⟩
        go_wp2_with fail
        refine (HRP.out _).mono ?_
        rintro e w' ⟨rfl, n4, rfl⟩
        go_wp2_with fail
        go_ret
        exact ⟨rfl, _, rfl⟩

theorem wordReduces_walk (a b : Int) (w : World) (hT : Tab w) (a0 : -9223372036854775808 ≤ a) (a1 : a ≤ 9223372036854775807) (b0 : -9223372036854775808 ≤ b) (b1 : b ≤ 9223372036854775807) :
    Calls Tryd.prog 5 #[.int .i64 a, .int .i64 b] w (Ret (.bool true) w) := by
  have HAW := Lib.hid (awake_any w hT)
  have HG := Lib.hid fun w => gcd_any a b w a0 a1 b0 b1
  have HRG := Lib.hid fun w => ref_gcd a b w a0 a1 b0 b1
  generalize gcdR a b = g at *
  by_cases hm : b < 1 ∨ 2305843009213693952 ≤ b
  · have HR := Lib.hid fun w => reduce_err a b w hm
    have HM := Lib.hid fun w => modulus_no b w hm
    clear hm
    go_enter Tryd.func5, Tryd.ntmps5
    go_wp2_with fail
    refine (HAW.out).mono ?_
    rintro e w' ⟨rfl, n0, rfl⟩
    go_wp2_with fail
    refine (HR.out _).mono ?_
    rintro e w' ⟨rfl, n1, rfl⟩
    go_wp2_with fail
    refine (HG.out _).mono ?_
    rintro e w' ⟨rfl, n2, rfl⟩
    go_wp2_with fail
    refine (HRG.out _).mono ?_
    rintro e w' ⟨rfl, n3, rfl⟩
    go_wp2_with fail
    refine (HM.out _).mono ?_
    rintro e w' ⟨rfl, n4, rfl⟩
    go_wp2_with fail
    go_ret
    exact ⟨rfl, _, rfl⟩
  · have h1 : 1 ≤ b := by omega
    have h2 : b < 2305843009213693952 := by omega
    have HM := Lib.hid fun w => modulus_yes b w h1 h2
    have HR := Lib.hid fun w => reduce_ok a b w h1 h2 a0 a1
    have HRR := Lib.hid fun w => ref_reduce a b w h1 (by omega) a0 a1
    clear hm
    generalize a % b = r at *
    go_enter Tryd.func5, Tryd.ntmps5
    go_wp2_with fail
    refine (HAW.out).mono ?_
    rintro e w' ⟨rfl, n0, rfl⟩
    go_wp2_with fail
    refine (HR.out _).mono ?_
    rintro e w' ⟨rfl, n1, rfl⟩
    go_wp2_with fail
    refine (HG.out _).mono ?_
    rintro e w' ⟨rfl, n2, rfl⟩
    go_wp2_with fail
    refine (HRG.out _).mono ?_
    rintro e w' ⟨rfl, n3, rfl⟩
    go_wp2_with fail
    refine (HM.out _).mono ?_
    rintro e w' ⟨rfl, n4, rfl⟩
    go_wp2_with fail
    refine (HRR.out _).mono ?_
    rintro e w' ⟨rfl, n5, rfl⟩
    go_wp2_with fail
    go_ret
    exact ⟨rfl, _, rfl⟩

theorem inv_one {a m x : Int} (h1 : 1 ≤ m) (hx : m ∣ a * x - 1) : a * x % m = 1 % m := by
  obtain ⟨c, hc⟩ := hx
  rw [show a * x = 1 + m * c by omega, Int.add_mul_emod_self_left]

theorem wordInverses_walk (a m : Int) (w : World) (hT : Tab w) :
    Calls Tryd.prog 6 #[.int .i64 a, .int .i64 m] w (Ret (.bool true) w) := by
  have HAW := Lib.hid (awake_any w hT)
  have HF := Lib.hid fun w => ref_fault a 0 m w
  rcases fault_cases a 0 m with h | h | h
  · obtain ⟨h1, h2, a0, a1, b0, b1⟩ := fault_ok h
    have hgc := fun w => ref_gcd a m w (by omega) (by omega) (by omega) (by omega)
    rw [gcdR_small a m h1 h2] at hgc
    rw [h] at HF
    clear h
    by_cases hg : Int.gcd a m = 1
    · have HI := Lib.hid fun w => inverse_ok a m w h1 h2 a0 a1 hg
      rw [hg] at hgc
      have HGC := Lib.hid hgc
      obtain ⟨p0, p1⟩ := power_one m h1
      clear hgc hg
      go_enter Tryd.func6, Tryd.ntmps6
      go_wp2_with fail
      refine HAW.out.mono ?_
      rintro e w' ⟨rfl, n0, rfl⟩
      go_wp2_with fail
      refine (HI.out _).mono ?_
      rintro e w' ⟨x, rfl, x0, x1, hx, n1, rfl⟩
      have HR := Lib.hid fun w => residue_yes x m w x0 x1
      have hmm := fun w => ref_mul a x m w h1 h2 a0 a1 x0 x1
      rw [inv_one h1 hx] at hmm
      have HMM := Lib.hid hmm
      clear hx hmm
      have hm0 : (m == 0) = false := by simp; omega
      go_wp2_with fail
      refine (HF.out _).mono ?_
      rintro e w' ⟨rfl, n0, rfl⟩
      go_wp2_with fail
      refine (HGC.out _).mono ?_
      rintro e w' ⟨rfl, n1, rfl⟩
      go_wp2_with fail
      go_quiet (first | (go_at_call 22; exact ret_quiet (HR.out _)) | (go_at_call 19; exact ret_quiet (HMM.out _)))
      go_wp2
      go_ret
      exact ⟨rfl, _, drew2 _ _ _⟩
    · have HI := Lib.hid fun w => inverse_none a m w h1 h2 a0 a1 hg
      have HGC := Lib.hid hgc
      have hb : ((Int.gcd a m : Int) != 1) = true := by simp; omega
      clear hgc hg
      go_enter Tryd.func6, Tryd.ntmps6
      go_wp2_with fail
      refine (HAW.out).mono ?_
      rintro e w' ⟨rfl, n0, rfl⟩
      go_wp2_with fail
      refine (HI.out _).mono ?_
      rintro e w' ⟨rfl, n1, rfl⟩
      go_wp2_with fail
      refine (HF.out _).mono ?_
      rintro e w' ⟨rfl, n2, rfl⟩
      go_wp2_with fail
      refine (HGC.out _).mono ?_
      rintro e w' ⟨rfl, n3, rfl⟩
      go_wp2_with fail
      go_ret
      exact ⟨rfl, _, rfl⟩
  · have HI := Lib.hid fun w => inverse_err a m 1 w h (by omega)
    rw [h] at HF
    clear h
    go_enter Tryd.func6, Tryd.ntmps6
    go_wp2_with fail
    refine (HAW.out).mono ?_
    rintro e w' ⟨rfl, n0, rfl⟩
    go_wp2_with fail
    refine (HI.out _).mono ?_
    rintro e w' ⟨rfl, n1, rfl⟩
    go_wp2_with fail
    refine (HF.out _).mono ?_
    rintro e w' ⟨rfl, n2, rfl⟩
    go_wp2_with fail
    go_ret
    exact ⟨rfl, _, rfl⟩
  · have HI := Lib.hid fun w => inverse_err a m 2 w h (by omega)
    rw [h] at HF
    clear h
    go_enter Tryd.func6, Tryd.ntmps6
    go_wp2_with fail
    refine (HAW.out).mono ?_
    rintro e w' ⟨rfl, n0, rfl⟩
    go_wp2_with fail
    refine (HI.out _).mono ?_
    rintro e w' ⟨rfl, n1, rfl⟩
    go_wp2_with fail
    refine (HF.out _).mono ?_
    rintro e w' ⟨rfl, n2, rfl⟩
    go_wp2_with fail
    go_ret
    exact ⟨rfl, _, rfl⟩

theorem wordSolves_walk (a b m : Int) (w : World) (hT : Tab w) :
    Calls Tryd.prog 7 #[.int .i64 a, .int .i64 b, .int .i64 m] w (Ret (.bool true) w) := by
  have HAW := Lib.hid (awake_any w hT)
  have HF := Lib.hid fun w => ref_fault a b m w
  rcases fault_cases a b m with h | h | h
  · obtain ⟨h1, h2, a0, a1, b0, b1⟩ := fault_ok h
    rw [h] at HF
    clear h
    by_cases hb : (Int.gcd a m : Int) ∣ b
    · have HI := Lib.hid fun w => solve_ok a b m w h1 h2 a0 a1 b0 b1 hb
      have HR := Lib.hid fun w => ref_solve a b m w h1 h2 a0 a1 b0 b1 hb
      clear hb
      go_enter Tryd.func7, Tryd.ntmps7
      go_wp2_with fail
      refine HAW.out.mono ?_
      rintro e w' ⟨rfl, n0, rfl⟩
      go_wp2_with fail
      refine (HI.out _).mono ?_
      rintro e w' ⟨x, rfl, x0, x1, hx, n1, rfl⟩
      go_wp2_with fail
      refine (HF.out _).mono ?_
      rintro e w' ⟨rfl, n2, rfl⟩
      go_wp2_with fail
      refine (HR.out _).mono ?_
      rintro e w' ⟨y, rfl, y0, y1, hy, n3, rfl⟩
      obtain rfl := solve_unique h1 hx hy x0 x1 y0 y1
      clear hx hy x1 y1
      generalize m / (Int.gcd a m : Int) = k at *
      go_wp2_with fail
      go_ret
      exact ⟨rfl, _, rfl⟩
    · have HI := Lib.hid fun w => solve_none a b m w h1 h2 a0 a1 b0 b1 hb
      have HR := Lib.hid fun w => ref_solve_none a b m w h1 h2 a0 a1 b0 b1 hb
      clear hb
      go_enter Tryd.func7, Tryd.ntmps7
      go_wp2_with fail
      refine (HAW.out).mono ?_
      rintro e w' ⟨rfl, n0, rfl⟩
      go_wp2_with fail
      refine (HI.out _).mono ?_
      rintro e w' ⟨rfl, n1, rfl⟩
      go_wp2_with fail
      refine (HF.out _).mono ?_
      rintro e w' ⟨rfl, n2, rfl⟩
      go_wp2_with fail
      refine (HR.out _).mono ?_
      rintro e w' ⟨rfl, n3, rfl⟩
      go_wp2_with fail
      go_ret
      exact ⟨rfl, _, rfl⟩
  · have HI := Lib.hid fun w => solve_err a b m 1 w h (by omega)
    rw [h] at HF
    clear h
    go_enter Tryd.func7, Tryd.ntmps7
    go_wp2_with fail
    refine (HAW.out).mono ?_
    rintro e w' ⟨rfl, n0, rfl⟩
    go_wp2_with fail
    refine (HI.out _).mono ?_
    rintro e w' ⟨rfl, n1, rfl⟩
    go_wp2_with fail
    refine (HF.out _).mono ?_
    rintro e w' ⟨rfl, n2, rfl⟩
    go_wp2_with fail
    go_ret
    exact ⟨rfl, _, rfl⟩
  · have HI := Lib.hid fun w => solve_err a b m 2 w h (by omega)
    rw [h] at HF
    clear h
    go_enter Tryd.func7, Tryd.ntmps7
    go_wp2_with fail
    refine (HAW.out).mono ?_
    rintro e w' ⟨rfl, n0, rfl⟩
    go_wp2_with fail
    refine (HI.out _).mono ?_
    rintro e w' ⟨rfl, n1, rfl⟩
    go_wp2_with fail
    refine (HF.out _).mono ?_
    rintro e w' ⟨rfl, n2, rfl⟩
    go_wp2_with fail
    go_ret
    exact ⟨rfl, _, rfl⟩

theorem wordSymbols_walk (a n : Int) (w : World) (hT : Tab w) (x0 : -9223372036854775808 ≤ n) (x1 : n ≤ 9223372036854775807) :
    Calls Tryd.prog 8 #[.int .i64 a, .int .i64 n] w (Ret (.bool true) w) := by
  have HAW := Lib.hid (awake_any w hT)
  by_cases hm : n < 1 ∨ 2305843009213693952 ≤ n
  · have HJ := Lib.hid fun w => jacobi_arg a n w x0 x1 (by omega)
    have HM := Lib.hid fun w => modulus_no n w hm
    clear hm
    go_enter Tryd.func8, Tryd.ntmps8
    go_wp2_with fail
    refine (HAW.out).mono ?_
    rintro e w' ⟨rfl, n0, rfl⟩
    go_wp2_with fail
    refine (HJ.out _).mono ?_
    rintro e w' ⟨rfl, n1, rfl⟩
    go_wp2_with fail
    refine (HM.out _).mono ?_
    rintro e w' ⟨rfl, n2, rfl⟩
    go_wp2_with fail
    go_ret
    exact ⟨rfl, _, rfl⟩
  · have h1 : 1 ≤ n := by omega
    have h2 : n < 2305843009213693952 := by omega
    have HM := Lib.hid fun w => modulus_yes n w h1 h2
    clear hm
    by_cases hn : n % 2 = 0
    · have HJ := Lib.hid fun w => jacobi_arg a n w x0 x1 (by omega)
      have t1 : (n % 2 == 0) = true := by simp [hn]
      clear hn
      go_enter Tryd.func8, Tryd.ntmps8
      go_wp2_with fail
      refine (HAW.out).mono ?_
      rintro e w' ⟨rfl, n0, rfl⟩
      go_wp2_with fail
      refine (HJ.out _).mono ?_
      rintro e w' ⟨rfl, n1, rfl⟩
      go_wp2_with fail
      refine (HM.out _).mono ?_
      rintro e w' ⟨rfl, n2, rfl⟩
      go_wp2_with fail
      go_ret
      exact ⟨rfl, _, rfl⟩
    · have t1 : (n % 2 == 0) = false := by simp [hn]
      by_cases ha : a < 0 ∨ n ≤ a
      · have HJ := Lib.hid fun w => jacobi_range a n w h1 h2 (by omega) ha
        have HR := Lib.hid fun w => residue_no a n w ha
        clear ha hn
        go_enter Tryd.func8, Tryd.ntmps8
        go_wp2_with fail
        refine (HAW.out).mono ?_
        rintro e w' ⟨rfl, n0, rfl⟩
        go_wp2_with fail
        refine (HJ.out _).mono ?_
        rintro e w' ⟨rfl, n1, rfl⟩
        go_wp2_with fail
        refine (HM.out _).mono ?_
        rintro e w' ⟨rfl, n2, rfl⟩
        go_wp2_with fail
        refine (HR.out _).mono ?_
        rintro e w' ⟨rfl, n3, rfl⟩
        go_wp2_with fail
        go_ret
        exact ⟨rfl, _, rfl⟩
      · have a0 : 0 ≤ a := by omega
        have a1 : a < n := by omega
        have HR := Lib.hid fun w => residue_yes a n w a0 a1
        have HJ : Hid (∀ k, Calls Tryd.prog 30 #[.int .i64 a, .int .i64 n] (w.drewN k) (Ret (.tuple #[.int .i64 (jacZ a n), .int .i64 0]) (w.drewN k))) := Lib.hid fun k => jacobi_ok a n _ (fun j hj => hT j hj) h1 h2 (by omega) a0 a1
        have HRJ := Lib.hid fun w => ref_jacobi a n w a0 (by omega) (by omega) h2
        clear ha hn hT
        generalize jacZ a n = s at *
        go_enter Tryd.func8, Tryd.ntmps8
        go_wp2_with fail
        refine (HAW.out).mono ?_
        rintro e w' ⟨rfl, n0, rfl⟩
        go_wp2_with fail
        refine (HJ.out _).mono ?_
        rintro e w' ⟨rfl, n1, rfl⟩
        go_wp2_with fail
        refine (HM.out _).mono ?_
        rintro e w' ⟨rfl, n2, rfl⟩
        go_wp2_with fail
        refine (HR.out _).mono ?_
        rintro e w' ⟨rfl, n3, rfl⟩
        go_wp2_with fail
        refine (HRJ.out _).mono ?_
        rintro e w' ⟨rfl, n4, rfl⟩
        go_wp2_with fail
        go_ret
        exact ⟨rfl, _, rfl⟩

end Go.Proofs.YtgadpmepjkmmnaaDoor
