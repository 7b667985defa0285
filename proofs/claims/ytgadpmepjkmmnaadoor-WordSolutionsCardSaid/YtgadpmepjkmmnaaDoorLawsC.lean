/- The solutions of linear congruences, and the symbol's laws: the walks. -/
import Derived.Test.YtgadpmepjkmmnaaDoorAwake
import Derived.Test.YtgadpmepjkmmnaaDoorGauss
import Derived.Test.YtgadpmepjkmmnaaDoorLawsB
set_option linter.unusedVariables false
set_option linter.unusedSimpArgs false
namespace Go.Proofs.YtgadpmepjkmmnaaDoor
open Go.RowKit

/-- The solutions are those that the solution and the step describe. -/
theorem sol_iff {p q n x : Int} (h1 : 1 ≤ n) (hx : n ∣ p * x - q) (x0 : 0 ≤ x) (x1 : x < n / (Int.gcd p n : Int)) (q0 : 0 ≤ q) (q1 : q < n) (k : Int) (k0 : 0 ≤ k) :
    k % (n / (Int.gcd p n : Int)) = x ↔ p * k % n = q := by
  have hs := step_of p n h1
  have hk := Int.mul_ediv_add_emod k (n / (Int.gcd p n : Int))
  have r0 := Int.emod_nonneg k (show n / (Int.gcd p n : Int) ≠ 0 by have := hs.k1; omega)
  have r1 := Int.emod_lt_of_pos k (show 0 < n / (Int.gcd p n : Int) by have := hs.k1; omega)
  have hd : n ∣ p * (n / (Int.gcd p n : Int) * (k / (n / (Int.gcd p n : Int)))) := by
    obtain ⟨p', hp⟩ := hs.da
    have : p * (n / (Int.gcd p n : Int) * (k / (n / (Int.gcd p n : Int)))) = (Int.gcd p n : Int) * (n / (Int.gcd p n : Int)) * (p' * (k / (n / (Int.gcd p n : Int)))) := by
      generalize k / (n / (Int.gcd p n : Int)) = t
      generalize hg : (n / (Int.gcd p n : Int)) = s
      have hp2 : p * (s * t) = (Int.gcd p n : Int) * p' * (s * t) := congrArg (· * (s * t)) hp
      rw [hp2]
      simp only [Int.mul_comm, Int.mul_left_comm, Int.mul_assoc]
    rw [this, hs.e]
    exact Int.dvd_mul_right ..
  constructor
  · intro e
    have h2 : n ∣ p * k - q := by
      have : p * k - q = p * (n / (Int.gcd p n : Int) * (k / (n / (Int.gcd p n : Int)))) + (p * x - q) := by
        rw [← e]
        have h3 : p * k = p * (n / (Int.gcd p n : Int) * (k / (n / (Int.gcd p n : Int))) + k % (n / (Int.gcd p n : Int))) := by rw [hk]
        rw [Int.mul_add] at h3
        omega
      rw [this]
      exact Int.dvd_add hd hx
    obtain ⟨c, hc⟩ := h2
    rw [show p * k = q + n * c by omega, Int.add_mul_emod_self_left, Int.emod_eq_of_lt q0 q1]
  · intro e
    have h2 : n ∣ p * (k % (n / (Int.gcd p n : Int))) - q := by
      have h4 := Int.mul_ediv_add_emod (p * k) n
      have h3 : p * k = p * (n / (Int.gcd p n : Int) * (k / (n / (Int.gcd p n : Int))) + k % (n / (Int.gcd p n : Int))) := by rw [hk]
      rw [Int.mul_add] at h3
      have : p * (k % (n / (Int.gcd p n : Int))) - q = n * (p * k / n) - p * (n / (Int.gcd p n : Int) * (k / (n / (Int.gcd p n : Int)))) := by omega
      rw [this]
      exact Int.dvd_sub (Int.dvd_mul_right ..) hd
    exact solve_unique h1 h2 hx r0 r1 x0 x1

theorem sol_none {p q n : Int} (h1 : 1 ≤ n) (h : ¬ (Int.gcd p n : Int) ∣ q) (k : Int) : p * k % n ≠ q := by
  intro e
  refine h ?_
  have h4 := Int.mul_ediv_add_emod (p * k) n
  rw [show q = p * k - n * (p * k / n) by omega]
  exact Int.dvd_sub (Int.dvd_mul_of_dvd_left (Int.gcd_dvd_left ..)) (Int.dvd_mul_of_dvd_left (Int.gcd_dvd_right ..))

set_option maxRecDepth 100000 in
set_option maxHeartbeats 1000000 in
theorem wordSolutions_walk (a b m : Int) (w : World) (hT : Tab w) (a0 : 0 ≤ a) (a1 : a ≤ 65535) (b0 : 0 ≤ b) (b1 : b ≤ 65535) (m0 : 0 ≤ m) (m1 : m ≤ 65535) :
    Calls Tryd.prog 11 #[.int .u16 a, .int .u16 b, .int .u16 m] w (Ret (.bool true) w) := by
  have HAW := Lib.hid (awake_any w hT)
  obtain ⟨n, hn⟩ : ∃ n, 1 + m % 300 = n := ⟨_, rfl⟩
  have n1 : 1 ≤ n := by omega
  have n2 : n ≤ 300 := by omega
  have hn0 : (n == 0) = false := by simp; omega
  obtain ⟨p0, p1⟩ := res_bounds a n n1
  obtain ⟨q0, q1⟩ := res_bounds b n n1
  by_cases hb : (Int.gcd (a % n) n : Int) ∣ b % n
  · have HI := Lib.hid fun w => solve_ok (a % n) (b % n) n w n1 (by omega) p0 p1 q0 q1 hb
    have hs := step_of (a % n) n n1
    have g1 := hs.k1; have g2 := hs.km
    have HX' := Lib.hid fun x => @sol_iff (a % n) (b % n) n x
    clear hb hs
    unfold SolveGives at HI
    generalize n / (Int.gcd (a % n) n : Int) = s at *
    go_enter Tryd.func11, Tryd.ntmps11
    go_wp2_with fail
    refine HAW.out.mono ?_
    rintro e w' ⟨rfl, n0, rfl⟩
    go_wp2_with fail
    go_quiet (fail)
    go_wp2_with fail
    refine (HI.out _).mono ?_
    rintro e w' ⟨x, rfl, x0, x1, hx, n3, rfl⟩
    have HX := Lib.hid fun k k0 => HX'.out x n1 hx x0 x1 q0 q1 k k0
    clear hx
    go_wp2_with fail
    go_loopw [13, 14, 15, 16, 74] (fun _ _ _ _ sk wr => ∃ k : Int, sk = .int .i64 k ∧ 0 ≤ k ∧ k ≤ n ∧ ∃ j, wr = w.drewN j) (fun _ _ _ _ sk _ => (n - intOf sk).toNat)
    case atStart => exact ⟨0, rfl, by omega, by omega, _, rfl⟩
    case round =>
      obtain ⟨k, rfl, k0, k1, j, rfl⟩ := hrel
      by_cases hk : k < n
      · have HM := Lib.hid fun w => mul_ok (a % n) k n w (fault_zero n1 (by omega) p0 p1 k0 hk)
        obtain ⟨y0, y1⟩ := res_bounds (a % n * k) n n1
        by_cases hy : a % n * k % n = b % n
        · have t1 : (a % n * k % n == b % n) = true := by simp [hy]
          have t2 : (k % s == x) = true := by rw [beq_iff_eq]; exact (HX.out k k0).2 hy
          clear hy
          go_wp2_with fail
          refine (HM.out _).mono ?_
          rintro e w' ⟨rfl, n9, rfl⟩
          go_wp2_with fail
          go_roundw
          case rel => exact ⟨k + 1, by go_num, by omega, by omega, _, rfl⟩
          case measure => simp [intOf]; omega
        · have t1 : (a % n * k % n == b % n) = false := by rw [beq_eq_false_iff_ne]; exact hy
          have t2 : (k % s == x) = false := by rw [beq_eq_false_iff_ne]; exact fun h => hy ((HX.out k k0).1 h)
          clear hy
          go_wp2_with fail
          refine (HM.out _).mono ?_
          rintro e w' ⟨rfl, n9, rfl⟩
          go_wp2_with fail
          go_roundw
          case rel => exact ⟨k + 1, by go_num, by omega, by omega, _, rfl⟩
          case measure => simp [intOf]; omega
      · go_wp2_with fail
        go_ret
        exact ⟨rfl, _, rfl⟩
  · have HI := Lib.hid fun w => solve_none (a % n) (b % n) n w n1 (by omega) p0 p1 q0 q1 hb
    have HX := Lib.hid (sol_none n1 hb)
    clear hb
    go_enter Tryd.func11, Tryd.ntmps11
    go_wp2_with fail
    refine HAW.out.mono ?_
    rintro e w' ⟨rfl, n0, rfl⟩
    go_wp2_with fail
    go_quiet (fail)
    go_wp2_with fail
    refine (HI.out _).mono ?_
    rintro e w' ⟨rfl, n3, rfl⟩
    go_wp2_with fail
    go_loopw [13, 14, 15, 16, 74] (fun _ _ _ _ sk wr => ∃ k : Int, sk = .int .i64 k ∧ 0 ≤ k ∧ k ≤ n ∧ ∃ j, wr = w.drewN j) (fun _ _ _ _ sk _ => (n - intOf sk).toNat)
    case atStart => exact ⟨0, rfl, by omega, by omega, _, rfl⟩
    case round =>
      obtain ⟨k, rfl, k0, k1, j, rfl⟩ := hrel
      by_cases hk : k < n
      · have HM := Lib.hid fun w => mul_ok (a % n) k n w (fault_zero n1 (by omega) p0 p1 k0 hk)
        obtain ⟨y0, y1⟩ := res_bounds (a % n * k) n n1
        have t1 : (a % n * k % n == b % n) = false := by rw [beq_eq_false_iff_ne]; exact HX.out k
        go_wp2_with fail
        refine (HM.out _).mono ?_
        rintro e w' ⟨rfl, n9, rfl⟩
        go_wp2_with fail
        go_roundw
        case rel => exact ⟨k + 1, by go_num, by omega, by omega, _, rfl⟩
        case measure => simp [intOf]; omega
      · go_wp2_with fail
        go_ret
        exact ⟨rfl, _, rfl⟩

end Go.Proofs.YtgadpmepjkmmnaaDoor
