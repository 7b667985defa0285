/- The chapter's examples, which each statement checks first. -/
import Derived.Test.YtgadpmepjkmmnaaDoorJacw
set_option linter.unusedVariables false
set_option linter.unusedSimpArgs false
namespace Go.Proofs.YtgadpmepjkmmnaaDoor
open Go.RowKit

theorem ex_mul (w : World) : Calls Tryd.prog 16 #[.int .i64 7, .int .i64 8, .int .i64 11] w (Ret (.tuple #[.int .i64 1, .int .i64 0]) w) := by
  have h := mul_ok 7 8 11 w (by decide)
  have e : (7 : Int) * 8 % 11 = 1 := by decide
  rwa [e] at h

theorem ex_inverse (w : World) : Calls Tryd.prog 27 #[.int .i64 7, .int .i64 11] w (Ret (.tuple #[.int .i64 8, .int .i64 0]) w) := by
  refine (inverse_ok 7 11 w (by omega) (by omega) (by omega) (by omega) (by decide)).mono ?_
  rintro e w' ⟨x, rfl, x0, x1, hx, n, rfl⟩
  obtain rfl : x = 8 := by omega
  exact ⟨rfl, n, rfl⟩

theorem ex_solve (w : World) : Calls Tryd.prog 28 #[.int .i64 6, .int .i64 4, .int .i64 10] w (Ret (.tuple #[.int .i64 4, .int .i64 5, .int .i64 0]) w) := by
  have eg : Int.gcd 6 10 = 2 := by decide
  refine (solve_ok 6 4 10 w (by omega) (by omega) (by omega) (by omega) (by omega) (by omega) (by rw [eg]; decide)).mono ?_
  rintro e w' ⟨x, rfl, x0, x1, hx, n, rfl⟩
  rw [eg] at x1 ⊢
  obtain rfl : x = 4 := by omega
  exact ⟨rfl, n, rfl⟩

theorem jac_2_15 : jacZ 2 15 = 1 := by
  rw [jz_even (by omega) (by omega) (by omega), if_neg (by omega), show (2 : Int) / 2 = 1 by decide, jz_odd (by omega) (by omega) (by omega), if_neg (by omega), show (15 : Int) % 1 = 0 by decide, jz_zero, if_pos rfl]
  decide

theorem ex_jacobi (w : World) (hT : Tab w) : Calls Tryd.prog 30 #[.int .i64 2, .int .i64 15] w (Ret (.tuple #[.int .i64 1, .int .i64 0]) w) := by
  have h := jacobi_ok 2 15 w hT (by omega) (by omega) (by omega) (by omega) (by omega)
  rwa [jac_2_15] at h

theorem awake_any (w : World) (hT : Tab w) : Calls Tryd.prog 13 #[] w (Ret (.bool true) w) := by
  have HJ := Lib.hid fun k => ex_jacobi (w.drewN k) (fun j hj => hT j hj)
  clear hT
  go_enter Tryd.func13, Tryd.ntmps13
  go_wp2_with (first
    | (go_at_call 16; refine (ex_mul _).mono ?_; rintro e w' ⟨rfl, n, rfl⟩)
    | (go_at_call 27; refine (ex_inverse _).mono ?_; rintro e w' ⟨rfl, n, rfl⟩)
    | (go_at_call 28; refine (ex_solve _).mono ?_; rintro e w' ⟨rfl, n, rfl⟩)
    | (go_at_call 30; refine (HJ.out _).mono ?_; rintro e w' ⟨rfl, n, rfl⟩))
  go_ret
  exact ⟨rfl, _, rfl⟩

end Go.Proofs.YtgadpmepjkmmnaaDoor
