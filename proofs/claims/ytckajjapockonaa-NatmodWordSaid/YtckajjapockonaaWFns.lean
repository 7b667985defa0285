/- Add, Mul and Inverse of package word. -/
import Derived.Test.YtckajjapockonaaWLow
set_option linter.unusedVariables false
set_option linter.unusedSimpArgs false
namespace Go.Proofs.Ytckajjapockonaa.Wd
open Go.RowKit

def fault (a b m : Int) : Int := if m < 1 ∨ 2305843009213693952 ≤ m then 1 else if a < 0 ∨ m ≤ a ∨ b < 0 ∨ m ≤ b then 2 else 0

theorem fault_ok {a b m : Int} (h : fault a b m = 0) : 1 ≤ m ∧ m < 2305843009213693952 ∧ 0 ≤ a ∧ a < m ∧ 0 ≤ b ∧ b < m := by
  unfold fault at h; repeat' split at h
  all_goals omega

theorem fault_zero {a b m : Int} (h1 : 1 ≤ m) (h2 : m < 2305843009213693952) (a0 : 0 ≤ a) (a1 : a < m) (b0 : 0 ≤ b) (b1 : b < m) : fault a b m = 0 := by
  unfold fault; rw [if_neg (by omega), if_neg (by omega)]

theorem check_f (a b m f : Int) (w : World) (h : fault a b m = f) :
    Calls Try.prog 78 #[.int .i64 a, .int .i64 b, .int .i64 m] w (Ret (.int .i64 f) w) := by
  have := check_any a b m w
  unfold fault at h
  rwa [h] at this

theorem add_ok (a b m : Int) (w : World) (h : fault a b m = 0) :
    Calls Try.prog 44 #[.int .i64 a, .int .i64 b, .int .i64 m] w (Ret (.tuple #[.int .i64 ((a + b) % m), .int .i64 0]) w) := by
  obtain ⟨h1, h2, a0, a1, b0, b1⟩ := fault_ok h
  have H := Lib.hid h
  clear h
  go_enter Try.func44, Try.ntmps44
  go_wp2_with (go_at_call 78; refine (check_f _ _ _ _ _ H.out).mono ?_; rintro e w' ⟨rfl, n, rfl⟩)
  go_ret2
  exact ⟨rfl, _, rfl⟩

theorem mul_ok (a b m : Int) (w : World) (h : fault a b m = 0) :
    Calls Try.prog 45 #[.int .i64 a, .int .i64 b, .int .i64 m] w (Ret (.tuple #[.int .i64 (a * b % m), .int .i64 0]) w) := by
  obtain ⟨h1, h2, a0, a1, b0, b1⟩ := fault_ok h
  have H := Lib.hid h
  have hp := fun w => product_any a b m w h1 h2 a0 a1 b0 b1
  have HP := Lib.hid hp
  clear h hp
  go_enter Try.func45, Try.ntmps45
  go_wp2_with (first | (go_at_call 78; refine (check_f _ _ _ _ _ H.out).mono ?_; rintro e w' ⟨rfl, n, rfl⟩) | (go_at_call 79; refine (HP.out _).mono ?_; rintro e w' ⟨rfl, n, rfl⟩))
  go_ret2
  exact ⟨rfl, _, rfl⟩

theorem drew2 (w : World) (n m : Nat) : (w.drewN n).drewN m = w.drewN (n + m) := by simp

theorem gcd_step (x y : Int) (h0 : 0 ≤ x) (h1 : 0 < y) : Nat.gcd y.toNat (x % y).toNat = Nat.gcd x.toNat y.toNat := by
  obtain ⟨n, rfl⟩ := Int.eq_ofNat_of_zero_le h0
  obtain ⟨k, rfl⟩ := Int.eq_ofNat_of_zero_le (show 0 ≤ y by omega)
  rw [← Int.natCast_emod, Int.toNat_natCast, Int.toNat_natCast, Int.toNat_natCast, Nat.gcd_comm n k, Nat.gcd_rec k n, Nat.gcd_comm]

/-- What holds at each round: sizes A and C of x and y, with opposite signs. -/
structure Euc (a m d r x y s A C : Int) : Prop where
  d1 : 1 ≤ d
  dm : d ≤ m
  r0 : 0 ≤ r
  r1 : r < d
  g : Nat.gcd d.toNat r.toNat = Int.gcd a m
  hx : m ∣ a * x - d
  hy : m ∣ a * y - r
  s1 : s = 1 ∨ s = -1
  A0 : 0 ≤ A
  C0 : 0 ≤ C
  ex : x = -s * A
  ey : y = s * C
  e : A * r + C * d = m
  x1 : A < m

theorem euc_start (a m : Int) (h1 : 1 ≤ m) (a0 : 0 ≤ a) (a1 : a < m) : Euc a m m a 0 1 1 0 1 := by
  refine ⟨h1, by omega, a0, a1, ?_, ?_, ?_, by omega, by omega, by omega, by omega, by omega, by omega, by omega⟩
  · obtain ⟨n, rfl⟩ := Int.eq_ofNat_of_zero_le a0
    obtain ⟨k, rfl⟩ := Int.eq_ofNat_of_zero_le (show 0 ≤ m by omega)
    rw [Int.gcd_comm]; rfl
  · rw [Int.mul_zero, Int.zero_sub]; exact Int.dvd_neg.2 (Int.dvd_refl _)
  · rw [Int.mul_one, Int.sub_self]; exact Int.dvd_zero _

theorem euc_step {a m d r x y s A C : Int} (h : Euc a m d r x y s A C) (hr : 0 < r) :
    Euc a m r (d - d / r * r) y (x - d / r * y) (-s) C (A + d / r * C) := by
  have d1 := h.d1; have dm := h.dm; have r0 := h.r0; have r1 := h.r1
  have e1 : d - d / r * r = d % r := by have := Int.mul_ediv_add_emod d r; rw [Int.mul_comm] at this; omega
  have m0 := Int.emod_nonneg d (show r ≠ 0 by omega)
  have m1 := Int.emod_lt_of_pos d hr
  have q0 : 0 ≤ d / r := Int.ediv_nonneg (by omega) r0
  refine ⟨by omega, by omega, by omega, by omega, ?_, h.hy, ?_, ?_, h.C0, ?_, ?_, ?_, ?_, ?_⟩
  · rw [e1, gcd_step d r (by omega) hr]; exact h.g
  · have : a * (x - d / r * y) - (d - d / r * r) = (a * x - d) - d / r * (a * y - r) := by
      rw [Int.mul_sub, Int.mul_sub, ← Int.mul_assoc a, Int.mul_comm a (d / r), Int.mul_assoc]; omega
    rw [this]
    exact Int.dvd_sub h.hx (Int.dvd_mul_of_dvd_right h.hy)
  · rcases h.s1 with h | h <;> omega
  · have := Int.mul_nonneg q0 h.C0; have := h.A0; omega
  · rw [Int.neg_neg]; exact h.ey
  · rw [h.ex, h.ey, Int.mul_add, Int.neg_mul, Int.neg_mul, Int.mul_left_comm]; omega
  · have := h.e
    have e2 : C * (d - d / r * r) + (A + d / r * C) * r = A * r + C * d := by
      rw [Int.mul_sub, Int.add_mul, Int.mul_comm (d / r) C, Int.mul_assoc]; omega
    rw [e2]; exact this
  · have := h.e
    have : 0 ≤ A * r := Int.mul_nonneg h.A0 r0
    have : C * 2 ≤ C * d := Int.mul_le_mul_of_nonneg_left (by omega) h.C0
    have := h.C0
    omega

theorem euc_bounds {a m d r x y s A C : Int} (h : Euc a m d r x y s A C) : -m < x ∧ x < m ∧ -m ≤ y ∧ y ≤ m := by
  have := h.x1; have := h.A0; have := h.C0; have := h.d1; have r0 := h.r0
  have e := h.e
  have : 0 ≤ A * r := Int.mul_nonneg h.A0 r0
  have : C * 1 ≤ C * d := Int.mul_le_mul_of_nonneg_left (by omega) h.C0
  have ex := h.ex; have ey := h.ey
  rcases h.s1 with rfl | rfl <;> omega

def EuclidGives (a m : Int) (w : World) (e : Ending) (w' : World) : Prop :=
  ∃ x : Int, e = .returned (.tuple #[.int .i64 (Int.gcd a m), .int .i64 x]) ∧ 0 ≤ x ∧ x < m ∧ m ∣ a * x - (Int.gcd a m : Int) ∧ ∃ n, w' = w.drewN n

theorem euc_end {a m d x y s A C : Int} (h : Euc a m d 0 x y s A C) : d = (Int.gcd a m : Int) := by
  have h1 := h.d1
  have hg := h.g
  simp at hg
  omega

theorem euc_last {a m x g : Int} (h : m ∣ a * x - g) : m ∣ a * (if x < 0 then x + m else x) - g := by
  split
  · rw [Int.mul_add, show a * x + a * m - g = (a * x - g) + a * m by omega]
    exact Int.dvd_add h (Int.dvd_mul_left _ _)
  · exact h

set_option maxHeartbeats 400000 in
theorem euclid_any (a m : Int) (w : World) (h1 : 1 ≤ m) (h2 : m < 2305843009213693952) (a0 : 0 ≤ a) (a1 : a < m) :
    Calls Try.prog 80 #[.int .i64 a, .int .i64 m] w (EuclidGives a m w) := by
  have HST := Lib.hid (euc_start a m h1 a0 a1)
  go_enter Try.func80, Try.ntmps80
  go_wp2
  go_loopw [4, 5, 6, 7] (fun sd sx sr sy wr => ∃ d x r y s A C : Int, sd = .int .i64 d ∧ sx = .int .i64 x ∧ sr = .int .i64 r ∧ sy = .int .i64 y ∧ Euc a m d r x y s A C ∧ ∃ n, wr = w.drewN n) (fun _ _ sr _ _ => (intOf sr).toNat)
  case atStart => exact ⟨_, _, _, _, _, _, _, rfl, rfl, rfl, rfl, HST.out, 0, rfl⟩
  case round =>
    clear HST
    obtain ⟨d, x, r, y, s, A, C, rfl, rfl, rfl, rfl, he, n, rfl⟩ := hrel
    have d1 := he.d1; have dm := he.dm; have r0 := he.r0; have r1 := he.r1
    obtain ⟨b1, b2, b3, b4⟩ := euc_bounds he
    by_cases hr : 0 < r
    · have hn := euc_step he hr
      obtain ⟨c1, c2, c3, c4⟩ := euc_bounds hn
      have n0 := hn.r0; have n1 := hn.r1
      have q0 : 0 ≤ d / r := Int.ediv_nonneg (by omega) r0
      have q1 : d / r * r ≤ d := by omega
      have q2 : d / r ≤ d / r * r := by
        have := Int.mul_le_mul_of_nonneg_left (show 1 ≤ r by omega) q0
        omega
      have HN := Lib.hid hn
      clear hn he
      go_wp2
      exact ⟨⟨_, _, _, _, _, _, _, rfl, rfl, rfl, rfl, HN.out, _, rfl⟩, by simp [intOf]; omega⟩
    · have hr0 : r = 0 := by omega
      subst hr0
      have hg := euc_end he
      have hl := euc_last he.hx
      have hlx : ∀ w, Calls Try.prog 94 #[.int .i64 x, .int .i64 m] w (Ret (.int .i64 (if x < 0 then x + m else x)) w) := fun w => least_any x m w (by omega) h2 (by omega) (by omega)
      have hb : 0 ≤ (if x < 0 then x + m else x) ∧ (if x < 0 then x + m else x) < m := by split <;> omega
      generalize (if x < 0 then x + m else x) = z at *
      have HE := Lib.hid he; have HG := Lib.hid hg; have HL := Lib.hid hl; have HX := Lib.hid hlx; have HB := Lib.hid hb
      clear he hg hl hlx hb
      go_wp2_with fail
      refine (HX.out _).mono ?_
      rintro e w' ⟨rfl, n1, rfl⟩
      go_wp2_with fail
      go_ret2
      refine ⟨z, ret_two HG.out rfl, HB.out.1, HB.out.2, ?_, _, rfl⟩
      rw [← HG.out]; exact HL.out


/-! ### Inverse -/

def InverseGives (a m : Int) (w : World) (e : Ending) (w' : World) : Prop :=
  ∃ x : Int, e = .returned (.tuple #[.int .i64 x, .int .i64 0]) ∧ 0 ≤ x ∧ x < m ∧ m ∣ a * x - 1 ∧ ∃ n, w' = w.drewN n

theorem inverse_ok (a m : Int) (w : World) (h1 : 1 ≤ m) (h2 : m < 2305843009213693952) (a0 : 0 ≤ a) (a1 : a < m) (hg : Int.gcd a m = 1) :
    Calls Try.prog 46 #[.int .i64 a, .int .i64 m] w (InverseGives a m w) := by
  have HC := Lib.hid fun w => check_ok a 0 m w h1 h2 a0 a1 (by omega) (by omega)
  have HE := Lib.hid fun w => euclid_any a m w h1 h2 a0 a1
  have HG : Hid ((Int.gcd a m : Int) = 1) := Lib.hid (by omega)
  clear hg
  go_enter Try.func46, Try.ntmps46
  go_wp2_with fail
  refine (HC.out _).mono ?_
  rintro e w' ⟨rfl, n, rfl⟩
  go_wp2_with fail
  refine (HE.out _).mono ?_
  rintro e w' ⟨x, rfl, x0, x1, hx, n, rfl⟩
  rw [HG.out] at hx ⊢
  go_wp2_with fail
  go_ret2
  exact ⟨x, rfl, x0, x1, hx, _, rfl⟩

theorem inverse_none (a m : Int) (w : World) (h1 : 1 ≤ m) (h2 : m < 2305843009213693952) (a0 : 0 ≤ a) (a1 : a < m) (hg : Int.gcd a m ≠ 1) :
    Calls Try.prog 46 #[.int .i64 a, .int .i64 m] w (Ret (.tuple #[.int .i64 0, .int .i64 10]) w) := by
  have HC := Lib.hid fun w => check_ok a 0 m w h1 h2 a0 a1 (by omega) (by omega)
  have HE := Lib.hid fun w => euclid_any a m w h1 h2 a0 a1
  have hb : ((Int.gcd a m : Int) != 1) = true := by simp; omega
  go_enter Try.func46, Try.ntmps46
  go_wp2_with fail
  refine (HC.out _).mono ?_
  rintro e w' ⟨rfl, n, rfl⟩
  go_wp2_with fail
  refine (HE.out _).mono ?_
  rintro e w' ⟨x, rfl, x0, x1, hx, n, rfl⟩
  go_wp2_with fail
  go_ret2
  exact ⟨rfl, _, rfl⟩

end Go.Proofs.Ytckajjapockonaa.Wd
