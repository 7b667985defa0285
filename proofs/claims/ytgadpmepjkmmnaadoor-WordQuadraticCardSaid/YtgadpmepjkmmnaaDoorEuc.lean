/- Euclid's algorithm, inverses and linear congruences: of package word. -/
import Derived.Test.YtgadpmepjkmmnaaDoorGcd
set_option linter.unusedVariables false
set_option linter.unusedSimpArgs false
namespace Go.Proofs.YtgadpmepjkmmnaaDoor
open Go.RowKit

/-- What holds at each round: sizes A and C of x and y, with opposite signs. -/
structure Euc (a m d r x y s A C : Int) : Prop where
  d1 : 1 ≤ d
  dm : d ≤ m
  r0 : 0 ≤ r
  r1 : r < d
  g : Nat.gcd d.toNat r.toNat = Int.gcd a m
  hx : m ∣ a * x - d
  hy : m ∣ a * y - r
  s1 : s = 1 ∨ s = -1
  A0 : 0 ≤ A
  C0 : 0 ≤ C
  ex : x = -s * A
  ey : y = s * C
  e : A * r + C * d = m
  x1 : A < m

theorem euc_start (a m : Int) (h1 : 1 ≤ m) (a0 : 0 ≤ a) (a1 : a < m) : Euc a m m a 0 1 1 0 1 := by
  refine ⟨h1, by omega, a0, a1, ?_, ?_, ?_, by omega, by omega, by omega, by omega, by omega, by omega, by omega⟩
  · obtain ⟨n, rfl⟩ := Int.eq_ofNat_of_zero_le a0
    obtain ⟨k, rfl⟩ := Int.eq_ofNat_of_zero_le (show 0 ≤ m by omega)
    rw [Int.gcd_comm]; rfl
  · rw [Int.mul_zero, Int.zero_sub]; exact Int.dvd_neg.2 (Int.dvd_refl _)
  · rw [Int.mul_one, Int.sub_self]; exact Int.dvd_zero _

theorem euc_step {a m d r x y s A C : Int} (h : Euc a m d r x y s A C) (hr : 0 < r) :
    Euc a m r (d - d / r * r) y (x - d / r * y) (-s) C (A + d / r * C) := by
  have d1 := h.d1; have dm := h.dm; have r0 := h.r0; have r1 := h.r1
  have e1 : d - d / r * r = d % r := by have := Int.mul_ediv_add_emod d r; rw [Int.mul_comm] at this; omega
  have m0 := Int.emod_nonneg d (show r ≠ 0 by omega)
  have m1 := Int.emod_lt_of_pos d hr
  have q0 : 0 ≤ d / r := Int.ediv_nonneg (by omega) r0
  refine ⟨by omega, by omega, by omega, by omega, ?_, h.hy, ?_, ?_, h.C0, ?_, ?_, ?_, ?_, ?_⟩
  · rw [e1, gcd_step d r (by omega) hr]; exact h.g
  · have : a * (x - d / r * y) - (d - d / r * r) = (a * x - d) - d / r * (a * y - r) := by
      rw [Int.mul_sub, Int.mul_sub, ← Int.mul_assoc a, Int.mul_comm a (d / r), Int.mul_assoc]; omega
    rw [this]
    exact Int.dvd_sub h.hx (Int.dvd_mul_of_dvd_right h.hy)
  · rcases h.s1 with h | h <;> omega
  · have := Int.mul_nonneg q0 h.C0; have := h.A0; omega
  · rw [Int.neg_neg]; exact h.ey
  · rw [h.ex, h.ey, Int.mul_add, Int.neg_mul, Int.neg_mul, Int.mul_left_comm]; omega
  · have := h.e
    have e2 : C * (d - d / r * r) + (A + d / r * C) * r = A * r + C * d := by
      rw [Int.mul_sub, Int.add_mul, Int.mul_comm (d / r) C, Int.mul_assoc]; omega
    rw [e2]; exact this
  · have := h.e
    have : 0 ≤ A * r := Int.mul_nonneg h.A0 r0
    have : C * 2 ≤ C * d := Int.mul_le_mul_of_nonneg_left (by omega) h.C0
    have := h.C0
    omega

theorem euc_bounds {a m d r x y s A C : Int} (h : Euc a m d r x y s A C) : -m < x ∧ x < m ∧ -m ≤ y ∧ y ≤ m := by
  have := h.x1; have := h.A0; have := h.C0; have := h.d1; have r0 := h.r0
  have e := h.e
  have : 0 ≤ A * r := Int.mul_nonneg h.A0 r0
  have : C * 1 ≤ C * d := Int.mul_le_mul_of_nonneg_left (by omega) h.C0
  have ex := h.ex; have ey := h.ey
  rcases h.s1 with rfl | rfl <;> omega

def EuclidGives (a m : Int) (w : World) (e : Ending) (w' : World) : Prop :=
  ∃ x : Int, e = .returned (.tuple #[.int .i64 (Int.gcd a m), .int .i64 x]) ∧ 0 ≤ x ∧ x < m ∧ m ∣ a * x - (Int.gcd a m : Int) ∧ ∃ n, w' = w.drewN n

theorem euc_end {a m d x y s A C : Int} (h : Euc a m d 0 x y s A C) : d = (Int.gcd a m : Int) := by
  have h1 := h.d1
  have hg := h.g
  simp at hg
  omega

theorem euc_last {a m x g : Int} (h : m ∣ a * x - g) : m ∣ a * (if x < 0 then x + m else x) - g := by
  split
  · rw [Int.mul_add, show a * x + a * m - g = (a * x - g) + a * m by omega]
    exact Int.dvd_add h (Int.dvd_mul_left _ _)
  · exact h

set_option maxHeartbeats 400000 in
theorem euclid_any (a m : Int) (w : World) (h1 : 1 ≤ m) (h2 : m < 2305843009213693952) (a0 : 0 ≤ a) (a1 : a < m) :
    Calls Tryd.prog 37 #[.int .i64 a, .int .i64 m] w (EuclidGives a m w) := by
  have HST := Lib.hid (euc_start a m h1 a0 a1)
  go_enter Tryd.func37, Tryd.ntmps37
  go_wp2
  go_loopw [4, 5, 6, 7] (fun sd sx sr sy wr => ∃ d x r y s A C : Int, sd = .int .i64 d ∧ sx = .int .i64 x ∧ sr = .int .i64 r ∧ sy = .int .i64 y ∧ Euc a m d r x y s A C ∧ ∃ n, wr = w.drewN n) (fun _ _ sr _ _ => (intOf sr).toNat)
  case atStart => exact ⟨_, _, _, _, _, _, _, rfl, rfl, rfl, rfl, HST.out, 0, rfl⟩
  case round =>
    clear HST
    obtain ⟨d, x, r, y, s, A, C, rfl, rfl, rfl, rfl, he, n, rfl⟩ := hrel
    have d1 := he.d1; have dm := he.dm; have r0 := he.r0; have r1 := he.r1
    obtain ⟨b1, b2, b3, b4⟩ := euc_bounds he
    by_cases hr : 0 < r
    · have hn := euc_step he hr
      obtain ⟨c1, c2, c3, c4⟩ := euc_bounds hn
      have n0 := hn.r0; have n1 := hn.r1
      have q0 : 0 ≤ d / r := Int.ediv_nonneg (by omega) r0
      have q1 : d / r * r ≤ d := by omega
      have q2 : d / r ≤ d / r * r := by
        have := Int.mul_le_mul_of_nonneg_left (show 1 ≤ r by omega) q0
        omega
      have HN := Lib.hid hn
      clear hn he
      go_wp2
      exact ⟨⟨_, _, _, _, _, _, _, rfl, rfl, rfl, rfl, HN.out, _, rfl⟩, by simp [intOf]; omega⟩
    · have hr0 : r = 0 := by omega
      subst hr0
      have hg := euc_end he
      have hl := euc_last he.hx
      have hlx : ∀ w, Calls Tryd.prog 33 #[.int .i64 x, .int .i64 m] w (Ret (.int .i64 (if x < 0 then x + m else x)) w) := fun w => least_any x m w (by omega) h2 (by omega) (by omega)
      have hb : 0 ≤ (if x < 0 then x + m else x) ∧ (if x < 0 then x + m else x) < m := by split <;> omega
      generalize (if x < 0 then x + m else x) = z at *
      have HE := Lib.hid he; have HG := Lib.hid hg; have HL := Lib.hid hl; have HX := Lib.hid hlx; have HB := Lib.hid hb
      clear he hg hl hlx hb
      go_wp2_with fail
      refine (HX.out _).mono ?_
      rintro e w' ⟨rfl, n1, rfl⟩
      go_wp2_with fail
      go_ret2
      refine ⟨z, ret_two HG.out rfl, HB.out.1, HB.out.2, ?_, _, rfl⟩
      rw [← HG.out]; exact HL.out


/-! ### Inverse -/

def InverseGives (a m : Int) (w : World) (e : Ending) (w' : World) : Prop :=
  ∃ x : Int, e = .returned (.tuple #[.int .i64 x, .int .i64 0]) ∧ 0 ≤ x ∧ x < m ∧ m ∣ a * x - 1 ∧ ∃ n, w' = w.drewN n

theorem inverse_ok (a m : Int) (w : World) (h1 : 1 ≤ m) (h2 : m < 2305843009213693952) (a0 : 0 ≤ a) (a1 : a < m) (hg : Int.gcd a m = 1) :
    Calls Tryd.prog 27 #[.int .i64 a, .int .i64 m] w (InverseGives a m w) := by
  have HC := Lib.hid fun w => check_ok a 0 m w h1 h2 a0 a1 (by omega) (by omega)
  have HE := Lib.hid fun w => euclid_any a m w h1 h2 a0 a1
  have HG : Hid ((Int.gcd a m : Int) = 1) := Lib.hid (by omega)
  clear hg
  go_enter Tryd.func27, Tryd.ntmps27
  go_wp2_with fail
  refine (HC.out _).mono ?_
  rintro e w' ⟨rfl, n, rfl⟩
  go_wp2_with fail
  refine (HE.out _).mono ?_
  rintro e w' ⟨x, rfl, x0, x1, hx, n, rfl⟩
  rw [HG.out] at hx ⊢
  go_wp2_with fail
  go_ret2
  exact ⟨x, rfl, x0, x1, hx, _, rfl⟩

theorem inverse_none (a m : Int) (w : World) (h1 : 1 ≤ m) (h2 : m < 2305843009213693952) (a0 : 0 ≤ a) (a1 : a < m) (hg : Int.gcd a m ≠ 1) :
    Calls Tryd.prog 27 #[.int .i64 a, .int .i64 m] w (Ret (.tuple #[.int .i64 0, .int .i64 10]) w) := by
  have HC := Lib.hid fun w => check_ok a 0 m w h1 h2 a0 a1 (by omega) (by omega)
  have HE := Lib.hid fun w => euclid_any a m w h1 h2 a0 a1
  have hb : ((Int.gcd a m : Int) != 1) = true := by simp; omega
  go_enter Tryd.func27, Tryd.ntmps27
  go_wp2_with fail
  refine (HC.out _).mono ?_
  rintro e w' ⟨rfl, n, rfl⟩
  go_wp2_with fail
  refine (HE.out _).mono ?_
  rintro e w' ⟨x, rfl, x0, x1, hx, n, rfl⟩
  go_wp2_with fail
  go_ret2
  exact ⟨rfl, _, rfl⟩

theorem inverse_err (a m f : Int) (w : World) (h : fault a 0 m = f) (hf : f = 1 ∨ f = 2) :
    Calls Tryd.prog 27 #[.int .i64 a, .int .i64 m] w (Ret (.tuple #[.int .i64 0, .int .i64 f]) w) := by
  have H := Lib.hid h
  clear h
  rcases hf with rfl | rfl
  all_goals
    go_enter Tryd.func27, Tryd.ntmps27
    go_wp2_with (go_at_call 32; refine (check_f _ _ _ _ _ H.out).mono ?_; rintro e w' ⟨rfl, n, rfl⟩)
    go_ret2
    exact ⟨rfl, _, rfl⟩

/-! ### Linear congruences -/

theorem ret_three {i j k : IntKind} {a b c d e f : Int} (h : a = d) (h' : b = e) (h'' : c = f) : Ending.returned (.tuple #[.int i a, .int j b, .int k c]) = .returned (.tuple #[.int i d, .int j e, .int k f]) := by rw [h, h', h'']

theorem ret_quiet {P : Program} {f : FuncId} {args : Array Value} {w : World} {n k : Nat} {v : Value}
    (h : Calls P f args (w.drewN (n + k)) (Ret v (w.drewN (n + k)))) : Calls P f args (w.drewN (n + k)) fun e w'' => e = .returned v ∧ ∃ m, w'' = w.drewN (n + m) :=
  h.mono fun _ _ ⟨he, m, hm⟩ => ⟨he, k + m, by rw [hm, World.drewN_drewN, Nat.add_assoc]⟩


def SolveGives (a b m : Int) (w : World) (e : Ending) (w' : World) : Prop :=
  ∃ x : Int, e = .returned (.tuple #[.int .i64 x, .int .i64 (m / (Int.gcd a m : Int)), .int .i64 0]) ∧ 0 ≤ x ∧ x < m / (Int.gcd a m : Int) ∧ m ∣ a * x - b ∧ ∃ n, w' = w.drewN n

structure Step (a m g k : Int) : Prop where
  g1 : 1 ≤ g
  gm : g ≤ m
  k1 : 1 ≤ k
  km : k ≤ m
  e : g * k = m
  da : g ∣ a

theorem step_of (a m : Int) (h1 : 1 ≤ m) : Step a m (Int.gcd a m) (m / (Int.gcd a m : Int)) := by
  have hd : (Int.gcd a m : Int) ∣ m := Int.gcd_dvd_right ..
  have hm : (Int.gcd a m : Int) ≤ m := Int.le_of_dvd (by omega) hd
  have h0 : 1 ≤ (Int.gcd a m : Int) := by
    have : 0 < Int.gcd a m := Int.gcd_pos_of_ne_zero_right _ (by omega)
    omega
  have he : (Int.gcd a m : Int) * (m / (Int.gcd a m : Int)) = m := Int.mul_ediv_cancel' hd
  have hk : 1 ≤ m / (Int.gcd a m : Int) := (Int.le_ediv_iff_mul_le (by omega)).2 (by omega)
  refine ⟨h0, hm, hk, ?_, he, Int.gcd_dvd_left ..⟩
  exact Int.ediv_le_self _ (by omega)

/-- What the text reckons is a solution. -/
theorem solve_right {a b m g k c : Int} (h : Step a m g k) (hc : m ∣ a * c - g) (hb : g ∣ b) : m ∣ a * (c % k * (b / g) % k) - b := by
  obtain ⟨b', rfl⟩ := hb
  obtain ⟨a', rfl⟩ := h.da
  have g0 : g ≠ 0 := by have := h.g1; omega
  rw [Int.mul_ediv_cancel_left _ g0, mul_mod_left]
  have e1 := Int.mul_ediv_add_emod (c * b') k
  have e2 : g * a' * (c * b' % k) - g * b' = b' * (g * a' * c - g) - g * k * (a' * (c * b' / k)) := by
    rw [show c * b' % k = c * b' - k * (c * b' / k) by omega]
    generalize c * b' / k = q
    rw [Int.mul_sub, Int.mul_sub]
    simp only [Int.mul_comm, Int.mul_left_comm, Int.mul_assoc]
    omega
  rw [e2, h.e]
  exact Int.dvd_sub (Int.dvd_mul_of_dvd_right hc) (Int.dvd_mul_right _ _)

theorem nat_cancel {A M D : Nat} (hM : 0 < M) (h : M ∣ A * D) : M / Nat.gcd A M ∣ D := by
  have hG : 0 < Nat.gcd A M := Nat.gcd_pos_of_pos_right _ hM
  have e1 : M = Nat.gcd A M * (M / Nat.gcd A M) := (Nat.mul_div_cancel' (Nat.gcd_dvd_right A M)).symm
  have e2 : A = Nat.gcd A M * (A / Nat.gcd A M) := (Nat.mul_div_cancel' (Nat.gcd_dvd_left A M)).symm
  have hc : Nat.Coprime (M / Nat.gcd A M) (A / Nat.gcd A M) := (Nat.coprime_div_gcd_div_gcd hG).symm
  refine hc.dvd_of_dvd_mul_left ?_
  refine Nat.dvd_of_mul_dvd_mul_left hG ?_
  rw [← Nat.mul_assoc, ← e2, ← e1]
  exact h

/-- There is one solution below the step. -/
theorem solve_unique {a b m x y : Int} (h1 : 1 ≤ m) (hx : m ∣ a * x - b) (hy : m ∣ a * y - b) (x0 : 0 ≤ x) (x1 : x < m / (Int.gcd a m : Int)) (y0 : 0 ≤ y) (y1 : y < m / (Int.gcd a m : Int)) : x = y := by
  have hd : m ∣ a * (x - y) := by
    have := Int.dvd_sub hx hy
    rwa [show a * x - b - (a * y - b) = a * (x - y) by rw [Int.mul_sub]; omega] at this
  have hd2 := Int.natAbs_dvd_natAbs.2 hd
  rw [Int.natAbs_mul] at hd2
  have hc := nat_cancel (show 0 < m.natAbs by omega) hd2
  have ek : m / (Int.gcd a m : Int) = ((m.natAbs / Nat.gcd a.natAbs m.natAbs : Nat) : Int) := by
    rw [Int.natCast_ediv, Int.natAbs_of_nonneg (show 0 ≤ m by omega)]; rfl
  rw [ek] at x1 y1
  have := Nat.eq_zero_of_dvd_of_lt hc (by omega)
  omega

set_option maxHeartbeats 400000 in
theorem solve_ok (a b m : Int) (w : World) (h1 : 1 ≤ m) (h2 : m < 2305843009213693952) (a0 : 0 ≤ a) (a1 : a < m) (b0 : 0 ≤ b) (b1 : b < m) (hb : (Int.gcd a m : Int) ∣ b) :
    Calls Tryd.prog 28 #[.int .i64 a, .int .i64 b, .int .i64 m] w (SolveGives a b m w) := by
  have HC := Lib.hid fun w => check_ok a b m w h1 h2 a0 a1 b0 b1
  have HE := Lib.hid fun w => euclid_any a m w h1 h2 a0 a1
  have hs := step_of a m h1
  unfold SolveGives
  unfold EuclidGives at HE
  generalize (Int.gcd a m : Int) = g at *
  obtain ⟨k, ek⟩ : ∃ k, m / g = k := ⟨_, rfl⟩
  rw [ek] at hs ⊢
  have g1 := hs.g1; have gm := hs.gm; have k1 := hs.k1; have km := hs.km
  have hbg : (b % g != 0) = false := by rw [Int.emod_eq_zero_of_dvd hb]; rfl
  have hbq : b / g < k := by
    refine (Int.ediv_lt_iff_lt_mul (by omega)).2 ?_
    rw [Int.mul_comm, hs.e]; exact b1
  have hbq0 : 0 ≤ b / g := Int.ediv_nonneg b0 (by omega)
  have hbm0 := Int.emod_nonneg b (show g ≠ 0 by omega)
  have HS := Lib.hid hs
  have HB := Lib.hid hb
  clear hs hb
  go_enter Tryd.func28, Tryd.ntmps28
  go_wp2_with fail
  refine (HC.out _).mono ?_
  rintro e w' ⟨rfl, n, rfl⟩
  go_wp2_with fail
  refine (HE.out _).mono ?_
  rintro e w' ⟨c, rfl, c0, c1, hc, n1, rfl⟩
  have ck0 := Int.emod_nonneg c (show k ≠ 0 by omega)
  have ck1 := Int.emod_lt_of_pos c (show 0 < k by omega)
  have hcr := solve_right HS.out hc HB.out
  have hp := fun w => product_any (c % k) (b / g) k w k1 (by omega) ck0 ck1 hbq0 hbq
  have z0 := Int.emod_nonneg (c % k * (b / g)) (show k ≠ 0 by omega)
  have z1 := Int.emod_lt_of_pos (c % k * (b / g)) (show 0 < k by omega)
  generalize c % k * (b / g) % k = z at *
  have HR := Lib.hid hcr
  have HP := Lib.hid hp
  have HC' := Lib.hid hc
  clear hcr hp hc
  have hk0 : (k == 0) = false := by simp; omega
  have hg0 : (g == 0) = false := by simp; omega
  go_wp2_with fail
  go_quiet ((go_at_call 34; exact ret_quiet (HP.out _)))
  go_wp2
  go_ret3
  exact ⟨z, ret_three rfl ek rfl, z0, z1, HR.out, _, drew2 _ _ _⟩

theorem solve_none (a b m : Int) (w : World) (h1 : 1 ≤ m) (h2 : m < 2305843009213693952) (a0 : 0 ≤ a) (a1 : a < m) (b0 : 0 ≤ b) (b1 : b < m) (hb : ¬ (Int.gcd a m : Int) ∣ b) :
    Calls Tryd.prog 28 #[.int .i64 a, .int .i64 b, .int .i64 m] w (Ret (.tuple #[.int .i64 0, .int .i64 0, .int .i64 7]) w) := by
  have HC := Lib.hid fun w => check_ok a b m w h1 h2 a0 a1 b0 b1
  have HE := Lib.hid fun w => euclid_any a m w h1 h2 a0 a1
  have hs := step_of a m h1
  unfold EuclidGives at HE
  generalize (Int.gcd a m : Int) = g at *
  have g1 := hs.g1; have gm := hs.gm
  have hbg : (b % g != 0) = true := by
    rw [bne_iff_ne]; exact fun h => hb (Int.dvd_of_emod_eq_zero h)
  have hbm0 := Int.emod_nonneg b (show g ≠ 0 by omega)
  have HB := Lib.hid hb
  clear hb hs
  go_enter Tryd.func28, Tryd.ntmps28
  go_wp2_with fail
  refine (HC.out _).mono ?_
  rintro e w' ⟨rfl, n, rfl⟩
  go_wp2_with fail
  refine (HE.out _).mono ?_
  rintro e w' ⟨c, rfl, c0, c1, hc, n1, rfl⟩
  clear hc
  go_wp2_with fail
  go_ret3
  exact ⟨rfl, _, rfl⟩

theorem solve_err (a b m f : Int) (w : World) (h : fault a b m = f) (hf : f = 1 ∨ f = 2) :
    Calls Tryd.prog 28 #[.int .i64 a, .int .i64 b, .int .i64 m] w (Ret (.tuple #[.int .i64 0, .int .i64 0, .int .i64 f]) w) := by
  have H := Lib.hid h
  clear h
  rcases hf with rfl | rfl
  all_goals
    go_enter Tryd.func28, Tryd.ntmps28
    go_wp2_with (go_at_call 32; refine (check_f _ _ _ _ _ H.out).mono ?_; rintro e w' ⟨rfl, n, rfl⟩)
    go_ret3
    exact ⟨rfl, _, rfl⟩

/-! ### The reference's inverse and congruence -/

structure RefEuc (a m u v x y : Int) : Prop where
  u0 : 0 ≤ u
  um : u ≤ m
  v0 : 0 ≤ v
  vm : v ≤ m
  g : Nat.gcd u.toNat v.toNat = 1
  x0 : 0 ≤ x
  x1 : x < m
  y0 : 0 ≤ y
  y1 : y < m
  hx : m ∣ a * x - u
  hy : m ∣ a * y - v

theorem refeuc_start (a m : Int) (h1 : 1 ≤ m) (a0 : 0 ≤ a) (a1 : a < m) (hg : Int.gcd a m = 1) : RefEuc a m a m (1 % m) 0 := by
  obtain ⟨o0, o1⟩ := power_one m h1
  refine ⟨a0, by omega, by omega, by omega, ?_, o0, o1, by omega, by omega, ?_, ?_⟩
  · rw [← hg]
    obtain ⟨n, rfl⟩ := Int.eq_ofNat_of_zero_le a0
    obtain ⟨k, rfl⟩ := Int.eq_ofNat_of_zero_le (show 0 ≤ m by omega)
    rfl
  · have e := Int.mul_ediv_add_emod 1 m
    have : a * (1 % m) - a = m * (-(a * (1 / m))) := by
      rw [show 1 % m = 1 - m * (1 / m) by omega]
      generalize 1 / m = q
      rw [Int.mul_sub, Int.mul_neg, Int.mul_left_comm]; omega
    rw [this]
    exact Int.dvd_mul_right _ _
  · rw [Int.mul_zero, Int.zero_sub]; exact Int.dvd_neg.2 (Int.dvd_refl _)

theorem refeuc_step {a m u v x y : Int} (h1 : 1 ≤ m) (h : RefEuc a m u v x y) (hv : 0 < v) :
    RefEuc a m v (u - u / v * v) y ((x - u / v % m * y % m) % m) := by
  have u0 := h.u0; have um := h.um; have v0 := h.v0; have vm := h.vm
  have e1 : u - u / v * v = u % v := by have := Int.mul_ediv_add_emod u v; rw [Int.mul_comm] at this; omega
  have m0 := Int.emod_nonneg u (show v ≠ 0 by omega)
  have m1 := Int.emod_lt_of_pos u hv
  refine ⟨v0, vm, by omega, by omega, ?_, h.y0, h.y1, Int.emod_nonneg _ (by omega), Int.emod_lt_of_pos _ (by omega), h.hy, ?_⟩
  · rw [e1, gcd_step u v u0 hv]; exact h.g
  · rw [mul_mod_left]
    have e2 := Int.mul_ediv_add_emod (u / v * y) m
    have e3 := Int.mul_ediv_add_emod (x - u / v * y % m) m
    have : a * ((x - u / v * y % m) % m) - (u - u / v * v) = (a * x - u) - u / v * (a * y - v) + m * (a * (u / v * y / m) - a * ((x - u / v * y % m) / m)) := by
      rw [show (x - u / v * y % m) % m = x - u / v * y + m * (u / v * y / m) - m * ((x - u / v * y % m) / m) by omega]
      generalize (x - u / v * y % m) / m = q1
      generalize u / v * y / m = q2
      generalize u / v = q
      simp only [Int.mul_sub, Int.mul_add, Int.mul_left_comm]
      omega
    rw [this]
    exact Int.dvd_add (Int.dvd_sub h.hx (Int.dvd_mul_of_dvd_right h.hy)) (Int.dvd_mul_right _ _)

def RefInvGives (a m : Int) (w : World) (e : Ending) (w' : World) : Prop :=
  ∃ x : Int, e = .returned (.tuple #[.int .i64 x, .bool true]) ∧ 0 ≤ x ∧ x < m ∧ m ∣ a * x - 1 ∧ ∃ n, w' = w.drewN n

theorem gcdR_one (a m : Int) (hg : Int.gcd a m = 1) : gcdR a m = 1 := by unfold gcdR; rw [hg]; simp

set_option maxHeartbeats 400000 in
theorem ref_inverse (a m : Int) (w : World) (h1 : 1 ≤ m) (h2 : m < 2305843009213693952) (a0 : 0 ≤ a) (a1 : a < m) (hg : Int.gcd a m = 1) :
    Calls Tryd.prog 38 #[.int .i64 a, .int .i64 m] w (RefInvGives a m w) := by
  have hgc := fun w => ref_gcd a m w (by omega) (by omega) (by omega) (by omega)
  rw [gcdR_one a m hg] at hgc
  have HGC := Lib.hid hgc
  have HST := Lib.hid (refeuc_start a m h1 a0 a1 hg)
  obtain ⟨o0, o1⟩ := power_one m h1
  clear hgc hg
  go_enter Tryd.func38, Tryd.ntmps38
  go_wp2_with fail
  refine (HGC.out _).mono ?_
  rintro e w' ⟨rfl, n, rfl⟩
  go_wp2_with fail
  go_loopw [6, 7, 8, 9] (fun su sv sx sy wr => ∃ u v x y : Int, su = .int .i64 u ∧ sv = .int .i64 v ∧ sx = .int .i64 x ∧ sy = .int .i64 y ∧ RefEuc a m u v x y ∧ ∃ n, wr = w.drewN n) (fun _ sv _ _ _ => (intOf sv).toNat)
  case atStart => exact ⟨_, _, _, _, rfl, rfl, rfl, rfl, HST.out, _, rfl⟩
  case round =>
    clear HST o0 o1
    obtain ⟨u, v, x, y, rfl, rfl, rfl, rfl, he, n, rfl⟩ := hrel
    have u0 := he.u0; have um := he.um; have v0 := he.v0; have vm := he.vm
    have x0 := he.x0; have x1 := he.x1; have y0 := he.y0; have y1 := he.y1
    by_cases hv : 0 < v
    · have hn := refeuc_step h1 he hv
      have n0 := hn.v0; have n1 := hn.vm
      have q0 : 0 ≤ u / v := Int.ediv_nonneg (by omega) v0
      have q1 : u / v * v ≤ u := by
        have h9 := Int.mul_ediv_add_emod u v; have := Int.emod_nonneg u (show v ≠ 0 by omega)
        rw [Int.mul_comm] at h9; omega
      have q2 : u / v ≤ u / v * v := by
        have := Int.mul_le_mul_of_nonneg_left (show 1 ≤ v by omega) q0
        omega
      have hr1 := fun w => ref_reduce (u / v) m w h1 (by omega) (by omega) (by omega)
      have hr2 := fun w => ref_mul (u / v % m) y m w h1 h2 (Int.emod_nonneg _ (by omega)) (Int.emod_lt_of_pos _ (by omega)) y0 y1
      have p0 := Int.emod_nonneg (u / v % m * y) (show m ≠ 0 by omega)
      have p1 := Int.emod_lt_of_pos (u / v % m * y) (show 0 < m by omega)
      have hr3 := fun w => ref_reduce (x - u / v % m * y % m) m w h1 (by omega) (by omega) (by omega)
      have hlt : u - u / v * v < v := by
        have h9 := Int.mul_ediv_add_emod u v; have := Int.emod_lt_of_pos u hv
        rw [Int.mul_comm] at h9; omega
      rw [Int.sub_emod x, Int.emod_emod, ← Int.sub_emod] at hn
      have HN := Lib.hid hn
      have HR1 := Lib.hid hr1; have HR2 := Lib.hid hr2; have HR3 := Lib.hid hr3
      clear hn he hr1 hr2 hr3
      go_wp2_with fail
      refine (HR1.out _).mono ?_
      rintro e w' ⟨rfl, n1, rfl⟩
      go_wp2_with fail
      refine (HR2.out _).mono ?_
      rintro e w' ⟨rfl, n2, rfl⟩
      go_wp2_with fail
      refine (HR3.out _).mono ?_
      rintro e w' ⟨rfl, n3, rfl⟩
      go_wp2_with fail
      exact ⟨⟨_, _, _, _, rfl, rfl, rfl, rfl, HN.out, _, rfl⟩, by simp [intOf]; omega⟩
    · have hv0 : v = 0 := by omega
      subst hv0
      have hu : u = 1 := by have h := he.g; simp at h; omega
      subst hu
      have HE := Lib.hid he
      clear he
      go_wp2
      go_ret2
      exact ⟨x, rfl, x0, x1, HE.out.hx, _, rfl⟩

theorem refsolve_right {a b m g k x : Int} (h : Step a m g k) (hx : k ∣ (a / g % k) * x - 1) (hb : g ∣ b) : m ∣ a * (x * (b / g % k) % k) - b := by
  obtain ⟨b', rfl⟩ := hb
  obtain ⟨a', rfl⟩ := h.da
  have g0 : g ≠ 0 := by have := h.g1; omega
  rw [Int.mul_ediv_cancel_left _ g0] at hx ⊢
  rw [mul_mod_right]
  obtain ⟨c, hc⟩ := hx
  have e1 := Int.mul_ediv_add_emod (x * b') k
  have e2 := Int.mul_ediv_add_emod a' k
  rw [show a' % k = a' - k * (a' / k) by omega] at hc
  have e3 : g * a' * (x * b' % k) - g * b' = g * k * (b' * (c + a' / k * x) - a' * (x * b' / k)) := by
    rw [show x * b' % k = x * b' - k * (x * b' / k) by omega]
    generalize x * b' / k = q1 at *
    generalize a' / k = q2 at *
    have h5 : a' * x = 1 + k * c + k * q2 * x := by rw [Int.sub_mul] at hc; omega
    have h6 : g * a' * (x * b') = g * b' * (1 + k * c + k * q2 * x) := by
      rw [← h5]; simp only [Int.mul_comm, Int.mul_left_comm, Int.mul_assoc]
    rw [Int.mul_sub, h6]
    simp only [Int.mul_sub, Int.mul_add, Int.mul_comm, Int.mul_left_comm, Int.mul_assoc, Int.mul_one]
    omega
  rw [e3, h.e]
  exact Int.dvd_mul_right _ _

theorem reduced_coprime (a m : Int) (h1 : 1 ≤ m) (a0 : 0 ≤ a) : Int.gcd (a / (Int.gcd a m : Int) % (m / (Int.gcd a m : Int))) (m / (Int.gcd a m : Int)) = 1 := by
  obtain ⟨n, rfl⟩ := Int.eq_ofNat_of_zero_le a0
  obtain ⟨p, rfl⟩ := Int.eq_ofNat_of_zero_le (show 0 ≤ m by omega)
  have hG : 0 < Nat.gcd n p := Nat.gcd_pos_of_pos_right _ (by omega)
  have hc : Nat.gcd (n / Nat.gcd n p) (p / Nat.gcd n p) = 1 := Nat.coprime_div_gcd_div_gcd hG
  show Int.gcd (((n : Int) / ((Nat.gcd n p : Nat) : Int)) % ((p : Int) / ((Nat.gcd n p : Nat) : Int))) ((p : Int) / ((Nat.gcd n p : Nat) : Int)) = 1
  rw [← Int.natCast_ediv, ← Int.natCast_ediv, ← Int.natCast_emod]
  show Nat.gcd (n / Nat.gcd n p % (p / Nat.gcd n p)) (p / Nat.gcd n p) = 1
  rw [← Nat.gcd_rec, Nat.gcd_comm]
  exact hc

theorem gcdR_small (a m : Int) (h1 : 1 ≤ m) (h2 : m < 2305843009213693952) : gcdR a m = (Int.gcd a m : Int) := by
  have := (step_of a m h1).gm
  unfold gcdR
  rw [if_neg (by omega)]

set_option maxHeartbeats 400000 in
theorem ref_solve (a b m : Int) (w : World) (h1 : 1 ≤ m) (h2 : m < 2305843009213693952) (a0 : 0 ≤ a) (a1 : a < m) (b0 : 0 ≤ b) (b1 : b < m) (hb : (Int.gcd a m : Int) ∣ b) :
    Calls Tryd.prog 29 #[.int .i64 a, .int .i64 b, .int .i64 m] w (SolveGives a b m w) := by
  have hgc := fun w => ref_gcd a m w (by omega) (by omega) (by omega) (by omega)
  rw [gcdR_small a m h1 h2] at hgc
  have hs := step_of a m h1
  have hcop := reduced_coprime a m h1 a0
  unfold SolveGives
  generalize (Int.gcd a m : Int) = g at *
  obtain ⟨k, ek⟩ : ∃ k, m / g = k := ⟨_, rfl⟩
  rw [ek] at hs hcop ⊢
  have g1 := hs.g1; have gm := hs.gm; have k1 := hs.k1; have km := hs.km
  have hbg : (b % g != 0) = false := by rw [Int.emod_eq_zero_of_dvd hb]; rfl
  have hbm0 := Int.emod_nonneg b (show g ≠ 0 by omega)
  have ak0 := Int.emod_nonneg (a / g) (show k ≠ 0 by omega)
  have ak1 := Int.emod_lt_of_pos (a / g) (show 0 < k by omega)
  have bk0 := Int.emod_nonneg (b / g) (show k ≠ 0 by omega)
  have bk1 := Int.emod_lt_of_pos (b / g) (show 0 < k by omega)
  have aq0 : 0 ≤ a / g := Int.ediv_nonneg a0 (by omega)
  have aq1 : a / g ≤ a := Int.ediv_le_self _ a0
  have bq0 : 0 ≤ b / g := Int.ediv_nonneg b0 (by omega)
  have bq1 : b / g ≤ b := Int.ediv_le_self _ b0
  have hin := fun w => ref_inverse (a / g % k) k w k1 (by omega) ak0 ak1 hcop
  have HS := Lib.hid hs
  have HB := Lib.hid hb
  have HGC := Lib.hid hgc
  have HI := Lib.hid hin
  clear hs hb hgc hin hcop
  go_enter Tryd.func29, Tryd.ntmps29
  go_wp2_with fail
  refine (HGC.out _).mono ?_
  rintro e w' ⟨rfl, n, rfl⟩
  go_wp2_with fail
  refine (HI.out _).mono ?_
  rintro e w' ⟨x, rfl, x0, x1, hx, n1, rfl⟩
  have hcr := refsolve_right HS.out hx HB.out
  have hp := fun w => ref_mul x (b / g % k) k w k1 (by omega) x0 x1 bk0 bk1
  have z0 := Int.emod_nonneg (x * (b / g % k)) (show k ≠ 0 by omega)
  have z1 := Int.emod_lt_of_pos (x * (b / g % k)) (show 0 < k by omega)
  generalize x * (b / g % k) % k = z at *
  have HR := Lib.hid hcr
  have HP := Lib.hid hp
  clear hcr hp hx
  go_wp2_with fail
  refine (HP.out _).mono ?_
  rintro e w' ⟨rfl, n2, rfl⟩
  go_wp2_with fail
  go_ret3
  exact ⟨z, rfl, z0, z1, HR.out, _, rfl⟩

theorem ref_solve_none (a b m : Int) (w : World) (h1 : 1 ≤ m) (h2 : m < 2305843009213693952) (a0 : 0 ≤ a) (a1 : a < m) (b0 : 0 ≤ b) (b1 : b < m) (hb : ¬ (Int.gcd a m : Int) ∣ b) :
    Calls Tryd.prog 29 #[.int .i64 a, .int .i64 b, .int .i64 m] w (Ret (.tuple #[.int .i64 0, .int .i64 0, .int .i64 7]) w) := by
  have hgc := fun w => ref_gcd a m w (by omega) (by omega) (by omega) (by omega)
  rw [gcdR_small a m h1 h2] at hgc
  have hs := step_of a m h1
  generalize (Int.gcd a m : Int) = g at *
  have g1 := hs.g1; have gm := hs.gm
  have hbg : (b % g != 0) = true := by
    rw [bne_iff_ne]; exact fun h => hb (Int.dvd_of_emod_eq_zero h)
  have hbm0 := Int.emod_nonneg b (show g ≠ 0 by omega)
  have HGC := Lib.hid hgc
  clear hb hs hgc
  go_enter Tryd.func29, Tryd.ntmps29
  go_wp2_with fail
  refine (HGC.out _).mono ?_
  rintro e w' ⟨rfl, n, rfl⟩
  go_wp2_with fail
  go_ret3
  exact ⟨rfl, _, rfl⟩

end Go.Proofs.YtgadpmepjkmmnaaDoor
