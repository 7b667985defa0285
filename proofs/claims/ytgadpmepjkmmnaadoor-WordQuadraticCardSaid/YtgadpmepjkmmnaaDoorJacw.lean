/- The Jacobi symbol of package word. -/
import Derived.Test.YtgadpmepjkmmnaaDoorJac
import Derived.Shelf.Spec.TrailingZeros
set_option linter.unusedVariables false
set_option linter.unusedSimpArgs false
namespace Go.Proofs.YtgadpmepjkmmnaaDoor
open Go.RowKit

/-- The library's table lies in its variable. -/
def Tab (w : World) : Prop := ∀ j, j < 64 → w.cell? ⟨2, j, none⟩ = some (.int .u8 (Lib.deBruijn64tab.getD j 0))

theorem tz_core (x k idx : Nat) (w : World) (hx0 : ((x : Int) == 0) = false)
    (key : IntKind.u64.wrap (bits BinOp.and IntKind.u64 (x : Int) (IntKind.u64.wrap (-(x : Int))) * 285870213051353865) / 288230376151711744 = (idx : Int))
    (hi : idx < 64) (hk : k < 64) (hcell : w.cell? ⟨2, idx, none⟩ = some (.int .u8 k)) :
    Calls Tryd.prog 42 #[.int .u64 x] w (Ret (.int .i64 k) w) := by
  go_enter Tryd.func42, Tryd.ntmps42
  go_wp2_with (simp only [key])
  go_ret
  exact ⟨rfl, 0, rfl⟩

/-- The number of twos. -/
theorem tz_any (x : Nat) (w : World) (h0 : 0 < x) (h1 : x < 18446744073709551616) (hT : Tab w) :
    Calls Tryd.prog 42 #[.int .u64 x] w (Ret (.int .i64 (Lib.ctz 64 x)) w) := by
  obtain ⟨hlow, hk⟩ := Lib.lowest_bit 64 x (by omega) h1
  obtain ⟨hi, htab⟩ := Lib.deBruijn64_at _ hk
  have hcell := hT _ hi
  rw [htab] at hcell
  exact tz_core x _ _ w (by simp; omega) (tz64_key x _ h1 (by omega) hlow) hi hk hcell

theorem ctz_spec (x : Nat) (h0 : 0 < x) (h1 : x < 18446744073709551616) : ∃ o : Nat, x = 2 ^ Lib.ctz 64 x * o ∧ o % 2 = 1 ∧ Lib.ctz 64 x < 64 := by
  obtain ⟨m, hm, hk⟩ := Lib.ctzFrom_spec 64 x h0 h1
  have e : Lib.ctz 64 x = Lib.ctzFrom 64 x := by simp [Lib.ctz]; omega
  rw [e]
  exact ⟨2 * m + 1, hm, by omega, hk⟩

/-- The twos of a positive number. -/
theorem twos_of (a : Int) (h0 : 0 < a) (h1 : a < 2305843009213693952) : ∃ (k : Nat) (o : Int), a = 2 ^ k * o ∧ a / 2 ^ k = o ∧ 0 < o ∧ o ≤ a ∧ o % 2 = 1 ∧ k < 64 ∧
    ∀ w, Tab w → Calls Tryd.prog 42 #[.int .u64 a] w (Ret (.int .i64 k) w) := by
  obtain ⟨x, rfl⟩ := Int.eq_ofNat_of_zero_le (show 0 ≤ a by omega)
  obtain ⟨o, hxo, ho, hk⟩ := ctz_spec x (by omega) (by omega)
  have hxo2 : (x : Int) = 2 ^ Lib.ctz 64 x * (o : Int) := by
    have := congrArg (fun n : Nat => (n : Int)) hxo
    simpa using this
  have hdiv : (x : Int) / 2 ^ Lib.ctz 64 x = (o : Int) := by
    generalize Lib.ctz 64 x = k at *
    rw [hxo2]; exact Int.mul_ediv_cancel_left _ (by have := Int.pow_pos (n := 2) (m := k) (by omega); omega)
  have hox : (o : Int) ≤ x := by rw [← hdiv]; exact Int.ediv_le_self _ (by omega)
  exact ⟨_, _, hxo2, hdiv, by omega, hox, by omega, hk, fun w hT => tz_any x w (by omega) (by omega) hT⟩

theorem twos_cases (k : Nat) (n : Int) :
    (((k : Int) % 2 == 1) = false ∧ (if k % 2 = 1 ∧ (n % 8 = 3 ∨ n % 8 = 5) then (-1 : Int) else 1) = 1) ∨
    (((k : Int) % 2 == 1) = true ∧ (n % 8 == 3) = true ∧ (if k % 2 = 1 ∧ (n % 8 = 3 ∨ n % 8 = 5) then (-1 : Int) else 1) = -1) ∨
    (((k : Int) % 2 == 1) = true ∧ (n % 8 == 3) = false ∧ (n % 8 == 5) = true ∧ (if k % 2 = 1 ∧ (n % 8 = 3 ∨ n % 8 = 5) then (-1 : Int) else 1) = -1) ∨
    (((k : Int) % 2 == 1) = true ∧ (n % 8 == 3) = false ∧ (n % 8 == 5) = false ∧ (if k % 2 = 1 ∧ (n % 8 = 3 ∨ n % 8 = 5) then (-1 : Int) else 1) = 1) := by
  by_cases h1 : k % 2 = 1
  · have h1' : (k : Int) % 2 = 1 := by omega
    by_cases h3 : n % 8 = 3
    · exact Or.inr (Or.inl ⟨by simp [h1'], by simp [h3], by rw [if_pos ⟨h1, Or.inl h3⟩]⟩)
    · by_cases h5 : n % 8 = 5
      · exact Or.inr (Or.inr (Or.inl ⟨by simp [h1'], by simp [h3], by simp [h5], by rw [if_pos ⟨h1, Or.inr h5⟩]⟩))
      · exact Or.inr (Or.inr (Or.inr ⟨by simp [h1'], by simp [h3], by simp [h5], by rw [if_neg (by omega)]⟩))
  · have h1' : ¬ (k : Int) % 2 = 1 := by omega
    exact Or.inl ⟨by simp [h1'], by rw [if_neg (by omega)]⟩

theorem odds_cases (o : Int) (n : Int) :
    ((o % 4 == 3) = false ∧ (if o % 4 = 3 ∧ n % 4 = 3 then (-1 : Int) else 1) = 1) ∨
    ((o % 4 == 3) = true ∧ (n % 4 == 3) = true ∧ (if o % 4 = 3 ∧ n % 4 = 3 then (-1 : Int) else 1) = -1) ∨
    ((o % 4 == 3) = true ∧ (n % 4 == 3) = false ∧ (if o % 4 = 3 ∧ n % 4 = 3 then (-1 : Int) else 1) = 1) := by
  by_cases h1 : o % 4 = 3
  · by_cases h3 : n % 4 = 3
    · exact Or.inr (Or.inl ⟨by simp [h1], by simp [h3], by rw [if_pos ⟨h1, h3⟩]⟩)
    · exact Or.inr (Or.inr ⟨by simp [h1], by simp [h3], by rw [if_neg (by omega)]⟩)
  · exact Or.inl ⟨by simp [h1], by rw [if_neg (by omega)]⟩

set_option maxHeartbeats 1000000 in
theorem jacobi_low (a n : Int) (w : World) (hT : Tab w) (a0 : 0 ≤ a) (a1 : a < 2305843009213693952) (n0 : 0 ≤ n) (n1 : n < 2305843009213693952) :
    Calls Tryd.prog 39 #[.int .i64 a, .int .i64 n] w (Ret (.int .i64 (jacZ a n)) w) := by
  obtain ⟨J, hJ⟩ : ∃ J, Hid (jacZ a n = J) := ⟨_, Lib.hid rfl⟩
  rw [hJ.out]
  have hst : 1 * jacZ a n = J := by rw [Int.one_mul]; exact hJ.out
  have HST := Lib.hid hst
  have HT := Lib.hid hT
  clear hst hT
  go_enter Tryd.func39, Tryd.ntmps39
  go_wp2
  go_loopw [0, 1, 5] (fun sa sn ss wr => ∃ a n s : Int, sa = .int .i64 a ∧ sn = .int .i64 n ∧ ss = .int .i64 s ∧ 0 ≤ a ∧ a < 2305843009213693952 ∧ 0 ≤ n ∧ n < 2305843009213693952 ∧ -1 ≤ s ∧ s ≤ 1 ∧ s * jacZ a n = J ∧ ∃ n, wr = w.drewN n) (fun sa _ _ _ => (intOf sa).toNat)
  case atStart => exact ⟨_, _, _, rfl, rfl, rfl, a0, a1, n0, n1, by omega, by omega, HST.out, 0, rfl⟩
  case round =>
    clear HST a0 a1 n0 n1
    obtain ⟨a, n, s, rfl, rfl, rfl, a0, a1, n0, n1, s0, s1, he, nd, rfl⟩ := hrel
    by_cases ha : 0 < a
    · obtain ⟨k, o, hxo, hdiv, ho0, hoa, ho, hk, htz⟩ := twos_of a ha a1
      have htz := htz (w.drewN nd) (fun j hj => HT.out j hj)
      rw [hxo, jz_twos n n0 k o ho0, jz_odd ho0 ho n0, ← Int.mul_assoc, ← Int.mul_assoc] at he
      have r0 := Int.emod_nonneg n (show o ≠ 0 by omega)
      have r1 := Int.emod_lt_of_pos n ho0
      have d1 := twos_cases k n
      have d2 := odds_cases o n
      generalize (if k % 2 = 1 ∧ (n % 8 = 3 ∨ n % 8 = 5) then (-1 : Int) else 1) = F1 at *
      generalize (if o % 4 = 3 ∧ n % 4 = 3 then (-1 : Int) else 1) = F2 at *
      have HZ := Lib.hid htz
      clear htz hxo ho
      rcases d1 with ⟨t1, rfl⟩ | ⟨t1, t2, rfl⟩ | ⟨t1, t2, t3, rfl⟩ | ⟨t1, t2, t3, rfl⟩ <;>
      rcases d2 with ⟨t4, rfl⟩ | ⟨t4, t5, rfl⟩ | ⟨t4, t5, rfl⟩
      all_goals
        have HE := Lib.hid he
        clear he
        go_wp2_with fail
        all_goals
          refine HZ.out.mono ?_
          rintro e w' ⟨rfl, nz, rfl⟩
          go_wp2_with fail
          exact ⟨⟨_, _, _, rfl, rfl, rfl, r0, by omega, by omega, by omega, by omega, by omega, by rw [← HE.out]; congr 1; omega, _, rfl⟩, by simp [intOf]; omega⟩
    · have ha0 : a = 0 := by omega
      subst ha0
      have hfin := jz_end he
      clear he
      by_cases hn : n = 1
      · rw [if_pos hn] at hfin
        have HF := Lib.hid hfin
        have t1 : (n != 1) = false := by simp [hn]
        clear hfin hn ha
        go_wp2
        go_ret
        exact ⟨ret_int HF.out.symm, _, rfl⟩
      · rw [if_neg hn] at hfin
        have HF := Lib.hid hfin
        have t1 : (n != 1) = true := by simp [hn]
        clear hfin hn ha
        go_wp2
        go_ret
        exact ⟨ret_int HF.out.symm, _, rfl⟩


/-- What is no odd modulus. -/
theorem jacobi_arg (a n : Int) (w : World) (a0 : -9223372036854775808 ≤ n) (a1 : n ≤ 9223372036854775807) (h : n < 1 ∨ 2305843009213693952 ≤ n ∨ n % 2 = 0) :
    Calls Tryd.prog 30 #[.int .i64 a, .int .i64 n] w (Ret (.tuple #[.int .i64 0, .int .i64 1]) w) := by
  by_cases h2 : n.tmod 2 = 0
  · have h3 : (n.tmod 2 == 0) = true := by simp [h2]
    have h4 : 0 ≤ n → n.tmod 2 = n % 2 := fun h => Int.tmod_eq_emod_of_nonneg h
    by_cases hn : 0 ≤ n
    · have h5 := h4 hn
      have h6 : (n % 2 == 0) = true := by rw [← h5]; exact h3
      clear h h2 h3 h4 h5
      go_enter Tryd.func30, Tryd.ntmps30
      go_wp2
      go_ret2
      exact ⟨rfl, 0, rfl⟩
    · clear h h2 h4
      go_enter Tryd.func30, Tryd.ntmps30
      go_wp2
      go_ret2
      exact ⟨rfl, 0, rfl⟩
  · have h3 : (n.tmod 2 == 0) = false := by simp [h2]
    have h4 : 0 ≤ n → n.tmod 2 = n % 2 := fun h => Int.tmod_eq_emod_of_nonneg h
    by_cases hn : 0 ≤ n
    · have h5 := h4 hn
      have h6 : (n % 2 == 0) = false := by rw [← h5]; exact h3
      have HC := Lib.hid fun w => check_arg a 0 n w (by omega)
      clear h h2 h3 h4 h5
      go_enter Tryd.func30, Tryd.ntmps30
      go_wp2_with (go_at_call 32; refine (HC.out _).mono ?_; rintro e w' ⟨rfl, n, rfl⟩)
      go_ret2
      exact ⟨rfl, _, rfl⟩
    · have HC := Lib.hid fun w => check_arg a 0 n w (by omega)
      clear h h2 h4
      go_enter Tryd.func30, Tryd.ntmps30
      go_wp2_with (go_at_call 32; refine (HC.out _).mono ?_; rintro e w' ⟨rfl, n, rfl⟩)
      go_ret2
      exact ⟨rfl, _, rfl⟩

theorem jacobi_range (a n : Int) (w : World) (h1 : 1 ≤ n) (h2 : n < 2305843009213693952) (hn : n % 2 = 1) (ha : a < 0 ∨ n ≤ a) :
    Calls Tryd.prog 30 #[.int .i64 a, .int .i64 n] w (Ret (.tuple #[.int .i64 0, .int .i64 2]) w) := by
  have h6 : (n % 2 == 0) = false := by simp [hn]
  have HC := Lib.hid fun w => check_range a 0 n w h1 h2 (by omega)
  clear hn ha
  go_enter Tryd.func30, Tryd.ntmps30
  go_wp2_with (go_at_call 32; refine (HC.out _).mono ?_; rintro e w' ⟨rfl, n, rfl⟩)
  go_ret2
  exact ⟨rfl, _, rfl⟩

theorem jacobi_ok (a n : Int) (w : World) (hT : Tab w) (h1 : 1 ≤ n) (h2 : n < 2305843009213693952) (hn : n % 2 = 1) (a0 : 0 ≤ a) (a1 : a < n) :
    Calls Tryd.prog 30 #[.int .i64 a, .int .i64 n] w (Ret (.tuple #[.int .i64 (jacZ a n), .int .i64 0]) w) := by
  have h6 : (n % 2 == 0) = false := by simp [hn]
  have HC := Lib.hid fun w => check_ok a 0 n w h1 h2 a0 a1 (by omega) (by omega)
  have HJ : Hid (∀ k, Calls Tryd.prog 39 #[.int .i64 a, .int .i64 n] (w.drewN k) (Ret (.int .i64 (jacZ a n)) (w.drewN k))) := Lib.hid fun k => jacobi_low a n _ (fun j hj => hT j hj) a0 (by omega) (by omega) h2
  clear hn hT
  go_enter Tryd.func30, Tryd.ntmps30
  go_wp2_with (first | (go_at_call 32; refine (HC.out _).mono ?_; rintro e w' ⟨rfl, n, rfl⟩) | (go_at_call 39; refine (HJ.out _).mono ?_; rintro e w' ⟨rfl, n, rfl⟩))
  go_ret2
  exact ⟨rfl, _, rfl⟩

end Go.Proofs.YtgadpmepjkmmnaaDoor
