/- The reference's strong test. -/
import Derived.Test.YtomkmkjkeihodaaDoorQ1
set_option linter.unusedVariables false
set_option linter.unusedSimpArgs false
namespace Go.Proofs.YtomkmkjkeihodaaDoor
open Go.RowKit

/-- The odd part, and the number of twos. -/
theorem half_more {N c o y k : Nat} (hN : N = 2 ^ c * o) (ho : o % 2 = 1) (hk : k ≤ c) (hy : y = N / 2 ^ k) : y = 2 ^ (c - k) * o ∧ (y % 2 = 0 → k < c ∧ y / 2 = N / 2 ^ (k + 1)) ∧ (¬ y % 2 = 0 → k = c) := by
  have e : N = 2 ^ k * (2 ^ (c - k) * o) := by rw [← Nat.mul_assoc, ← Nat.pow_add, show k + (c - k) = c by omega, hN]
  have hy2 : y = 2 ^ (c - k) * o := by rw [hy, e, Nat.mul_div_cancel_left _ (Nat.two_pow_pos k)]
  refine ⟨hy2, fun h => ⟨?_, ?_⟩, fun h => ?_⟩
  · rcases Nat.lt_or_ge k c with h1 | h1
    · exact h1
    · rw [show c - k = 0 by omega, Nat.pow_zero, Nat.one_mul] at hy2; omega
  · rw [hy, Nat.div_div_eq_div_mul, ← Nat.pow_succ]
  · rcases Nat.lt_or_ge k c with h1 | h1
    · rw [show c - k = (c - k - 1) + 1 by omega, Nat.pow_succ, Nat.mul_right_comm] at hy2
      omega
    · omega
theorem rpow1_any (a e m : Nat) (w : World) (h0 : 0 < m) (hm : m ≤ 2305843009213693951) (ha : a < m) (he : e ≤ 9223372036854775807) :
    Calls Tryd.prog 40 #[.int .i64 ((a : Nat) : Int), .int .i64 ((e : Nat) : Int), .int .i64 ((m : Nat) : Int)] w (RetB (.int .i64 ((a ^ e % m : Nat) : Int)) w) := by
  have h := Wd.ref_pow ((a : Nat) : Int) ((e : Nat) : Int) ((m : Nat) : Int) w (by omega) (by omega) (by omega) (by omega) (by omega) (by omega)
  have e1 : ((a : Nat) : Int) ^ (((e : Nat) : Int)).toNat % ((m : Nat) : Int) = ((a ^ e % m : Nat) : Int) := by simp
  rw [e1] at h
  exact h.mono fun e w' hr => RetB.of_ret hr
theorem rmul1_any (a b m : Nat) (w : World) (h0 : 0 < m) (hm : m ≤ 2305843009213693951) (ha : a < m) (hb : b < m) :
    Calls Tryd.prog 58 #[.int .i64 ((a : Nat) : Int), .int .i64 ((b : Nat) : Int), .int .i64 ((m : Nat) : Int)] w (RetB (.int .i64 ((a * b % m : Nat) : Int)) w) := by
  have h := Wd.ref_mul ((a : Nat) : Int) ((b : Nat) : Int) ((m : Nat) : Int) w (by omega) (by omega) (by omega) (by omega) (by omega) (by omega)
  have e1 : ((a : Nat) : Int) * ((b : Nat) : Int) % ((m : Nat) : Int) = ((a * b % m : Nat) : Int) := by simp
  rw [e1] at h
  exact h.mono fun e w' hr => RetB.of_ret hr
theorem mr_sq {a d k n x : Nat} (hx : x = a ^ (d * 2 ^ k) % n) : x * x % n = a ^ (d * 2 ^ (k + 1)) % n := by
  rw [hx, ← Nat.mul_mod, ← Nat.pow_add, Nat.pow_succ, ← Nat.mul_assoc, Nat.mul_two]
theorem mr_yes {a d c k n x : Nat} (hk : k < c) (hx : x = a ^ (d * 2 ^ k) % n) (h : x = n - 1) (hd : d = (n - 1) / 2 ^ c) (hc : c = Lib.ctz 64 (n - 1)) : mrB n a = true := by
  unfold mrB
  rw [← hc, ← hd]
  have : ((List.range c).any fun i => a ^ (d * 2 ^ i) % n == n - 1) = true := by
    rw [List.any_eq_true]; exact ⟨k, List.mem_range.2 hk, by rw [← hx, h]; simp⟩
  rw [this, Bool.or_true]
theorem mr_one {a d c n x : Nat} (hx : x = a ^ d % n) (h : x = 1) (hd : d = (n - 1) / 2 ^ c) (hc : c = Lib.ctz 64 (n - 1)) : mrB n a = true := by
  unfold mrB
  rw [← hc, ← hd, ← hx, h]; rfl
theorem mr_no {a d c n x : Nat} (hx : x = a ^ d % n) (h : ¬ x = 1) (hn : ∀ i, i < c → a ^ (d * 2 ^ i) % n ≠ n - 1) (hd : d = (n - 1) / 2 ^ c) (hc : c = Lib.ctz 64 (n - 1)) : mrB n a = false := by
  unfold mrB
  rw [← hc, ← hd, ← hx, beq_false_of_ne h, Bool.false_or, List.any_eq_false]
  intro i hi
  have := hn i (List.mem_range.1 hi)
  simpa using this
set_option maxHeartbeats 4000000 in
set_option maxRecDepth 100000 in
theorem strong_any (n a : Nat) (w : World) (h3 : 3 ≤ n) (hn : n ≤ 2305843009213693951) (ha : a < n) (hodd : n % 2 = 1) :
    Calls Tryd.prog 36 #[.int .i64 ((n : Nat) : Int), .int .i64 ((a : Nat) : Int)] w (RetB (.bool (mrB n a)) w) := by
  obtain ⟨c, hc⟩ : ∃ c, c = Lib.ctz 64 (n - 1) := ⟨_, rfl⟩
  obtain ⟨N, hNn⟩ : ∃ N, N = n - 1 := ⟨_, rfl⟩
  obtain ⟨o, ho, ho2, hc64⟩ := ctz_spec (n - 1) (by omega) (by omega)
  rw [← hc, ← hNn] at ho
  rw [← hc] at hc64
  have HN := hid ho
  have HO := hid ho2
  have HC := hid hc
  have HNn := hid hNn
  have e1 : ((n : Nat) : Int) - 1 = ((N : Nat) : Int) := by omega
  have hN0 : N < n := by omega
  have hN1 : 1 ≤ N := by omega
  have hc1 : 0 < c := by
    rcases Nat.eq_zero_or_pos c with h | h
    · rw [h, Nat.pow_zero, Nat.one_mul] at ho; omega
    · exact h
  clear ho ho2 hc hNn hodd
  go_enter Tryd.func36, Tryd.ntmps36
  go_wp2_with fail
  go_loopw [5, 6] (fun d s wr => ∃ k y : Nat, k ≤ c ∧ y ≤ N ∧ d = .int .i64 ((y : Nat) : Int) ∧ s = .int .i64 ((k : Nat) : Int) ∧ Hid (y = N / 2 ^ k) ∧ wr = w) (fun _ s _ => c - (intOf s).toNat)
  case atStart => exact ⟨0, N, by omega, by omega, by go_num, by go_num, (show N = _ by simp), rfl⟩
  case round =>
    obtain ⟨k, y, hk, hyN, rfl, rfl, HY, rfl⟩ := hrel
    have HX := hid (half_more HN.out HO.out hk HY.out)
    by_cases hy : y % 2 = 0
    · have l1 : ((((y : Nat) : Int) % 2) == 0) = true := by
        have : ((y : Nat) : Int) % 2 = 0 := by omega
        rw [this]; rfl
      have hkc := (HX.out.2.1 hy).1
      have HH := hid (HX.out.2.1 hy).2
      obtain ⟨y2, hy2⟩ : ∃ z, z = y / 2 := ⟨_, rfl⟩
      have l2 : ((y : Nat) : Int) / 2 = ((y2 : Nat) : Int) := by omega
      rw [← hy2] at HH
      clear hy hy2 HX
      go_wp2_with fail
      go_roundw
      case rel => exact ⟨k + 1, y2, by omega, by omega, by go_num, by go_num, HH, trivial⟩
      case measure => simp [intOf] <;> omega
    · have l1 : ((((y : Nat) : Int) % 2) == 0) = false := by
        have : ((y : Nat) : Int) % 2 = 1 := by omega
        rw [this]; rfl
      obtain rfl := HX.out.2.2 hy
      clear hy HX
      rename World => w0
      obtain ⟨x0, hx0⟩ : ∃ x, x = a ^ y % n := ⟨_, rfl⟩
      have hx0n : x0 < n := by rw [hx0]; exact Nat.mod_lt _ (by omega)
      have hp := rpow1_any a y n w0 (by omega) hn ha (by omega)
      rw [← hx0] at hp
      have HX0 := hid hx0
      have HP := hid hp
      clear hx0 hp
      have HDn : Hid (y = (n - 1) / 2 ^ k) := (show _ = _ by rw [← HNn.out]; exact HY.out)
      go_wp2_with fail
      refine HP.out.mono ?_
      clear HP
      rintro e V1 ⟨rfl, WW⟩
      by_cases h1 : x0 = 1
      · have HB := hid (mr_one HX0.out h1 HDn.out HC.out)
        have l3 : (((x0 : Nat) : Int) == 1) = true := by rw [h1]; rfl
        clear h1
        go_wp2_with fail
        go_ret
        exact ⟨by rw [HB.out]; rfl, WW⟩
      have l3 : (((x0 : Nat) : Int) == 1) = false := by simp; omega
      have H1 := hid h1
      clear h1
      by_cases h2 : x0 = N
      · have HB := hid (mr_yes (a := a) (x := x0) (k := 0) hc1 (by rw [HX0.out]; simp) (by rw [h2, HNn.out]) HDn.out HC.out)
        have l4 : (((x0 : Nat) : Int) == ((N : Nat) : Int)) = true := by rw [h2]; simp
        clear h2
        go_wp2_with fail
        go_ret
        exact ⟨by rw [HB.out]; rfl, WW⟩
      have l4 : (((x0 : Nat) : Int) == ((N : Nat) : Int)) = false := by simp; omega
      have H2 : Hid (∀ i, i < 1 → a ^ (y * 2 ^ i) % n ≠ n - 1) := (show ∀ i, _ → _ from fun i hi => by
        obtain rfl : i = 0 := by omega
        rw [Nat.pow_zero, Nat.mul_one, ← HX0.out, ← HNn.out]; exact h2)
      clear h2
      go_wp2_with fail
      clear l3 l4
      go_loopw [7, 8] (fun x i wz => ∃ j z : Nat, 1 ≤ j ∧ j ≤ k ∧ i = .int .i64 ((j : Nat) : Int) ∧ x = .int .i64 ((z : Nat) : Int) ∧ z < n ∧ Hid (z = a ^ (y * 2 ^ (j - 1)) % n) ∧ Hid (∀ i, i < j → a ^ (y * 2 ^ i) % n ≠ n - 1) ∧ Below w0.heap.size w0 wz) (fun _ i _ => k - (intOf i).toNat)
      case atStart => exact ⟨1, x0, by omega, by omega, by go_num, by go_num, hx0n, (show x0 = _ by rw [HX0.out]; simp), H2, WW⟩
      case round =>
        clear WW
        obtain ⟨j, z, hj1, hj2, rfl, rfl, hz, HZ, HM, WW⟩ := hrel
        by_cases hjk : j < k
        · have l5 : decide (((j : Nat) : Int) < ((k : Nat) : Int)) = true := by simp; omega
          obtain ⟨u, hu⟩ : ∃ u, u = z * z % n := ⟨_, rfl⟩
          have hun : u < n := by rw [hu]; exact Nat.mod_lt _ (by omega)
          have hp := rmul1_any z z n wr (by omega) hn hz hz
          rw [← hu] at hp
          have HP := hid hp
          have HU : Hid (u = a ^ (y * 2 ^ j) % n) := (show _ = _ by
            have := mr_sq HZ.out
            rw [show j - 1 + 1 = j by omega] at this
            rw [hu]; exact this)
          clear hu hp
          by_cases h2 : u = N
          · have HB := hid (mr_yes (x := u) hjk HU.out (by rw [h2, HNn.out]) HDn.out HC.out)
            have l4 : (((u : Nat) : Int) == ((N : Nat) : Int)) = true := by rw [h2]; simp
            clear h2
            go_wp2_with fail
            refine HP.out.mono ?_
            clear HP
            rintro e V2 ⟨rfl, hb⟩
            replace WW := WW.trans (hb.mono WW.size)
            clear hb
            go_wp2_with fail
            go_ret
            exact ⟨by rw [HB.out]; rfl, WW⟩
          · have l4 : (((u : Nat) : Int) == ((N : Nat) : Int)) = false := by simp; omega
            have HM2 : Hid (∀ i, i < j + 1 → a ^ (y * 2 ^ i) % n ≠ n - 1) := (show ∀ i, _ → _ from fun i hi => by
              rcases Nat.lt_or_ge i j with h | h
              · exact HM.out i h
              · obtain rfl : i = j := by omega
                rw [← HU.out, ← HNn.out]; exact h2)
            clear h2
            go_wp2_with fail
            refine HP.out.mono ?_
            clear HP
            rintro e V2 ⟨rfl, hb⟩
            replace WW := WW.trans (hb.mono WW.size)
            clear hb
            go_wp2_with fail
            go_roundw
            case rel => exact ⟨j + 1, u, by omega, by omega, by go_num, by go_num, hun, HU, HM2, WW⟩
            case measure => simp [intOf] <;> omega
        · obtain rfl : j = k := by omega
          have l5 : decide (((j : Nat) : Int) < ((j : Nat) : Int)) = false := by simp
          have HB := hid (mr_no HX0.out H1.out HM.out HDn.out HC.out)
          go_wp2_with fail
          go_ret
          exact ⟨by rw [HB.out]; rfl, WW⟩
end Go.Proofs.YtomkmkjkeihodaaDoor
