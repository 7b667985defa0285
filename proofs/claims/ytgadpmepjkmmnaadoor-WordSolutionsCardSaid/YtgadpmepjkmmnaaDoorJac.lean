/- The Jacobi symbol as both texts reckon it. -/
import Derived.Test.YtgadpmepjkmmnaaDoorEuc
set_option linter.unusedVariables false
set_option linter.unusedSimpArgs false
namespace Go.Proofs.YtgadpmepjkmmnaaDoor
open Go.RowKit

/-- The symbol by quadratic reciprocity. -/
def jac (a n : Nat) : Int :=
  if a = 0 then (if n = 1 then 1 else 0)
  else if a % 2 = 0 then (if n % 8 = 3 ∨ n % 8 = 5 then -1 else 1) * jac (a / 2) n
  else (if a % 4 = 3 ∧ n % 4 = 3 then -1 else 1) * jac (n % a) a
termination_by a
decreasing_by
  · omega
  · exact Nat.mod_lt _ (by omega)

def jacZ (a n : Int) : Int := jac a.toNat n.toNat

theorem jz_zero (n : Int) : jacZ 0 n = if n = 1 then 1 else 0 := by
  unfold jacZ
  rw [jac, if_pos (by rfl)]
  by_cases h : n = 1
  · subst h; rfl
  · rw [if_neg (by omega), if_neg h]

theorem jz_even {a n : Int} (h : 0 < a) (h2 : a % 2 = 0) (hn : 0 ≤ n) : jacZ a n = (if n % 8 = 3 ∨ n % 8 = 5 then -1 else 1) * jacZ (a / 2) n := by
  unfold jacZ
  rw [jac, if_neg (by omega), if_pos (by omega), show a.toNat / 2 = (a / 2).toNat by omega]
  congr 1
  by_cases h8 : n % 8 = 3 ∨ n % 8 = 5
  · rw [if_pos h8, if_pos (by omega)]
  · rw [if_neg h8, if_neg (by omega)]

theorem jz_odd {a n : Int} (h : 0 < a) (h2 : a % 2 = 1) (hn : 0 ≤ n) : jacZ a n = (if a % 4 = 3 ∧ n % 4 = 3 then -1 else 1) * jacZ (n % a) a := by
  unfold jacZ
  have e : n.toNat % a.toNat = (n % a).toNat := (Int.toNat_emod hn (by omega)).symm
  rw [jac, if_neg (by omega), if_neg (by omega), e]
  congr 1
  by_cases h8 : a % 4 = 3 ∧ n % 4 = 3
  · rw [if_pos h8, if_pos (by omega)]
  · rw [if_neg h8, if_neg (by omega)]

/-- With k twos. -/
theorem jz_twos (n : Int) (hn : 0 ≤ n) : ∀ (k : Nat) (o : Int), 0 < o → jacZ (2 ^ k * o) n = (if k % 2 = 1 ∧ (n % 8 = 3 ∨ n % 8 = 5) then -1 else 1) * jacZ o n
  | 0, o, ho => by simp
  | k + 1, o, ho => by
    have e : (2 : Int) ^ (k + 1) * o = 2 * (2 ^ k * o) := by rw [Int.pow_succ, Int.mul_comm (2 ^ k) 2, Int.mul_assoc]
    have hp : 0 < (2 : Int) ^ k * o := Int.mul_pos (Int.pow_pos (by omega)) ho
    rw [e]
    generalize hz : (2 : Int) ^ k * o = z at *
    rw [jz_even (by omega) (by omega) hn, show 2 * z / 2 = z by omega, ← hz, jz_twos n hn k o ho]
    by_cases h8 : n % 8 = 3 ∨ n % 8 = 5
    · rw [if_pos h8]
      by_cases hk : k % 2 = 1
      · rw [if_pos ⟨hk, h8⟩, if_neg (by omega)]; omega
      · rw [if_neg (by omega), if_pos ⟨by omega, h8⟩]; omega
    · rw [if_neg h8, if_neg (by omega), if_neg (by omega)]; omega

theorem jz_end {s n J : Int} (h : s * jacZ 0 n = J) : J = if n = 1 then s else 0 := by
  rw [jz_zero] at h
  by_cases hn : n = 1
  · rw [if_pos hn] at h ⊢; omega
  · rw [if_neg hn] at h ⊢; omega

set_option maxHeartbeats 1000000 in
theorem ref_jacobi (a n : Int) (w : World) (a0 : 0 ≤ a) (a1 : a < 2305843009213693952) (n0 : 0 ≤ n) (n1 : n < 2305843009213693952) :
    Calls Tryd.prog 31 #[.int .i64 a, .int .i64 n] w (Ret (.int .i64 (jacZ a n)) w) := by
  obtain ⟨J, hJ⟩ : ∃ J, Hid (jacZ a n = J) := ⟨_, Lib.hid rfl⟩
  rw [hJ.out]
  have hst : 1 * jacZ a n = J := by rw [Int.one_mul]; exact hJ.out
  have HST := Lib.hid hst
  clear hst
  go_enter Tryd.func31, Tryd.ntmps31
  go_wp2
  go_loop [0, 1, 5] (fun sa sn ss => ∃ a n s : Int, sa = .int .i64 a ∧ sn = .int .i64 n ∧ ss = .int .i64 s ∧ 0 ≤ a ∧ a < 2305843009213693952 ∧ 0 ≤ n ∧ n < 2305843009213693952 ∧ -1 ≤ s ∧ s ≤ 1 ∧ s * jacZ a n = J) (fun sa _ _ => (intOf sa).toNat)
  case atStart => exact ⟨_, _, _, rfl, rfl, rfl, a0, a1, n0, n1, by omega, by omega, HST.out⟩
  case round =>
    clear HST a0 a1 n0 n1
    obtain ⟨a, n, s, rfl, rfl, rfl, a0, a1, n0, n1, s0, s1, he⟩ := hrel
    have HE := Lib.hid he
    clear he
    by_cases ha : 0 < a
    · go_wp2
      go_loop [0, 5] (fun sa ss => ∃ a' s : Int, sa = .int .i64 a' ∧ ss = .int .i64 s ∧ 0 < a' ∧ a' ≤ a ∧ -1 ≤ s ∧ s ≤ 1 ∧ s * jacZ a' n = J) (fun sa _ => (intOf sa).toNat)
      case atStart => exact ⟨_, _, rfl, rfl, ha, by omega, s0, s1, HE.out⟩
      case round =>
        clear HE s0 s1
        obtain ⟨b, s, rfl, rfl, hb, hba, s0, s1, he⟩ := hrel
        by_cases h2 : b % 2 = 0
        · rw [jz_even hb h2 n0, ← Int.mul_assoc] at he
          have hb3 : (b % 2 == 0) = true := by simp [h2]
          have hb4 : 0 < b / 2 := by omega
          by_cases h3 : n % 8 = 3
          · rw [if_pos (by omega)] at he
            have HE := Lib.hid he
            have t1 : (n % 8 == 3) = true := by simp [h3]
            clear he h2 h3
            go_wp2
            exact ⟨⟨_, _, rfl, rfl, hb4, by omega, by omega, by omega, by have := HE.out; rwa [show s * -1 = -s by omega] at this⟩, by simp [intOf]; omega⟩
          · have t1 : (n % 8 == 3) = false := by simp [h3]
            by_cases h5 : n % 8 = 5
            · rw [if_pos (by omega)] at he
              have HE := Lib.hid he
              have t2 : (n % 8 == 5) = true := by simp [h5]
              clear he h2 h3 h5
              go_wp2
              exact ⟨⟨_, _, rfl, rfl, hb4, by omega, by omega, by omega, by have := HE.out; rwa [show s * -1 = -s by omega] at this⟩, by simp [intOf]; omega⟩
            · rw [if_neg (by omega)] at he
              have HE := Lib.hid he
              have t2 : (n % 8 == 5) = false := by simp [h5]
              clear he h2 h3 h5
              go_wp2
              exact ⟨⟨_, _, rfl, rfl, hb4, by omega, by omega, by omega, by have := HE.out; rwa [Int.mul_one] at this⟩, by simp [intOf]; omega⟩
        · rw [jz_odd hb (by omega) n0, ← Int.mul_assoc] at he
          have hb3 : (b % 2 == 0) = false := by simp [h2]
          have r0 := Int.emod_nonneg n (show b ≠ 0 by omega)
          have r1 := Int.emod_lt_of_pos n hb
          by_cases h3 : b % 4 = 3
          · have t1 : (b % 4 == 3) = true := by simp [h3]
            by_cases h5 : n % 4 = 3
            · have t2 : (n % 4 == 3) = true := by simp [h5]
              rw [if_pos ⟨h3, h5⟩] at he
              have HE := Lib.hid he
              clear he h2 h3 h5
              go_wp2
              exact ⟨⟨_, _, _, rfl, rfl, rfl, r0, by omega, by omega, by omega, by omega, by omega, by have := HE.out; rwa [show s * -1 = -s by omega] at this⟩, by simp [intOf]; omega⟩
            · have t2 : (n % 4 == 3) = false := by simp [h5]
              rw [if_neg (by omega)] at he
              have HE := Lib.hid he
              clear he h2 h3 h5
              go_wp2
              exact ⟨⟨_, _, _, rfl, rfl, rfl, r0, by omega, by omega, by omega, by omega, by omega, by have := HE.out; rwa [Int.mul_one] at this⟩, by simp [intOf]; omega⟩
          · have t1 : (b % 4 == 3) = false := by simp [h3]
            rw [if_neg (by omega)] at he
            have HE := Lib.hid he
            clear he h2 h3
            go_wp2
            exact ⟨⟨_, _, _, rfl, rfl, rfl, r0, by omega, by omega, by omega, by omega, by omega, by have := HE.out; rwa [Int.mul_one] at this⟩, by simp [intOf]; omega⟩
    · have ha0 : a = 0 := by omega
      subst ha0
      have hfin := jz_end HE.out
      clear HE
      by_cases hn : n = 1
      · rw [if_pos hn] at hfin
        have HF := Lib.hid hfin
        have t1 : (n != 1) = false := by simp [hn]
        clear hfin hn ha
        go_wp2
        go_ret
        exact ⟨ret_int HF.out.symm, 0, rfl⟩
      · rw [if_neg hn] at hfin
        have HF := Lib.hid hfin
        have t1 : (n != 1) = true := by simp [hn]
        clear hfin hn ha
        go_wp2
        go_ret
        exact ⟨ret_int HF.out.symm, 0, rfl⟩

end Go.Proofs.YtgadpmepjkmmnaaDoor
