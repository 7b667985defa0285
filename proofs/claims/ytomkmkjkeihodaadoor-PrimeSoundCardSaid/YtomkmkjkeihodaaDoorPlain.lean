/- Plain arithmetic on the words of a number: its digits in base 2^32, one digit put in place of another. -/
set_option linter.unusedVariables false
set_option linter.unusedSimpArgs false
namespace Go.Proofs.YtomkmkjkeihodaaDoor

theorem pw_pos (i : Nat) : 0 < 2 ^ (32 * i) := Nat.pow_pos (by omega)
theorem pw_succ (i : Nat) : 2 ^ (32 * (i + 1)) = 2 ^ (32 * i) * 4294967296 := by
  rw [show 32 * (i + 1) = 32 * i + 32 by omega, Nat.pow_add]
theorem pw_zero : 2 ^ (32 * 0) = 1 := rfl
theorem pw_add (i j : Nat) : 2 ^ (32 * (i + j)) = 2 ^ (32 * i) * 2 ^ (32 * j) := by
  rw [show 32 * (i + j) = 32 * i + 32 * j by omega, Nat.pow_add]
theorem pw_le {i j : Nat} (h : i ≤ j) : 2 ^ (32 * i) ≤ 2 ^ (32 * j) := Nat.pow_le_pow_right (by omega) (by omega)

/-- The digit at place i. -/
def dig (a i : Nat) : Nat := a / 2 ^ (32 * i) % 4294967296

theorem dig_lt (a i : Nat) : dig a i < 4294967296 := Nat.mod_lt _ (by omega)
theorem dig_above {a n i : Nat} (h : a < 2 ^ (32 * n)) (hi : n ≤ i) : dig a i = 0 := by
  unfold dig
  rw [Nat.div_eq_of_lt (Nat.lt_of_lt_of_le h (pw_le hi))]

theorem dig_0 (i : Nat) : dig 0 i = 0 := by unfold dig; simp

/-- The number up to a place, one place more. -/
theorem mod_pw_succ (a i : Nat) : a % 2 ^ (32 * (i + 1)) = a % 2 ^ (32 * i) + dig a i * 2 ^ (32 * i) := by
  unfold dig
  rw [pw_succ, Nat.mod_mul, Nat.mul_comm (2 ^ (32 * i))]

theorem dig_split (a i : Nat) : a = (a / 2 ^ (32 * (i + 1)) * 4294967296 + dig a i) * 2 ^ (32 * i) + a % 2 ^ (32 * i) := by
  have h1 := Nat.div_add_mod a (2 ^ (32 * i))
  have h2 := Nat.div_add_mod (a / 2 ^ (32 * i)) 4294967296
  rw [Nat.div_div_eq_div_mul, ← pw_succ] at h2
  unfold dig
  rw [Nat.mul_comm (a / 2 ^ (32 * (i + 1)))]
  rw [h2, Nat.mul_comm _ (2 ^ (32 * i))]
  exact h1.symm

/-- Two numbers below 2^(32 n) with the same digits are one. -/
theorem dig_ext {n : Nat} : ∀ {a b : Nat}, a < 2 ^ (32 * n) → b < 2 ^ (32 * n) → (∀ i, i < n → dig a i = dig b i) → a = b := by
  induction n with
  | zero => intro a b ha hb _; simp at ha hb; omega
  | succ n ih =>
    intro a b ha hb h
    have e : a % 2 ^ (32 * n) = b % 2 ^ (32 * n) := by
      refine ih (Nat.mod_lt _ (pw_pos n)) (Nat.mod_lt _ (pw_pos n)) (fun i hi => ?_)
      have hd : ∀ c : Nat, dig (c % 2 ^ (32 * n)) i = dig c i := by
        intro c
        unfold dig
        obtain ⟨k, rfl⟩ : ∃ k, n = i + 1 + k := ⟨n - i - 1, by omega⟩
        rw [pw_add, pw_succ, Nat.mul_assoc, Nat.mod_mul_right_div_self, Nat.mod_mul_right_mod]
      rw [hd, hd]
      exact h i (by omega)
    have ea := mod_pw_succ a n
    have eb := mod_pw_succ b n
    rw [Nat.mod_eq_of_lt ha] at ea
    rw [Nat.mod_eq_of_lt hb] at eb
    rw [ea, eb, e, h n (by omega)]

theorem dig_mod {n i : Nat} (c : Nat) (hi : i < n) : dig (c % 2 ^ (32 * n)) i = dig c i := by
  unfold dig
  obtain ⟨k, rfl⟩ : ∃ k, n = i + 1 + k := ⟨n - i - 1, by omega⟩
  rw [pw_add, pw_succ, Nat.mul_assoc, Nat.mod_mul_right_div_self, Nat.mod_mul_right_mod]

/-- The number with the digit x at place i. -/
def put (a i x : Nat) : Nat := (a / 2 ^ (32 * (i + 1)) * 4294967296 + x) * 2 ^ (32 * i) + a % 2 ^ (32 * i)

theorem put_add (a i x : Nat) : put a i x + dig a i * 2 ^ (32 * i) = a + x * 2 ^ (32 * i) := by
  have h := dig_split a i
  unfold put
  generalize 2 ^ (32 * i) = P at *
  generalize a / 2 ^ (32 * (i + 1)) = m at *
  generalize a % P = l at *
  generalize dig a i = d at *
  rw [h]
  rw [Nat.add_mul, Nat.add_mul]
  omega

theorem dig_of_parts (m x l i j : Nat) (hx : x < 4294967296) (hl : l < 2 ^ (32 * i)) :
    dig ((m * 4294967296 + x) * 2 ^ (32 * i) + l) j = if j < i then dig l j else if j = i then x else dig m (j - (i + 1)) := by
  unfold dig
  have hq : ((m * 4294967296 + x) * 2 ^ (32 * i) + l) / 2 ^ (32 * i) = m * 4294967296 + x := by
    rw [Nat.mul_comm, Nat.mul_add_div (pw_pos i), Nat.div_eq_of_lt hl, Nat.add_zero]
  split
  · rename_i h
    obtain ⟨k, rfl⟩ : ∃ k, i = j + (k + 1) := ⟨i - j - 1, by omega⟩
    rw [pw_add, pw_succ]
    rw [show (m * 4294967296 + x) * (2 ^ (32 * j) * (2 ^ (32 * k) * 4294967296)) + l = 2 ^ (32 * j) * ((m * 4294967296 + x) * 2 ^ (32 * k) * 4294967296) + l by
      rw [← Nat.mul_assoc, ← Nat.mul_assoc, ← Nat.mul_assoc, ← Nat.mul_assoc, Nat.mul_comm (m * 4294967296 + x)]]
    rw [Nat.mul_add_div (pw_pos j)]
    rw [Nat.add_comm, Nat.add_mul_mod_self_right]
  · split
    · rename_i h h'
      subst h'
      rw [hq]
      omega
    · rename_i h h'
      obtain ⟨k, rfl⟩ : ∃ k, j = i + 1 + k := ⟨j - i - 1, by omega⟩
      rw [pw_add, pw_succ, ← Nat.div_div_eq_div_mul, ← Nat.div_div_eq_div_mul, hq]
      rw [show i + 1 + k - (i + 1) = k by omega]
      rw [show (m * 4294967296 + x) / 4294967296 = m by omega]

theorem dig_put (a i x j : Nat) (hx : x < 4294967296) : dig (put a i x) j = if j = i then x else dig a j := by
  unfold put
  rw [dig_of_parts _ _ _ _ _ hx (Nat.mod_lt _ (pw_pos i))]
  by_cases h : j < i
  · rw [if_pos h, if_neg (by omega), dig_mod a h]
  · rw [if_neg h]
    by_cases h' : j = i
    · rw [if_pos h', if_pos h']
    · rw [if_neg h', if_neg h']
      unfold dig
      obtain ⟨k, rfl⟩ : ∃ k, j = i + 1 + k := ⟨j - i - 1, by omega⟩
      rw [show i + 1 + k - (i + 1) = k by omega, Nat.div_div_eq_div_mul, ← pw_add]

theorem put_lt {a i x n : Nat} (ha : a < 2 ^ (32 * n)) (hi : i < n) (hx : x < 4294967296) : put a i x < 2 ^ (32 * n) := by
  unfold put
  obtain ⟨k, rfl⟩ : ∃ k, n = i + 1 + k := ⟨n - i - 1, by omega⟩
  have h1 : a / 2 ^ (32 * (i + 1)) < 2 ^ (32 * k) := by
    rw [Nat.div_lt_iff_lt_mul (pw_pos _), Nat.mul_comm, ← pw_add]; exact ha
  have h2 := Nat.mod_lt a (pw_pos i)
  have e : 2 ^ (32 * (i + 1 + k)) = 2 ^ (32 * k) * 4294967296 * 2 ^ (32 * i) := by rw [pw_add, pw_succ, Nat.mul_comm, Nat.mul_comm (2 ^ (32 * i)), Nat.mul_assoc]
  rw [e]
  clear e ha
  generalize a / 2 ^ (32 * (i + 1)) = m at *
  generalize 2 ^ (32 * k) = K at *
  have h3 : m * 4294967296 + x + 1 ≤ K * 4294967296 := by omega
  have h4 := Nat.mul_le_mul_right (2 ^ (32 * i)) h3
  rw [Nat.add_mul, Nat.one_mul] at h4
  omega

/-- Where the digit was 0, putting is adding. -/
theorem put_zero {a i x : Nat} (h : dig a i = 0) : put a i x = a + x * 2 ^ (32 * i) := by
  have := put_add a i x
  rw [h] at this
  omega

/-- How many words a number has. -/
def nw (a : Nat) : Nat := if a = 0 then 0 else Nat.log2 a / 32 + 1

theorem nw_zero : nw 0 = 0 := rfl
theorem lt_nw (a : Nat) : a < 2 ^ (32 * nw a) := by
  unfold nw
  split
  · rename_i h; subst h; simp
  · rename_i h
    have := Nat.lt_log2_self (n := a)
    exact Nat.lt_of_lt_of_le this (Nat.pow_le_pow_right (by omega) (by omega))
theorem nw_le {a n : Nat} (h : a < 2 ^ (32 * n)) : nw a ≤ n := by
  unfold nw
  split
  · omega
  · rename_i h0
    have h1 := Nat.log2_self_le h0
    have h2 : 2 ^ Nat.log2 a < 2 ^ (32 * n) := Nat.lt_of_le_of_lt h1 h
    have h3 := (Nat.pow_lt_pow_iff_right (by omega : 1 < 2)).1 h2
    omega
theorem nw_pos {a : Nat} (h : a ≠ 0) : 0 < nw a := by unfold nw; rw [if_neg h]; omega
theorem nw_eq_zero {a : Nat} : nw a = 0 ↔ a = 0 := ⟨fun h => Decidable.byContradiction fun h0 => by have := nw_pos h0; omega, fun h => by rw [h]; rfl⟩
theorem pw_le_of_nw {a : Nat} (h : a ≠ 0) : 2 ^ (32 * (nw a - 1)) ≤ a := by
  unfold nw
  rw [if_neg h]
  exact Nat.le_trans (Nat.pow_le_pow_right (by omega) (by omega)) (Nat.log2_self_le h)
/-- The highest word is not 0. -/
theorem dig_top {a : Nat} (h : a ≠ 0) : dig a (nw a - 1) ≠ 0 := by
  have h1 := pw_le_of_nw h
  have h2 := lt_nw a
  have h3 := nw_pos h
  obtain ⟨k, hk⟩ : ∃ k, nw a = k + 1 := ⟨nw a - 1, by omega⟩
  rw [hk] at h1 h2 ⊢
  rw [show k + 1 - 1 = k by omega] at *
  rw [pw_succ] at h2
  unfold dig
  have h4 : a / 2 ^ (32 * k) < 4294967296 := by rw [Nat.div_lt_iff_lt_mul (pw_pos k), Nat.mul_comm]; exact h2
  rw [Nat.mod_eq_of_lt h4]
  have := Nat.div_pos h1 (pw_pos k)
  omega
theorem nw_unique {a n : Nat} (h : a < 2 ^ (32 * n)) (ht : n = 0 ∨ dig a (n - 1) ≠ 0) : nw a = n := by
  have h1 := nw_le h
  rcases ht with rfl | ht
  · omega
  · rcases Nat.lt_or_ge (nw a) n with h2 | h2
    · exact absurd (dig_above (lt_nw a) (by omega)) ht
    · omega
theorem lt_of_nw_lt {a b : Nat} (h : nw a < nw b) : a < b := by
  have hb : b ≠ 0 := by rintro rfl; simp [nw_zero] at h
  exact Nat.lt_of_lt_of_le (Nat.lt_of_lt_of_le (lt_nw a) (pw_le (by omega))) (pw_le_of_nw hb)
theorem nw_mono {a b : Nat} (h : a ≤ b) : nw a ≤ nw b := nw_le (Nat.lt_of_le_of_lt h (lt_nw b))

/-- A number cut at a place where only zeros stand above. -/
theorem lt_of_dig {a n : Nat} (h : a < 2 ^ (32 * (n + 1))) (hd : dig a n = 0) : a < 2 ^ (32 * n) := by
  have := mod_pw_succ a n
  rw [Nat.mod_eq_of_lt h, hd] at this
  rw [this]
  simp
  exact Nat.mod_lt _ (pw_pos n)

theorem put_top {s i x : Nat} (h : s < 2 ^ (32 * i)) : put s i x = s + x * 2 ^ (32 * i) := put_zero (dig_above h (Nat.le_refl _))

/-! ### sum, difference, product: one place more -/

theorem sum_step (a b i s c : Nat) (h : s + c * 2 ^ (32 * i) = a % 2 ^ (32 * i) + b % 2 ^ (32 * i)) :
    (s + (dig a i + dig b i + c) % 4294967296 * 2 ^ (32 * i)) + (dig a i + dig b i + c) / 4294967296 * 2 ^ (32 * (i + 1)) = a % 2 ^ (32 * (i + 1)) + b % 2 ^ (32 * (i + 1)) := by
  rw [mod_pw_succ, mod_pw_succ, pw_succ]
  generalize 2 ^ (32 * i) = P at *
  generalize dig a i = x at *
  generalize dig b i = y at *
  have e := Nat.div_add_mod (x + y + c) 4294967296
  generalize (x + y + c) / 4294967296 = q at *
  generalize (x + y + c) % 4294967296 = r at *
  have e2 : (x + y + c) * P = (4294967296 * q + r) * P := by rw [e]
  rw [Nat.add_mul, Nat.add_mul, Nat.add_mul] at e2
  rw [show q * (P * 4294967296) = 4294967296 * q * P by rw [Nat.mul_comm P, ← Nat.mul_assoc, Nat.mul_comm q]]
  omega

theorem add_lt_of {s P x n : Nat} (hs : s < P) (hx : x < 4294967296) : s + x * P < P * 4294967296 := by
  have : (x + 1) * P ≤ 4294967296 * P := Nat.mul_le_mul_right P (by omega)
  rw [Nat.add_mul] at this
  rw [Nat.mul_comm P]
  omega

theorem lt_succ_of {s x i : Nat} (hs : s < 2 ^ (32 * i)) (hx : x < 4294967296) : s + x * 2 ^ (32 * i) < 2 ^ (32 * (i + 1)) := by
  rw [pw_succ]; exact add_lt_of (n := 0) hs hx

theorem diff_step (a b i s c x y : Nat) (h : s + b % 2 ^ (32 * i) = a % 2 ^ (32 * i) + c * 2 ^ (32 * i)) (r c' : Nat) (hr : r + dig b i + c = dig a i + c' * 4294967296) :
    (s + r * 2 ^ (32 * i)) + b % 2 ^ (32 * (i + 1)) = a % 2 ^ (32 * (i + 1)) + c' * 2 ^ (32 * (i + 1)) := by
  rw [mod_pw_succ, mod_pw_succ, pw_succ]
  generalize 2 ^ (32 * i) = P at *
  generalize dig a i = x at *
  generalize dig b i = y at *
  have e2 : (r + y + c) * P = (x + c' * 4294967296) * P := by rw [hr]
  rw [Nat.add_mul, Nat.add_mul, Nat.add_mul] at e2
  rw [show c' * (P * 4294967296) = c' * 4294967296 * P by rw [Nat.mul_comm P, ← Nat.mul_assoc]]
  omega

/-- One word of a product: what is stored and what is carried. -/
theorem mul_word (x y c d : Nat) (hx : x < 4294967296) (hy : y < 4294967296) (hc : c < 4294967296) (hd : d < 4294967296) :
    (x * y + c) / 4294967296 + ((x * y + c) % 4294967296 + d) / 4294967296 < 4294967296 := by
  have h1 : x * y ≤ 4294967295 * 4294967295 := Nat.mul_le_mul (by omega) (by omega)
  omega

theorem mul_step (a b k j s c d x y r q o : Nat) (h : s + c * 2 ^ (32 * (k + j)) = a * b + x * (2 ^ (32 * k) * (b % 2 ^ (32 * j)))) (hd : d = dig s (k + j)) (hy : y = dig b j)
    (hr : r + (q + o) * 4294967296 = x * y + c + d) :
    put s (k + j) r + (q + o) * 2 ^ (32 * (k + (j + 1))) = a * b + x * (2 ^ (32 * k) * (b % 2 ^ (32 * (j + 1)))) := by
  have hp := put_add s (k + j) r
  rw [← hd] at hp
  have e1 : x * (2 ^ (32 * k) * (b % 2 ^ (32 * (j + 1)))) = x * (2 ^ (32 * k) * (b % 2 ^ (32 * j))) + x * y * 2 ^ (32 * (k + j)) := by
    rw [mod_pw_succ b j, ← hy, Nat.mul_add (2 ^ (32 * k)), Nat.mul_add x, pw_add, Nat.mul_left_comm (2 ^ (32 * k)) y, ← Nat.mul_assoc x y]
  rw [e1, ← Nat.add_assoc, pw_succ]
  generalize 2 ^ (32 * (k + j)) = P at *
  generalize x * (2 ^ (32 * k) * (b % 2 ^ (32 * j))) = z at *
  have e2 : (r + (q + o) * 4294967296) * P = (x * y + c + d) * P := by rw [hr]
  simp only [Nat.add_mul] at e2
  rw [show (q + o) * (P * 4294967296) = q * 4294967296 * P + o * 4294967296 * P by
    rw [Nat.add_mul, Nat.mul_comm P, Nat.mul_assoc, Nat.mul_assoc]]
  omega

theorem mul_row (a b k m : Nat) (hb : b < 2 ^ (32 * m)) : (a % 2 ^ (32 * k)) * b + dig a k * (2 ^ (32 * k) * (b % 2 ^ (32 * m))) = (a % 2 ^ (32 * (k + 1))) * b := by
  rw [Nat.mod_eq_of_lt hb, mod_pw_succ, Nat.add_mul, Nat.mul_assoc]

theorem mul_lt_pw {a b k m : Nat} (ha : a < 2 ^ (32 * k)) (hb : b < 2 ^ (32 * m)) : a * b < 2 ^ (32 * (k + m)) := by
  rw [pw_add]
  exact Nat.mul_lt_mul'' ha hb

end Go.Proofs.YtomkmkjkeihodaaDoor
