/- Pm1, Pm2, Pm3: merged. -/
import Derived.Test.YtomkmkjkeihodaaDoorPA
set_option linter.unusedVariables false
set_option linter.unusedSimpArgs false
namespace Go.Proofs.YtomkmkjkeihodaaDoor

/-- p is a prime. -/
def Pr (p : Nat) : Prop := 2 ≤ p ∧ ∀ d, d ∣ p → d = 1 ∨ d = p
theorem Pr.cop {p a : Nat} (hp : Pr p) (h : ¬ p ∣ a) : Nat.Coprime p a := by
  rcases hp.2 _ (Nat.gcd_dvd_left p a) with e | e
  · exact e
  · exact absurd (e ▸ Nat.gcd_dvd_right p a) h
theorem Pr.dvd_mul {p a b : Nat} (hp : Pr p) (h : p ∣ a * b) : p ∣ a ∨ p ∣ b := by
  by_cases ha : p ∣ a
  · exact .inl ha
  · exact .inr ((hp.cop ha).dvd_of_dvd_mul_left h)
/-- Every number from 2 on has a least divisor greater than 1, which is a prime. -/
theorem least_pr : ∀ (n : Nat), 2 ≤ n → ∃ p, Pr p ∧ p ∣ n ∧ ∀ d, 2 ≤ d → d ∣ n → p ≤ d := by
  intro n hn
  have hex : ∃ k, ∃ d, d ≤ k ∧ 2 ≤ d ∧ d ∣ n := ⟨n, n, Nat.le_refl _, hn, Nat.dvd_refl _⟩
  have key : ∀ k, (∃ d, d ≤ k ∧ 2 ≤ d ∧ d ∣ n) → ∃ p, 2 ≤ p ∧ p ∣ n ∧ ∀ d, 2 ≤ d → d ∣ n → p ≤ d := by
    intro k
    induction k with
    | zero => rintro ⟨d, h1, h2, _⟩; omega
    | succ k ih =>
      intro h
      by_cases hk : ∃ d, d ≤ k ∧ 2 ≤ d ∧ d ∣ n
      · exact ih hk
      · obtain ⟨d, h1, h2, h3⟩ := h
        refine ⟨d, h2, h3, fun e he1 he2 => ?_⟩
        rcases Nat.lt_or_ge e d with h | h
        · exact absurd ⟨e, by omega, he1, he2⟩ hk
        · exact h
  obtain ⟨p, h1, h2, h3⟩ := key n ⟨n, Nat.le_refl _, hn, Nat.dvd_refl _⟩
  refine ⟨p, ⟨h1, fun d hd => ?_⟩, h2, h3⟩
  have hd0 : d ≠ 0 := fun e => by rw [e] at hd; have := Nat.eq_zero_of_zero_dvd hd; omega
  rcases Nat.lt_or_ge d 2 with h | h
  · exact .inl (by omega)
  · have h4 := h3 d h (Nat.dvd_trans hd h2)
    have h5 := Nat.le_of_dvd (by omega) hd
    exact .inr (by omega)
theorem pr_of_least {n : Nat} (hn : 2 ≤ n) (h : ∀ d, 2 ≤ d → d < n → n % d ≠ 0) : Pr n := by
  refine ⟨hn, fun d hd => ?_⟩
  have hd0 : d ≠ 0 := fun e => by rw [e] at hd; have := Nat.eq_zero_of_zero_dvd hd; omega
  have hle := Nat.le_of_dvd (by omega) hd
  rcases Nat.lt_or_ge d 2 with h1 | h1
  · exact .inl (by omega)
  · rcases Nat.lt_or_ge d n with h2 | h2
    · exact absurd (Nat.mod_eq_zero_of_dvd hd) (h d h1 h2)
    · exact .inr (by omega)

/-! ### Fermat -/
def lpr : List Nat → Nat
  | [] => 1
  | a :: l => a * lpr l
theorem lpr_perm {l1 l2 : List Nat} (h : l1.Perm l2) : lpr l1 = lpr l2 := by
  induction h with
  | nil => rfl
  | cons a _ ih => simp only [lpr, ih]
  | swap a b l => simp only [lpr]; exact Nat.mul_left_comm ..
  | trans _ _ h1 h2 => exact h1.trans h2
theorem perm_of_sub : ∀ (l1 l2 : List Nat), l1.Nodup → (∀ x ∈ l1, x ∈ l2) → l1.length = l2.length → l1.Perm l2
  | [], l2, _, _, h => by
    have : l2 = [] := List.length_eq_zero_iff.1 (by simpa using h.symm)
    rw [this]
  | a :: t, l2, hn, hs, h => by
    have ha : a ∈ l2 := hs a (by simp)
    have hn' := List.nodup_cons.1 hn
    have := perm_of_sub t (l2.erase a) hn'.2 (fun x hx => (List.mem_erase_of_ne (by intro e; rw [e] at hx; exact hn'.1 hx)).2 (hs x (by simp [hx]))) (by rw [List.length_erase_of_mem ha]; simp at h; omega)
    exact (this.cons a).trans (List.perm_cons_erase ha).symm
def r1 (h : Nat) : List Nat := List.range' 1 h
theorem mem_r1 {x h : Nat} : x ∈ r1 h ↔ 1 ≤ x ∧ x ≤ h := by simp [r1, List.mem_range'_1]; omega
theorem r1_nodup (h : Nat) : (r1 h).Nodup := List.nodup_range'
theorem r1_length (h : Nat) : (r1 h).length = h := by simp [r1]
theorem nodup_map {l : List Nat} {f : Nat → Nat} (hl : l.Nodup) (hf : ∀ x ∈ l, ∀ y ∈ l, f x = f y → x = y) : (l.map f).Nodup := by
  unfold List.Nodup
  rw [List.pairwise_map]
  exact List.Pairwise.imp_of_mem (fun {a b} ha hb hab e => hab (hf a ha b hb e)) hl
theorem lpr_mul (a : Nat) (l : List Nat) : lpr (l.map (a * ·)) = a ^ l.length * lpr l := by
  induction l with
  | nil => rfl
  | cons b l ih => simp only [List.map_cons, lpr, ih, List.length_cons, Nat.pow_succ]; ac_rfl
theorem lpr_mod (p : Nat) (l : List Nat) : lpr (l.map (· % p)) % p = lpr l % p := by
  induction l with
  | nil => rfl
  | cons b l ih => simp only [List.map_cons, lpr]; rw [Nat.mul_mod, ih, Nat.mod_mod, ← Nat.mul_mod]
theorem lpr_cop {p : Nat} {l : List Nat} (h : ∀ x ∈ l, Nat.Coprime p x) : Nat.Coprime p (lpr l) := by
  induction l with
  | nil => simp [lpr, Nat.Coprime]
  | cons b l ih => exact Nat.Coprime.mul_right (h b (by simp)) (ih fun x hx => h x (by simp [hx]))
theorem dvd_sub_of_mod {p a b : Nat} (h : a % p = b % p) (hab : b ≤ a) : p ∣ a - b := by
  have := Nat.div_add_mod a p
  have := Nat.div_add_mod b p
  refine ⟨a / p - b / p, ?_⟩
  have h3 : b / p ≤ a / p := Nat.div_le_div_right hab
  rw [Nat.mul_sub]
  omega
theorem mod_of_dvd_sub {p a b : Nat} (hab : b ≤ a) (h : p ∣ a - b) : a % p = b % p := by
  obtain ⟨k, hk⟩ := h
  have : a = b + p * k := by omega
  rw [this, Nat.add_mul_mod_self_left]
theorem cancel_mod {p c x y : Nat} (h : Nat.Coprime p c) (e : c * x % p = c * y % p) : x % p = y % p := by
  rcases Nat.le_total y x with hle | hle
  · have h1 := dvd_sub_of_mod e (Nat.mul_le_mul_left _ hle)
    rw [← Nat.mul_sub] at h1
    exact mod_of_dvd_sub hle (h.dvd_of_dvd_mul_left h1)
  · have h1 := dvd_sub_of_mod e.symm (Nat.mul_le_mul_left _ hle)
    rw [← Nat.mul_sub] at h1
    exact (mod_of_dvd_sub hle (h.dvd_of_dvd_mul_left h1)).symm
theorem fermat {p a : Nat} (hp : Pr p) (h : ¬ p ∣ a) : a ^ (p - 1) % p = 1 := by
  have hp2 := hp.1
  have hca := hp.cop h
  have hx : ∀ x ∈ r1 (p - 1), Nat.Coprime p x := fun x hx => hp.cop fun hd => by
    have h1 := mem_r1.1 hx
    have := Nat.le_of_dvd (by omega) hd
    omega
  have hperm : ((r1 (p - 1)).map fun x => a * x % p).Perm (r1 (p - 1)) := by
    refine perm_of_sub _ _ (nodup_map (r1_nodup _) fun x hx y hy e => ?_) ?_ (by simp)
    · have := cancel_mod hca e
      have h1 := mem_r1.1 hx
      have h2 := mem_r1.1 hy
      rwa [Nat.mod_eq_of_lt (by omega), Nat.mod_eq_of_lt (by omega)] at this
    · intro y hy
      obtain ⟨x, hx1, rfl⟩ := List.mem_map.1 hy
      have h3 := Nat.mod_lt (a * x) (show 0 < p by omega)
      refine mem_r1.2 ⟨?_, by omega⟩
      rcases Nat.eq_zero_or_pos (a * x % p) with e | e
      · have := hca.dvd_of_dvd_mul_left (Nat.dvd_of_mod_eq_zero e)
        have h1 := mem_r1.1 hx1
        have := Nat.le_of_dvd (by omega) this
        omega
      · exact e
  have e1 : lpr ((r1 (p - 1)).map fun x => a * x % p) = lpr (r1 (p - 1)) := lpr_perm hperm
  have e2 : ((r1 (p - 1)).map fun x => a * x % p) = ((r1 (p - 1)).map (a * ·)).map (· % p) := by rw [List.map_map]; rfl
  have e3 : lpr (r1 (p - 1)) * a ^ (p - 1) % p = lpr (r1 (p - 1)) * 1 % p := by
    have h4 := lpr_mod p ((r1 (p - 1)).map (a * ·))
    rw [← e2, e1, lpr_mul, r1_length] at h4
    rw [Nat.mul_one, Nat.mul_comm]
    exact h4.symm
  have := cancel_mod (lpr_cop hx) e3
  rwa [Nat.mod_eq_of_lt (show 1 < p by omega)] at this

/-! ### A prime passes the test -/
theorem sqrt_one {p x : Nat} (hp : Pr p) (h : x * x % p = 1) : x % p = 1 ∨ x % p = p - 1 := by
  have hp2 := hp.1
  have hx : x ≠ 0 := fun e => by rw [e] at h; simp at h
  have h1 : p ∣ (x - 1) * (x + 1) := by
    have h2 := dvd_sub_of_mod (show x * x % p = 1 % p by rw [h, Nat.mod_eq_of_lt (by omega)]) (Nat.mul_pos (by omega) (by omega))
    have e : (x - 1) * (x + 1) = x * x - 1 := by
      obtain ⟨y, rfl⟩ : ∃ y, x = y + 1 := ⟨x - 1, by omega⟩
      rw [Nat.add_sub_cancel, Nat.mul_add y (y + 1) 1, Nat.add_mul y 1 (y + 1), Nat.one_mul, Nat.mul_one]
      omega
    rw [e]; exact h2
  rcases hp.dvd_mul h1 with h2 | h2
  · exact .inl ((mod_of_dvd_sub (by omega) h2).trans (Nat.mod_eq_of_lt (by omega)))
  · right
    have h3 := Nat.mod_eq_zero_of_dvd h2
    have h4 := Nat.mod_lt x (show 0 < p by omega)
    have h5 := Nat.div_add_mod x p
    have h6 : (x % p + 1) % p = 0 := by rw [Nat.add_mod, Nat.mod_mod, ← Nat.add_mod]; exact h3
    rcases Nat.lt_or_ge (x % p + 1) p with h7 | h7
    · rw [Nat.mod_eq_of_lt h7] at h6; omega
    · omega
theorem mrB_of_pr {p a : Nat} (hp : Pr p) (h3 : 3 ≤ p) (hpb : p ≤ 9223372036854775807) (h : ¬ p ∣ a) : mrB p a = true := by
  obtain ⟨o, ho, ho2, hs64⟩ := ctz_spec (p - 1) (by omega) (by omega)
  unfold mrB
  obtain ⟨s, hs⟩ : ∃ s, s = Lib.ctz 64 (p - 1) := ⟨_, rfl⟩
  rw [← hs] at ho ⊢
  have hd : (p - 1) / 2 ^ s * 2 ^ s = p - 1 := Nat.div_mul_cancel ⟨o, ho⟩
  obtain ⟨d, hd2⟩ : ∃ d, d = (p - 1) / 2 ^ s := ⟨_, rfl⟩
  rw [← hd2] at hd ⊢
  have key : ∀ k, a ^ (d * 2 ^ k) % p = 1 → a ^ d % p = 1 ∨ ∃ i, i < k ∧ a ^ (d * 2 ^ i) % p = p - 1 := by
    intro k
    induction k with
    | zero => intro h; rw [Nat.pow_zero, Nat.mul_one] at h; exact .inl h
    | succ k ih =>
      intro h
      rw [Nat.pow_succ, ← Nat.mul_assoc, Nat.pow_mul, Nat.pow_two] at h
      rcases sqrt_one hp h with h1 | h1
      · rcases ih h1 with h2 | ⟨i, h2, h3⟩
        · exact .inl h2
        · exact .inr ⟨i, by omega, h3⟩
      · exact .inr ⟨k, by omega, h1⟩
  rw [Bool.or_eq_true, List.any_eq_true]
  rcases key s (by rw [hd]; exact fermat hp h) with h1 | ⟨i, h1, h2⟩
  · exact .inl (by simpa using h1)
  · exact .inr ⟨i, List.mem_range.2 h1, by simpa using h2⟩
theorem isB_of_pr {p : Nat} (hp : Pr p) (hpb : p ≤ 9223372036854775807) : isB p = true := by
  by_cases h : ∀ i, i < 12 → p % wits.getD i 0 ≠ 0
  · rw [isB_mr hp.1 h, List.all_eq_true]
    intro a ha
    obtain ⟨k, hk, rfl⟩ := wit_mem ha
    obtain ⟨hw1, hw2⟩ := wit_bd hk
    have h3 : 3 ≤ p := by
      have := hp.1
      rcases Nat.lt_or_ge p 3 with h4 | h4
      · have h5 := h 0 (by decide); have : p = 2 := by omega
        subst this; exact absurd rfl h5
      · exact h4
    refine mrB_of_pr hp h3 hpb fun hd => ?_
    have hle := Nat.le_of_dvd (by omega) hd
    -- p would be a witness itself
    have : ∀ q : Fin 38, 2 ≤ q.1 → ∃ k : Fin 12, q.1 % wits.getD k.1 0 = 0 := by decide
    obtain ⟨k', hk'⟩ := this ⟨p, by omega⟩ (by show 2 ≤ p; omega)
    exact h k'.1 k'.2 hk'
  · have hex : ∃ k, k < 12 ∧ p % wits.getD k 0 = 0 ∧ ∀ i, i < k → p % wits.getD i 0 ≠ 0 := by
      have key : ∀ n, n ≤ 12 → (∀ i, i < n → p % wits.getD i 0 ≠ 0) ∨ ∃ k, k < n ∧ p % wits.getD k 0 = 0 ∧ ∀ i, i < k → p % wits.getD i 0 ≠ 0 := by
        intro n
        induction n with
        | zero => intro _; exact .inl fun i h => absurd h (by omega)
        | succ n ih =>
          intro hn
          rcases ih (by omega) with h1 | ⟨k, h1, h2, h3⟩
          · by_cases h2 : p % wits.getD n 0 = 0
            · exact .inr ⟨n, by omega, h2, h1⟩
            · refine .inl fun i hi => ?_
              rcases Nat.lt_or_ge i n with h3 | h3
              · exact h1 i h3
              · obtain rfl : i = n := by omega
                exact h2
          · exact .inr ⟨k, by omega, h2, h3⟩
      rcases key 12 (Nat.le_refl _) with h1 | ⟨k, h1, h2, h3⟩
      · exact absurd h1 h
      · exact ⟨k, h1, h2, h3⟩
    obtain ⟨k, hk, h1, h2⟩ := hex
    rw [isB_hit hp.1 hk h2 h1]
    obtain ⟨hw1, hw2⟩ := wit_bd hk
    rcases hp.2 _ (Nat.dvd_of_mod_eq_zero h1) with e | e
    · omega
    · rw [e]; simp

end Go.Proofs.YtomkmkjkeihodaaDoor

namespace Go.Proofs.YtomkmkjkeihodaaDoor

theorem sq_minus {n x : Nat} (h1 : 1 < n) (h : x % n = n - 1) : x * x % n = 1 := by
  rw [Nat.mul_mod, h]
  obtain ⟨m, rfl⟩ : ∃ m, n = m + 2 := ⟨n - 2, by omega⟩
  have e : (m + 1) * (m + 1) = 1 + (m + 2) * m := by
    simp only [Nat.mul_add, Nat.add_mul]
    omega
  show (m + 1) * (m + 1) % (m + 2) = 1
  rw [e, Nat.add_mul_mod_self_left, Nat.mod_eq_of_lt (by omega)]
theorem mr_fermat {n a : Nat} (h1 : 1 < n) (hb : n ≤ 9223372036854775807) (h : mrB n a = true) : a ^ (n - 1) % n = 1 := by
  obtain ⟨o, ho, ho2, hs64⟩ := ctz_spec (n - 1) (by omega) (by omega)
  unfold mrB at h
  obtain ⟨s, hs⟩ : ∃ s, s = Lib.ctz 64 (n - 1) := ⟨_, rfl⟩
  rw [← hs] at ho h
  have hd : (n - 1) / 2 ^ s * 2 ^ s = n - 1 := Nat.div_mul_cancel ⟨o, ho⟩
  obtain ⟨d, hd2⟩ : ∃ d, d = (n - 1) / 2 ^ s := ⟨_, rfl⟩
  rw [← hd2] at hd h
  have up : ∀ k x, x % n = 1 → x ^ k % n = 1 := by
    intro k x hx
    rw [Nat.pow_mod, hx, Nat.one_pow, Nat.mod_eq_of_lt h1]
  rw [Bool.or_eq_true, List.any_eq_true] at h
  rcases h with h | ⟨i, hi, h⟩
  · have := up (2 ^ s) _ (by simpa using h)
    rwa [← Nat.pow_mul, hd] at this
  · have hi := List.mem_range.1 hi
    have h2 := sq_minus h1 (by simpa using h)
    rw [← Nat.pow_two, ← Nat.pow_mul, Nat.mul_assoc, ← Nat.pow_succ] at h2
    have := up (2 ^ (s - (i + 1))) _ h2
    rwa [← Nat.pow_mul, Nat.mul_assoc, ← Nat.pow_add, show i.succ + (s - (i + 1)) = s by omega, hd] at this
/-- For all i below n, the greatest first. -/
noncomputable def allT (n : Nat) (f : Nat → Bool) : Bool := Nat.rec true (fun i r => f i && r) n
theorem allT_spec {f : Nat → Bool} : ∀ {n : Nat}, allT n f = true → ∀ i, i < n → f i = true
  | 0, _, i, hi => absurd hi (by omega)
  | n + 1, h, i, hi => by
    have h' : (f n && allT n f) = true := h
    rw [Bool.and_eq_true] at h'
    rcases Nat.lt_or_ge i n with h1 | h1
    · exact allT_spec h'.2 i h1
    · obtain rfl : i = n := by omega
      exact h'.1
/-- A composite number that is shown not to pass for 2 or 3. -/
def okc (n : Nat) : Bool := !(pmod 21 2 (n - 1) n == 1) || !(mrF n 2) || !(mrF n 3)
def stp (o : Nat) : Nat := if o % 2 == 0 then o else 2 * o
/-- For a prime p and the order o of 2: no multiple p m below 2^20 passes. -/
noncomputable def chkP (e : Nat × Nat) : Bool :=
  (2 ^ e.2 % e.1 == 1) && allT e.2 (fun d => d == 0 || !(2 ^ d % e.1 == 1)) &&
    allT (1048576 / e.1 / stp e.2 + 1) fun t =>
      !(Nat.ble e.1 (1 + stp e.2 * t)) || (1 + stp e.2 * t) % 3 == 0 || (1 + stp e.2 * t) % 5 == 0 || okc (e.1 * (1 + stp e.2 * t))
def tab0 : List (Nat × Nat) := [(41, 20)]
set_option maxRecDepth 1000000 in
set_option maxHeartbeats 0 in
theorem chk_tab0 : tab0.all chkP = true := by decide +kernel
def tab1 : List (Nat × Nat) := [(43, 14)]
set_option maxRecDepth 1000000 in
set_option maxHeartbeats 0 in
theorem chk_tab1 : tab1.all chkP = true := by decide +kernel
def tab2 : List (Nat × Nat) := [(47, 23), (53, 52), (59, 58), (61, 60), (67, 66), (71, 35)]
set_option maxRecDepth 1000000 in
set_option maxHeartbeats 0 in
theorem chk_tab2 : tab2.all chkP = true := by decide +kernel
def tab3 : List (Nat × Nat) := [(73, 9), (79, 39), (83, 82), (89, 11), (97, 48)]
set_option maxRecDepth 1000000 in
set_option maxHeartbeats 0 in
theorem chk_tab3 : tab3.all chkP = true := by decide +kernel
def tab4 : List (Nat × Nat) := [(101, 100), (103, 51), (107, 106), (109, 36), (113, 28), (127, 7), (131, 130), (137, 68), (139, 138), (149, 148)]
set_option maxRecDepth 1000000 in
set_option maxHeartbeats 0 in
theorem chk_tab4 : tab4.all chkP = true := by decide +kernel
def tab5 : List (Nat × Nat) := [(151, 15), (157, 52), (163, 162), (167, 83), (173, 172), (179, 178), (181, 180), (191, 95), (193, 96), (197, 196), (199, 99), (211, 210), (223, 37), (227, 226), (229, 76), (233, 29), (239, 119), (241, 24), (251, 50), (257, 16), (263, 131), (269, 268), (271, 135), (277, 92), (281, 70), (283, 94), (293, 292), (307, 102), (311, 155), (313, 156), (317, 316)]
set_option maxRecDepth 1000000 in
set_option maxHeartbeats 0 in
theorem chk_tab5 : tab5.all chkP = true := by decide +kernel
def tab6 : List (Nat × Nat) := [(331, 30), (337, 21), (347, 346), (349, 348), (353, 88), (359, 179), (367, 183), (373, 372), (379, 378), (383, 191), (389, 388), (397, 44), (401, 200), (409, 204), (419, 418), (421, 420), (431, 43), (433, 72), (439, 73), (443, 442), (449, 224), (457, 76), (461, 460), (463, 231), (467, 466), (479, 239), (487, 243), (491, 490), (499, 166), (503, 251), (509, 508), (521, 260), (523, 522), (541, 540), (547, 546), (557, 556), (563, 562), (569, 284), (571, 114), (577, 144), (587, 586), (593, 148), (599, 299), (601, 25), (607, 303), (613, 612), (617, 154), (619, 618), (631, 45), (641, 64), (643, 214), (647, 323), (653, 652), (659, 658), (661, 660), (673, 48), (677, 676), (683, 22), (691, 230), (701, 700), (709, 708), (719, 359), (727, 121), (733, 244), (739, 246), (743, 371), (751, 375), (757, 756)]
set_option maxRecDepth 1000000 in
set_option maxHeartbeats 0 in
theorem chk_tab6 : tab6.all chkP = true := by decide +kernel
def tab7 : List (Nat × Nat) := [(761, 380), (769, 384), (773, 772), (787, 786), (797, 796), (809, 404), (811, 270), (821, 820), (823, 411), (827, 826), (829, 828), (839, 419), (853, 852), (857, 428), (859, 858), (863, 431), (877, 876), (881, 55), (883, 882), (887, 443), (907, 906), (911, 91), (919, 153), (929, 464), (937, 117), (941, 940), (947, 946), (953, 68), (967, 483), (971, 194), (977, 488), (983, 491), (991, 495), (997, 332), (1009, 504), (1013, 92), (1019, 1018), (1021, 340)]
set_option maxRecDepth 1000000 in
set_option maxHeartbeats 0 in
theorem chk_tab7 : tab7.all chkP = true := by decide +kernel
def tab : List (Nat × Nat) := tab0 ++ tab1 ++ tab2 ++ tab3 ++ tab4 ++ tab5 ++ tab6 ++ tab7
theorem chk_all : tab.all chkP = true := by
  unfold tab
  simp only [List.all_append, chk_tab0, chk_tab1, chk_tab2, chk_tab3, chk_tab4, chk_tab5, chk_tab6, chk_tab7, Bool.and_self]
end Go.Proofs.YtomkmkjkeihodaaDoor

namespace Go.Proofs.YtomkmkjkeihodaaDoor

theorem order_dvd {p a o e : Nat} (hp : 1 < p) (h1 : a ^ o % p = 1) (ho : 0 < o) (hm : ∀ d, 0 < d → d < o → a ^ d % p ≠ 1) (he : a ^ e % p = 1) : o ∣ e := by
  have h2 : a ^ (e % o) % p = 1 := by
    have h3 := Nat.div_add_mod e o
    rw [← h3, Nat.pow_add, Nat.mul_mod, Nat.pow_mul, Nat.pow_mod, h1, Nat.one_pow, Nat.mod_eq_of_lt hp, Nat.one_mul, Nat.mod_mod] at he
    exact he
  rcases Nat.eq_zero_or_pos (e % o) with h4 | h4
  · exact Nat.dvd_of_mod_eq_zero h4
  · exact absurd h2 (hm _ h4 (Nat.mod_lt _ ho))
theorem tab_spec {p o : Nat} (h : (p, o) ∈ tab) : 2 ^ o % p = 1 ∧ (∀ d, 0 < d → d < o → 2 ^ d % p ≠ 1) ∧ ∀ t, t ≤ 1048576 / p / stp o → 1 + stp o * t < p ∨ (1 + stp o * t) % 3 = 0 ∨ (1 + stp o * t) % 5 = 0 ∨ okc (p * (1 + stp o * t)) = true := by
  have h1 := List.all_eq_true.1 chk_all _ h
  unfold chkP at h1
  dsimp only at h1
  rw [Bool.and_eq_true, Bool.and_eq_true] at h1
  obtain ⟨⟨h2, h3⟩, h4⟩ := h1
  refine ⟨by simpa using h2, fun d d0 d1 => ?_, fun t ht => ?_⟩
  · have := allT_spec h3 d d1
    simp only [Bool.or_eq_true, Bool.not_eq_true', beq_iff_eq, beq_eq_false_iff_ne] at this
    rcases this with h | h
    · omega
    · exact h
  · have := allT_spec h4 t (by omega)
    simp only [Bool.or_eq_true, Bool.not_eq_true', beq_iff_eq] at this
    rcases this with ((h | h) | h) | h
    · left
      rw [← Nat.not_le]
      intro hle
      rw [Nat.ble_eq_true_of_le hle] at h
      cases h
    · exact .inr (.inl h)
    · exact .inr (.inr (.inl h))
    · exact .inr (.inr (.inr h))
theorem in_tab (p : Nat) (h1 : 41 ≤ p) (h2 : p < 1024) (h3 : ∀ i, i < 12 → p % wits.getD i 0 ≠ 0) : ∃ o, (p, o) ∈ tab := by
  have H : ∀ p : Fin 1024, 41 ≤ p.1 → (∀ i : Fin 12, p.1 % wits.getD i.1 0 ≠ 0) → (tab.find? (fun e => e.1 == p.1)).isSome = true := by decide +kernel
  have h := H ⟨p, h2⟩ h1 (fun i => h3 i.1 i.2)
  obtain ⟨⟨q, o⟩, he⟩ := Option.isSome_iff_exists.1 h
  have h5 := List.find?_some he
  have h6 := List.mem_of_find?_eq_some he
  have : q = p := by simpa using h5
  subst this
  exact ⟨o, h6⟩
theorem okc_spec {n : Nat} (h1 : 1 < n) (hn : n < 2 ^ 21) (h : okc n = true) : mrB n 2 = false ∨ mrB n 3 = false := by
  unfold okc at h
  simp only [Bool.or_eq_true, Bool.not_eq_true', beq_eq_false_iff_ne] at h
  rw [pmod_eq 21 _ _ _ (by omega), mrF_eq h1 (by omega), mrF_eq h1 (by omega)] at h
  rcases h with (h | h) | h
  · left
    cases hb : mrB n 2 with
    | false => rfl
    | true => exact absurd (mr_fermat h1 (by omega) hb) h
  · exact .inl h
  · exact .inr h
theorem wit_pr (a : Nat) (h : a ∈ wits) : Pr a := by
  have H : ∀ a ∈ wits, 2 ≤ a ∧ ∀ d, d < a → 2 ≤ d → a % d ≠ 0 := by decide
  obtain ⟨h1, h2⟩ := H a h
  exact pr_of_least h1 fun d d1 d2 => h2 d d2 d1
theorem isB_two {n : Nat} (h : isB n = true) : 2 ≤ n := by
  unfold isB at h
  rw [Bool.and_eq_true] at h
  simpa using h.1
/-- Below 2^20 the test is exact. -/
theorem pr_of_isB {n : Nat} (hn : n < 1048576) (h : isB n = true) : Pr n := by
  have h2 := isB_two h
  by_cases hw : ∀ i, i < 12 → n % wits.getD i 0 ≠ 0
  · rw [isB_mr h2 hw, List.all_eq_true] at h
    have m2 := h 2 (by decide)
    have m3 := h 3 (by decide)
    obtain ⟨p, hp, hpn, hleast⟩ := least_pr n h2
    by_cases hpe : p = n
    · rw [← hpe]; exact hp
    · exfalso
      obtain ⟨m, rfl⟩ := hpn
      have hp2 := hp.1
      have hm2 : 2 ≤ m := by
        rcases Nat.lt_or_ge m 2 with h | h
        · obtain rfl | rfl : m = 0 ∨ m = 1 := by omega
          · simp at h2
          · exact absurd (Nat.mul_one p).symm hpe
        · exact h
      have hpm : p ≤ m := hleast m hm2 ⟨p, Nat.mul_comm ..⟩
      have hsq := Nat.mul_le_mul_left p hpm
      have hp1024 : p < 1024 := by
        rcases Nat.lt_or_ge p 1024 with h | h
        · exact h
        · have := Nat.mul_le_mul h h
          omega
      have hwp : ∀ i, i < 12 → p % wits.getD i 0 ≠ 0 := fun i hi e => hw i hi (by rw [Nat.mul_mod, e]; simp)
      have hp41 : 41 ≤ p := by
        rcases Nat.lt_or_ge p 41 with h | h
        · exfalso
          have H : ∀ q : Fin 41, 2 ≤ q.1 → (∀ i : Fin 12, q.1 % wits.getD i.1 0 ≠ 0) → False := by decide
          exact H ⟨p, h⟩ hp2 (fun i => hwp i.1 i.2)
        · exact h
      obtain ⟨o, ho⟩ := in_tab p hp41 hp1024 hwp
      obtain ⟨t1, t2, t3⟩ := tab_spec ho
      have hm2' : m % 2 = 1 := by
        have := hw 0 (by decide)
        have h4 : p * m % 2 ≠ 0 := this
        rw [Nat.mul_mod] at h4
        rcases Nat.mod_two_eq_zero_or_one m with e | e
        · rw [e] at h4; simp at h4
        · exact e
      have hnot2 : ¬ p ∣ 2 := fun hd => by have := Nat.le_of_dvd (by omega) hd; omega
      have hf : 2 ^ (m - 1) % p = 1 := by
        have h4 := mr_fermat (by omega) (by omega) m2
        have h5 : 2 ^ (p * m - 1) % p = 1 := by
          rw [← Nat.mod_mul_right_mod _ p m, h4, Nat.mod_eq_of_lt (by omega)]
        have e : p * m - 1 = (p - 1) * m + (m - 1) := by
          rw [Nat.sub_mul, Nat.one_mul]
          have : m ≤ p * m := Nat.le_mul_of_pos_left m (by omega)
          omega
        rw [e, Nat.pow_add, Nat.pow_mul, Nat.mul_mod, Nat.pow_mod, fermat hp hnot2, Nat.one_pow, Nat.mod_eq_of_lt (show 1 < p by omega), Nat.one_mul, Nat.mod_mod] at h5
        exact h5
      have ho0 : 0 < o := by
        rcases Nat.eq_zero_or_pos o with e | e
        · subst e
          have H : ∀ e ∈ tab, 0 < e.2 := by decide +kernel
          exact absurd (H _ ho) (Nat.lt_irrefl 0)
        · exact e
      have hdvd := order_dvd (show 1 < p by omega) t1 ho0 t2 hf
      have hst : stp o ∣ m - 1 := by
        unfold stp
        split
        · exact hdvd
        · rename_i hodd
          have : Nat.Coprime 2 o := by
            unfold Nat.Coprime
            have h6 : o % 2 = 1 := by simp at hodd; omega
            rw [Nat.gcd_rec, h6]; rfl
          exact this.mul_dvd_of_dvd_of_dvd ⟨(m - 1) / 2, by omega⟩ hdvd
      obtain ⟨t, ht⟩ := hst
      have hpos : 0 < stp o := by unfold stp; split <;> omega
      generalize hS : stp o = S at t3 ht hpos
      have hm1 : 1 + S * t = m := by omega
      have htb : t ≤ 1048576 / p / S := by
        rw [Nat.le_div_iff_mul_le hpos, Nat.mul_comm, Nat.le_div_iff_mul_le (by omega), Nat.mul_comm]
        have := Nat.mul_le_mul_left p (show S * t ≤ m by omega)
        omega
      have := t3 t htb
      rw [hm1] at this
      rcases this with h6 | h6 | h6 | h6
      · omega
      · exact hw 1 (by decide) (by show p * m % 3 = 0; rw [Nat.mul_mod, h6, Nat.mul_zero, Nat.zero_mod])
      · exact hw 2 (by decide) (by show p * m % 5 = 0; rw [Nat.mul_mod, h6, Nat.mul_zero, Nat.zero_mod])
      · rcases okc_spec (by omega) (by omega) h6 with h7 | h7
        · rw [m2] at h7; cases h7
        · rw [m3] at h7; cases h7
  · -- one of the witnesses divides it
    have hex : ∃ k, k < 12 ∧ n % wits.getD k 0 = 0 ∧ ∀ i, i < k → n % wits.getD i 0 ≠ 0 := by
      have key : ∀ c, c ≤ 12 → (∀ i, i < c → n % wits.getD i 0 ≠ 0) ∨ ∃ k, k < c ∧ n % wits.getD k 0 = 0 ∧ ∀ i, i < k → n % wits.getD i 0 ≠ 0 := by
        intro c
        induction c with
        | zero => intro _; exact .inl fun i h => absurd h (by omega)
        | succ c ih =>
          intro hc
          rcases ih (by omega) with h1 | ⟨k, h1, h2, h3⟩
          · by_cases h2 : n % wits.getD c 0 = 0
            · exact .inr ⟨c, by omega, h2, h1⟩
            · refine .inl fun i hi => ?_
              rcases Nat.lt_or_ge i c with h3 | h3
              · exact h1 i h3
              · obtain rfl : i = c := by omega
                exact h2
          · exact .inr ⟨k, by omega, h2, h3⟩
      rcases key 12 (Nat.le_refl _) with h1 | ⟨k, h1, h2, h3⟩
      · exact absurd h1 hw
      · exact ⟨k, h1, h2, h3⟩
    obtain ⟨k, hk, h1, h3⟩ := hex
    rw [isB_hit h2 hk h3 h1] at h
    have e : n = wits.getD k 0 := by simpa using h
    rw [e]
    refine wit_pr _ ?_
    rw [List.getD_eq_getElem?_getD, List.getElem?_eq_getElem (show k < wits.length from hk)]
    exact List.getElem_mem _
end Go.Proofs.YtomkmkjkeihodaaDoor
