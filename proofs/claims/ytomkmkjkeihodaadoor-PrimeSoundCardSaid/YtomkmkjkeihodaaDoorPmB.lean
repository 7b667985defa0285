/- Pm4, Pm5: merged. -/
import Derived.Test.YtomkmkjkeihodaaDoorPmA
import Derived.Test.YtomkmkjkeihodaaDoorP15
set_option linter.unusedVariables false
set_option linter.unusedSimpArgs false
namespace Go.Proofs.YtomkmkjkeihodaaDoor

/-! ### The next prime is near -/
def isF (n : Nat) : Bool := decide (2 ≤ n) && (match wits.find? (fun a => n % a == 0) with | some a => n == a | none => wits.all (mrF n))
theorem isF_eq {n : Nat} (hn : n ≤ 9223372036854775807) : isF n = isB n := by
  unfold isF isB
  by_cases h : 2 ≤ n
  · rw [decide_eq_true h]
    have e : wits.all (mrF n) = wits.all (mrB n) := by
      rw [Bool.eq_iff_iff, List.all_eq_true, List.all_eq_true]
      exact ⟨fun h1 a ha => by rw [← mrF_eq (by omega) hn]; exact h1 a ha, fun h1 a ha => by rw [mrF_eq (by omega) hn]; exact h1 a ha⟩
    rw [e]
    rfl
  · rw [decide_eq_false h]; simp
def chain : List Nat := [2, 3, 5, 7, 13, 23, 43, 83, 163, 317, 631, 1259, 2503, 5003, 9973, 19937, 39869, 79699, 159389, 318751, 637499, 1274989]
set_option maxRecDepth 100000 in
theorem chain_ok : chain.all (fun c => isF c) = true := by decide +kernel
theorem chain_is {c : Nat} (h : c ∈ chain) : isB c = true := by
  have h1 := List.all_eq_true.1 chain_ok c h
  have H : ∀ c ∈ chain, c ≤ 9223372036854775807 := by decide
  rwa [isF_eq (H c h)] at h1
theorem chain_near {k : Nat} (hk : k < 1048576) : ∃ c ∈ chain, k < c ∧ c ≤ 2 * k + 2 := by
  unfold chain
  simp only [List.mem_cons, List.not_mem_nil, or_false, exists_eq_or_imp, exists_eq_left]
  omega
theorem next_le {k p : Nat} (hk : k < 1048576) (h : NextIs k p) : p ≤ 2 * k + 2 := by
  obtain ⟨c, h1, h2, h3⟩ := chain_near hk
  rcases Nat.lt_or_ge c p with h4 | h4
  · have := h.2.2 c h2 h4
    rw [chain_is h1] at this
    cases this
  · omega

/-! ### Factors -/
theorem lpr_dvd {l : List Nat} {q : Nat} (h : q ∈ l) : q ∣ lpr l := by
  induction l with
  | nil => cases h
  | cons b l ih =>
    rcases List.mem_cons.1 h with e | e
    · rw [e]; exact ⟨lpr l, rfl⟩
    · exact Nat.dvd_trans (ih e) ⟨b, Nat.mul_comm ..⟩
theorem pr_mem {l : List Nat} {q : Nat} (hq : Pr q) (hl : ∀ x ∈ l, Pr x) (h : q ∣ lpr l) : q ∈ l := by
  induction l with
  | nil =>
    have := hq.1
    have := Nat.le_of_dvd (by decide) h
    simp [lpr] at this
    omega
  | cons b l ih =>
    rcases hq.dvd_mul h with h1 | h1
    · rcases (hl b (by simp)).2 q h1 with e | e
      · have := hq.1; omega
      · rw [e]; simp
    · exact List.mem_cons_of_mem _ (ih (fun x hx => hl x (by simp [hx])) h1)
/-- What Factors gives. -/
theorem fac_spec : ∀ (k m f : Nat) (l : List Nat), fac k m f = some l → 1 ≤ m → m ≤ 9223372036854775807 → 2 ≤ f → (∀ d, 2 ≤ d → d < f → m % d ≠ 0) →
    lpr l = m ∧ (∀ q ∈ l, isB q = true ∧ f ≤ q ∧ q ≤ m ∧ (m < 1048576 → Pr q)) ∧ l.Pairwise (· ≤ ·)
  | 0, m, f, l, h, _, _, _, _ => by cases h
  | k + 1, m, f, l, h, h1, hb, hf, hn => by
    by_cases hm : m = 1
    · subst hm
      rw [fac_one] at h
      injection h with h
      subst h
      exact ⟨rfl, fun q hq => absurd hq (by simp), List.Pairwise.nil⟩
    · cases hbm : isB m
      · by_cases hd : dv m f = 0
        · rw [fac_gone (by omega) hbm hd] at h; cases h
        · rw [fac_step (by omega) hbm hd] at h
          obtain ⟨d1, d2, d3, d4⟩ := dv_spec hd
          generalize dv m f = d at *
          cases hr : fac k (m / d) d with
          | none => rw [hr] at h; cases h
          | some l' =>
            rw [hr] at h
            injection h with h
            subst h
            obtain ⟨c, rfl⟩ := Nat.dvd_of_mod_eq_zero d3
            rw [Nat.mul_div_cancel_left _ (by omega)] at hr
            have hc : 1 ≤ c := by
              rcases Nat.eq_zero_or_pos c with e | e
              · subst e; simp at h1
              · exact e
            have hno : ∀ e, 2 ≤ e → e < d → d * c % e ≠ 0 := fun e e1 e2 => by
              rcases Nat.lt_or_ge e f with h3 | h3
              · exact hn e e1 h3
              · exact d4 e h3 e2
            have hcd : c ≤ d * c := Nat.le_mul_of_pos_left c (by omega)
            obtain ⟨i1, i2, i3⟩ := fac_spec k c d l' hr hc (by omega) (by omega) (fun e e1 e2 h3 => hno e e1 e2 (by rw [Nat.mul_mod, h3, Nat.mul_zero, Nat.zero_mod]))
            have hpd : Pr d := pr_of_least (by omega) fun e e1 e2 h3 => hno e e1 e2 (by rw [Nat.mul_mod, h3, Nat.zero_mul, Nat.zero_mod])
            have hdm : d ≤ d * c := Nat.le_mul_of_pos_right d (by omega)
            refine ⟨by rw [lpr, i1], fun q hq => ?_, List.Pairwise.cons (fun q hq => (i2 q hq).2.1) i3⟩
            rcases List.mem_cons.1 hq with e | e
            · subst e
              exact ⟨isB_of_pr hpd (by omega), d1, hdm, fun _ => hpd⟩
            · obtain ⟨j1, j2, j3, j4⟩ := i2 q e
              exact ⟨j1, by omega, by omega, fun h3 => j4 (by omega)⟩
      · rw [fac_prime (by omega) hbm] at h
        injection h with h
        subst h
        refine ⟨by simp [lpr], fun q hq => ?_, List.pairwise_singleton ..⟩
        simp at hq
        subst hq
        refine ⟨hbm, ?_, Nat.le_refl _, fun h3 => pr_of_isB h3 hbm⟩
        rcases Nat.lt_or_ge q f with h3 | h3
        · exact absurd (Nat.mod_self q) (hn q (by omega) h3)
        · exact h3
theorem fac_total : ∀ (k m f : Nat), 1 ≤ m → m < 1048576 → m < 2 ^ k → 2 ≤ f → (∀ d, 2 ≤ d → d < f → m % d ≠ 0) → ∃ l, fac k m f = some l
  | 0, m, f, h1, _, h2, _, _ => by simp at h2; omega
  | k + 1, m, f, h1, hb, h2, hf, hn => by
    by_cases hm : m = 1
    · subst hm; exact ⟨_, fac_one k f⟩
    · cases hbm : isB m
      · have hfm : f ≤ m := by
          rcases Nat.lt_or_ge m f with h3 | h3
          · exact absurd (Nat.mod_self m) (hn m (by omega) h3)
          · exact h3
        by_cases hd : dv m f = 0
        · exact absurd (Nat.mod_self m) (dv_none hd (by omega) m hfm (by omega))
        · rw [fac_step (by omega) hbm hd]
          obtain ⟨d1, d2, d3, d4⟩ := dv_spec hd
          generalize dv m f = d at *
          obtain ⟨c, rfl⟩ := Nat.dvd_of_mod_eq_zero d3
          rw [Nat.mul_div_cancel_left _ (by omega)]
          have hc : 1 ≤ c := by
            rcases Nat.eq_zero_or_pos c with e | e
            · subst e; simp at h1
            · exact e
          have hcd : 2 * c ≤ d * c := Nat.mul_le_mul_right c (by omega)
          obtain ⟨l, hl⟩ := fac_total k c d hc (by omega) (by rw [Nat.pow_succ] at h2; omega) (by omega) (fun e e1 e2 h3 => by
            have h4 : d * c % e = 0 := by rw [Nat.mul_mod, h3, Nat.mul_zero, Nat.zero_mod]
            rcases Nat.lt_or_ge e f with h5 | h5
            · exact hn e e1 h5 h4
            · exact d4 e h5 e2 h4)
          exact ⟨d :: l, by rw [hl]; rfl⟩
      · exact ⟨_, fac_prime (by omega) hbm⟩
theorem facS_spec {n : Nat} {l : List Nat} (h : facS n = some l) (h1 : 1 ≤ n) (hb : n ≤ 9223372036854775807) : lpr l = n ∧ (∀ q ∈ l, isB q = true ∧ 2 ≤ q ∧ q ≤ n ∧ (n < 1048576 → Pr q)) ∧ l.Pairwise (· ≤ ·) :=
  fac_spec 61 n 2 l h h1 hb (Nat.le_refl _) (fun d h2 h3 => by omega)

/-! ### Orders -/
theorem least_exp {a p k : Nat} (hk : 0 < k) (h : a ^ k % p = 1) : ∃ o, 0 < o ∧ o ≤ k ∧ a ^ o % p = 1 ∧ ∀ d, 0 < d → d < o → a ^ d % p ≠ 1 := by
  have key : ∀ n, (∃ d, 0 < d ∧ d ≤ n ∧ a ^ d % p = 1) → ∃ o, 0 < o ∧ o ≤ n ∧ a ^ o % p = 1 ∧ ∀ d, 0 < d → d < o → a ^ d % p ≠ 1 := by
    intro n
    induction n with
    | zero => rintro ⟨d, h1, h2, _⟩; omega
    | succ n ih =>
      intro h
      by_cases hn : ∃ d, 0 < d ∧ d ≤ n ∧ a ^ d % p = 1
      · obtain ⟨o, h1, h2, h3⟩ := ih hn
        exact ⟨o, h1, by omega, h3⟩
      · obtain ⟨d, h1, h2, h3⟩ := h
        exact ⟨d, h1, h2, h3, fun e e1 e2 e3 => hn ⟨e, e1, by omega, e3⟩⟩
  exact key k ⟨k, hk, Nat.le_refl _, h⟩
/-- If b^e = 1 modulo a, and no (e / q)-th power is 1 for a prime q of e, then no lesser power is 1. -/
theorem full_order {a b e : Nat} {l : List Nat} (ha : 1 < a) (he : 0 < e) (hl : ∀ q ∈ l, Pr q) (hp : lpr l = e) (h1 : b ^ e % a = 1) (h2 : ∀ q ∈ l, b ^ (e / q) % a ≠ 1) : ∀ d, 0 < d → d < e → b ^ d % a ≠ 1 := by
  intro d d0 d1 d2
  obtain ⟨o, o1, o2, o3, o4⟩ := least_exp d0 d2
  obtain ⟨c, hc⟩ := order_dvd ha o3 o1 o4 h1
  have hc2 : 2 ≤ c := by
    rcases Nat.lt_or_ge c 2 with h | h
    · obtain rfl | rfl : c = 0 ∨ c = 1 := by omega
      · omega
      · omega
    · exact h
  obtain ⟨q, hq, ⟨c', rfl⟩, _⟩ := least_pr c hc2
  have hqe : q ∣ e := ⟨o * c', by rw [hc]; ac_rfl⟩
  have hm := pr_mem hq hl (by rw [hp]; exact hqe)
  refine h2 q hm ?_
  have hq2 := hq.1
  have : e / q = o * c' := by rw [hc, show o * (q * c') = q * (o * c') by ac_rfl, Nat.mul_div_cancel_left _ (by omega)]
  rw [this, Nat.pow_mul, Nat.pow_mod, o3, Nat.one_pow, Nat.mod_eq_of_lt ha]
theorem cop_of_pow {a b e : Nat} (he : 0 < e) (h : b ^ e % a = 1) : Nat.Coprime a b := by
  unfold Nat.Coprime
  have h1 := Nat.gcd_dvd_left a b
  have h2 := Nat.gcd_dvd_right a b
  generalize Nat.gcd a b = g at *
  have h3 : g ∣ b ^ e := Nat.dvd_trans h2 (by obtain ⟨k, rfl⟩ : ∃ k, e = k + 1 := ⟨e - 1, by omega⟩; exact ⟨b ^ k, by rw [Nat.pow_succ, Nat.mul_comm]⟩)
  have h4 : g ∣ b ^ e % a := (Nat.dvd_mod_iff h1).2 h3
  rw [h] at h4
  exact Nat.dvd_one.1 h4
/-- Pratt. -/
theorem pratt {a b : Nat} {l : List Nat} (ha : 2 ≤ a) (hl : ∀ q ∈ l, Pr q) (hp : lpr l = a - 1) (h1 : b ^ (a - 1) % a = 1) (h2 : ∀ q ∈ l, b ^ ((a - 1) / q) % a ≠ 1) : Pr a := by
  have hfull := full_order (by omega) (by omega) hl hp h1 h2
  have hcop := cop_of_pow (show 0 < a - 1 by omega) h1
  have hcp : ∀ i, Nat.Coprime a (b ^ i) := fun i => hcop.pow_right i
  have inj : ∀ i j, i < j → j < a - 1 → b ^ i % a = b ^ j % a → False := by
    intro i j hij hj e
    have e2 : b ^ i * b ^ (j - i) % a = b ^ i * 1 % a := by rw [← Nat.pow_add, Nat.mul_one, show i + (j - i) = j by omega]; exact e.symm
    have := cancel_mod (hcp i) e2
    rw [Nat.mod_eq_of_lt (show 1 < a by omega)] at this
    exact hfull (j - i) (by omega) (by omega) this
  have hperm : ((List.range (a - 1)).map fun i => b ^ i % a).Perm (r1 (a - 1)) := by
    refine perm_of_sub _ _ (nodup_map List.nodup_range fun x hx y hy e => ?_) ?_ (by simp [r1_length])
    · have h3 := List.mem_range.1 hx
      have h4 := List.mem_range.1 hy
      rcases Nat.lt_trichotomy x y with h | h | h
      · exact (inj x y h h4 e).elim
      · exact h
      · exact (inj y x h h3 e.symm).elim
    · intro y hy
      obtain ⟨i, hi, rfl⟩ := List.mem_map.1 hy
      have h3 := Nat.mod_lt (b ^ i) (show 0 < a by omega)
      refine mem_r1.2 ⟨?_, by omega⟩
      rcases Nat.eq_zero_or_pos (b ^ i % a) with e | e
      · have h4 := (hcp i).dvd_of_dvd_mul_left (show a ∣ b ^ i * 1 by rw [Nat.mul_one]; exact Nat.dvd_of_mod_eq_zero e)
        have := Nat.le_of_dvd (by decide) h4
        omega
      · exact e
  refine ⟨ha, fun d hd => ?_⟩
  have hd0 : d ≠ 0 := fun e => by rw [e] at hd; have := Nat.eq_zero_of_zero_dvd hd; omega
  have hle := Nat.le_of_dvd (by omega) hd
  rcases Nat.lt_or_ge d a with h | h
  · left
    obtain ⟨i, hi, e⟩ := List.mem_map.1 (hperm.mem_iff.2 (mem_r1.2 ⟨by omega, by omega⟩ : d ∈ r1 (a - 1)))
    have h5 : Nat.Coprime a d := by
      have h6 := hcp i
      unfold Nat.Coprime at h6 ⊢
      rw [← e, Nat.gcd_comm, ← Nat.gcd_rec]
      exact h6
    have h7 : d ∣ Nat.gcd a d := Nat.dvd_gcd hd (Nat.dvd_refl d)
    rw [h5] at h7
    exact Nat.dvd_one.1 h7
  · right; omega

/-! ### Right certificates -/
theorem complB_spec {less : Nat} : ∀ {ps : List CT} {bef prod : Nat}, complB less bef prod ps = true → prod * lpr (ps.map CT.val) = less
  | [], bef, prod, h => by
    have h' : (prod == less) = true := h
    simpa [lpr] using h'
  | p :: ps, bef, prod, h => by
    rw [complB] at h
    simp only [Bool.and_eq_true] at h
    have := complB_spec h.2
    rw [List.map_cons, lpr, ← Nat.mul_assoc]
    exact this
theorem genB_spec {a b : Nat} : ∀ {ps : List CT} {bef : Nat}, genB a b bef ps = true → ∀ p ∈ ps, p.val = bef ∨ b ^ ((a - 1) / p.val) % a ≠ 1
  | [], bef, _, p, hp => absurd hp (by simp)
  | q :: ps, bef, h, p, hp => by
    rw [genB] at h
    by_cases hq : bef = q.val
    · rw [if_pos hq] at h
      rcases List.mem_cons.1 hp with e | e
      · exact .inl (by rw [e, hq])
      · exact genB_spec h p e
    · rw [if_neg hq] at h
      by_cases hb : b ^ ((a - 1) / q.val) % a = 1
      · rw [if_pos (by simpa using hb)] at h; cases h
      · rw [if_neg (by simpa using hb)] at h
        rcases List.mem_cons.1 hp with e | e
        · rw [e]; exact .inr hb
        · rcases genB_spec h p e with h1 | h1
          · rw [h1]; exact .inr hb
          · exact .inr h1
/-- The number of a right certificate is a prime. -/
theorem right_pr : ∀ (s : Nat) (t : CT), t.size ≤ s → rightB t = true → Pr t.val
  | 0, t, hs, _ => absurd hs (by have := t.size_pos; omega)
  | s + 1, .node n a m b ps, hs, h => by
    rw [rightB, rightsB_all] at h
    simp only [Bool.and_eq_true] at h
    obtain ⟨⟨⟨h1, h2⟩, h3⟩, h4⟩ := h
    obtain ⟨_, _, _, ha2, _⟩ := rngB_out h1
    have hall : ∀ p ∈ ps, Pr p.val := fun p hp => by
      obtain ⟨i, hi, rfl⟩ := List.getElem_of_mem hp
      exact right_pr s _ (by have := size_lt (n := n) (a := a) (m := m) (b := b) hi; omega) (List.all_eq_true.1 h3 _ hp)
    unfold gensB at h4
    rw [Bool.and_eq_true] at h4
    have h5 := complB_spec h2
    rw [Nat.one_mul] at h5
    show Pr a
    refine pratt (b := b) (l := ps.map CT.val) ha2 (fun q hq => ?_) h5 (by simpa using h4.1) (fun q hq => ?_)
    · obtain ⟨p, hp, rfl⟩ := List.mem_map.1 hq
      exact hall p hp
    · obtain ⟨p, hp, rfl⟩ := List.mem_map.1 hq
      rcases genB_spec h4.2 p hp with h6 | h6
      · have := (hall p hp).1; omega
      · exact h6
end Go.Proofs.YtomkmkjkeihodaaDoor

namespace Go.Proofs.YtomkmkjkeihodaaDoor

def rootOK (p : Nat) : Bool := match facS (p - 1) with | some l => (List.range 40).any fun r => Nat.ble 1 r && Nat.ble (r + 1) p && primB r p l | none => false
set_option maxRecDepth 1000000 in
set_option maxHeartbeats 0 in
theorem roots_ok : allT 2004 (fun p => !(isF p) || rootOK p) = true := by decide +kernel
theorem root_ex {p : Nat} (hp : p < 2004) (h : isB p = true) : ∃ l R, facS (p - 1) = some l ∧ 1 ≤ R ∧ R < p ∧ primB R p l = true := by
  have h1 := allT_spec roots_ok p hp
  rw [isF_eq (by omega), h] at h1
  have h2 : rootOK p = true := by simpa using h1
  unfold rootOK at h2
  cases hf : facS (p - 1) with
  | none => rw [hf] at h2; cases h2
  | some l =>
    rw [hf] at h2
    obtain ⟨R, _, h3⟩ := List.any_eq_true.1 h2
    simp only [Bool.and_eq_true] at h3
    exact ⟨l, R, rfl, Nat.le_of_ble_eq_true h3.1.1, Nat.le_of_ble_eq_true h3.1.2, h3.2⟩
theorem prim_order {p s : Nat} {l : List Nat} (hp : Pr p) (hpb : p ≤ 1048576) (hf : facS (p - 1) = some l) (h1 : 1 ≤ s) (hs : s < p) : primB s p l = true ↔ ∀ d, 0 < d → d < p - 1 → s ^ d % p ≠ 1 := by
  have hp2 := hp.1
  obtain ⟨f1, f2, _⟩ := facS_spec hf (by omega) (by omega)
  have hns : ¬ p ∣ s := fun hd => by have := Nat.le_of_dvd (by omega) hd; omega
  unfold primB
  rw [List.all_eq_true]
  constructor
  · intro h
    exact full_order (by omega) (by omega) (fun q hq => (f2 q hq).2.2.2 (by omega)) f1 (fermat hp hns) (fun q hq e => by have := h q hq; simp [e] at this)
  · intro h q hq
    obtain ⟨_, q2, q3, q4⟩ := f2 q hq
    have hd := lpr_dvd hq
    rw [f1] at hd
    have := h ((p - 1) / q) (Nat.div_pos q3 (by omega)) (Nat.div_lt_self (by omega) (by omega))
    simpa using this
theorem rightB_node {n a m b : Nat} {ps : List CT} (h : rightB (.node n a m b ps) = true) : rngB n a m b = true ∧ lpr (ps.map CT.val) = a - 1 ∧ (∀ p ∈ ps, rightB p = true) ∧ gensB a b ps = true := by
  rw [rightB, rightsB_all] at h
  simp only [Bool.and_eq_true] at h
  obtain ⟨⟨⟨h1, h2⟩, h3⟩, h4⟩ := h
  have h5 := complB_spec h2
  rw [Nat.one_mul] at h5
  exact ⟨h1, h5, fun p hp => List.all_eq_true.1 h3 p hp, h4⟩
theorem verB_out {t : CT} (h : verB t = true) : t.size ≤ 1000 ∧ rightB t = true := by
  unfold verB at h
  simpa using h
theorem ver_part {n a m b i : Nat} {ps : List CT} (h : verB (.node n a m b ps) = true) (hi : i < ps.length) : verB ps[i] = true := by
  obtain ⟨h1, h2⟩ := verB_out h
  have h3 := (rightB_node h2).2.2.1 _ (List.getElem_mem hi)
  have h4 := size_lt (n := n) (a := a) (m := m) (b := b) hi
  unfold verB
  rw [h3, decide_eq_true (by omega)]
  rfl
theorem ver_pr {t : CT} (h : verB t = true) : Pr t.val := right_pr _ t (Nat.le_refl _) (verB_out h).2
theorem ver_none {n a m b : Nat} (h : verB (.node n a m b []) = true) : a = 2 ∧ n = nw a ∧ nw a ≤ 32 := by
  obtain ⟨h1, h2, _⟩ := rightB_node (verB_out h).2
  obtain ⟨e1, _, e3, _⟩ := rngB_out h1
  have : 1 = a - 1 := h2
  exact ⟨by omega, e1, e3⟩
theorem lpr_app (l m : List Nat) : lpr (l ++ m) = lpr l * lpr m := by
  induction l with
  | nil => simp [lpr]
  | cons b l ih => rw [List.cons_append, lpr, ih, lpr, Nat.mul_assoc]
theorem ver_other {n a m b k : Nat} {ps : List CT} (h : verB (.node n a m b ps) = true) (hk : k < ps.length) : verB (.node n a m b (ps.take k ++ ps.drop (k + 1))) = false := by
  cases h' : verB (.node n a m b (ps.take k ++ ps.drop (k + 1))) with
  | false => rfl
  | true =>
    exfalso
    obtain ⟨h1, h2, _⟩ := rightB_node (verB_out h).2
    obtain ⟨_, h3, _⟩ := rightB_node (verB_out h').2
    obtain ⟨_, _, _, e, _⟩ := rngB_out h1
    have hpr := (ver_pr (ver_part h hk)).1
    have h4 : ps = ps.take k ++ (ps[k] :: ps.drop (k + 1)) := by rw [← List.drop_eq_getElem_cons hk, List.take_append_drop]
    rw [h4, List.map_append, lpr_app, List.map_cons, lpr] at h2
    rw [List.map_append, lpr_app] at h3
    have h5 : ps[k].val * (lpr ((ps.take k).map CT.val) * lpr ((ps.drop (k + 1)).map CT.val)) = a - 1 := by rw [← h2]; ac_rfl
    rw [h3] at h5
    have := Nat.mul_le_mul_right (a - 1) hpr
    omega
theorem ver_one {n a m m' b : Nat} {ps : List CT} (h : verB (.node n a m b ps) = true) (h0 : 0 < ps.length) : verB (.node n a m' 1 ps) = false := by
  cases h' : verB (.node n a m' 1 ps) with
  | false => rfl
  | true =>
    exfalso
    obtain ⟨h1, h2, h3, h4⟩ := rightB_node (verB_out h').2
    obtain ⟨_, _, _, e, _⟩ := rngB_out h1
    unfold gensB at h4
    rw [Bool.and_eq_true] at h4
    rcases genB_spec h4.2 _ (List.getElem_mem h0) with h5 | h5
    · have := (rightB_out (h3 _ (List.getElem_mem h0))).2; omega
    · exact h5 (by rw [Nat.one_pow, Nat.mod_eq_of_lt (by omega)])
end Go.Proofs.YtomkmkjkeihodaaDoor
