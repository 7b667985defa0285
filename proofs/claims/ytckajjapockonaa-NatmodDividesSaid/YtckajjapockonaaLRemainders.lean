/- NatmodRemainders: the walk. -/
import Derived.Test.YtckajjapockonaaLaw3b
import Derived.Test.YtckajjapockonaaRf13
import Derived.Test.YtckajjapockonaaNgcd
import Derived.Test.YtckajjapockonaaAwake
set_option linter.unusedVariables false
set_option linter.unusedSimpArgs false
namespace Go.Proofs.Ytckajjapockonaa
open Go.RowKit

theorem sameB_one (g : Nat) : sameB (nw g) g 1 1 = decide (g = 1) := by
  have h := sameB_num g 1
  rwa [nw_one] at h
theorem equal_one (V : World) (D : Option Addr) (n d a : Nat) (hD : Num V V.heap.size D n a) (hn : n ≤ 9223372036854775807) :
    Calls Try.prog 40 #[.slice D n d, .slice (some ⟨V.heap.size, 0, none⟩) 1 1] (V.alloc (.cells #[.int .u32 1] 50)) fun e w' => e = .returned (.bool (sameB n a 1 1)) ∧ Below V.heap.size V w' := by
  have hb := (Below.refl V.heap.size V).alloc (Nat.le_refl _) (.cells (words 1 1) 50)
  have h1 := num_blk (Blk.new V 50 (words 1 1)) (by decide) (show V.heap.size < (V.alloc (.cells (words 1 1) 50)).heap.size by simp)
  have h2 := (hD.below hb).more hb.size
  have h := equal_B D (some ⟨V.heap.size, 0, none⟩) n 1 d 1 a 1 _ _ h2 h1 hn (by omega)
  rw [words_one] at h hb
  exact h.mono fun e w' ⟨g1, g2⟩ => ⟨g1, hb.trans (g2.mono hb.size)⟩
theorem mod_of_dvd {x b q : Nat} (hb : b < q) (h : (q : Int) ∣ (x : Int) - (b : Int)) : x % q = b := by
  have h1 := Int.emod_emod_of_dvd (x : Int) (Int.dvd_refl (q : Int))
  have h2 : (x : Int) % (q : Int) = (b : Int) % (q : Int) := Int.emod_eq_emod_iff_emod_sub_eq_zero.2 (Int.emod_eq_zero_of_dvd h)
  have h3 : ((x % q : Nat) : Int) = ((b % q : Nat) : Int) := by rw [Int.natCast_emod, Int.natCast_emod]; exact h2
  have h4 : x % q = b % q := Int.ofNat.inj h3
  rw [h4, Nat.mod_eq_of_lt hb]
theorem dvd_of_mod {x z p : Nat} (h : x % p = z % p) : (p : Int) ∣ (x : Int) - (z : Int) := by
  have h2 : (x : Int) % (p : Int) = (z : Int) % (p : Int) := by rw [← Int.natCast_emod, ← Int.natCast_emod, h]
  exact Int.dvd_of_emod_eq_zero (Int.emod_eq_emod_iff_emod_sub_eq_zero.1 h2)
theorem mod_of_dvd_both {n z p q : Nat} (hg : Nat.gcd p q = 1) (h1 : (p : Int) ∣ (n : Int) - (z : Int)) (h2 : (q : Int) ∣ (n : Int) - (z : Int)) : z % (p * q) = n % (p * q) := by
  have h3 : ((p * q : Nat) : Int) ∣ (n : Int) - (z : Int) := by
    rw [← Int.natAbs_dvd_natAbs, Int.natAbs_natCast]
    rw [← Int.natAbs_dvd_natAbs, Int.natAbs_natCast] at h1 h2
    exact Nat.Coprime.mul_dvd_of_dvd_of_dvd hg h1 h2
  have h4 : (n : Int) % ((p * q : Nat) : Int) = (z : Int) % ((p * q : Nat) : Int) := Int.emod_eq_emod_iff_emod_sub_eq_zero.2 (Int.emod_eq_zero_of_dvd h3)
  have h5 : ((n % (p * q) : Nat) : Int) = ((z % (p * q) : Nat) : Int) := by rw [Int.natCast_emod, Int.natCast_emod]; exact h4
  exact (Int.ofNat.inj h5).symm
theorem crt_arith {a p b q k x s t r Q A B C : Nat} (f1 : q * Q + t = p) (f2 : q * A + r = a) (f3 : q * B + s = b + (q - r)) (f4 : q * C + k = s * x) (hr : r ≤ q) (hx : (q : Int) ∣ (t : Int) * (x : Int) - 1) : (q : Int) ∣ ((a + p * k : Nat) : Int) - (b : Int) := by
  obtain ⟨u, hu⟩ := hx
  obtain ⟨v, hv⟩ : ∃ v, v + r = q := ⟨q - r, by omega⟩
  have e : q - r = v := by omega
  rw [e] at f3
  replace f1 := congrArg (fun k : Nat => (k : Int)) f1
  replace f2 := congrArg (fun k : Nat => (k : Int)) f2
  replace f3 := congrArg (fun k : Nat => (k : Int)) f3
  replace f4 := congrArg (fun k : Nat => (k : Int)) f4
  replace hv := congrArg (fun k : Nat => (k : Int)) hv
  simp only [Int.natCast_add, Int.natCast_mul] at f1 f2 f3 f4 hv ⊢
  clear e hr
  -- a + p k - b = q (..)
  refine ⟨(A : Int) + 1 + (Q : Int) * (k : Int) - (t : Int) * (C : Int) + (s : Int) * u - (B : Int), ?_⟩
  grind
/-- There is an inverse. -/
theorem inv_exists {a m : Nat} (hm : 0 < m) (hg : Nat.gcd a m = 1) : ∃ x : Nat, x < m ∧ (m : Int) ∣ (a : Int) * (x : Int) - 1 := by
  suffices h : ∀ f r s x y : Nat, s ≤ f → IInv (a % m) m r s x y → ∃ z : Nat, z < m ∧ (m : Int) ∣ ((a % m : Nat) : Int) * (z : Int) - (Nat.gcd (a % m) m : Int) by
    obtain ⟨z, hz, h1⟩ := h (a % m) m (a % m) 0 (1 % m) (Nat.le_refl _) (IInv.start (Nat.mod_lt a hm))
    refine ⟨z, hz, ?_⟩
    have e : Nat.gcd (a % m) m = 1 := by rw [← Nat.gcd_rec, Nat.gcd_comm]; exact hg
    rw [e] at h1
    obtain ⟨u, hu⟩ := h1
    have h2 := Nat.div_add_mod a m
    replace h2 := congrArg (fun k : Nat => (k : Int)) h2
    simp only [Int.natCast_add, Int.natCast_mul] at h2
    refine ⟨u + ((a / m : Nat) : Int) * (z : Int), ?_⟩
    generalize ((a / m : Nat) : Int) = c at *
    generalize ((a % m : Nat) : Int) = d at *
    have hu' : d * (z : Int) - 1 = (m : Int) * u := hu
    clear hu
    grind
  intro f
  induction f with
  | zero =>
    intro r s x y hs hI
    obtain rfl : s = 0 := by omega
    exact ⟨x, hI.fin.2⟩
  | succ f ih =>
    intro r s x y hs hI
    by_cases h0 : s = 0
    · subst h0; exact ⟨x, hI.fin.2⟩
    · exact ih _ _ _ _ (by have := Nat.mod_lt r (Nat.pos_of_ne_zero h0); omega) (hI.step h0)
theorem crt_mod {a p b q : Nat} (hp : 0 < p) (hq : 0 < q) (hg : Nat.gcd p q = 1) (hap : a < p) (hbq : b < q) : crtN a p b q < p * q ∧ crtN a p b q % p = a ∧ crtN a p b q % q = b := by
  obtain ⟨x, hx⟩ : ∃ x, x = invN (p % q) q := ⟨_, rfl⟩
  have hxq : x < q := by rw [hx]; exact invN_lt hq
  obtain ⟨k, hk⟩ : ∃ k, k = (b + (q - a % q)) % q * x % q := ⟨_, rfl⟩
  have hkq : k < q := by rw [hk]; exact Nat.mod_lt _ hq
  have e : crtN a p b q = a + p * k := by unfold crtN; rw [hk, hx]
  have h1 : p * k + p ≤ p * q := by rw [← Nat.mul_succ]; exact Nat.mul_le_mul_left p hkq
  refine ⟨by rw [e]; omega, by rw [e, Nat.add_mul_mod_self_left, Nat.mod_eq_of_lt hap], ?_⟩
  -- p x is 1 modulo q
  have hex : ∃ x : Nat, x < q ∧ (q : Int) ∣ ((p % q : Nat) : Int) * (x : Int) - 1 := by
    have h := inv_exists (a := p % q) (m := q) hq (by rw [← Nat.gcd_rec, Nat.gcd_comm]; exact hg)
    exact h
  have hxd : (q : Int) ∣ ((p % q : Nat) : Int) * (x : Int) - 1 := by
    rw [hx]; unfold invN; classical
    rw [dif_pos hex]; exact (Classical.choose_spec hex).2
  have hr : a % q ≤ q := Nat.le_of_lt (Nat.mod_lt _ hq)
  have f1 := Nat.div_add_mod p q
  have f2 := Nat.div_add_mod a q
  have f3 := Nat.div_add_mod (b + (q - a % q)) q
  have f4 := Nat.div_add_mod ((b + (q - a % q)) % q * x) q
  rw [← hk] at f4
  have hd : (q : Int) ∣ ((a + p * k : Nat) : Int) - (b : Int) := crt_arith f1 f2 f3 f4 (by omega) hxd
  rw [e]
  exact mod_of_dvd hbq hd
theorem crt_rem {n p q : Nat} (hp : 0 < p) (hq : 0 < q) (hg : Nat.gcd p q = 1) : crtN (n % p) p (n % q) q = n % (p * q) := by
  obtain ⟨h1, h2, h3⟩ := crt_mod hp hq hg (Nat.mod_lt n hp) (Nat.mod_lt n hq)
  have hpq := Nat.mul_pos hp hq
  generalize crtN (n % p) p (n % q) q = z at *
  have e : z % (p * q) = n % (p * q) := by
    have d1 : (p : Int) ∣ (n : Int) - (z : Int) := dvd_of_mod h2.symm
    have d2 : (q : Int) ∣ (n : Int) - (z : Int) := dvd_of_mod h3.symm
    exact mod_of_dvd_both hg d1 d2
  rw [← e, Nat.mod_eq_of_lt h1]
set_option maxHeartbeats 16000000 in
set_option maxRecDepth 100000 in
theorem reml_far1 (A A2 A3 : Option Addr) (n k l c1 c2 c3 a p q : Nat) (w : World) (hA : Num w w.heap.size A n a) (hP : Num w w.heap.size A2 k p) (hQ : Num w w.heap.size A3 l q) (hn : n ≤ 9223372036854775807) (hk : k ≤ 9223372036854775807) (hl : l ≤ 9223372036854775807) (hg : ¬ (n ≤ 14 ∧ k ≤ 14 ∧ l ≤ 14)) :
    Calls Try.prog 10 #[.agg #[.slice A n c1], .agg #[.slice A2 k c2], .agg #[.slice A3 l c3]] w (RetB (.bool true) w) := by
  have HG : Hid (decide (n ≤ 14 ∧ k ≤ 14 ∧ l ≤ 14) = false) := decide_eq_false hg
  have z0 : (((nw 0 : Nat) : Int) == 0) = true := rfl
  have z00 : (((nw 0 : Nat) : Int) != 0) = false := rfl
  clear hg
  obtain ⟨b0, b1, b2, bw⟩ := boxes3 w (.slice A n c1) (.slice A2 k c2) (.slice A3 l c3)
  have XA := VB.mk (B := w.heap.size) (a := a) b0 (.inl hA) bw (Nat.le_refl _) (by omega)
  have XP := VB.mk (B := w.heap.size) (a := p) b1 (.inl hP) bw (Nat.le_refl _) (by omega)
  have XQ := VB.mk (B := w.heap.size) (a := q) b2 (.inl hQ) bw (Nat.le_refl _) (by omega)
  have WW := bw
  clear bw b0 b1 b2
  go_enter Try.func10, Try.ntmps10
  go_wp2_with fail
  generalize hV : (((w.alloc (.cells #[.slice A n c1] 24)).alloc (.cells #[.slice A2 k c2] 24)).alloc (.cells #[.slice A3 l c3] 24)) = V0 at XA XP XQ WW ⊢
  clear hV
  have hbs : w.heap.size ≤ V0.heap.size := WW.size
  have hc := awake_any V0
  refine hc.mono ?_
  clear hc
  rintro e V1 ⟨rfl, hb⟩
  replace XA := XA.below hb
  replace XP := XP.below hb
  replace XQ := XQ.below hb
  replace WW := WW.trans (hb.mono WW.size)
  have kXA := XA.cell
  have zXA := XA.lt
  have kXP := XP.cell
  have zXP := XP.lt
  have kXQ := XQ.cell
  have zXQ := XQ.lt
  clear hb hbs
  go_wp2_with fail
  have hbs : w.heap.size ≤ V1.heap.size := WW.size
  have hc := few_n3 14 (by omega) V1 A A2 A3 n k l c1 c2 c3 (by omega) (by omega) (by omega)
  rw [HG.out] at hc
  refine hc.mono ?_
  clear hc
  rintro e V2 ⟨rfl, hb⟩
  clear kXA zXA kXP zXP kXQ zXQ
  replace XA := XA.below hb
  replace XP := XP.below hb
  replace XQ := XQ.below hb
  replace WW := WW.trans (hb.mono WW.size)
  have kXA := XA.cell
  have zXA := XA.lt
  have kXP := XP.cell
  have zXP := XP.lt
  have kXQ := XQ.cell
  have zXQ := XQ.lt
  clear hb hbs
  go_wp2_with fail
  have hbs : w.heap.size ≤ V2.heap.size := WW.size
  have hc := awake_any V2
  refine hc.mono ?_
  clear hc
  rintro e V3 ⟨rfl, hb⟩
  clear kXA zXA kXP zXP kXQ zXQ
  replace XA := XA.below hb
  replace XP := XP.below hb
  replace XQ := XQ.below hb
  replace WW := WW.trans (hb.mono WW.size)
  have kXA := XA.cell
  have zXA := XA.lt
  have kXP := XP.cell
  have zXP := XP.lt
  have kXQ := XQ.cell
  have zXQ := XQ.lt
  clear hb hbs
  go_wp2_with fail
  go_ret
  exact ⟨rfl, WW⟩

set_option maxHeartbeats 16000000 in
set_option maxRecDepth 100000 in
theorem reml_far2 (A A2 A3 : Option Addr) (n k l c1 c2 c3 a p q : Nat) (w : World) (hA : Num w w.heap.size A n a) (hP : Num w w.heap.size A2 k p) (hQ : Num w w.heap.size A3 l q) (hn : n ≤ 9223372036854775807) (hk : k ≤ 9223372036854775807) (hl : l ≤ 9223372036854775807) (hg : n ≤ 14 ∧ k ≤ 14 ∧ l ≤ 14) (h1 : okB n a = false) :
    Calls Try.prog 10 #[.agg #[.slice A n c1], .agg #[.slice A2 k c2], .agg #[.slice A3 l c3]] w (RetB (.bool true) w) := by
  have HG : Hid (decide (n ≤ 14 ∧ k ≤ 14 ∧ l ≤ 14) = true) := decide_eq_true hg
  have z0 : (((nw 0 : Nat) : Int) == 0) = true := rfl
  have z00 : (((nw 0 : Nat) : Int) != 0) = false := rfl
  have n14 := hg.1
  have k14 := hg.2.1
  have l14 := hg.2.2
  have G1 := hid h1
  clear h1 hg
  obtain ⟨b0, b1, b2, bw⟩ := boxes3 w (.slice A n c1) (.slice A2 k c2) (.slice A3 l c3)
  have XA := VB.mk (B := w.heap.size) (a := a) b0 (.inl hA) bw (Nat.le_refl _) (by omega)
  have XP := VB.mk (B := w.heap.size) (a := p) b1 (.inl hP) bw (Nat.le_refl _) (by omega)
  have XQ := VB.mk (B := w.heap.size) (a := q) b2 (.inl hQ) bw (Nat.le_refl _) (by omega)
  have WW := bw
  clear bw b0 b1 b2
  go_enter Try.func10, Try.ntmps10
  go_wp2_with fail
  generalize hV : (((w.alloc (.cells #[.slice A n c1] 24)).alloc (.cells #[.slice A2 k c2] 24)).alloc (.cells #[.slice A3 l c3] 24)) = V0 at XA XP XQ WW ⊢
  clear hV
  have hbs : w.heap.size ≤ V0.heap.size := WW.size
  have hc := awake_any V0
  refine hc.mono ?_
  clear hc
  rintro e V1 ⟨rfl, hb⟩
  replace XA := XA.below hb
  replace XP := XP.below hb
  replace XQ := XQ.below hb
  replace WW := WW.trans (hb.mono WW.size)
  have kXA := XA.cell
  have zXA := XA.lt
  have kXP := XP.cell
  have zXP := XP.lt
  have kXQ := XQ.cell
  have zXQ := XQ.lt
  clear hb hbs
  go_wp2_with fail
  have hbs : w.heap.size ≤ V1.heap.size := WW.size
  have hc := few_n3 14 (by omega) V1 A A2 A3 n k l c1 c2 c3 (by omega) (by omega) (by omega)
  rw [HG.out] at hc
  refine hc.mono ?_
  clear hc
  rintro e V2 ⟨rfl, hb⟩
  clear kXA zXA kXP zXP kXQ zXQ
  replace XA := XA.below hb
  replace XP := XP.below hb
  replace XQ := XQ.below hb
  replace WW := WW.trans (hb.mono WW.size)
  have kXA := XA.cell
  have zXA := XA.lt
  have kXP := XP.cell
  have zXP := XP.lt
  have kXQ := XQ.cell
  have zXQ := XQ.lt
  clear hb hbs
  go_wp2_with fail
  have hbs : w.heap.size ≤ V2.heap.size := WW.size
  have hc := rvalid_any A _ c1 a _ V2 XA.num (Nat.le_refl _) (by omega)
  rw [G1.out] at hc
  refine hc.mono ?_
  clear hc
  rintro e V3 ⟨rfl, hb⟩
  clear kXA zXA kXP zXP kXQ zXQ
  replace XA := XA.below hb
  replace XP := XP.below hb
  replace XQ := XQ.below hb
  replace WW := WW.trans (hb.mono WW.size)
  have kXA := XA.cell
  have zXA := XA.lt
  have kXP := XP.cell
  have zXP := XP.lt
  have kXQ := XQ.cell
  have zXQ := XQ.lt
  clear hb hbs
  go_wp2_with fail
  have hbs : w.heap.size ≤ V3.heap.size := WW.size
  have hc := awake_any V3
  refine hc.mono ?_
  clear hc
  rintro e V4 ⟨rfl, hb⟩
  clear kXA zXA kXP zXP kXQ zXQ
  replace XA := XA.below hb
  replace XP := XP.below hb
  replace XQ := XQ.below hb
  replace WW := WW.trans (hb.mono WW.size)
  have kXA := XA.cell
  have zXA := XA.lt
  have kXP := XP.cell
  have zXP := XP.lt
  have kXQ := XQ.cell
  have zXQ := XQ.lt
  clear hb hbs
  go_wp2_with fail
  go_ret
  exact ⟨rfl, WW⟩

set_option maxHeartbeats 16000000 in
set_option maxRecDepth 100000 in
theorem reml_far3 (A A2 A3 : Option Addr) (n k l c1 c2 c3 a p q : Nat) (w : World) (hA : Num w w.heap.size A n a) (hP : Num w w.heap.size A2 k p) (hQ : Num w w.heap.size A3 l q) (hn : n ≤ 9223372036854775807) (hk : k ≤ 9223372036854775807) (hl : l ≤ 9223372036854775807) (hg : n ≤ 14 ∧ k ≤ 14 ∧ l ≤ 14) (h1 : okB n a = true) (h2 : modB k p = false) :
    Calls Try.prog 10 #[.agg #[.slice A n c1], .agg #[.slice A2 k c2], .agg #[.slice A3 l c3]] w (RetB (.bool true) w) := by
  have HG : Hid (decide (n ≤ 14 ∧ k ≤ 14 ∧ l ≤ 14) = true) := decide_eq_true hg
  have z0 : (((nw 0 : Nat) : Int) == 0) = true := rfl
  have z00 : (((nw 0 : Nat) : Int) != 0) = false := rfl
  have n14 := hg.1
  have k14 := hg.2.1
  have l14 := hg.2.2
  have G1 := hid h1
  have M1 : Hid ((if modB k p = true then (0 : Int) else 1) = 1) := (show _ = _ by rw [h2]; rfl)
  clear h1 h2 hg
  obtain ⟨b0, b1, b2, bw⟩ := boxes3 w (.slice A n c1) (.slice A2 k c2) (.slice A3 l c3)
  have XA := VB.mk (B := w.heap.size) (a := a) b0 (.inl hA) bw (Nat.le_refl _) (by omega)
  have XP := VB.mk (B := w.heap.size) (a := p) b1 (.inl hP) bw (Nat.le_refl _) (by omega)
  have XQ := VB.mk (B := w.heap.size) (a := q) b2 (.inl hQ) bw (Nat.le_refl _) (by omega)
  have WW := bw
  clear bw b0 b1 b2
  go_enter Try.func10, Try.ntmps10
  go_wp2_with fail
  generalize hV : (((w.alloc (.cells #[.slice A n c1] 24)).alloc (.cells #[.slice A2 k c2] 24)).alloc (.cells #[.slice A3 l c3] 24)) = V0 at XA XP XQ WW ⊢
  clear hV
  have hbs : w.heap.size ≤ V0.heap.size := WW.size
  have hc := awake_any V0
  refine hc.mono ?_
  clear hc
  rintro e V1 ⟨rfl, hb⟩
  replace XA := XA.below hb
  replace XP := XP.below hb
  replace XQ := XQ.below hb
  replace WW := WW.trans (hb.mono WW.size)
  have kXA := XA.cell
  have zXA := XA.lt
  have kXP := XP.cell
  have zXP := XP.lt
  have kXQ := XQ.cell
  have zXQ := XQ.lt
  clear hb hbs
  go_wp2_with fail
  have hbs : w.heap.size ≤ V1.heap.size := WW.size
  have hc := few_n3 14 (by omega) V1 A A2 A3 n k l c1 c2 c3 (by omega) (by omega) (by omega)
  rw [HG.out] at hc
  refine hc.mono ?_
  clear hc
  rintro e V2 ⟨rfl, hb⟩
  clear kXA zXA kXP zXP kXQ zXQ
  replace XA := XA.below hb
  replace XP := XP.below hb
  replace XQ := XQ.below hb
  replace WW := WW.trans (hb.mono WW.size)
  have kXA := XA.cell
  have zXA := XA.lt
  have kXP := XP.cell
  have zXP := XP.lt
  have kXQ := XQ.cell
  have zXQ := XQ.lt
  clear hb hbs
  go_wp2_with fail
  have hbs : w.heap.size ≤ V2.heap.size := WW.size
  have hc := rvalid_any A _ c1 a _ V2 XA.num (Nat.le_refl _) (by omega)
  rw [G1.out] at hc
  refine hc.mono ?_
  clear hc
  rintro e V3 ⟨rfl, hb⟩
  clear kXA zXA kXP zXP kXQ zXQ
  replace XA := XA.below hb
  replace XP := XP.below hb
  replace XQ := XQ.below hb
  replace WW := WW.trans (hb.mono WW.size)
  have kXA := XA.cell
  have zXA := XA.lt
  have kXP := XP.cell
  have zXP := XP.lt
  have kXQ := XQ.cell
  have zXQ := XQ.lt
  clear hb hbs
  go_wp2_with fail
  have hbs : w.heap.size ≤ V3.heap.size := WW.size
  have hc := first_a0 V3 _ p c2 A2 XP.num (by omega)
  rw [M1.out] at hc
  refine hc.mono ?_
  clear hc
  rintro e V4 ⟨rfl, hb⟩
  clear kXA zXA kXP zXP kXQ zXQ
  replace XA := XA.below hb
  replace XP := XP.below hb
  replace XQ := XQ.below hb
  replace WW := WW.trans (hb.mono WW.size)
  have kXA := XA.cell
  have zXA := XA.lt
  have kXP := XP.cell
  have zXP := XP.lt
  have kXQ := XQ.cell
  have zXQ := XQ.lt
  clear hb hbs
  go_wp2_with fail
  have hbs : w.heap.size ≤ V4.heap.size := WW.size
  have hc := awake_any V4
  refine hc.mono ?_
  clear hc
  rintro e V5 ⟨rfl, hb⟩
  clear kXA zXA kXP zXP kXQ zXQ
  replace XA := XA.below hb
  replace XP := XP.below hb
  replace XQ := XQ.below hb
  replace WW := WW.trans (hb.mono WW.size)
  have kXA := XA.cell
  have zXA := XA.lt
  have kXP := XP.cell
  have zXP := XP.lt
  have kXQ := XQ.cell
  have zXQ := XQ.lt
  clear hb hbs
  go_wp2_with fail
  go_ret
  exact ⟨rfl, WW⟩

set_option maxHeartbeats 16000000 in
set_option maxRecDepth 100000 in
theorem reml_far4 (A A2 A3 : Option Addr) (n k l c1 c2 c3 a p q : Nat) (w : World) (hA : Num w w.heap.size A n a) (hP : Num w w.heap.size A2 k p) (hQ : Num w w.heap.size A3 l q) (hn : n ≤ 9223372036854775807) (hk : k ≤ 9223372036854775807) (hl : l ≤ 9223372036854775807) (hg : n ≤ 14 ∧ k ≤ 14 ∧ l ≤ 14) (h1 : okB n a = true) (h2 : modB k p = true) (h3 : modB l q = false) :
    Calls Try.prog 10 #[.agg #[.slice A n c1], .agg #[.slice A2 k c2], .agg #[.slice A3 l c3]] w (RetB (.bool true) w) := by
  have HG : Hid (decide (n ≤ 14 ∧ k ≤ 14 ∧ l ≤ 14) = true) := decide_eq_true hg
  have z0 : (((nw 0 : Nat) : Int) == 0) = true := rfl
  have z00 : (((nw 0 : Nat) : Int) != 0) = false := rfl
  have n14 := hg.1
  have k14 := hg.2.1
  have l14 := hg.2.2
  have G1 := hid h1
  have M1 : Hid ((if modB k p = true then (0 : Int) else 1) = 0) := (show _ = _ by rw [h2]; rfl)
  have M2 : Hid ((if modB l q = true then (0 : Int) else 1) = 1) := (show _ = _ by rw [h3]; rfl)
  clear h1 h2 h3 hg
  obtain ⟨b0, b1, b2, bw⟩ := boxes3 w (.slice A n c1) (.slice A2 k c2) (.slice A3 l c3)
  have XA := VB.mk (B := w.heap.size) (a := a) b0 (.inl hA) bw (Nat.le_refl _) (by omega)
  have XP := VB.mk (B := w.heap.size) (a := p) b1 (.inl hP) bw (Nat.le_refl _) (by omega)
  have XQ := VB.mk (B := w.heap.size) (a := q) b2 (.inl hQ) bw (Nat.le_refl _) (by omega)
  have WW := bw
  clear bw b0 b1 b2
  go_enter Try.func10, Try.ntmps10
  go_wp2_with fail
  generalize hV : (((w.alloc (.cells #[.slice A n c1] 24)).alloc (.cells #[.slice A2 k c2] 24)).alloc (.cells #[.slice A3 l c3] 24)) = V0 at XA XP XQ WW ⊢
  clear hV
  have hbs : w.heap.size ≤ V0.heap.size := WW.size
  have hc := awake_any V0
  refine hc.mono ?_
  clear hc
  rintro e V1 ⟨rfl, hb⟩
  replace XA := XA.below hb
  replace XP := XP.below hb
  replace XQ := XQ.below hb
  replace WW := WW.trans (hb.mono WW.size)
  have kXA := XA.cell
  have zXA := XA.lt
  have kXP := XP.cell
  have zXP := XP.lt
  have kXQ := XQ.cell
  have zXQ := XQ.lt
  clear hb hbs
  go_wp2_with fail
  have hbs : w.heap.size ≤ V1.heap.size := WW.size
  have hc := few_n3 14 (by omega) V1 A A2 A3 n k l c1 c2 c3 (by omega) (by omega) (by omega)
  rw [HG.out] at hc
  refine hc.mono ?_
  clear hc
  rintro e V2 ⟨rfl, hb⟩
  clear kXA zXA kXP zXP kXQ zXQ
  replace XA := XA.below hb
  replace XP := XP.below hb
  replace XQ := XQ.below hb
  replace WW := WW.trans (hb.mono WW.size)
  have kXA := XA.cell
  have zXA := XA.lt
  have kXP := XP.cell
  have zXP := XP.lt
  have kXQ := XQ.cell
  have zXQ := XQ.lt
  clear hb hbs
  go_wp2_with fail
  have hbs : w.heap.size ≤ V2.heap.size := WW.size
  have hc := rvalid_any A _ c1 a _ V2 XA.num (Nat.le_refl _) (by omega)
  rw [G1.out] at hc
  refine hc.mono ?_
  clear hc
  rintro e V3 ⟨rfl, hb⟩
  clear kXA zXA kXP zXP kXQ zXQ
  replace XA := XA.below hb
  replace XP := XP.below hb
  replace XQ := XQ.below hb
  replace WW := WW.trans (hb.mono WW.size)
  have kXA := XA.cell
  have zXA := XA.lt
  have kXP := XP.cell
  have zXP := XP.lt
  have kXQ := XQ.cell
  have zXQ := XQ.lt
  clear hb hbs
  go_wp2_with fail
  have hbs : w.heap.size ≤ V3.heap.size := WW.size
  have hc := first_a0 V3 _ p c2 A2 XP.num (by omega)
  rw [M1.out] at hc
  refine hc.mono ?_
  clear hc
  rintro e V4 ⟨rfl, hb⟩
  clear kXA zXA kXP zXP kXQ zXQ
  replace XA := XA.below hb
  replace XP := XP.below hb
  replace XQ := XQ.below hb
  replace WW := WW.trans (hb.mono WW.size)
  have kXA := XA.cell
  have zXA := XA.lt
  have kXP := XP.cell
  have zXP := XP.lt
  have kXQ := XQ.cell
  have zXQ := XQ.lt
  clear hb hbs
  go_wp2_with fail
  have hbs : w.heap.size ≤ V4.heap.size := WW.size
  have hc := first_a0 V4 _ q c3 A3 XQ.num (by omega)
  rw [M2.out] at hc
  refine hc.mono ?_
  clear hc
  rintro e V5 ⟨rfl, hb⟩
  clear kXA zXA kXP zXP kXQ zXQ
  replace XA := XA.below hb
  replace XP := XP.below hb
  replace XQ := XQ.below hb
  replace WW := WW.trans (hb.mono WW.size)
  have kXA := XA.cell
  have zXA := XA.lt
  have kXP := XP.cell
  have zXP := XP.lt
  have kXQ := XQ.cell
  have zXQ := XQ.lt
  clear hb hbs
  go_wp2_with fail
  have hbs : w.heap.size ≤ V5.heap.size := WW.size
  have hc := awake_any V5
  refine hc.mono ?_
  clear hc
  rintro e V6 ⟨rfl, hb⟩
  clear kXA zXA kXP zXP kXQ zXQ
  replace XA := XA.below hb
  replace XP := XP.below hb
  replace XQ := XQ.below hb
  replace WW := WW.trans (hb.mono WW.size)
  have kXA := XA.cell
  have zXA := XA.lt
  have kXP := XP.cell
  have zXP := XP.lt
  have kXQ := XQ.cell
  have zXQ := XQ.lt
  clear hb hbs
  go_wp2_with fail
  go_ret
  exact ⟨rfl, WW⟩

set_option maxHeartbeats 16000000 in
set_option maxRecDepth 100000 in
theorem reml_z (A A2 A3 : Option Addr) (n k l c1 c2 c3 a p q : Nat) (w : World) (hA : Num w w.heap.size A n a) (hP : Num w w.heap.size A2 k p) (hQ : Num w w.heap.size A3 l q) (hn : n ≤ 9223372036854775807) (hk : k ≤ 9223372036854775807) (hl : l ≤ 9223372036854775807) (hg : n ≤ 14 ∧ k ≤ 14 ∧ l ≤ 14) (h1 : okB n a = true) (h2 : modB k p = true) (h3 : modB l q = true) (h4 : ¬ Nat.gcd p q = 1) :
    Calls Try.prog 10 #[.agg #[.slice A n c1], .agg #[.slice A2 k c2], .agg #[.slice A3 l c3]] w (RetB (.bool true) w) := by
  have HG : Hid (decide (n ≤ 14 ∧ k ≤ 14 ∧ l ≤ 14) = true) := decide_eq_true hg
  have z0 : (((nw 0 : Nat) : Int) == 0) = true := rfl
  have z00 : (((nw 0 : Nat) : Int) != 0) = false := rfl
  have n14 := hg.1
  have k14 := hg.2.1
  have l14 := hg.2.2
  have G1 := hid h1
  have M1 : Hid ((if modB k p = true then (0 : Int) else 1) = 0) := (show _ = _ by rw [h2]; rfl)
  have M2 : Hid ((if modB l q = true then (0 : Int) else 1) = 0) := (show _ = _ by rw [h3]; rfl)
  obtain ⟨e1, na⟩ := okB_yes.1 h1
  obtain ⟨e2, np, hp0⟩ := modB_yes h2
  obtain ⟨e3, nq, hq0⟩ := modB_yes h3
  subst e1 e2 e3
  have K2 := hid (okB_nw (Nat.le_trans np (show 32 ≤ 64 by omega)))
  have K3 := hid (okB_nw (Nat.le_trans nq (show 32 ≤ 64 by omega)))
  obtain ⟨g, hg⟩ : ∃ z, z = Nat.gcd p q := ⟨_, rfl⟩
  have HGG := hid hg
  obtain ⟨gg, hgg⟩ : ∃ z, z = Nat.gcd p q := ⟨_, rfl⟩
  have HGG := hid hgg
  have ng : nw gg ≤ 14 := Nat.le_trans (nw_mono (by rw [hgg]; exact Nat.le_of_dvd hp0 (Nat.gcd_dvd_left p q))) k14
  have HV : Hid (gcdV (nw p) p (nw q) q = (gg, 0)) := (show gcdV (nw p) p (nw q) q = (gg, 0) by unfold gcdV; rw [K2.out, K3.out, hgg]; rfl)
  have GT : Hid (decide (gg = 1) = false) := decide_eq_false (by rw [hgg]; exact h4)
  obtain ⟨pq, hpq⟩ : ∃ z, z = p * q := ⟨_, rfl⟩
  have HPQ := hid hpq
  have npq : nw pq ≤ 28 := by rw [hpq]; exact nw_prod (j := 14) (k := 14) k14 l14
  have pq0 : 0 < pq := by rw [hpq]; exact Nat.mul_pos hp0 hq0
  have LPQ := hid (limS_ok (Nat.le_trans npq (show 28 ≤ 64 by omega)))
  have K4 := hid (okB_nw (Nat.le_trans npq (show 28 ≤ 64 by omega)))
  have pqn := nw_pos (show pq ≠ 0 by omega)
  have z9 : (((nw pq : Nat) : Int) == 0) = false := by simp; omega
  have HP0 := hid hp0
  have HQ0 := hid hq0
  obtain ⟨u1, hu1⟩ : ∃ z, z = a / pq := ⟨_, rfl⟩
  have HU1 := hid hu1
  obtain ⟨x, hx⟩ : ∃ z, z = a % pq := ⟨_, rfl⟩
  have HR1 := hid hx
  have HD1 : Hid (divS a pq = (u1, x, 0)) := (show divS a pq = (u1, x, 0) by rw [divS_yes (show ¬ pq = 0 by omega), hu1, hx])
  have nx : nw x ≤ 28 := Nat.le_trans (nw_mono (by rw [hx]; exact Nat.le_of_lt (Nat.mod_lt _ pq0))) (by omega)
  have lx : x < pq := by rw [hx]; exact Nat.mod_lt _ pq0
  obtain ⟨u2, hu2⟩ : ∃ z, z = a / p := ⟨_, rfl⟩
  have HU2 := hid hu2
  obtain ⟨a1, ha1⟩ : ∃ z, z = a % p := ⟨_, rfl⟩
  have HR2 := hid ha1
  have HD2 : Hid (divS a p = (u2, a1, 0)) := (show divS a p = (u2, a1, 0) by rw [divS_yes (show ¬ p = 0 by omega), hu2, ha1])
  have na1 : nw a1 ≤ 28 := Nat.le_trans (nw_mono (by rw [ha1]; exact Nat.le_of_lt (Nat.mod_lt _ hp0))) (by omega)
  have la1 : a1 < p := by rw [ha1]; exact Nat.mod_lt _ hp0
  obtain ⟨u3, hu3⟩ : ∃ z, z = a / q := ⟨_, rfl⟩
  have HU3 := hid hu3
  obtain ⟨y1, hy1⟩ : ∃ z, z = a % q := ⟨_, rfl⟩
  have HR3 := hid hy1
  have HD3 : Hid (divS a q = (u3, y1, 0)) := (show divS a q = (u3, y1, 0) by rw [divS_yes (show ¬ q = 0 by omega), hu3, hy1])
  have ny1 : nw y1 ≤ 28 := Nat.le_trans (nw_mono (by rw [hy1]; exact Nat.le_of_lt (Nat.mod_lt _ hq0))) (by omega)
  have ly1 : y1 < q := by rw [hy1]; exact Nat.mod_lt _ hq0
  have HV2 : Hid (crtV (nw a1) a1 (nw p) p (nw y1) y1 (nw q) q = (0, 10)) := (show _ = (0, 10) by rw [crtV_deep np nq la1 ly1, if_neg h4])
  clear hgg hpq hu1 hx hu2 ha1 hu3 hy1 pq0 lx la1 ly1 hp0 hq0
  clear h1 h2 h3 h4 hg
  obtain ⟨b0, b1, b2, bw⟩ := boxes3 w (.slice A (nw a) c1) (.slice A2 (nw p) c2) (.slice A3 (nw q) c3)
  have XA := VB.mk (B := w.heap.size) (a := a) b0 (.inl hA) bw (Nat.le_refl _) (by omega)
  have XP := VB.mk (B := w.heap.size) (a := p) b1 (.inl hP) bw (Nat.le_refl _) (by omega)
  have XQ := VB.mk (B := w.heap.size) (a := q) b2 (.inl hQ) bw (Nat.le_refl _) (by omega)
  have WW := bw
  clear bw b0 b1 b2
  go_enter Try.func10, Try.ntmps10
  go_wp2_with fail
  generalize hV : (((w.alloc (.cells #[.slice A (nw a) c1] 24)).alloc (.cells #[.slice A2 (nw p) c2] 24)).alloc (.cells #[.slice A3 (nw q) c3] 24)) = V0 at XA XP XQ WW ⊢
  clear hV
  have hbs : w.heap.size ≤ V0.heap.size := WW.size
  have hc := awake_any V0
  refine hc.mono ?_
  clear hc
  rintro e V1 ⟨rfl, hb⟩
  replace XA := XA.below hb
  replace XP := XP.below hb
  replace XQ := XQ.below hb
  replace WW := WW.trans (hb.mono WW.size)
  have kXA := XA.cell
  have zXA := XA.lt
  have kXP := XP.cell
  have zXP := XP.lt
  have kXQ := XQ.cell
  have zXQ := XQ.lt
  clear hb hbs
  go_wp2_with fail
  have hbs : w.heap.size ≤ V1.heap.size := WW.size
  have hc := few_n3 14 (by omega) V1 A A2 A3 (nw a) (nw p) (nw q) c1 c2 c3 (by omega) (by omega) (by omega)
  rw [HG.out] at hc
  refine hc.mono ?_
  clear hc
  rintro e V2 ⟨rfl, hb⟩
  clear kXA zXA kXP zXP kXQ zXQ
  replace XA := XA.below hb
  replace XP := XP.below hb
  replace XQ := XQ.below hb
  replace WW := WW.trans (hb.mono WW.size)
  have kXA := XA.cell
  have zXA := XA.lt
  have kXP := XP.cell
  have zXP := XP.lt
  have kXQ := XQ.cell
  have zXQ := XQ.lt
  clear hb hbs
  go_wp2_with fail
  have hbs : w.heap.size ≤ V2.heap.size := WW.size
  have hc := rvalid_any A _ c1 a _ V2 XA.num (Nat.le_refl _) (by omega)
  rw [G1.out] at hc
  refine hc.mono ?_
  clear hc
  rintro e V3 ⟨rfl, hb⟩
  clear kXA zXA kXP zXP kXQ zXQ
  replace XA := XA.below hb
  replace XP := XP.below hb
  replace XQ := XQ.below hb
  replace WW := WW.trans (hb.mono WW.size)
  have kXA := XA.cell
  have zXA := XA.lt
  have kXP := XP.cell
  have zXP := XP.lt
  have kXQ := XQ.cell
  have zXQ := XQ.lt
  clear hb hbs
  go_wp2_with fail
  have hbs : w.heap.size ≤ V3.heap.size := WW.size
  have hc := first_a0 V3 _ p c2 A2 XP.num (by omega)
  rw [M1.out] at hc
  refine hc.mono ?_
  clear hc
  rintro e V4 ⟨rfl, hb⟩
  clear kXA zXA kXP zXP kXQ zXQ
  replace XA := XA.below hb
  replace XP := XP.below hb
  replace XQ := XQ.below hb
  replace WW := WW.trans (hb.mono WW.size)
  have kXA := XA.cell
  have zXA := XA.lt
  have kXP := XP.cell
  have zXP := XP.lt
  have kXQ := XQ.cell
  have zXQ := XQ.lt
  clear hb hbs
  go_wp2_with fail
  have hbs : w.heap.size ≤ V4.heap.size := WW.size
  have hc := first_a0 V4 _ q c3 A3 XQ.num (by omega)
  rw [M2.out] at hc
  refine hc.mono ?_
  clear hc
  rintro e V5 ⟨rfl, hb⟩
  clear kXA zXA kXP zXP kXQ zXQ
  replace XA := XA.below hb
  replace XP := XP.below hb
  replace XQ := XQ.below hb
  replace WW := WW.trans (hb.mono WW.size)
  have kXA := XA.cell
  have zXA := XA.lt
  have kXP := XP.cell
  have zXP := XP.lt
  have kXQ := XQ.cell
  have zXQ := XQ.lt
  clear hb hbs
  go_wp2_with fail
  have hbs : w.heap.size ≤ V5.heap.size := WW.size
  have hc := ngcd_any A2 A3 _ _ c2 c3 p q V5 XP.num XQ.num (by omega) (by omega)
  rw [HV.out] at hc
  refine hc.mono ?_
  clear hc
  rintro e V6 ⟨v, rfl, hv, hb⟩
  clear kXA zXA kXP zXP kXQ zXQ
  replace XA := XA.below hb
  replace XP := XP.below hb
  replace XQ := XQ.below hb
  replace WW := WW.trans (hb.mono WW.size)
  obtain ⟨D1, d1, rfl, ho⟩ := hv
  have O1 := ho.weak (b := w.heap.size) hbs
  clear ho
  have kXA := XA.cell
  have zXA := XA.lt
  have kXP := XP.cell
  have zXP := XP.lt
  have kXQ := XQ.cell
  have zXQ := XQ.lt
  clear hb hbs
  go_wp2_with fail
  obtain ⟨b0, bw⟩ := boxes1 V6 (.slice D1 (nw gg) d1)
  have hbs := WW.size
  clear kXA zXA kXP zXP kXQ zXQ
  have qXQ7 := XQ.lt
  have X1 := VB.mk (B := w.heap.size) (a := gg) b0 (.inr O1) bw hbs (by omega)
  replace XA := XA.below bw
  replace XP := XP.below bw
  replace XQ := XQ.below bw
  replace O1 := O1.below bw (Nat.le_refl _)
  replace WW := WW.trans (bw.mono WW.size)
  clear bw hbs b0
  generalize hV : (V6.alloc (.cells #[.slice D1 (nw gg) d1] 24)) = V7 at XA XP XQ X1 O1 WW ⊢
  clear hV
  have kXA := XA.cell
  have zXA := XA.lt
  have kXP := XP.cell
  have zXP := XP.lt
  have kXQ := XQ.cell
  have zXQ := XQ.lt
  have kX1 := X1.cell
  have zX1 := X1.lt
  have hbs : w.heap.size ≤ V7.heap.size := WW.size
  have hc := mul_any A2 A3 _ _ c2 c3 p q V7 XP.num XQ.num (by omega) (by omega)
  rw [bothS_yes K2.out K3.out] at hc
  rw [← HPQ.out] at hc
  rw [LPQ.out] at hc
  refine hc.mono ?_
  clear hc
  rintro e V8 ⟨v, rfl, hv, hb⟩
  clear kXA zXA kXP zXP kXQ zXQ kX1 zX1
  replace XA := XA.below hb
  replace XP := XP.below hb
  replace XQ := XQ.below hb
  replace X1 := X1.below hb
  replace O1 := O1.below hb (Nat.le_refl _)
  replace WW := WW.trans (hb.mono WW.size)
  obtain ⟨D2, d2, rfl, ho⟩ := hv
  have O2 := ho.weak (b := w.heap.size) hbs
  clear ho
  have kXA := XA.cell
  have zXA := XA.lt
  have kXP := XP.cell
  have zXP := XP.lt
  have kXQ := XQ.cell
  have zXQ := XQ.lt
  have kX1 := X1.cell
  have zX1 := X1.lt
  clear hb hbs
  go_wp2_with fail
  obtain ⟨b0, bw⟩ := boxes1 V8 (.slice D2 (nw pq) d2)
  have hbs := WW.size
  clear kXA zXA kXP zXP kXQ zXQ kX1 zX1
  have qX19 := X1.lt
  have qXQ9 := XQ.lt
  have X2 := VB.mk (B := w.heap.size) (a := pq) b0 (.inr O2) bw hbs (by omega)
  replace XA := XA.below bw
  replace XP := XP.below bw
  replace XQ := XQ.below bw
  replace X1 := X1.below bw
  replace O1 := O1.below bw (Nat.le_refl _)
  replace O2 := O2.below bw (Nat.le_refl _)
  replace WW := WW.trans (bw.mono WW.size)
  clear bw hbs b0
  generalize hV : (V8.alloc (.cells #[.slice D2 (nw pq) d2] 24)) = V9 at XA XP XQ X1 X2 O1 O2 WW ⊢
  clear hV
  have kXA := XA.cell
  have zXA := XA.lt
  have kXP := XP.cell
  have zXP := XP.lt
  have kXQ := XQ.cell
  have zXQ := XQ.lt
  have kX1 := X1.cell
  have zX1 := X1.lt
  have kX2 := X2.cell
  have zX2 := X2.lt
  have hbs : w.heap.size ≤ V9.heap.size := WW.size
  have hc := rvalid_any D2 _ d2 pq _ V9 X2.num (Nat.le_refl _) (by omega)
  rw [K4.out] at hc
  refine hc.mono ?_
  clear hc
  rintro e V10 ⟨rfl, hb⟩
  clear kXA zXA kXP zXP kXQ zXQ kX1 zX1 kX2 zX2
  replace XA := XA.below hb
  replace XP := XP.below hb
  replace XQ := XQ.below hb
  replace X1 := X1.below hb
  replace X2 := X2.below hb
  replace O1 := O1.below hb (Nat.le_refl _)
  replace O2 := O2.below hb (Nat.le_refl _)
  replace WW := WW.trans (hb.mono WW.size)
  have kXA := XA.cell
  have zXA := XA.lt
  have kXP := XP.cell
  have zXP := XP.lt
  have kXQ := XQ.cell
  have zXQ := XQ.lt
  have kX1 := X1.cell
  have zX1 := X1.lt
  have kX2 := X2.cell
  have zX2 := X2.lt
  clear hb hbs
  go_wp2_with fail
  have hbs : w.heap.size ≤ V10.heap.size := WW.size
  have hc := div_any A D2 _ _ c1 d2 a pq V10 XA.num X2.num (by omega) (by omega)
  rw [bothD_yes G1.out K4.out] at hc
  rw [HD1.out] at hc
  refine hc.mono ?_
  clear hc
  rintro e V11 ⟨v, u', rfl, hv, hu, hb⟩
  clear kXA zXA kXP zXP kXQ zXQ kX1 zX1 kX2 zX2
  replace XA := XA.below hb
  replace XP := XP.below hb
  replace XQ := XQ.below hb
  replace X1 := X1.below hb
  replace X2 := X2.below hb
  replace O1 := O1.below hb (Nat.le_refl _)
  replace O2 := O2.below hb (Nat.le_refl _)
  replace WW := WW.trans (hb.mono WW.size)
  obtain ⟨D10, d10, rfl, ho⟩ := hv
  have O10 := ho.weak (b := w.heap.size) hbs
  obtain ⟨D11, d11, rfl, ho'⟩ := hu
  have O11 := ho'.weak (b := w.heap.size) hbs
  clear ho ho'
  have kXA := XA.cell
  have zXA := XA.lt
  have kXP := XP.cell
  have zXP := XP.lt
  have kXQ := XQ.cell
  have zXQ := XQ.lt
  have kX1 := X1.cell
  have zX1 := X1.lt
  have kX2 := X2.cell
  have zX2 := X2.lt
  clear hb hbs
  go_wp2_with fail
  obtain ⟨b0, b1, bw⟩ := boxes2 V11 (.slice D10 (nw u1) d10) (.slice D11 (nw x) d11)
  have hbs := WW.size
  clear kXA zXA kXP zXP kXQ zXQ kX1 zX1 kX2 zX2
  have qX112 := X1.lt
  have qX212 := X2.lt
  have qXQ12 := XQ.lt
  have X3 := VB.mk (B := w.heap.size) (a := u1) b0 (.inr O10) bw hbs (by omega)
  have X4 := VB.mk (B := w.heap.size) (a := x) b1 (.inr O11) bw hbs (by omega)
  replace XA := XA.below bw
  replace XP := XP.below bw
  replace XQ := XQ.below bw
  replace X1 := X1.below bw
  replace X2 := X2.below bw
  replace O1 := O1.below bw (Nat.le_refl _)
  replace O2 := O2.below bw (Nat.le_refl _)
  replace O10 := O10.below bw (Nat.le_refl _)
  replace O11 := O11.below bw (Nat.le_refl _)
  replace WW := WW.trans (bw.mono WW.size)
  clear bw hbs b0 b1
  generalize hV : ((V11.alloc (.cells #[.slice D10 (nw u1) d10] 24)).alloc (.cells #[.slice D11 (nw x) d11] 24)) = V12 at XA XP XQ X1 X2 X3 X4 O1 O2 O10 O11 WW ⊢
  clear hV
  have kXA := XA.cell
  have zXA := XA.lt
  have kXP := XP.cell
  have zXP := XP.lt
  have kXQ := XQ.cell
  have zXQ := XQ.lt
  have kX1 := X1.cell
  have zX1 := X1.lt
  have kX2 := X2.cell
  have zX2 := X2.lt
  have kX3 := X3.cell
  have zX3 := X3.lt
  have kX4 := X4.cell
  have zX4 := X4.lt
  have hbs : w.heap.size ≤ V12.heap.size := WW.size
  have hc := div_any A A2 _ _ c1 c2 a p V12 XA.num XP.num (by omega) (by omega)
  rw [bothD_yes G1.out K2.out] at hc
  rw [HD2.out] at hc
  refine hc.mono ?_
  clear hc
  rintro e V13 ⟨v, u', rfl, hv, hu, hb⟩
  clear kXA zXA kXP zXP kXQ zXQ kX1 zX1 kX2 zX2 kX3 zX3 kX4 zX4
  replace XA := XA.below hb
  replace XP := XP.below hb
  replace XQ := XQ.below hb
  replace X1 := X1.below hb
  replace X2 := X2.below hb
  replace X3 := X3.below hb
  replace X4 := X4.below hb
  replace O1 := O1.below hb (Nat.le_refl _)
  replace O2 := O2.below hb (Nat.le_refl _)
  replace O10 := O10.below hb (Nat.le_refl _)
  replace O11 := O11.below hb (Nat.le_refl _)
  replace WW := WW.trans (hb.mono WW.size)
  obtain ⟨D12, d12, rfl, ho⟩ := hv
  have O12 := ho.weak (b := w.heap.size) hbs
  obtain ⟨D13, d13, rfl, ho'⟩ := hu
  have O13 := ho'.weak (b := w.heap.size) hbs
  clear ho ho'
  have kXA := XA.cell
  have zXA := XA.lt
  have kXP := XP.cell
  have zXP := XP.lt
  have kXQ := XQ.cell
  have zXQ := XQ.lt
  have kX1 := X1.cell
  have zX1 := X1.lt
  have kX2 := X2.cell
  have zX2 := X2.lt
  have kX3 := X3.cell
  have zX3 := X3.lt
  have kX4 := X4.cell
  have zX4 := X4.lt
  clear hb hbs
  go_wp2_with fail
  obtain ⟨b0, b1, bw⟩ := boxes2 V13 (.slice D12 (nw u2) d12) (.slice D13 (nw a1) d13)
  have hbs := WW.size
  clear kXA zXA kXP zXP kXQ zXQ kX1 zX1 kX2 zX2 kX3 zX3 kX4 zX4
  have qX114 := X1.lt
  have qX214 := X2.lt
  have qX314 := X3.lt
  have qX414 := X4.lt
  have qXQ14 := XQ.lt
  have X5 := VB.mk (B := w.heap.size) (a := u2) b0 (.inr O12) bw hbs (by omega)
  have X6 := VB.mk (B := w.heap.size) (a := a1) b1 (.inr O13) bw hbs (by omega)
  replace XA := XA.below bw
  replace XP := XP.below bw
  replace XQ := XQ.below bw
  replace X1 := X1.below bw
  replace X2 := X2.below bw
  replace X3 := X3.below bw
  replace X4 := X4.below bw
  replace O1 := O1.below bw (Nat.le_refl _)
  replace O2 := O2.below bw (Nat.le_refl _)
  replace O10 := O10.below bw (Nat.le_refl _)
  replace O11 := O11.below bw (Nat.le_refl _)
  replace O12 := O12.below bw (Nat.le_refl _)
  replace O13 := O13.below bw (Nat.le_refl _)
  replace WW := WW.trans (bw.mono WW.size)
  clear bw hbs b0 b1
  generalize hV : ((V13.alloc (.cells #[.slice D12 (nw u2) d12] 24)).alloc (.cells #[.slice D13 (nw a1) d13] 24)) = V14 at XA XP XQ X1 X2 X3 X4 X5 X6 O1 O2 O10 O11 O12 O13 WW ⊢
  clear hV
  have kXA := XA.cell
  have zXA := XA.lt
  have kXP := XP.cell
  have zXP := XP.lt
  have kXQ := XQ.cell
  have zXQ := XQ.lt
  have kX1 := X1.cell
  have zX1 := X1.lt
  have kX2 := X2.cell
  have zX2 := X2.lt
  have kX3 := X3.cell
  have zX3 := X3.lt
  have kX4 := X4.cell
  have zX4 := X4.lt
  have kX5 := X5.cell
  have zX5 := X5.lt
  have kX6 := X6.cell
  have zX6 := X6.lt
  have hbs : w.heap.size ≤ V14.heap.size := WW.size
  have hc := div_any A A3 _ _ c1 c3 a q V14 XA.num XQ.num (by omega) (by omega)
  rw [bothD_yes G1.out K3.out] at hc
  rw [HD3.out] at hc
  refine hc.mono ?_
  clear hc
  rintro e V15 ⟨v, u', rfl, hv, hu, hb⟩
  clear kXA zXA kXP zXP kXQ zXQ kX1 zX1 kX2 zX2 kX3 zX3 kX4 zX4 kX5 zX5 kX6 zX6
  replace XA := XA.below hb
  replace XP := XP.below hb
  replace XQ := XQ.below hb
  replace X1 := X1.below hb
  replace X2 := X2.below hb
  replace X3 := X3.below hb
  replace X4 := X4.below hb
  replace X5 := X5.below hb
  replace X6 := X6.below hb
  replace O1 := O1.below hb (Nat.le_refl _)
  replace O2 := O2.below hb (Nat.le_refl _)
  replace O10 := O10.below hb (Nat.le_refl _)
  replace O11 := O11.below hb (Nat.le_refl _)
  replace O12 := O12.below hb (Nat.le_refl _)
  replace O13 := O13.below hb (Nat.le_refl _)
  replace WW := WW.trans (hb.mono WW.size)
  obtain ⟨D14, d14, rfl, ho⟩ := hv
  have O14 := ho.weak (b := w.heap.size) hbs
  obtain ⟨D15, d15, rfl, ho'⟩ := hu
  have O15 := ho'.weak (b := w.heap.size) hbs
  clear ho ho'
  have kXA := XA.cell
  have zXA := XA.lt
  have kXP := XP.cell
  have zXP := XP.lt
  have kXQ := XQ.cell
  have zXQ := XQ.lt
  have kX1 := X1.cell
  have zX1 := X1.lt
  have kX2 := X2.cell
  have zX2 := X2.lt
  have kX3 := X3.cell
  have zX3 := X3.lt
  have kX4 := X4.cell
  have zX4 := X4.lt
  have kX5 := X5.cell
  have zX5 := X5.lt
  have kX6 := X6.cell
  have zX6 := X6.lt
  clear hb hbs
  go_wp2_with fail
  obtain ⟨b0, b1, bw⟩ := boxes2 V15 (.slice D14 (nw u3) d14) (.slice D15 (nw y1) d15)
  have hbs := WW.size
  clear kXA zXA kXP zXP kXQ zXQ kX1 zX1 kX2 zX2 kX3 zX3 kX4 zX4 kX5 zX5 kX6 zX6
  have qX116 := X1.lt
  have qX216 := X2.lt
  have qX316 := X3.lt
  have qX416 := X4.lt
  have qX516 := X5.lt
  have qX616 := X6.lt
  have qXQ16 := XQ.lt
  have X7 := VB.mk (B := w.heap.size) (a := u3) b0 (.inr O14) bw hbs (by omega)
  have X8 := VB.mk (B := w.heap.size) (a := y1) b1 (.inr O15) bw hbs (by omega)
  replace XA := XA.below bw
  replace XP := XP.below bw
  replace XQ := XQ.below bw
  replace X1 := X1.below bw
  replace X2 := X2.below bw
  replace X3 := X3.below bw
  replace X4 := X4.below bw
  replace X5 := X5.below bw
  replace X6 := X6.below bw
  replace O1 := O1.below bw (Nat.le_refl _)
  replace O2 := O2.below bw (Nat.le_refl _)
  replace O10 := O10.below bw (Nat.le_refl _)
  replace O11 := O11.below bw (Nat.le_refl _)
  replace O12 := O12.below bw (Nat.le_refl _)
  replace O13 := O13.below bw (Nat.le_refl _)
  replace O14 := O14.below bw (Nat.le_refl _)
  replace O15 := O15.below bw (Nat.le_refl _)
  replace WW := WW.trans (bw.mono WW.size)
  clear bw hbs b0 b1
  generalize hV : ((V15.alloc (.cells #[.slice D14 (nw u3) d14] 24)).alloc (.cells #[.slice D15 (nw y1) d15] 24)) = V16 at XA XP XQ X1 X2 X3 X4 X5 X6 X7 X8 O1 O2 O10 O11 O12 O13 O14 O15 WW ⊢
  clear hV
  have kXA := XA.cell
  have zXA := XA.lt
  have kXP := XP.cell
  have zXP := XP.lt
  have kXQ := XQ.cell
  have zXQ := XQ.lt
  have kX1 := X1.cell
  have zX1 := X1.lt
  have kX2 := X2.cell
  have zX2 := X2.lt
  have kX3 := X3.cell
  have zX3 := X3.lt
  have kX4 := X4.cell
  have zX4 := X4.lt
  have kX5 := X5.cell
  have zX5 := X5.lt
  have kX6 := X6.cell
  have zX6 := X6.lt
  have kX7 := X7.cell
  have zX7 := X7.lt
  have kX8 := X8.cell
  have zX8 := X8.lt
  have hbs : w.heap.size ≤ V16.heap.size := WW.size
  have hc := ncrt_any D13 A2 D15 A3 _ _ _ _ d13 c2 d15 c3 a1 p y1 q V16 X6.num XP.num X8.num XQ.num (by omega) (by omega) (by omega) (by omega)
  rw [HV2.out] at hc
  refine hc.mono ?_
  clear hc
  rintro e V17 ⟨v, rfl, hv, hb⟩
  clear kXA zXA kXP zXP kXQ zXQ kX1 zX1 kX2 zX2 kX3 zX3 kX4 zX4 kX5 zX5 kX6 zX6 kX7 zX7 kX8 zX8
  replace XA := XA.below hb
  replace XP := XP.below hb
  replace XQ := XQ.below hb
  replace X1 := X1.below hb
  replace X2 := X2.below hb
  replace X3 := X3.below hb
  replace X4 := X4.below hb
  replace X5 := X5.below hb
  replace X6 := X6.below hb
  replace X7 := X7.below hb
  replace X8 := X8.below hb
  replace O1 := O1.below hb (Nat.le_refl _)
  replace O2 := O2.below hb (Nat.le_refl _)
  replace O10 := O10.below hb (Nat.le_refl _)
  replace O11 := O11.below hb (Nat.le_refl _)
  replace O12 := O12.below hb (Nat.le_refl _)
  replace O13 := O13.below hb (Nat.le_refl _)
  replace O14 := O14.below hb (Nat.le_refl _)
  replace O15 := O15.below hb (Nat.le_refl _)
  replace WW := WW.trans (hb.mono WW.size)
  obtain ⟨D16, d16, rfl, ho⟩ := hv
  have O16 := ho.weak (b := w.heap.size) hbs
  clear ho
  have kXA := XA.cell
  have zXA := XA.lt
  have kXP := XP.cell
  have zXP := XP.lt
  have kXQ := XQ.cell
  have zXQ := XQ.lt
  have kX1 := X1.cell
  have zX1 := X1.lt
  have kX2 := X2.cell
  have zX2 := X2.lt
  have kX3 := X3.cell
  have zX3 := X3.lt
  have kX4 := X4.cell
  have zX4 := X4.lt
  have kX5 := X5.cell
  have zX5 := X5.lt
  have kX6 := X6.cell
  have zX6 := X6.lt
  have kX7 := X7.cell
  have zX7 := X7.lt
  have kX8 := X8.cell
  have zX8 := X8.lt
  clear hb hbs
  go_wp2_with fail
  obtain ⟨b0, bw⟩ := boxes1 V17 (.slice D16 (nw 0) d16)
  have hbs := WW.size
  clear kXA zXA kXP zXP kXQ zXQ kX1 zX1 kX2 zX2 kX3 zX3 kX4 zX4 kX5 zX5 kX6 zX6 kX7 zX7 kX8 zX8
  have qX118 := X1.lt
  have qX218 := X2.lt
  have qX318 := X3.lt
  have qX418 := X4.lt
  have qX518 := X5.lt
  have qX618 := X6.lt
  have qX718 := X7.lt
  have qX818 := X8.lt
  have qXQ18 := XQ.lt
  have X9 := VB.mk (B := w.heap.size) (a := 0) b0 (.inr O16) bw hbs (by omega)
  replace XA := XA.below bw
  replace XP := XP.below bw
  replace XQ := XQ.below bw
  replace X1 := X1.below bw
  replace X2 := X2.below bw
  replace X3 := X3.below bw
  replace X4 := X4.below bw
  replace X5 := X5.below bw
  replace X6 := X6.below bw
  replace X7 := X7.below bw
  replace X8 := X8.below bw
  replace O1 := O1.below bw (Nat.le_refl _)
  replace O2 := O2.below bw (Nat.le_refl _)
  replace O10 := O10.below bw (Nat.le_refl _)
  replace O11 := O11.below bw (Nat.le_refl _)
  replace O12 := O12.below bw (Nat.le_refl _)
  replace O13 := O13.below bw (Nat.le_refl _)
  replace O14 := O14.below bw (Nat.le_refl _)
  replace O15 := O15.below bw (Nat.le_refl _)
  replace O16 := O16.below bw (Nat.le_refl _)
  replace WW := WW.trans (bw.mono WW.size)
  clear bw hbs b0
  have hVS : ((V17.alloc (.cells #[.slice D16 (nw 0) d16] 24))).heap.size = V17.heap.size + 1 := by simp
  generalize hV : (V17.alloc (.cells #[.slice D16 (nw 0) d16] 24)) = V18 at XA XP XQ X1 X2 X3 X4 X5 X6 X7 X8 X9 O1 O2 O10 O11 O12 O13 O14 O15 O16 WW hVS ⊢
  clear hV
  have kXA := XA.cell
  have zXA := XA.lt
  have kXP := XP.cell
  have zXP := XP.lt
  have kXQ := XQ.cell
  have zXQ := XQ.lt
  have kX1 := X1.cell
  have zX1 := X1.lt
  have kX2 := X2.cell
  have zX2 := X2.lt
  have kX3 := X3.cell
  have zX3 := X3.lt
  have kX4 := X4.cell
  have zX4 := X4.lt
  have kX5 := X5.cell
  have zX5 := X5.lt
  have kX6 := X6.cell
  have zX6 := X6.lt
  have kX7 := X7.cell
  have zX7 := X7.lt
  have kX8 := X8.cell
  have zX8 := X8.lt
  have kX9 := X9.cell
  have zX9 := X9.lt
  have HVS := hid hVS
  clear hVS
  have hbs : w.heap.size ≤ V18.heap.size := WW.size
  have hc := equal_one V18 D1 _ d1 gg X1.num (by omega)
  rw [sameB_one] at hc
  rw [GT.out] at hc
  rw [HVS.out] at hc
  refine hc.mono ?_
  clear hc
  rintro e V19 ⟨rfl, hb'⟩
  have hb := hb'
  rw [← HVS.out] at hb
  clear hb'
  clear kXA zXA kXP zXP kXQ zXQ kX1 zX1 kX2 zX2 kX3 zX3 kX4 zX4 kX5 zX5 kX6 zX6 kX7 zX7 kX8 zX8 kX9 zX9
  replace XA := XA.below hb
  replace XP := XP.below hb
  replace XQ := XQ.below hb
  replace X1 := X1.below hb
  replace X2 := X2.below hb
  replace X3 := X3.below hb
  replace X4 := X4.below hb
  replace X5 := X5.below hb
  replace X6 := X6.below hb
  replace X7 := X7.below hb
  replace X8 := X8.below hb
  replace X9 := X9.below hb
  replace O1 := O1.below hb (Nat.le_refl _)
  replace O2 := O2.below hb (Nat.le_refl _)
  replace O10 := O10.below hb (Nat.le_refl _)
  replace O11 := O11.below hb (Nat.le_refl _)
  replace O12 := O12.below hb (Nat.le_refl _)
  replace O13 := O13.below hb (Nat.le_refl _)
  replace O14 := O14.below hb (Nat.le_refl _)
  replace O15 := O15.below hb (Nat.le_refl _)
  replace O16 := O16.below hb (Nat.le_refl _)
  replace WW := WW.trans (hb.mono WW.size)
  have kXA := XA.cell
  have zXA := XA.lt
  have kXP := XP.cell
  have zXP := XP.lt
  have kXQ := XQ.cell
  have zXQ := XQ.lt
  have kX1 := X1.cell
  have zX1 := X1.lt
  have kX2 := X2.cell
  have zX2 := X2.lt
  have kX3 := X3.cell
  have zX3 := X3.lt
  have kX4 := X4.cell
  have zX4 := X4.lt
  have kX5 := X5.cell
  have zX5 := X5.lt
  have kX6 := X6.cell
  have zX6 := X6.lt
  have kX7 := X7.cell
  have zX7 := X7.lt
  have kX8 := X8.cell
  have zX8 := X8.lt
  have kX9 := X9.cell
  have zX9 := X9.lt
  clear hb hbs
  go_wp2_with fail
  go_ret
  exact ⟨rfl, WW⟩

set_option maxHeartbeats 16000000 in
set_option maxRecDepth 100000 in
theorem reml_ok (A A2 A3 : Option Addr) (n k l c1 c2 c3 a p q : Nat) (w : World) (hA : Num w w.heap.size A n a) (hP : Num w w.heap.size A2 k p) (hQ : Num w w.heap.size A3 l q) (hn : n ≤ 9223372036854775807) (hk : k ≤ 9223372036854775807) (hl : l ≤ 9223372036854775807) (hg : n ≤ 14 ∧ k ≤ 14 ∧ l ≤ 14) (h1 : okB n a = true) (h2 : modB k p = true) (h3 : modB l q = true) (h4 : Nat.gcd p q = 1) :
    Calls Try.prog 10 #[.agg #[.slice A n c1], .agg #[.slice A2 k c2], .agg #[.slice A3 l c3]] w (RetB (.bool true) w) := by
  have HG : Hid (decide (n ≤ 14 ∧ k ≤ 14 ∧ l ≤ 14) = true) := decide_eq_true hg
  have z0 : (((nw 0 : Nat) : Int) == 0) = true := rfl
  have z00 : (((nw 0 : Nat) : Int) != 0) = false := rfl
  have n14 := hg.1
  have k14 := hg.2.1
  have l14 := hg.2.2
  have G1 := hid h1
  have M1 : Hid ((if modB k p = true then (0 : Int) else 1) = 0) := (show _ = _ by rw [h2]; rfl)
  have M2 : Hid ((if modB l q = true then (0 : Int) else 1) = 0) := (show _ = _ by rw [h3]; rfl)
  obtain ⟨e1, na⟩ := okB_yes.1 h1
  obtain ⟨e2, np, hp0⟩ := modB_yes h2
  obtain ⟨e3, nq, hq0⟩ := modB_yes h3
  subst e1 e2 e3
  have K2 := hid (okB_nw (Nat.le_trans np (show 32 ≤ 64 by omega)))
  have K3 := hid (okB_nw (Nat.le_trans nq (show 32 ≤ 64 by omega)))
  obtain ⟨g, hg⟩ : ∃ z, z = Nat.gcd p q := ⟨_, rfl⟩
  have HGG := hid hg
  obtain ⟨gg, hgg⟩ : ∃ z, z = Nat.gcd p q := ⟨_, rfl⟩
  have HGG := hid hgg
  have ng : nw gg ≤ 14 := Nat.le_trans (nw_mono (by rw [hgg]; exact Nat.le_of_dvd hp0 (Nat.gcd_dvd_left p q))) k14
  have HV : Hid (gcdV (nw p) p (nw q) q = (gg, 0)) := (show gcdV (nw p) p (nw q) q = (gg, 0) by unfold gcdV; rw [K2.out, K3.out, hgg]; rfl)
  have GT : Hid (decide (gg = 1) = true) := decide_eq_true (by rw [hgg]; exact h4)
  obtain ⟨pq, hpq⟩ : ∃ z, z = p * q := ⟨_, rfl⟩
  have HPQ := hid hpq
  have npq : nw pq ≤ 28 := by rw [hpq]; exact nw_prod (j := 14) (k := 14) k14 l14
  have pq0 : 0 < pq := by rw [hpq]; exact Nat.mul_pos hp0 hq0
  have LPQ := hid (limS_ok (Nat.le_trans npq (show 28 ≤ 64 by omega)))
  have K4 := hid (okB_nw (Nat.le_trans npq (show 28 ≤ 64 by omega)))
  have pqn := nw_pos (show pq ≠ 0 by omega)
  have z9 : (((nw pq : Nat) : Int) == 0) = false := by simp; omega
  have HP0 := hid hp0
  have HQ0 := hid hq0
  obtain ⟨u1, hu1⟩ : ∃ z, z = a / pq := ⟨_, rfl⟩
  have HU1 := hid hu1
  obtain ⟨x, hx⟩ : ∃ z, z = a % pq := ⟨_, rfl⟩
  have HR1 := hid hx
  have HD1 : Hid (divS a pq = (u1, x, 0)) := (show divS a pq = (u1, x, 0) by rw [divS_yes (show ¬ pq = 0 by omega), hu1, hx])
  have nx : nw x ≤ 28 := Nat.le_trans (nw_mono (by rw [hx]; exact Nat.le_of_lt (Nat.mod_lt _ pq0))) (by omega)
  have lx : x < pq := by rw [hx]; exact Nat.mod_lt _ pq0
  obtain ⟨u2, hu2⟩ : ∃ z, z = a / p := ⟨_, rfl⟩
  have HU2 := hid hu2
  obtain ⟨a1, ha1⟩ : ∃ z, z = a % p := ⟨_, rfl⟩
  have HR2 := hid ha1
  have HD2 : Hid (divS a p = (u2, a1, 0)) := (show divS a p = (u2, a1, 0) by rw [divS_yes (show ¬ p = 0 by omega), hu2, ha1])
  have na1 : nw a1 ≤ 28 := Nat.le_trans (nw_mono (by rw [ha1]; exact Nat.le_of_lt (Nat.mod_lt _ hp0))) (by omega)
  have la1 : a1 < p := by rw [ha1]; exact Nat.mod_lt _ hp0
  obtain ⟨u3, hu3⟩ : ∃ z, z = a / q := ⟨_, rfl⟩
  have HU3 := hid hu3
  obtain ⟨y1, hy1⟩ : ∃ z, z = a % q := ⟨_, rfl⟩
  have HR3 := hid hy1
  have HD3 : Hid (divS a q = (u3, y1, 0)) := (show divS a q = (u3, y1, 0) by rw [divS_yes (show ¬ q = 0 by omega), hu3, hy1])
  have ny1 : nw y1 ≤ 28 := Nat.le_trans (nw_mono (by rw [hy1]; exact Nat.le_of_lt (Nat.mod_lt _ hq0))) (by omega)
  have ly1 : y1 < q := by rw [hy1]; exact Nat.mod_lt _ hq0
  have HV2 : Hid (crtV (nw a1) a1 (nw p) p (nw y1) y1 (nw q) q = (x, 0)) := (show _ = (x, 0) by rw [crtV_deep np nq la1 ly1, if_pos h4, if_pos (by rw [← hpq]; omega), ha1, hy1, crt_rem hp0 hq0 h4, hx, hpq])
  clear hgg hpq hu1 hx hu2 ha1 hu3 hy1 pq0 lx la1 ly1 hp0 hq0
  clear h1 h2 h3 h4 hg
  obtain ⟨b0, b1, b2, bw⟩ := boxes3 w (.slice A (nw a) c1) (.slice A2 (nw p) c2) (.slice A3 (nw q) c3)
  have XA := VB.mk (B := w.heap.size) (a := a) b0 (.inl hA) bw (Nat.le_refl _) (by omega)
  have XP := VB.mk (B := w.heap.size) (a := p) b1 (.inl hP) bw (Nat.le_refl _) (by omega)
  have XQ := VB.mk (B := w.heap.size) (a := q) b2 (.inl hQ) bw (Nat.le_refl _) (by omega)
  have WW := bw
  clear bw b0 b1 b2
  go_enter Try.func10, Try.ntmps10
  go_wp2_with fail
  generalize hV : (((w.alloc (.cells #[.slice A (nw a) c1] 24)).alloc (.cells #[.slice A2 (nw p) c2] 24)).alloc (.cells #[.slice A3 (nw q) c3] 24)) = V0 at XA XP XQ WW ⊢
  clear hV
  have hbs : w.heap.size ≤ V0.heap.size := WW.size
  have hc := awake_any V0
  refine hc.mono ?_
  clear hc
  rintro e V1 ⟨rfl, hb⟩
  replace XA := XA.below hb
  replace XP := XP.below hb
  replace XQ := XQ.below hb
  replace WW := WW.trans (hb.mono WW.size)
  have kXA := XA.cell
  have zXA := XA.lt
  have kXP := XP.cell
  have zXP := XP.lt
  have kXQ := XQ.cell
  have zXQ := XQ.lt
  clear hb hbs
  go_wp2_with fail
  have hbs : w.heap.size ≤ V1.heap.size := WW.size
  have hc := few_n3 14 (by omega) V1 A A2 A3 (nw a) (nw p) (nw q) c1 c2 c3 (by omega) (by omega) (by omega)
  rw [HG.out] at hc
  refine hc.mono ?_
  clear hc
  rintro e V2 ⟨rfl, hb⟩
  clear kXA zXA kXP zXP kXQ zXQ
  replace XA := XA.below hb
  replace XP := XP.below hb
  replace XQ := XQ.below hb
  replace WW := WW.trans (hb.mono WW.size)
  have kXA := XA.cell
  have zXA := XA.lt
  have kXP := XP.cell
  have zXP := XP.lt
  have kXQ := XQ.cell
  have zXQ := XQ.lt
  clear hb hbs
  go_wp2_with fail
  have hbs : w.heap.size ≤ V2.heap.size := WW.size
  have hc := rvalid_any A _ c1 a _ V2 XA.num (Nat.le_refl _) (by omega)
  rw [G1.out] at hc
  refine hc.mono ?_
  clear hc
  rintro e V3 ⟨rfl, hb⟩
  clear kXA zXA kXP zXP kXQ zXQ
  replace XA := XA.below hb
  replace XP := XP.below hb
  replace XQ := XQ.below hb
  replace WW := WW.trans (hb.mono WW.size)
  have kXA := XA.cell
  have zXA := XA.lt
  have kXP := XP.cell
  have zXP := XP.lt
  have kXQ := XQ.cell
  have zXQ := XQ.lt
  clear hb hbs
  go_wp2_with fail
  have hbs : w.heap.size ≤ V3.heap.size := WW.size
  have hc := first_a0 V3 _ p c2 A2 XP.num (by omega)
  rw [M1.out] at hc
  refine hc.mono ?_
  clear hc
  rintro e V4 ⟨rfl, hb⟩
  clear kXA zXA kXP zXP kXQ zXQ
  replace XA := XA.below hb
  replace XP := XP.below hb
  replace XQ := XQ.below hb
  replace WW := WW.trans (hb.mono WW.size)
  have kXA := XA.cell
  have zXA := XA.lt
  have kXP := XP.cell
  have zXP := XP.lt
  have kXQ := XQ.cell
  have zXQ := XQ.lt
  clear hb hbs
  go_wp2_with fail
  have hbs : w.heap.size ≤ V4.heap.size := WW.size
  have hc := first_a0 V4 _ q c3 A3 XQ.num (by omega)
  rw [M2.out] at hc
  refine hc.mono ?_
  clear hc
  rintro e V5 ⟨rfl, hb⟩
  clear kXA zXA kXP zXP kXQ zXQ
  replace XA := XA.below hb
  replace XP := XP.below hb
  replace XQ := XQ.below hb
  replace WW := WW.trans (hb.mono WW.size)
  have kXA := XA.cell
  have zXA := XA.lt
  have kXP := XP.cell
  have zXP := XP.lt
  have kXQ := XQ.cell
  have zXQ := XQ.lt
  clear hb hbs
  go_wp2_with fail
  have hbs : w.heap.size ≤ V5.heap.size := WW.size
  have hc := ngcd_any A2 A3 _ _ c2 c3 p q V5 XP.num XQ.num (by omega) (by omega)
  rw [HV.out] at hc
  refine hc.mono ?_
  clear hc
  rintro e V6 ⟨v, rfl, hv, hb⟩
  clear kXA zXA kXP zXP kXQ zXQ
  replace XA := XA.below hb
  replace XP := XP.below hb
  replace XQ := XQ.below hb
  replace WW := WW.trans (hb.mono WW.size)
  obtain ⟨D1, d1, rfl, ho⟩ := hv
  have O1 := ho.weak (b := w.heap.size) hbs
  clear ho
  have kXA := XA.cell
  have zXA := XA.lt
  have kXP := XP.cell
  have zXP := XP.lt
  have kXQ := XQ.cell
  have zXQ := XQ.lt
  clear hb hbs
  go_wp2_with fail
  obtain ⟨b0, bw⟩ := boxes1 V6 (.slice D1 (nw gg) d1)
  have hbs := WW.size
  clear kXA zXA kXP zXP kXQ zXQ
  have qXQ7 := XQ.lt
  have X1 := VB.mk (B := w.heap.size) (a := gg) b0 (.inr O1) bw hbs (by omega)
  replace XA := XA.below bw
  replace XP := XP.below bw
  replace XQ := XQ.below bw
  replace O1 := O1.below bw (Nat.le_refl _)
  replace WW := WW.trans (bw.mono WW.size)
  clear bw hbs b0
  generalize hV : (V6.alloc (.cells #[.slice D1 (nw gg) d1] 24)) = V7 at XA XP XQ X1 O1 WW ⊢
  clear hV
  have kXA := XA.cell
  have zXA := XA.lt
  have kXP := XP.cell
  have zXP := XP.lt
  have kXQ := XQ.cell
  have zXQ := XQ.lt
  have kX1 := X1.cell
  have zX1 := X1.lt
  have hbs : w.heap.size ≤ V7.heap.size := WW.size
  have hc := mul_any A2 A3 _ _ c2 c3 p q V7 XP.num XQ.num (by omega) (by omega)
  rw [bothS_yes K2.out K3.out] at hc
  rw [← HPQ.out] at hc
  rw [LPQ.out] at hc
  refine hc.mono ?_
  clear hc
  rintro e V8 ⟨v, rfl, hv, hb⟩
  clear kXA zXA kXP zXP kXQ zXQ kX1 zX1
  replace XA := XA.below hb
  replace XP := XP.below hb
  replace XQ := XQ.below hb
  replace X1 := X1.below hb
  replace O1 := O1.below hb (Nat.le_refl _)
  replace WW := WW.trans (hb.mono WW.size)
  obtain ⟨D2, d2, rfl, ho⟩ := hv
  have O2 := ho.weak (b := w.heap.size) hbs
  clear ho
  have kXA := XA.cell
  have zXA := XA.lt
  have kXP := XP.cell
  have zXP := XP.lt
  have kXQ := XQ.cell
  have zXQ := XQ.lt
  have kX1 := X1.cell
  have zX1 := X1.lt
  clear hb hbs
  go_wp2_with fail
  obtain ⟨b0, bw⟩ := boxes1 V8 (.slice D2 (nw pq) d2)
  have hbs := WW.size
  clear kXA zXA kXP zXP kXQ zXQ kX1 zX1
  have qX19 := X1.lt
  have qXQ9 := XQ.lt
  have X2 := VB.mk (B := w.heap.size) (a := pq) b0 (.inr O2) bw hbs (by omega)
  replace XA := XA.below bw
  replace XP := XP.below bw
  replace XQ := XQ.below bw
  replace X1 := X1.below bw
  replace O1 := O1.below bw (Nat.le_refl _)
  replace O2 := O2.below bw (Nat.le_refl _)
  replace WW := WW.trans (bw.mono WW.size)
  clear bw hbs b0
  generalize hV : (V8.alloc (.cells #[.slice D2 (nw pq) d2] 24)) = V9 at XA XP XQ X1 X2 O1 O2 WW ⊢
  clear hV
  have kXA := XA.cell
  have zXA := XA.lt
  have kXP := XP.cell
  have zXP := XP.lt
  have kXQ := XQ.cell
  have zXQ := XQ.lt
  have kX1 := X1.cell
  have zX1 := X1.lt
  have kX2 := X2.cell
  have zX2 := X2.lt
  have hbs : w.heap.size ≤ V9.heap.size := WW.size
  have hc := rvalid_any D2 _ d2 pq _ V9 X2.num (Nat.le_refl _) (by omega)
  rw [K4.out] at hc
  refine hc.mono ?_
  clear hc
  rintro e V10 ⟨rfl, hb⟩
  clear kXA zXA kXP zXP kXQ zXQ kX1 zX1 kX2 zX2
  replace XA := XA.below hb
  replace XP := XP.below hb
  replace XQ := XQ.below hb
  replace X1 := X1.below hb
  replace X2 := X2.below hb
  replace O1 := O1.below hb (Nat.le_refl _)
  replace O2 := O2.below hb (Nat.le_refl _)
  replace WW := WW.trans (hb.mono WW.size)
  have kXA := XA.cell
  have zXA := XA.lt
  have kXP := XP.cell
  have zXP := XP.lt
  have kXQ := XQ.cell
  have zXQ := XQ.lt
  have kX1 := X1.cell
  have zX1 := X1.lt
  have kX2 := X2.cell
  have zX2 := X2.lt
  clear hb hbs
  go_wp2_with fail
  have hbs : w.heap.size ≤ V10.heap.size := WW.size
  have hc := div_any A D2 _ _ c1 d2 a pq V10 XA.num X2.num (by omega) (by omega)
  rw [bothD_yes G1.out K4.out] at hc
  rw [HD1.out] at hc
  refine hc.mono ?_
  clear hc
  rintro e V11 ⟨v, u', rfl, hv, hu, hb⟩
  clear kXA zXA kXP zXP kXQ zXQ kX1 zX1 kX2 zX2
  replace XA := XA.below hb
  replace XP := XP.below hb
  replace XQ := XQ.below hb
  replace X1 := X1.below hb
  replace X2 := X2.below hb
  replace O1 := O1.below hb (Nat.le_refl _)
  replace O2 := O2.below hb (Nat.le_refl _)
  replace WW := WW.trans (hb.mono WW.size)
  obtain ⟨D10, d10, rfl, ho⟩ := hv
  have O10 := ho.weak (b := w.heap.size) hbs
  obtain ⟨D11, d11, rfl, ho'⟩ := hu
  have O11 := ho'.weak (b := w.heap.size) hbs
  clear ho ho'
  have kXA := XA.cell
  have zXA := XA.lt
  have kXP := XP.cell
  have zXP := XP.lt
  have kXQ := XQ.cell
  have zXQ := XQ.lt
  have kX1 := X1.cell
  have zX1 := X1.lt
  have kX2 := X2.cell
  have zX2 := X2.lt
  clear hb hbs
  go_wp2_with fail
  obtain ⟨b0, b1, bw⟩ := boxes2 V11 (.slice D10 (nw u1) d10) (.slice D11 (nw x) d11)
  have hbs := WW.size
  clear kXA zXA kXP zXP kXQ zXQ kX1 zX1 kX2 zX2
  have qX112 := X1.lt
  have qX212 := X2.lt
  have qXQ12 := XQ.lt
  have X3 := VB.mk (B := w.heap.size) (a := u1) b0 (.inr O10) bw hbs (by omega)
  have X4 := VB.mk (B := w.heap.size) (a := x) b1 (.inr O11) bw hbs (by omega)
  replace XA := XA.below bw
  replace XP := XP.below bw
  replace XQ := XQ.below bw
  replace X1 := X1.below bw
  replace X2 := X2.below bw
  replace O1 := O1.below bw (Nat.le_refl _)
  replace O2 := O2.below bw (Nat.le_refl _)
  replace O10 := O10.below bw (Nat.le_refl _)
  replace O11 := O11.below bw (Nat.le_refl _)
  replace WW := WW.trans (bw.mono WW.size)
  clear bw hbs b0 b1
  generalize hV : ((V11.alloc (.cells #[.slice D10 (nw u1) d10] 24)).alloc (.cells #[.slice D11 (nw x) d11] 24)) = V12 at XA XP XQ X1 X2 X3 X4 O1 O2 O10 O11 WW ⊢
  clear hV
  have kXA := XA.cell
  have zXA := XA.lt
  have kXP := XP.cell
  have zXP := XP.lt
  have kXQ := XQ.cell
  have zXQ := XQ.lt
  have kX1 := X1.cell
  have zX1 := X1.lt
  have kX2 := X2.cell
  have zX2 := X2.lt
  have kX3 := X3.cell
  have zX3 := X3.lt
  have kX4 := X4.cell
  have zX4 := X4.lt
  have hbs : w.heap.size ≤ V12.heap.size := WW.size
  have hc := div_any A A2 _ _ c1 c2 a p V12 XA.num XP.num (by omega) (by omega)
  rw [bothD_yes G1.out K2.out] at hc
  rw [HD2.out] at hc
  refine hc.mono ?_
  clear hc
  rintro e V13 ⟨v, u', rfl, hv, hu, hb⟩
  clear kXA zXA kXP zXP kXQ zXQ kX1 zX1 kX2 zX2 kX3 zX3 kX4 zX4
  replace XA := XA.below hb
  replace XP := XP.below hb
  replace XQ := XQ.below hb
  replace X1 := X1.below hb
  replace X2 := X2.below hb
  replace X3 := X3.below hb
  replace X4 := X4.below hb
  replace O1 := O1.below hb (Nat.le_refl _)
  replace O2 := O2.below hb (Nat.le_refl _)
  replace O10 := O10.below hb (Nat.le_refl _)
  replace O11 := O11.below hb (Nat.le_refl _)
  replace WW := WW.trans (hb.mono WW.size)
  obtain ⟨D12, d12, rfl, ho⟩ := hv
  have O12 := ho.weak (b := w.heap.size) hbs
  obtain ⟨D13, d13, rfl, ho'⟩ := hu
  have O13 := ho'.weak (b := w.heap.size) hbs
  clear ho ho'
  have kXA := XA.cell
  have zXA := XA.lt
  have kXP := XP.cell
  have zXP := XP.lt
  have kXQ := XQ.cell
  have zXQ := XQ.lt
  have kX1 := X1.cell
  have zX1 := X1.lt
  have kX2 := X2.cell
  have zX2 := X2.lt
  have kX3 := X3.cell
  have zX3 := X3.lt
  have kX4 := X4.cell
  have zX4 := X4.lt
  clear hb hbs
  go_wp2_with fail
  obtain ⟨b0, b1, bw⟩ := boxes2 V13 (.slice D12 (nw u2) d12) (.slice D13 (nw a1) d13)
  have hbs := WW.size
  clear kXA zXA kXP zXP kXQ zXQ kX1 zX1 kX2 zX2 kX3 zX3 kX4 zX4
  have qX114 := X1.lt
  have qX214 := X2.lt
  have qX314 := X3.lt
  have qX414 := X4.lt
  have qXQ14 := XQ.lt
  have X5 := VB.mk (B := w.heap.size) (a := u2) b0 (.inr O12) bw hbs (by omega)
  have X6 := VB.mk (B := w.heap.size) (a := a1) b1 (.inr O13) bw hbs (by omega)
  replace XA := XA.below bw
  replace XP := XP.below bw
  replace XQ := XQ.below bw
  replace X1 := X1.below bw
  replace X2 := X2.below bw
  replace X3 := X3.below bw
  replace X4 := X4.below bw
  replace O1 := O1.below bw (Nat.le_refl _)
  replace O2 := O2.below bw (Nat.le_refl _)
  replace O10 := O10.below bw (Nat.le_refl _)
  replace O11 := O11.below bw (Nat.le_refl _)
  replace O12 := O12.below bw (Nat.le_refl _)
  replace O13 := O13.below bw (Nat.le_refl _)
  replace WW := WW.trans (bw.mono WW.size)
  clear bw hbs b0 b1
  generalize hV : ((V13.alloc (.cells #[.slice D12 (nw u2) d12] 24)).alloc (.cells #[.slice D13 (nw a1) d13] 24)) = V14 at XA XP XQ X1 X2 X3 X4 X5 X6 O1 O2 O10 O11 O12 O13 WW ⊢
  clear hV
  have kXA := XA.cell
  have zXA := XA.lt
  have kXP := XP.cell
  have zXP := XP.lt
  have kXQ := XQ.cell
  have zXQ := XQ.lt
  have kX1 := X1.cell
  have zX1 := X1.lt
  have kX2 := X2.cell
  have zX2 := X2.lt
  have kX3 := X3.cell
  have zX3 := X3.lt
  have kX4 := X4.cell
  have zX4 := X4.lt
  have kX5 := X5.cell
  have zX5 := X5.lt
  have kX6 := X6.cell
  have zX6 := X6.lt
  have hbs : w.heap.size ≤ V14.heap.size := WW.size
  have hc := div_any A A3 _ _ c1 c3 a q V14 XA.num XQ.num (by omega) (by omega)
  rw [bothD_yes G1.out K3.out] at hc
  rw [HD3.out] at hc
  refine hc.mono ?_
  clear hc
  rintro e V15 ⟨v, u', rfl, hv, hu, hb⟩
  clear kXA zXA kXP zXP kXQ zXQ kX1 zX1 kX2 zX2 kX3 zX3 kX4 zX4 kX5 zX5 kX6 zX6
  replace XA := XA.below hb
  replace XP := XP.below hb
  replace XQ := XQ.below hb
  replace X1 := X1.below hb
  replace X2 := X2.below hb
  replace X3 := X3.below hb
  replace X4 := X4.below hb
  replace X5 := X5.below hb
  replace X6 := X6.below hb
  replace O1 := O1.below hb (Nat.le_refl _)
  replace O2 := O2.below hb (Nat.le_refl _)
  replace O10 := O10.below hb (Nat.le_refl _)
  replace O11 := O11.below hb (Nat.le_refl _)
  replace O12 := O12.below hb (Nat.le_refl _)
  replace O13 := O13.below hb (Nat.le_refl _)
  replace WW := WW.trans (hb.mono WW.size)
  obtain ⟨D14, d14, rfl, ho⟩ := hv
  have O14 := ho.weak (b := w.heap.size) hbs
  obtain ⟨D15, d15, rfl, ho'⟩ := hu
  have O15 := ho'.weak (b := w.heap.size) hbs
  clear ho ho'
  have kXA := XA.cell
  have zXA := XA.lt
  have kXP := XP.cell
  have zXP := XP.lt
  have kXQ := XQ.cell
  have zXQ := XQ.lt
  have kX1 := X1.cell
  have zX1 := X1.lt
  have kX2 := X2.cell
  have zX2 := X2.lt
  have kX3 := X3.cell
  have zX3 := X3.lt
  have kX4 := X4.cell
  have zX4 := X4.lt
  have kX5 := X5.cell
  have zX5 := X5.lt
  have kX6 := X6.cell
  have zX6 := X6.lt
  clear hb hbs
  go_wp2_with fail
  obtain ⟨b0, b1, bw⟩ := boxes2 V15 (.slice D14 (nw u3) d14) (.slice D15 (nw y1) d15)
  have hbs := WW.size
  clear kXA zXA kXP zXP kXQ zXQ kX1 zX1 kX2 zX2 kX3 zX3 kX4 zX4 kX5 zX5 kX6 zX6
  have qX116 := X1.lt
  have qX216 := X2.lt
  have qX316 := X3.lt
  have qX416 := X4.lt
  have qX516 := X5.lt
  have qX616 := X6.lt
  have qXQ16 := XQ.lt
  have X7 := VB.mk (B := w.heap.size) (a := u3) b0 (.inr O14) bw hbs (by omega)
  have X8 := VB.mk (B := w.heap.size) (a := y1) b1 (.inr O15) bw hbs (by omega)
  replace XA := XA.below bw
  replace XP := XP.below bw
  replace XQ := XQ.below bw
  replace X1 := X1.below bw
  replace X2 := X2.below bw
  replace X3 := X3.below bw
  replace X4 := X4.below bw
  replace X5 := X5.below bw
  replace X6 := X6.below bw
  replace O1 := O1.below bw (Nat.le_refl _)
  replace O2 := O2.below bw (Nat.le_refl _)
  replace O10 := O10.below bw (Nat.le_refl _)
  replace O11 := O11.below bw (Nat.le_refl _)
  replace O12 := O12.below bw (Nat.le_refl _)
  replace O13 := O13.below bw (Nat.le_refl _)
  replace O14 := O14.below bw (Nat.le_refl _)
  replace O15 := O15.below bw (Nat.le_refl _)
  replace WW := WW.trans (bw.mono WW.size)
  clear bw hbs b0 b1
  generalize hV : ((V15.alloc (.cells #[.slice D14 (nw u3) d14] 24)).alloc (.cells #[.slice D15 (nw y1) d15] 24)) = V16 at XA XP XQ X1 X2 X3 X4 X5 X6 X7 X8 O1 O2 O10 O11 O12 O13 O14 O15 WW ⊢
  clear hV
  have kXA := XA.cell
  have zXA := XA.lt
  have kXP := XP.cell
  have zXP := XP.lt
  have kXQ := XQ.cell
  have zXQ := XQ.lt
  have kX1 := X1.cell
  have zX1 := X1.lt
  have kX2 := X2.cell
  have zX2 := X2.lt
  have kX3 := X3.cell
  have zX3 := X3.lt
  have kX4 := X4.cell
  have zX4 := X4.lt
  have kX5 := X5.cell
  have zX5 := X5.lt
  have kX6 := X6.cell
  have zX6 := X6.lt
  have kX7 := X7.cell
  have zX7 := X7.lt
  have kX8 := X8.cell
  have zX8 := X8.lt
  have hbs : w.heap.size ≤ V16.heap.size := WW.size
  have hc := ncrt_any D13 A2 D15 A3 _ _ _ _ d13 c2 d15 c3 a1 p y1 q V16 X6.num XP.num X8.num XQ.num (by omega) (by omega) (by omega) (by omega)
  rw [HV2.out] at hc
  refine hc.mono ?_
  clear hc
  rintro e V17 ⟨v, rfl, hv, hb⟩
  clear kXA zXA kXP zXP kXQ zXQ kX1 zX1 kX2 zX2 kX3 zX3 kX4 zX4 kX5 zX5 kX6 zX6 kX7 zX7 kX8 zX8
  replace XA := XA.below hb
  replace XP := XP.below hb
  replace XQ := XQ.below hb
  replace X1 := X1.below hb
  replace X2 := X2.below hb
  replace X3 := X3.below hb
  replace X4 := X4.below hb
  replace X5 := X5.below hb
  replace X6 := X6.below hb
  replace X7 := X7.below hb
  replace X8 := X8.below hb
  replace O1 := O1.below hb (Nat.le_refl _)
  replace O2 := O2.below hb (Nat.le_refl _)
  replace O10 := O10.below hb (Nat.le_refl _)
  replace O11 := O11.below hb (Nat.le_refl _)
  replace O12 := O12.below hb (Nat.le_refl _)
  replace O13 := O13.below hb (Nat.le_refl _)
  replace O14 := O14.below hb (Nat.le_refl _)
  replace O15 := O15.below hb (Nat.le_refl _)
  replace WW := WW.trans (hb.mono WW.size)
  obtain ⟨D16, d16, rfl, ho⟩ := hv
  have O16 := ho.weak (b := w.heap.size) hbs
  clear ho
  have kXA := XA.cell
  have zXA := XA.lt
  have kXP := XP.cell
  have zXP := XP.lt
  have kXQ := XQ.cell
  have zXQ := XQ.lt
  have kX1 := X1.cell
  have zX1 := X1.lt
  have kX2 := X2.cell
  have zX2 := X2.lt
  have kX3 := X3.cell
  have zX3 := X3.lt
  have kX4 := X4.cell
  have zX4 := X4.lt
  have kX5 := X5.cell
  have zX5 := X5.lt
  have kX6 := X6.cell
  have zX6 := X6.lt
  have kX7 := X7.cell
  have zX7 := X7.lt
  have kX8 := X8.cell
  have zX8 := X8.lt
  clear hb hbs
  go_wp2_with fail
  obtain ⟨b0, bw⟩ := boxes1 V17 (.slice D16 (nw x) d16)
  have hbs := WW.size
  clear kXA zXA kXP zXP kXQ zXQ kX1 zX1 kX2 zX2 kX3 zX3 kX4 zX4 kX5 zX5 kX6 zX6 kX7 zX7 kX8 zX8
  have qX118 := X1.lt
  have qX218 := X2.lt
  have qX318 := X3.lt
  have qX418 := X4.lt
  have qX518 := X5.lt
  have qX618 := X6.lt
  have qX718 := X7.lt
  have qX818 := X8.lt
  have qXQ18 := XQ.lt
  have X9 := VB.mk (B := w.heap.size) (a := x) b0 (.inr O16) bw hbs (by omega)
  replace XA := XA.below bw
  replace XP := XP.below bw
  replace XQ := XQ.below bw
  replace X1 := X1.below bw
  replace X2 := X2.below bw
  replace X3 := X3.below bw
  replace X4 := X4.below bw
  replace X5 := X5.below bw
  replace X6 := X6.below bw
  replace X7 := X7.below bw
  replace X8 := X8.below bw
  replace O1 := O1.below bw (Nat.le_refl _)
  replace O2 := O2.below bw (Nat.le_refl _)
  replace O10 := O10.below bw (Nat.le_refl _)
  replace O11 := O11.below bw (Nat.le_refl _)
  replace O12 := O12.below bw (Nat.le_refl _)
  replace O13 := O13.below bw (Nat.le_refl _)
  replace O14 := O14.below bw (Nat.le_refl _)
  replace O15 := O15.below bw (Nat.le_refl _)
  replace O16 := O16.below bw (Nat.le_refl _)
  replace WW := WW.trans (bw.mono WW.size)
  clear bw hbs b0
  have hVS : ((V17.alloc (.cells #[.slice D16 (nw x) d16] 24))).heap.size = V17.heap.size + 1 := by simp
  generalize hV : (V17.alloc (.cells #[.slice D16 (nw x) d16] 24)) = V18 at XA XP XQ X1 X2 X3 X4 X5 X6 X7 X8 X9 O1 O2 O10 O11 O12 O13 O14 O15 O16 WW hVS ⊢
  clear hV
  have kXA := XA.cell
  have zXA := XA.lt
  have kXP := XP.cell
  have zXP := XP.lt
  have kXQ := XQ.cell
  have zXQ := XQ.lt
  have kX1 := X1.cell
  have zX1 := X1.lt
  have kX2 := X2.cell
  have zX2 := X2.lt
  have kX3 := X3.cell
  have zX3 := X3.lt
  have kX4 := X4.cell
  have zX4 := X4.lt
  have kX5 := X5.cell
  have zX5 := X5.lt
  have kX6 := X6.cell
  have zX6 := X6.lt
  have kX7 := X7.cell
  have zX7 := X7.lt
  have kX8 := X8.cell
  have zX8 := X8.lt
  have kX9 := X9.cell
  have zX9 := X9.lt
  have HVS := hid hVS
  clear hVS
  have hbs : w.heap.size ≤ V18.heap.size := WW.size
  have hc := equal_one V18 D1 _ d1 gg X1.num (by omega)
  rw [sameB_one] at hc
  rw [GT.out] at hc
  rw [HVS.out] at hc
  refine hc.mono ?_
  clear hc
  rintro e V19 ⟨rfl, hb'⟩
  have hb := hb'
  rw [← HVS.out] at hb
  clear hb'
  clear kXA zXA kXP zXP kXQ zXQ kX1 zX1 kX2 zX2 kX3 zX3 kX4 zX4 kX5 zX5 kX6 zX6 kX7 zX7 kX8 zX8 kX9 zX9
  replace XA := XA.below hb
  replace XP := XP.below hb
  replace XQ := XQ.below hb
  replace X1 := X1.below hb
  replace X2 := X2.below hb
  replace X3 := X3.below hb
  replace X4 := X4.below hb
  replace X5 := X5.below hb
  replace X6 := X6.below hb
  replace X7 := X7.below hb
  replace X8 := X8.below hb
  replace X9 := X9.below hb
  replace O1 := O1.below hb (Nat.le_refl _)
  replace O2 := O2.below hb (Nat.le_refl _)
  replace O10 := O10.below hb (Nat.le_refl _)
  replace O11 := O11.below hb (Nat.le_refl _)
  replace O12 := O12.below hb (Nat.le_refl _)
  replace O13 := O13.below hb (Nat.le_refl _)
  replace O14 := O14.below hb (Nat.le_refl _)
  replace O15 := O15.below hb (Nat.le_refl _)
  replace O16 := O16.below hb (Nat.le_refl _)
  replace WW := WW.trans (hb.mono WW.size)
  have kXA := XA.cell
  have zXA := XA.lt
  have kXP := XP.cell
  have zXP := XP.lt
  have kXQ := XQ.cell
  have zXQ := XQ.lt
  have kX1 := X1.cell
  have zX1 := X1.lt
  have kX2 := X2.cell
  have zX2 := X2.lt
  have kX3 := X3.cell
  have zX3 := X3.lt
  have kX4 := X4.cell
  have zX4 := X4.lt
  have kX5 := X5.cell
  have zX5 := X5.lt
  have kX6 := X6.cell
  have zX6 := X6.lt
  have kX7 := X7.cell
  have zX7 := X7.lt
  have kX8 := X8.cell
  have zX8 := X8.lt
  have kX9 := X9.cell
  have zX9 := X9.lt
  clear hb hbs
  go_wp2_with fail
  have hbs : w.heap.size ≤ V19.heap.size := WW.size
  have hc := same3_any D11 D16 _ _ d11 d16 x x V19 X4.num X9.num (by omega) (by omega)
  rw [sameB_yes] at hc
  refine hc.mono ?_
  clear hc
  rintro e V20 ⟨rfl, hb⟩
  clear kXA zXA kXP zXP kXQ zXQ kX1 zX1 kX2 zX2 kX3 zX3 kX4 zX4 kX5 zX5 kX6 zX6 kX7 zX7 kX8 zX8 kX9 zX9
  replace XA := XA.below hb
  replace XP := XP.below hb
  replace XQ := XQ.below hb
  replace X1 := X1.below hb
  replace X2 := X2.below hb
  replace X3 := X3.below hb
  replace X4 := X4.below hb
  replace X5 := X5.below hb
  replace X6 := X6.below hb
  replace X7 := X7.below hb
  replace X8 := X8.below hb
  replace X9 := X9.below hb
  replace O1 := O1.below hb (Nat.le_refl _)
  replace O2 := O2.below hb (Nat.le_refl _)
  replace O10 := O10.below hb (Nat.le_refl _)
  replace O11 := O11.below hb (Nat.le_refl _)
  replace O12 := O12.below hb (Nat.le_refl _)
  replace O13 := O13.below hb (Nat.le_refl _)
  replace O14 := O14.below hb (Nat.le_refl _)
  replace O15 := O15.below hb (Nat.le_refl _)
  replace O16 := O16.below hb (Nat.le_refl _)
  replace WW := WW.trans (hb.mono WW.size)
  have kXA := XA.cell
  have zXA := XA.lt
  have kXP := XP.cell
  have zXP := XP.lt
  have kXQ := XQ.cell
  have zXQ := XQ.lt
  have kX1 := X1.cell
  have zX1 := X1.lt
  have kX2 := X2.cell
  have zX2 := X2.lt
  have kX3 := X3.cell
  have zX3 := X3.lt
  have kX4 := X4.cell
  have zX4 := X4.lt
  have kX5 := X5.cell
  have zX5 := X5.lt
  have kX6 := X6.cell
  have zX6 := X6.lt
  have kX7 := X7.cell
  have zX7 := X7.lt
  have kX8 := X8.cell
  have zX8 := X8.lt
  have kX9 := X9.cell
  have zX9 := X9.lt
  clear hb hbs
  go_wp2_with fail
  go_ret
  exact ⟨rfl, WW⟩

theorem natmodRemainders_walk (A A2 A3 : Option Addr) (n k l c1 c2 c3 a p q : Nat) (w : World) (hA : Num w w.heap.size A n a) (hP : Num w w.heap.size A2 k p) (hQ : Num w w.heap.size A3 l q) (hn : n ≤ 9223372036854775807) (hk : k ≤ 9223372036854775807) (hl : l ≤ 9223372036854775807) :
    Calls Try.prog 10 #[.agg #[.slice A n c1], .agg #[.slice A2 k c2], .agg #[.slice A3 l c3]] w (RetB (.bool true) w) := by
  by_cases hg : n ≤ 14 ∧ k ≤ 14 ∧ l ≤ 14
  · cases h1 : okB n a
    · exact reml_far2 A A2 A3 n k l c1 c2 c3 a p q w hA hP hQ hn hk hl hg h1
    cases h2 : modB k p
    · exact reml_far3 A A2 A3 n k l c1 c2 c3 a p q w hA hP hQ hn hk hl hg h1 h2
    cases h3 : modB l q
    · exact reml_far4 A A2 A3 n k l c1 c2 c3 a p q w hA hP hQ hn hk hl hg h1 h2 h3
    by_cases h4 : Nat.gcd p q = 1
    · exact reml_ok A A2 A3 n k l c1 c2 c3 a p q w hA hP hQ hn hk hl hg h1 h2 h3 h4
    · exact reml_z A A2 A3 n k l c1 c2 c3 a p q w hA hP hQ hn hk hl hg h1 h2 h3 h4
  · exact reml_far1 A A2 A3 n k l c1 c2 c3 a p q w hA hP hQ hn hk hl hg

end Go.Proofs.Ytckajjapockonaa
