/- The long division of words. -/
import Derived.Test.YtomkmkjkeihodaaDoorReduce
set_option linter.unusedVariables false
set_option linter.unusedSimpArgs false
namespace Go.Proofs.YtomkmkjkeihodaaDoor
open Go.RowKit

theorem bitLenAux_spec : ∀ (f x : Nat), x < 2 ^ f → 0 < x → 1 ≤ Lib.bitLenAux f x ∧ Lib.bitLenAux f x ≤ f ∧ 2 ^ (Lib.bitLenAux f x - 1) ≤ x ∧ x < 2 ^ Lib.bitLenAux f x
  | 0, x, h, h0 => by simp at h; omega
  | f + 1, x, h, h0 => by
    unfold Lib.bitLenAux
    rw [if_neg (by omega)]
    by_cases hx : x / 2 = 0
    · have : x = 1 := by omega
      subst this
      have e : Lib.bitLenAux f (1 / 2) = 0 := by cases f <;> simp [Lib.bitLenAux]
      rw [e]
      simp
    · obtain ⟨a, b, c, d⟩ := bitLenAux_spec f (x / 2) (by rw [Nat.pow_succ] at h; omega) (by omega)
      generalize Lib.bitLenAux f (x / 2) = L at *
      refine ⟨by omega, by omega, ?_, ?_⟩
      · rw [show 1 + L - 1 = (L - 1) + 1 by omega, Nat.pow_succ]; omega
      · rw [show 1 + L = L + 1 by omega, Nat.pow_succ]; omega

theorem bitLen_word (y : Nat) (h0 : 0 < y) (h1 : y < 4294967296) : 1 ≤ Lib.bitLen y ∧ Lib.bitLen y ≤ 32 ∧ 2 ^ (Lib.bitLen y - 1) ≤ y ∧ y < 2 ^ Lib.bitLen y := by
  obtain ⟨a, b, c, d⟩ := bitLenAux_spec 64 y (by omega) h0
  unfold Lib.bitLen
  refine ⟨a, ?_, c, d⟩
  generalize Lib.bitLenAux 64 y = L at *
  have : 2 ^ (L - 1) < 2 ^ 32 := by omega
  have := (Nat.pow_lt_pow_iff_right (by omega : 1 < 2)).1 this
  omega

theorem leading (y : Nat) (h0 : 0 < y) (h1 : y < 4294967296) : ∃ s : Nat, s ≤ 31 ∧ 2147483648 ≤ y * 2 ^ s ∧ y * 2 ^ s < 4294967296 ∧
    ∀ w, Calls Tryd.prog 109 #[.int .u32 (y : Int)] w (Ex (.int .i64 (s : Int)) w) := by
  obtain ⟨a, b, c, d⟩ := bitLen_word y h0 h1
  refine ⟨32 - Lib.bitLen y, by omega, ?_, ?_, fun w => ?_⟩
  · have e : 2 ^ (Lib.bitLen y - 1) * 2 ^ (32 - Lib.bitLen y) = 2147483648 := by rw [← Nat.pow_add, show Lib.bitLen y - 1 + (32 - Lib.bitLen y) = 31 by omega]
    rw [← e]; exact Nat.mul_le_mul_right _ c
  · have e : 2 ^ Lib.bitLen y * 2 ^ (32 - Lib.bitLen y) = 4294967296 := by rw [← Nat.pow_add, show Lib.bitLen y + (32 - Lib.bitLen y) = 32 by omega]
    rw [← e]; exact Nat.mul_lt_mul_of_pos_right d (Nat.pow_pos (by omega))
  · have h := Tryd.bits_LeadingZeros32 y w (by omega) (by omega)
    rw [Int.toNat_natCast, show (32 - (Lib.bitLen y : Int)) = ((32 - Lib.bitLen y : Nat) : Int) by omega] at h
    exact h

theorem shN_nat (a s : Nat) : shN a ((s : Nat) : Int) = a * 2 ^ s := by unfold shN; rw [if_pos (by omega), Int.toNat_natCast]
theorem shN_neg (a s : Nat) : shN a (-((s : Nat) : Int)) = a / 2 ^ s := by
  unfold shN
  split
  · obtain rfl : s = 0 := by omega
    simp
  · rw [Int.neg_neg, Int.toNat_natCast]

theorem Row.only {w w' : World} {g g' n a : Nat} (h : Row w g n a) (hg : w.grownBy w' (some g')) (hne : g ≠ g') : Row w' g n a := ⟨h.1, h.2.grown hg (fun e => by injection e with e; exact hne e)⟩

theorem below_only {B g : Nat} {a b c : World} (h : Below B a b) (hg : b.grownBy c (some g)) (hB : B ≤ b.heap.size) (hBg : B ≤ g) : Below B a c :=
  h.grown hg hB (fun k hk => by injection hk with hk; omega)

/-- k digits of the quotient are still to come. -/
def DivAt (w wr : World) (gv gu gq m N K V U0 k : Nat) : Prop :=
  ∃ U Q, Row wr gv m V ∧ Row wr gu N U ∧ Row wr gq K Q ∧ U + Q * V = U0 ∧ U < V * 2 ^ (32 * k) ∧ Q % 2 ^ (32 * k) = 0 ∧ Below w.heap.size w wr

theorem div_next (U Q V U0 t : Nat) (h1 : U + Q * V = U0) (h2 : U < V * 2 ^ (32 * (t + 1))) (h3 : Q % 2 ^ (32 * (t + 1)) = 0) :
    U / 2 ^ (32 * t) < V * 4294967296 ∧
    (U / 2 ^ (32 * t) % V * 2 ^ (32 * t) + U % 2 ^ (32 * t)) + put Q t (U / 2 ^ (32 * t) / V) * V = U0 ∧ U / 2 ^ (32 * t) % V * 2 ^ (32 * t) + U % 2 ^ (32 * t) < V * 2 ^ (32 * t) ∧ put Q t (U / 2 ^ (32 * t) / V) % 2 ^ (32 * t) = 0 := by
  rw [mod_pw_succ] at h3
  rw [pw_succ, Nat.mul_comm (2 ^ (32 * t)), ← Nat.mul_assoc] at h2
  have hP := pw_pos t
  have hV : 0 < V := by
    rcases Nat.eq_zero_or_pos V with h | h
    · subst h; simp at h2
    · exact h
  have hd : dig Q t = 0 := by
    rcases Nat.eq_zero_or_pos (dig Q t) with h | h
    · exact h
    · have := Nat.mul_le_mul_right (2 ^ (32 * t)) h
      omega
  have hm : Q % 2 ^ (32 * t) = 0 := by omega
  rw [put_zero hd]
  generalize 2 ^ (32 * t) = P at *
  have e1 := Nat.div_add_mod U P
  have e2 := Nat.div_add_mod (U / P) V
  have l1 := Nat.mod_lt (U / P) hV
  have l2 := Nat.mod_lt U hP
  refine ⟨by rw [Nat.div_lt_iff_lt_mul hP]; exact h2, ?_, ?_, ?_⟩
  · generalize U / P / V = q at *
    generalize U / P % V = r at *
    generalize U / P = s at *
    generalize U % P = l at *
    have e3 : (V * q + r) * P = s * P := by rw [e2]
    rw [Nat.add_mul] at e3
    rw [Nat.add_mul, Nat.mul_right_comm q P V, Nat.mul_comm q V]
    rw [Nat.mul_comm P s] at e1
    omega
  · have := Nat.mul_le_mul_right P (show U / P % V + 1 ≤ V from l1)
    rw [Nat.add_mul, Nat.one_mul] at this
    omega
  · rw [Nat.add_mul_mod_self_right, hm]

theorem norm_facts {a b n m s N K : Nat} (ha : a < 2 ^ (32 * n)) (hb : b < 2 ^ (32 * m)) (hm : 0 < m) (hs : s ≤ 31) (h1 : 2147483648 ≤ dig b (m - 1) * 2 ^ s) (h2 : dig b (m - 1) * 2 ^ s < 4294967296) (hN : N = max n m + 1) (hK : K + m = N) :
    0 < b ∧ b * 2 ^ s < 2 ^ (32 * m) ∧ a * 2 ^ s < 2 ^ (32 * N) ∧ a * 2 ^ s < b * 2 ^ s * 2 ^ (32 * K) := by
  obtain ⟨p, rfl⟩ : ∃ p, m = p + 1 := ⟨m - 1, by omega⟩
  obtain ⟨M, rfl⟩ : ∃ M, N = M + 1 := ⟨N - 1, by omega⟩
  have hM : K + p = M := by omega
  have ha' : a < 2 ^ (32 * M) := Nat.lt_of_lt_of_le ha (pw_le (by omega))
  rw [show p + 1 - 1 = p by omega] at *
  have e := Nat.div_add_mod b (2 ^ (32 * p))
  have et := top_one (p + 1) b (by omega) hb
  rw [show p + 1 - 1 = p by omega] at et
  have hl := Nat.mod_lt b (pw_pos p)
  rw [et] at e
  have hp0 : 0 < 2 ^ s := Nat.pow_pos (by omega)
  have hps : 2 ^ s ≤ 2147483648 := Nat.pow_le_pow_right (n := 2) (by omega) hs
  have hp := pow_off s hs
  generalize dig b p = t at *
  have h3 : t < 2 ^ (32 - s) := by
    rw [← hp, Nat.mul_comm] at h2
    exact Nat.lt_of_mul_lt_mul_left h2
  have h4 : (t + 1) * 2 ^ s ≤ 4294967296 := by rw [← hp, Nat.mul_comm]; exact Nat.mul_le_mul_left _ h3
  have ht0 : 0 < t := by
    rcases Nat.eq_zero_or_pos t with h | h
    · subst h; simp at h1
    · exact h
  have hb1 : t * 2 ^ (32 * p) ≤ b := by rw [Nat.mul_comm]; omega
  have hb2 : b < (t + 1) * 2 ^ (32 * p) := by rw [Nat.add_mul, Nat.one_mul, Nat.mul_comm t]; omega
  refine ⟨Nat.lt_of_lt_of_le (Nat.mul_pos ht0 (pw_pos p)) hb1, ?_, ?_, ?_⟩
  · have := Nat.mul_lt_mul_of_pos_right hb2 hp0
    rw [Nat.mul_right_comm] at this
    have h5 := Nat.mul_le_mul_right (2 ^ (32 * p)) h4
    rw [pw_succ, Nat.mul_comm (2 ^ (32 * p))]
    omega
  · rw [pw_succ]
    exact Nat.mul_lt_mul'' ha' (by omega)
  · have h5 : a * 2 ^ s ≤ a * 2147483648 := Nat.mul_le_mul_left _ hps
    have h6 : a * 2147483648 < 2 ^ (32 * M) * 2147483648 := Nat.mul_lt_mul_of_pos_right ha' (by omega)
    have h7 : t * 2 ^ (32 * p) * 2 ^ s ≤ b * 2 ^ s := Nat.mul_le_mul_right _ hb1
    have h8 := Nat.mul_le_mul_right (2 ^ (32 * K)) h7
    rw [Nat.mul_right_comm t, Nat.mul_assoc, ← pw_add, Nat.add_comm p, hM] at h8
    have h9 := Nat.mul_le_mul_right (2 ^ (32 * M)) h1
    rw [Nat.mul_comm (2 ^ (32 * M))] at h6
    omega

/-- The call returns a quotient and a remainder, both in new memory. -/
def RetDiv (base q r : Nat) (w : World) (e : Ending) (w' : World) : Prop :=
  ∃ A n c A' n' c', e = .returned (.tuple #[.slice A n c, .slice A' n' c']) ∧ Own w' base A n c q ∧ Own w' base A' n' c' r ∧ Below w.heap.size w w'

theorem divide_any (A B' : Option Addr) (n m c d a b B : Nat) (w : World) (hA : Num w B A n a) (hB : Num w B B' m b) (hBw : B ≤ w.heap.size) (hn : n ≤ 1000) (hm : m ≤ 1000) (hm0 : 0 < m) (ht : dig b (m - 1) ≠ 0) :
    Calls Tryd.prog 99 #[.slice A n c, .slice B' m d] w (RetDiv w.heap.size (a / b) (a % b) w) := by
  obtain ⟨s, hs, hs1, hs2, hlead⟩ := leading (dig b (m - 1)) (by omega) (dig_lt _ _)
  have HL := hid hlead
  clear hlead
  obtain ⟨N, HN⟩ := named (max n m + 1)
  have hN1 : N ≤ 1001 := by have := HN.out; omega
  have hN2 : n + 1 ≤ N := by have := HN.out; omega
  have hN3 : m + 1 ≤ N := by have := HN.out; omega
  have hNe : max (n : Int) m + 1 = (N : Int) := by have := HN.out; omega
  obtain ⟨K, HK⟩ := named (N - m)
  have hKe : (N : Int) - (m : Int) = (K : Int) := by have := HK.out; omega
  have hK1 : K + m = N := by have := HK.out; omega
  have HK1 := hid hK1
  have hK2 : K + m ≤ N := by omega
  have hmk := make_words K (by omega)
  clear hK1
  obtain ⟨ad, rfl, hab, hac⟩ := hB.at_ (i := m - 1) (by omega)
  have HA := hid hA
  have HB := hid hB
  have ht' := hid ht
  clear hA hB ht
  go_enter Tryd.func99, Tryd.ntmps99
  go_wp2_with fail
  refine (HL.out _).mono ?_
  rintro e w' ⟨rfl, rfl⟩
  go_wp2_with fail
  refine (shifted_any (some ad) m d b B m s _ HB.out hBw (by omega) (by omega) (by omega) (by omega)).mono ?_
  rintro e w1 ⟨rfl, hv, hb1⟩
  have HV := hid hv
  have HB1 := hid hb1
  have hz1 : w'.heap.size < w1.heap.size := hv.blk
  clear hv hb1
  go_wp2_with fail
  refine (shifted_any A n c a B N s _ (HA.out.below (HB1.out.mono hBw)) (by omega) (by omega) (by omega) (by omega) (by omega)).mono ?_
  rintro e w2 ⟨rfl, hu, hb2⟩
  have HU := hid hu
  have HB2 := hid hb2
  have hz2 : w1.heap.size < w2.heap.size := hu.blk
  clear hu hb2
  have h0 : DivAt w' (w2.alloc (.cells (words K 0) 48)) w'.heap.size w1.heap.size w2.heap.size m N K (b * 2 ^ s) (a * 2 ^ s) K := by
    obtain ⟨f0, f1, f2, f3⟩ := norm_facts HA.out.lt HB.out.lt hm0 hs hs1 hs2 HN.out HK1.out
    have hv := HV.out
    have hu := HU.out
    rw [shN_nat, Nat.mod_eq_of_lt f1] at hv
    rw [shN_nat, Nat.mod_eq_of_lt f2] at hu
    exact ⟨a * 2 ^ s, 0, (hv.below HB2.out hz1).alloc _, hu.alloc _, Row.new _ _, by omega, f3, Nat.zero_mod _, (HB1.out.trans (HB2.out.mono (by omega))).alloc (by omega) _⟩
  have H0 := hid h0
  have HB0 := hid (norm_facts HA.out.lt HB.out.lt hm0 hs hs1 hs2 HN.out HK1.out).1
  clear h0
  go_wp2_with fail
  go_loopw [10] (fun i wr => ∃ (k : Nat) (z : Int), k ≤ K ∧ z = (k : Int) - 1 ∧ i = .int .i64 z ∧ DivAt w' wr w'.heap.size w1.heap.size w2.heap.size m N K (b * 2 ^ s) (a * 2 ^ s) k) (fun i _ => (intOf i + 1).toNat)
  case atStart => exact ⟨K, _, by omega, rfl, rfl, H0.out⟩
  case round =>
    obtain ⟨k, z, hk, hz, rfl, hI⟩ := hrel
    have HI := hid hI
    obtain ⟨U, Q, i1, i2, i3, i4, i5, i6, i7⟩ := hI
    by_cases hk0 : k = 0
    · subst hk0
      obtain rfl : z = -1 := by omega
      have HU' := hid (i2.num i2.blk)
      have HQR := hid i3
      have HBR := hid i7
      have HE : Hid (a % b < 2 ^ (32 * m) ∧ Q = a / b ∧ U / 2 ^ s = a % b) := by
        rw [show 2 ^ (32 * 0) = 1 from rfl, Nat.mul_one] at i5
        have hb0 := HB0.out
        have hp0 : 0 < 2 ^ s := Nat.pow_pos (by omega)
        have hq : Q = a * 2 ^ s / (b * 2 ^ s) := by
          rw [← i4, Nat.add_mul_div_right _ _ (Nat.mul_pos hb0 hp0), Nat.div_eq_of_lt i5, Nat.zero_add]
        have hu : U = a * 2 ^ s % (b * 2 ^ s) := by
          rw [← i4, Nat.add_mul_mod_self_right, Nat.mod_eq_of_lt i5]
        rw [Nat.mul_div_mul_right _ _ hp0] at hq
        rw [Nat.mul_mod_mul_right] at hu
        exact ⟨Nat.lt_trans (Nat.mod_lt _ hb0) HB.out.lt, hq, by rw [hu, Nat.mul_div_cancel _ hp0]⟩
      clear i1 i2 i3 i4 i5 i6 i7 hz
      go_wp2_with fail
      refine (shifted_any (some ⟨w1.heap.size, 0, none⟩) N N U wr.heap.size m (-(s : Int)) _ HU'.out (Nat.le_refl _) (by omega) (by omega) (by omega) (by omega)).mono ?_
      rintro e w4 ⟨rfl, hr, hb4⟩
      have HR := hid hr
      have HB4 := hid hb4
      clear hr hb4
      go_wp2_with fail
      go_ret2
      have hlt : w2.heap.size < wr.heap.size := HQR.out.blk
      obtain ⟨q1, q2, q3⟩ := HE.out
      refine ⟨_, _, _, _, _, _, rfl, ?_, ?_, ?_⟩
      · rw [← q2]
        exact (HQR.out.below HB4.out hlt).own (by omega) (by unfold maxLen; omega)
      · have hr := HR.out
        rw [shN_neg, q3, Nat.mod_eq_of_lt q1] at hr
        exact hr.own (by omega) (by unfold maxLen; omega)
      · exact HBR.out.trans (HB4.out.mono (by omega))
    · obtain ⟨t, rfl⟩ : ∃ t, k = t + 1 := ⟨k - 1, by omega⟩
      obtain rfl : z = (t : Int) := by omega
      have HV' := hid i1
      have HQ := hid i3
      obtain ⟨n1, n2, n3, n4⟩ := div_next U Q _ _ t i4 i5 i6
      have hcell := i3.cell (i := t) (by omega)
      have HN' := hid (And.intro n2 (And.intro n3 n4))
      have hS : Segm wr w1.heap.size N t (U % 2 ^ (32 * t)) (m + 1) (U / 2 ^ (32 * t)) := by
        have hV := i1.lt
        refine ⟨Nat.mod_lt _ (pw_pos t), ?_, by omega, ?_⟩
        · rw [pw_succ]
          refine Nat.lt_of_lt_of_le n1 (Nat.mul_le_mul_right _ (Nat.le_of_lt hV))
        · rw [Nat.mul_comm, Nat.div_add_mod]; exact i2
      have HS := hid hS
      have hz3 := i3.blk
      have HB3 := hid i7
      have N1 := hid n1
      clear i1 i2 i3 i4 i5 i6 i7 hz n1 n2 n3 n4 hS
      go_wp2_with fail
      rw [show t + m + 1 - t = m + 1 by omega]
      refine (reduce_any (some ⟨w'.heap.size, 0, none⟩) w1.heap.size N t (U % 2 ^ (32 * t)) m m (U / 2 ^ (32 * t)) (b * 2 ^ s) w1.heap.size _ _ HS.out (HV'.out.num hz1) (Nat.le_refl _) (by omega) (by omega) hm0 N1.out).mono ?_
      rintro e w4 ⟨q, rfl, hq, s1, s2⟩
      have hcell' := (HQ.out.only s2 (by omega)).cell (i := t) (by omega)
      have hfr' := (HQ.out.only s2 (by omega)).frozen t
      have HQ' := hid hq
      have HS1 := hid s1
      have HS2 := hid s2
      clear hq s1 s2 hcell
      go_wp2_with fail
      go_roundw
      case rel =>
        refine ⟨t, (t : Int) - 1, by omega, rfl, rfl, ?_⟩
        obtain ⟨n2, n3, n4⟩ := HN'.out
        rw [← HQ'.out] at n2 n4
        have hq2 : q < 4294967296 := by
          rw [HQ'.out, Nat.div_lt_iff_lt_mul (Nat.lt_of_le_of_lt (Nat.zero_le _) (Nat.mul_pos HB0.out (Nat.pow_pos (n := s) (by omega : 0 < 2)))), Nat.mul_comm 4294967296]
          exact N1.out
        refine ⟨_, _, ?_, ?_, (HQ.out.only HS2.out (by omega)).set_ (by omega) hq2, n2, n3, n4, ?_⟩
        · exact (HV'.out.only HS2.out (by omega)).far (p := ⟨w2.heap.size, t, none⟩) (show w'.heap.size ≠ w2.heap.size by omega) _
        · exact HS1.out.2.2.2.far (p := ⟨w2.heap.size, t, none⟩) (show w1.heap.size ≠ w2.heap.size by omega) _
        · exact (below_only HB3.out HS2.out HB3.out.size (by omega)).setCell (show w'.heap.size ≤ w2.heap.size by omega) _
      case measure => simp [intOf]

end Go.Proofs.YtomkmkjkeihodaaDoor
