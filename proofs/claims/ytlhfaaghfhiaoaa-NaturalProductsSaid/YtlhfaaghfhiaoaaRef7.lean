/- The reference: Div. -/
import Derived.Test.YtlhfaaghfhiaoaaRef6
set_option linter.unusedVariables false
set_option linter.unusedSimpArgs false
namespace Go.Proofs.Ytlhfaaghfhiaoaa
open Go.RowKit

theorem bit_step (a i : Nat) : a / 2 ^ i = 2 * (a / 2 ^ (i + 1)) + (if bitN a i = true then 1 else 0) := by
  have e : a / 2 ^ (i + 1) = a / 2 ^ i / 2 := by rw [Nat.pow_succ, Nat.div_div_eq_div_mul]
  rw [e]
  unfold bitN
  split <;> simp_all <;> omega
theorem twice_lt {x t k : Nat} (h : x < 2 ^ (32 * k)) (ht : t ≤ 1) : 2 * x + t < 2 ^ (32 * (k + 1)) := by rw [pw_succ]; omega
theorem nw_twice {x t k : Nat} (h : nw x ≤ k) (ht : t ≤ 1) : nw (2 * x + t) ≤ k + 1 := nw_le (twice_lt (Nat.lt_of_lt_of_le (lt_nw x) (pw_le h)) ht)
theorem div_step_yes {a b i t rv : Nat} (hb : 0 < b) (hr : rv = a / 2 ^ (i + 1) % b) (ht : t = 2 * rv + (if bitN a i = true then 1 else 0)) (h : b ≤ t) :
    a / 2 ^ i / b = 2 * (a / 2 ^ (i + 1) / b) + 1 ∧ a / 2 ^ i % b = t - b := by
  have e := bit_step a i
  have hd := Nat.div_add_mod (a / 2 ^ (i + 1)) b
  have hl := Nat.mod_lt (a / 2 ^ (i + 1)) hb
  rw [← hr] at hd hl
  generalize a / 2 ^ (i + 1) = x at *
  generalize a / 2 ^ i = y at *
  have h1 : (if bitN a i = true then 1 else 0) ≤ 1 := by split <;> omega
  refine (Nat.div_mod_unique hb).2 ⟨?_, by omega⟩
  rw [Nat.mul_add, Nat.mul_left_comm]
  omega
theorem div_step_no {a b i t rv : Nat} (hb : 0 < b) (hr : rv = a / 2 ^ (i + 1) % b) (ht : t = 2 * rv + (if bitN a i = true then 1 else 0)) (h : ¬ b ≤ t) :
    a / 2 ^ i / b = 2 * (a / 2 ^ (i + 1) / b) ∧ a / 2 ^ i % b = t := by
  have e := bit_step a i
  have hd := Nat.div_add_mod (a / 2 ^ (i + 1)) b
  rw [← hr] at hd
  generalize a / 2 ^ (i + 1) = x at *
  generalize a / 2 ^ i = y at *
  refine (Nat.div_mod_unique hb).2 ⟨?_, by omega⟩
  rw [Nat.mul_left_comm]
  omega
/-- Adding a bit where only higher bits are. -/
theorem dig_low (c i : Nat) : dig (c * 2 ^ (i + 1)) (i / 32) % 2 ^ (i % 32 + 1) = 0 := by
  have e : c * 2 ^ (i + 1) = c * 2 ^ (i % 32 + 1) * 2 ^ (32 * (i / 32)) := by
    rw [Nat.mul_assoc, ← Nat.pow_add, show i % 32 + 1 + 32 * (i / 32) = i + 1 by omega]
  unfold dig
  rw [e, Nat.mul_div_cancel _ (pw_pos _)]
  have h32 : i % 32 < 32 := Nat.mod_lt _ (by omega)
  have e2 : 4294967296 = 2 ^ (i % 32 + 1) * 2 ^ (31 - i % 32) := by rw [← Nat.pow_add, show i % 32 + 1 + (31 - i % 32) = 32 by omega]
  rw [e2, Nat.mod_mul_right_mod, Nat.mul_mod_left]
theorem add_bit {q i : Nat} (h : dig q (i / 32) + 2 ^ (i % 32) < 4294967296) : put q (i / 32) (dig q (i / 32) + 2 ^ (i % 32)) = q + 2 ^ i := by
  have h1 := put_add q (i / 32) (dig q (i / 32) + 2 ^ (i % 32))
  rw [Nat.add_mul, ← Nat.pow_add, show i % 32 + 32 * (i / 32) = i by omega] at h1
  omega
theorem bit_room (d r : Nat) (hr : r < 32) (hd : d < 4294967296) (h : d % 2 ^ (r + 1) = 0) : d + 2 ^ r < 4294967296 := by
  have e2 : 4294967296 = 2 ^ (r + 1) * 2 ^ (31 - r) := by rw [← Nat.pow_add, show r + 1 + (31 - r) = 32 by omega]
  have hp : 0 < 2 ^ r := Nat.pow_pos (by omega)
  have h1 := Nat.div_add_mod d (2 ^ (r + 1))
  rw [h] at h1
  have h2 : d / 2 ^ (r + 1) < 2 ^ (31 - r) := by rw [Nat.div_lt_iff_lt_mul (Nat.pow_pos (by omega)), Nat.mul_comm, ← e2]; exact hd
  have h3 := Nat.mul_le_mul_left (2 ^ (r + 1)) (show d / 2 ^ (r + 1) + 1 ≤ 2 ^ (31 - r) from h2)
  rw [← e2, Nat.mul_add, Nat.mul_one] at h3
  have h4 : 2 ^ (r + 1) = 2 ^ r * 2 := Nat.pow_succ 2 r
  omega
theorem Own.setFar {w : World} {base n c a : Nat} {A : Option Addr} (h : Own w base A n c a) {p : Addr} (hp : p.block < base) (u : Value) : Own (w.setCell p u) base A n c a :=
  ⟨h.1, h.2.1, h.2.2.1, fun hn => by
    obtain ⟨g, cs, e, h1, h2, h3⟩ := h.2.2.2 hn
    exact ⟨g, cs, e, h1, h2.far (by omega) u, h3⟩⟩
/-- The call returns two numbers in new memory. -/
def RetPair (base q r : Nat) (w : World) (e : Ending) (w' : World) : Prop := ∃ v u, e = .returned (.tuple #[v, u]) ∧ NatV w' base v q ∧ NatV w' base u r ∧ Below w.heap.size w w'
/-- The state of the reference's division: the quotient so far, the rest so far. -/
def RMid (w wr : World) (A B' : Option Addr) (n m c d qv rv : Nat) (R : Option Addr) (rc : Nat) : Prop :=
  wr.heap.size ≥ w.heap.size + 6 ∧ Below w.heap.size w wr ∧ Blk wr w.heap.size 24 #[.slice A n c] ∧ Blk wr (w.heap.size + 1) 24 #[.slice B' m d] ∧ Blk wr (w.heap.size + 1 + 1) 24 #[.slice none 0 0] ∧ Blk wr (w.heap.size + 1 + 1 + 1) 24 #[.slice none 0 0] ∧
  Row wr (w.heap.size + 1 + 1 + 1 + 1) n qv ∧ Blk wr (w.heap.size + 1 + 1 + 1 + 1 + 1) 24 #[.slice R (nw rv) rc] ∧ Own wr (w.heap.size + 6) R (nw rv) rc rv
section
variable {w wr w' : World} {A B' R R' : Option Addr} {n m c d qv rv rc r2 rc' : Nat}
theorem RMid.below (h : RMid w wr A B' n m c d qv rv R rc) (hb : Below wr.heap.size wr w') : RMid w w' A B' n m c d qv rv R rc := by
  obtain ⟨h0, h1, h2, h3, h4, h5, h6, h7, h8⟩ := h
  exact ⟨by have := hb.size; omega, h1.trans (hb.mono (by omega)), h2.below hb h2.lt, h3.below hb h3.lt, h4.below hb h4.lt, h5.below hb h5.lt, h6.below hb h6.blk, h7.below hb h7.lt, h8.below hb (Nat.le_refl _)⟩
theorem RMid.drew (h : RMid w wr A B' n m c d qv rv R rc) : RMid w wr.drew A B' n m c d qv rv R rc := ⟨h.1, h.2.1.drew, h.2.2.1, h.2.2.2.1, h.2.2.2.2.1, h.2.2.2.2.2.1, h.2.2.2.2.2.2.1, h.2.2.2.2.2.2.2.1, h.2.2.2.2.2.2.2.2⟩
theorem RMid.setR (h : RMid w wr A B' n m c d qv rv R rc) (ho : Own wr (w.heap.size + 6) R' (nw r2) rc' r2) : RMid w (wr.setCell ⟨w.heap.size + 1 + 1 + 1 + 1 + 1, 0, none⟩ (.slice R' (nw r2) rc')) A B' n m c d qv r2 R' rc' := by
  obtain ⟨h0, h1, h2, h3, h4, h5, h6, h7, h8⟩ := h
  exact ⟨by simpa [World.setCell] using h0, h1.setCell (by simp <;> omega) _, h2.far (by simp <;> omega) _, h3.far (by simp) _, h4.far (by simp) _, h5.far (by simp) _, h6.far (by simp) _, h7.set_ 0 _, ho.setFar (by simp) _⟩
theorem RMid.setQ (h : RMid w wr A B' n m c d qv rv R rc) {j x : Nat} (hj : j < n) (hx : x < 4294967296) : RMid w (wr.setCell ⟨w.heap.size + 1 + 1 + 1 + 1, j, none⟩ (.int .u32 ((x : Nat) : Int))) A B' n m c d (put qv j x) rv R rc := by
  obtain ⟨h0, h1, h2, h3, h4, h5, h6, h7, h8⟩ := h
  exact ⟨by simpa [World.setCell] using h0, h1.setCell (by simp <;> omega) _, h2.far (by simp <;> omega) _, h3.far (by simp) _, h4.far (by simp) _, h5.far (by simp) _, h6.set_ hj hx, h7.far (by simp) _, h8.setFar (by simp) _⟩
theorem RMid.numR (h : RMid w wr A B' n m c d qv rv R rc) : Num wr wr.heap.size R (nw rv) rv := h.2.2.2.2.2.2.2.2.num
theorem RMid.bl (h : RMid w wr A B' n m c d qv rv R rc) : Below w.heap.size w wr := h.2.1
theorem RMid.cA (h : RMid w wr A B' n m c d qv rv R rc) : wr.cell? ⟨w.heap.size, 0, none⟩ = some (.slice A n c) := h.2.2.1.cell0
theorem RMid.cB (h : RMid w wr A B' n m c d qv rv R rc) : wr.cell? ⟨w.heap.size + 1, 0, none⟩ = some (.slice B' m d) := h.2.2.2.1.cell0
theorem RMid.cR (h : RMid w wr A B' n m c d qv rv R rc) : wr.cell? ⟨w.heap.size + 1 + 1 + 1 + 1 + 1, 0, none⟩ = some (.slice R (nw rv) rc) := h.2.2.2.2.2.2.2.1.cell0
theorem RMid.fR (h : RMid w wr A B' n m c d qv rv R rc) : wr.frozen? ⟨w.heap.size + 1 + 1 + 1 + 1 + 1, 0, none⟩ = false := h.2.2.2.2.2.2.2.1.frozen 0
theorem RMid.row (h : RMid w wr A B' n m c d qv rv R rc) : Row wr (w.heap.size + 1 + 1 + 1 + 1) n qv := h.2.2.2.2.2.2.1
theorem RMid.num {C' : Option Addr} {p x : Nat} (h : RMid w wr A B' n m c d qv rv R rc) (hA : Num w w.heap.size C' p x) : Num wr wr.heap.size C' p x := (hA.below h.bl).more h.bl.size
end

set_option maxHeartbeats 8000000 in
theorem rdiv_any (A B' : Option Addr) (c d a b : Nat) (w : World) (hA : Num w w.heap.size A (nw a) a) (hB : Num w w.heap.size B' (nw b) b) (hn : nw a ≤ 64) (hm : nw b ≤ 64) (hb0 : 0 < b) :
    Calls Try.prog 36 #[.agg #[.slice A (nw a) c], .agg #[.slice B' (nw b) d]] w (RetPair w.heap.size (a / b) (a % b) w) := by
  have HA := hid hA
  have HB := hid hB
  have hbl : bl a ≤ 2048 := bl_nw.1 hn
  obtain ⟨n, hnn⟩ : ∃ n, n = nw a := ⟨_, rfl⟩
  obtain ⟨m, hmm⟩ : ∃ m, m = nw b := ⟨_, rfl⟩
  have H0 : Hid (RMid w ((((((w.alloc (.cells #[.slice A n c] 24)).alloc (.cells #[.slice B' m d] 24)).alloc (.cells #[.slice none 0 0] 24)).alloc (.cells #[.slice none 0 0] 24)).alloc (.cells (words n 0) 62)).alloc (.cells #[.slice none 0 0] 24)) A B' n m c d (a / 2 ^ bl a / b * 2 ^ bl a) (a / 2 ^ bl a % b) none 0) := by
    obtain ⟨b0, b1, b2, b3, bw⟩ := boxes4 w (.slice A n c) (.slice B' m d) (.slice none 0 0) (.slice none 0 0)
    have e0 : a / 2 ^ bl a = 0 := Nat.div_eq_of_lt (lt_bl a)
    have e1 : ((((w.alloc (.cells #[.slice A n c] 24)).alloc (.cells #[.slice B' m d] 24)).alloc (.cells #[.slice none 0 0] 24)).alloc (.cells #[.slice none 0 0] 24)).heap.size = w.heap.size + 1 + 1 + 1 + 1 := by simp
    generalize hV : (((w.alloc (.cells #[.slice A n c] 24)).alloc (.cells #[.slice B' m d] 24)).alloc (.cells #[.slice none 0 0] 24)).alloc (.cells #[.slice none 0 0] 24) = V at *
    have e2 : (V.alloc (.cells (words n 0) 62)).heap.size = w.heap.size + 1 + 1 + 1 + 1 + 1 := by simp [e1]
    show RMid w _ A B' n m c d (a / 2 ^ bl a / b * 2 ^ bl a) (a / 2 ^ bl a % b) none 0
    unfold RMid
    rw [e0, Nat.zero_div, Nat.zero_mod, Nat.zero_mul, nw_zero]
    refine ⟨by simp [e1], ((bw.alloc (by omega) _).alloc (by omega) _), (b0.alloc _).alloc _, (b1.alloc _).alloc _, (b2.alloc _).alloc _, (b3.alloc _).alloc _, ?_, ?_, Own.nil _ _ _ _ (Nat.zero_le _)⟩
    · rw [← e1]; exact (Row.new V n).alloc _
    · rw [← e2]; exact Blk.new _ _ _
  rw [← hnn, ← hmm]
  rw [← hnn] at hn HA
  rw [← hmm] at hm HB
  have HNN := hid hnn
  have HMM := hid hmm
  clear hA hB hnn hmm
  have hmk := make_words n (by omega)
  have y1 : IntKind.i64.wrap (((bl a : Nat) : Int) - 1) = ((bl a : Nat) : Int) - 1 := IntWalk.i64_in _ (by omega)
  go_enter Try.func36, Try.ntmps36
  go_wp2_with fail
  generalize hV : (((((w.alloc (.cells #[.slice A n c] 24)).alloc (.cells #[.slice B' m d] 24)).alloc (.cells #[.slice none 0 0] 24)).alloc (.cells #[.slice none 0 0] 24)).alloc (.cells (words n 0) 62)).alloc (.cells #[.slice none 0 0] 24) = V at H0 ⊢
  clear hV hmk
  refine (rbits_any A n c a V ((HA.out.below H0.out.2.1).more H0.out.2.1.size) (by omega)).mono ?_
  rintro e V1 ⟨rfl, hb⟩
  have H1 := hid (H0.out.below hb)
  clear hb H0
  go_wp2_with fail
  go_loopw [8] (fun i wr => ∃ (k : Nat) (z : Int) (R : Option Addr) (rc : Nat), k ≤ 2048 ∧ (0 < k → k ≤ 32 * n) ∧ z = (k : Int) - 1 ∧ i = .int .i64 z ∧ RMid w wr A B' n m c d (a / 2 ^ k / b * 2 ^ k) (a / 2 ^ k % b) R rc) (fun i _ => (intOf i + 1).toNat)
  case atStart => exact ⟨bl a, _, none, 0, hbl, fun _ => by have := bl_le_nw a; rw [HNN.out]; exact this, rfl, rfl, H1.out⟩
  case round =>
    obtain ⟨k, z, R, rc, hk, hkn, hz, rfl, hD⟩ := hrel
    have HD := hid hD
    clear H1
    by_cases hk0 : k = 0
    · subst hk0
      obtain rfl : z = -1 := by omega
      have kR := hD.cR
      rw [show 2 ^ 0 = 1 from rfl, Nat.div_one] at kR
      obtain ⟨h0, h1, h2, h3, h4, h5, h6, h7, h8⟩ := hD.drew
      have hle : wr.drew.heap.size ≤ wr.drew.heap.size := Nat.le_refl _
      have hle2 : wr.heap.size ≤ wr.heap.size := Nat.le_refl _
      rw [show 2 ^ 0 = 1 from rfl, Nat.div_one] at h6 h7 h8
      rw [Nat.mul_one] at h6
      have B2 := hid h4
      have B3 := hid h5
      have HBL := hid h1
      have HO := hid h8
      have HNM := hid (h6.num h6.blk)
      have HR7 := hid h7
      have z7 := h7.lt
      clear hz h0 h1 h2 h3 h4 h5 h6 h7 h8 hkn HD
      go_wp2_with fail
      go_region_with (first
        | (go_at_call 45; (with_reducible refine (rtrim_any _ n n (a / b) _ wr.drew HNM.out hle (by omega) (by omega)).mono ?_); rintro e w9 ⟨v, rfl, ⟨A', c', rfl, ho⟩, hb⟩; have HB9 := hid hb; have HO9 := hid ho; have R9 := hid (HR7.out.below hb z7); have k9 := R9.out.cell0; have f2 := (B2.out.below hb B2.out.lt).frozen 0; have f3 := (B3.out.below hb B3.out.lt).frozen 0; have c2 := (B2.out.below hb B2.out.lt).cell0; have c3 := (B3.out.below hb B3.out.lt).cell0; clear hb ho))
      all_goals (
        go_wp2_with fail
        have hW9 := HBL.out.trans (HB9.out.mono HBL.out.size)
        have hO1 := (HO9.out.weak (b := w.heap.size) HBL.out.size)
        have hO2 := HO.out.below HB9.out (Nat.le_refl _)
        have hO1' := hO1.box (p := ⟨w.heap.size + 1 + 1, 0, none⟩) (B2.out.below HB9.out B2.out.lt) (by decide) (.slice A' (nw (a / b)) c')
        have hO2' := hO2.box (p := ⟨w.heap.size + 1 + 1, 0, none⟩) (B2.out.below HB9.out B2.out.lt) (by decide) (.slice A' (nw (a / b)) c')
        have b3 := (B3.out.below HB9.out B3.out.lt).far (p := ⟨w.heap.size + 1 + 1, 0, none⟩) (by simp) (.slice A' (nw (a / b)) c')
        have hO1'' := hO1'.box (p := ⟨w.heap.size + 1 + 1 + 1, 0, none⟩) b3 (by decide) (.slice R (nw (a % b)) rc)
        have hO2'' := (hO2'.box (p := ⟨w.heap.size + 1 + 1 + 1, 0, none⟩) b3 (by decide) (.slice R (nw (a % b)) rc)).weak (b := w.heap.size) (by omega)
        exact bodyPost_ret (v := .tuple #[.agg #[.slice A' (nw (a / b)) c'], .agg #[.slice R (nw (a % b)) rc]]) (by simp [results, Try.results36, go_sem, c2, c3]) rfl ⟨_, _, rfl, ⟨A', c', rfl, hO1''⟩, ⟨R, rc, rfl, hO2''⟩, (hW9.setCell (by simp <;> omega) _).setCell (by simp <;> omega) _⟩)
    · obtain ⟨i, rfl⟩ : ∃ i, k = i + 1 := ⟨k - 1, by omega⟩
      obtain rfl : z = (i : Int) := by omega
      have hi32 : i < 32 * n := by have := hkn (by omega); omega
      obtain ⟨bt, hbt⟩ : ∃ bt, bt = bitN a i := ⟨_, rfl⟩
      obtain ⟨rv, hrv⟩ : ∃ rv, rv = a / 2 ^ (i + 1) % b := ⟨_, rfl⟩
      obtain ⟨qv, hqv⟩ : ∃ qv, qv = a / 2 ^ (i + 1) / b * 2 ^ (i + 1) := ⟨_, rfl⟩
      obtain ⟨tb, htb⟩ : ∃ tb : Nat, tb = if bt = true then 1 else 0 := ⟨_, rfl⟩
      obtain ⟨t, ht⟩ : ∃ t : Nat, t = 2 * rv + tb := ⟨_, rfl⟩
      have hrb : rv < b := by rw [hrv]; exact Nat.mod_lt _ hb0
      have htb1 : tb ≤ 1 := by rw [htb]; split <;> omega
      have hnr : nw rv ≤ 64 := Nat.le_trans (nw_mono (Nat.le_of_lt hrb)) (by have := HMM.out; omega)
      have hnt : nw t ≤ 65 := by
        rw [ht]
        exact nw_twice hnr htb1
      rw [← hrv, ← hqv] at hD
      have HD0 := hid hD.drew
      have HBT : Hid (rbitS a ((i : Nat) : Int) = bt) := by show _ = _; rw [rbitS_nat, hbt]
      have HTB := hid htb
      have HT := hid ht
      have HI := hid (show ∀ x, x = 2 * rv + (if bitN a i = true then 1 else 0) → x = t by intro x hx; rw [hx, ht, htb, hbt])
      have HRV := hid hrv
      have HQV := hid hqv
      have kA := hD.cA
      have kR := hD.cR
      clear hD HD hz hk0 hkn hbt hrv hqv htb ht hrb htb1
      go_wp2_with fail
      go_region_with (first
        | (go_at_call 22; (with_reducible refine (rbit_any A n c a ((i : Nat) : Int) _ (HD0.out.num HA.out) (by omega) (by omega) (by omega)).mono ?_); rw [HBT.out]; rintro e w1 ⟨rfl, hb⟩; have HD1 := hid (HD0.out.below hb); have kR1 := HD1.out.cR; clear hb)
        | (go_at_call 58; (with_reducible refine (rtwice_any R (nw rv) rc rv tb bt _ HD1.out.numR (by omega) HTB.out).mono ?_); rw [← HT.out]; rintro e w2 ⟨v, rfl, ⟨R2, rc2, rfl, ho⟩, hb⟩; have HD2 := hid ((HD1.out.below hb).setR (ho.weak (b := w.heap.size + 6) HD1.out.1)); have kR2 := (HD1.out.below hb).cR; have fR2 := (HD1.out.below hb).fR; clear hb ho))
      all_goals (
        generalize hV3 : w2.setCell ⟨w.heap.size + 1 + 1 + 1 + 1 + 1, 0, none⟩ (.slice R2 (nw t) rc2) = V3 at HD2 ⊢
        clear hV3 kR2 fR2 kR1 kR kA
        have kB := HD2.out.cB
        have kR := HD2.out.cR
        by_cases hbt : b ≤ t
        · have e1 := div_step_yes hb0 HRV.out rfl (by rw [HI.out _ rfl]; exact hbt)
          rw [HI.out _ rfl] at e1
          have hq32 : dig qv (i / 32) + 2 ^ (i % 32) < 4294967296 := bit_room _ _ (Nat.mod_lt _ (by omega)) (dig_lt _ _) (by rw [HQV.out]; exact dig_low _ _)
          have HQ2 : Hid (put qv (i / 32) (dig qv (i / 32) + 2 ^ (i % 32)) = a / 2 ^ i / b * 2 ^ i) := by
            show _ = _
            rw [add_bit hq32, HQV.out, e1.1, Nat.pow_succ, Nat.add_mul, Nat.one_mul, Nat.mul_assoc 2, Nat.mul_comm 2, Nat.mul_assoc]
          have HR2 := hid e1.2
          have HG : Hid (decide (b ≤ t) = true) := decide_eq_true hbt
          obtain ⟨j, hj⟩ : ∃ j : Nat, j = i / 32 := ⟨_, rfl⟩
          obtain ⟨r, hr⟩ : ∃ r : Nat, r = i % 32 := ⟨_, rfl⟩
          obtain ⟨dg, hdg⟩ : ∃ dg : Nat, dg = dig qv j := ⟨_, rfl⟩
          obtain ⟨p2, hp2⟩ : ∃ p2 : Nat, p2 = 2 ^ r := ⟨_, rfl⟩
          obtain ⟨x, hx⟩ : ∃ x : Nat, x = dg + p2 := ⟨_, rfl⟩
          rw [← hj, ← hr, ← hdg, ← hp2, ← hx] at HQ2
          rw [← hj, ← hr, ← hdg, ← hp2, ← hx] at hq32
          have hjn : j < n := by omega
          have hr32 : r < 32 := by omega
          have x1 : ((i : Nat) : Int) / 32 = (j : Int) := by omega
          have x2 : ((i : Nat) : Int) % 32 = (r : Int) := by omega
          have x3 : Int.tdiv ((i : Nat) : Int) 32 = (j : Int) := by rw [Int.tdiv_eq_ediv_of_nonneg (by omega)]; exact x1
          have x4 : Int.tmod ((i : Nat) : Int) 32 = (r : Int) := by rw [Int.tmod_eq_emod_of_nonneg (by omega)]; exact x2
          have x5 : IntKind.i64.wrap (j : Int) = (j : Int) := IntWalk.i64_in _ (by omega)
          have x6 : IntKind.i64.wrap (r : Int) = (r : Int) := IntWalk.i64_in _ (by omega)
          have x7 : (1 : Int) * 2 ^ r = (p2 : Int) := by rw [hp2]; simp
          have x8 : IntKind.u32.wrap (p2 : Int) = (p2 : Int) := by rw [IntKind.wrap_u32]; omega
          have x9 : IntKind.u32.wrap ((dg : Int) + (p2 : Int)) = (x : Int) := by rw [IntKind.wrap_u32]; omega
          have x10 : ((2 : Int) ^ r) = (p2 : Int) := by rw [hp2]; simp
          have l1 : (j : Int) < (n : Int) := by omega
          have HDG := hid hdg
          clear e1 hj hr hdg hp2 hx hbt
          go_wp2_with fail
          have hc := rlonger_any R2 B' rc2 d t b V3 HD2.out.numR (by rw [← HMM.out]; exact HD2.out.num HB.out) (by omega) (by rw [← HMM.out]; exact hm)
          rw [HG.out, ← HMM.out] at hc
          refine hc.mono ?_
          clear hc
          rintro e w4 ⟨rfl, hb⟩
          have HD4 := hid (HD2.out.below hb)
          have kB4 := HD4.out.cB
          have kR4 := HD4.out.cR
          clear hb
          go_wp2_with fail
          refine (rsub_any R2 B' (nw t) m rc2 d t b w4 HD4.out.numR (HD4.out.num HB.out) (by omega) (by omega) (of_decide_eq_true HG.out)).mono ?_
          rintro e w5 ⟨v, rfl, ⟨R3, rc3, rfl, ho⟩, hb⟩
          have HD5 := hid ((HD4.out.below hb).setR (ho.weak (b := w.heap.size + 6) HD4.out.1))
          have kR5 := (HD4.out.below hb).cR
          have fR5 := (HD4.out.below hb).fR
          clear hb ho
          go_wp2_with fail
          generalize hV6 : w5.setCell ⟨w.heap.size + 1 + 1 + 1 + 1 + 1, 0, none⟩ (.slice R3 (nw (t - b)) rc3) = V6 at HD5 ⊢
          clear hV6 kR5 fR5
          have cq := (HD5.out.drew.row.cell hjn)
          rw [← HDG.out] at cq
          have fq := HD5.out.drew.row.frozen j
          go_wp2_with fail
          go_region_with fail
          go_wp2_with fail
          go_roundw
          case rel => exact ⟨i, _, R3, rc3, by omega, fun _ => by omega, rfl, by go_num, by rw [HR2.out, ← HQ2.out]; exact HD5.out.drew.setQ hjn hq32⟩
          case measure => simp [intOf] <;> omega
        · have e1 := div_step_no hb0 HRV.out rfl (by rw [HI.out _ rfl]; exact hbt)
          rw [HI.out _ rfl] at e1
          have HQ2 : Hid (qv = a / 2 ^ i / b * 2 ^ i) := by
            show _ = _
            rw [HQV.out, e1.1, Nat.pow_succ, Nat.mul_assoc 2, Nat.mul_comm 2, Nat.mul_assoc]
          have HR2 := hid e1.2
          have HG : Hid (decide (b ≤ t) = false) := decide_eq_false hbt
          clear e1 hbt
          go_wp2_with fail
          have hc := rlonger_any R2 B' rc2 d t b V3 HD2.out.numR (by rw [← HMM.out]; exact HD2.out.num HB.out) (by omega) (by rw [← HMM.out]; exact hm)
          rw [HG.out, ← HMM.out] at hc
          refine hc.mono ?_
          clear hc
          rintro e w4 ⟨rfl, hb⟩
          have HD4 := hid (HD2.out.below hb)
          clear hb
          go_wp2_with fail
          go_roundw
          case rel => exact ⟨i, _, R2, rc2, by omega, fun _ => by omega, rfl, by go_num, by rw [HR2.out, ← HQ2.out]; exact HD4.out⟩
          case measure => simp [intOf] <;> omega)

end Go.Proofs.Ytlhfaaghfhiaoaa
