/- natform.digits. -/
import Derived.Test.YtohiimpjcgcaiaaBy
set_option linter.unusedVariables false
set_option linter.unusedSimpArgs false
namespace Go.Proofs.Ytohiimpjcgcaiaa
open Go.RowKit

/-- The digits of a in base b, k of them, the lowest first. -/
def dgs (b a k : Nat) : List Nat := (List.range k).map fun i => a / b ^ i % b
theorem dgs_succ (b a k : Nat) : dgs b a (k + 1) = dgs b a k ++ [a / b ^ k % b] := by unfold dgs; rw [List.range_succ, List.map_append]; rfl
theorem dgs_len (b a k : Nat) : (dgs b a k).length = k := by simp [dgs]
theorem dgs_at {b a k i : Nat} (h : i < (dgs b a k).length) : (dgs b a k)[i] = a / b ^ i % b := by simp [dgs]
theorem dig_in {b m j n : Nat} (h : j < n) : m % b ^ n / b ^ j % b = m / b ^ j % b := by
  obtain ⟨d, rfl⟩ : ∃ d, n = j + (d + 1) := ⟨n - j - 1, by omega⟩
  rw [Nat.pow_add, Nat.mod_mul_right_div_self, Nat.pow_succ, Nat.mod_mod_of_dvd _ (Nat.dvd_mul_left b (b ^ d))]
theorem div_on (a b k j : Nat) : a / b ^ k / b ^ j = a / b ^ (k + j) := by rw [Nat.div_div_eq_div_mul, Nat.pow_add]
/-- The number of digits of a in base b. -/
noncomputable def ndg (b a : Nat) : Nat := by
  classical
  exact if h : ∃ j, a < b ^ j ∧ (0 < j → b ^ (j - 1) ≤ a) then Classical.choose h else 0
theorem ndg_eq {b a j : Nat} (hb : 2 ≤ b) (h1 : a < b ^ j) (h2 : 0 < j → b ^ (j - 1) ≤ a) : ndg b a = j := by
  classical
  unfold ndg
  have h : ∃ j, a < b ^ j ∧ (0 < j → b ^ (j - 1) ≤ a) := ⟨j, h1, h2⟩
  rw [dif_pos h]
  obtain ⟨h3, h4⟩ := Classical.choose_spec h
  generalize Classical.choose h = i at *
  rcases Nat.lt_trichotomy i j with hl | hl | hl
  · have := Nat.pow_le_pow_right (n := b) (by omega) (show i ≤ j - 1 by omega)
    have := h2 (by omega)
    omega
  · exact hl
  · have := Nat.pow_le_pow_right (n := b) (by omega) (show j ≤ i - 1 by omega)
    have := h4 (by omega)
    omega
theorem top_zero {b a j : Nat} (h : a < b ^ (j + 1)) (hz : a / b ^ j % b = 0) (hb : 2 ≤ b) : a < b ^ j := by
  have hp : 0 < b ^ j := Nat.pow_pos (by omega)
  have h2 : a / b ^ j < b := by rw [Nat.div_lt_iff_lt_mul hp, Nat.mul_comm, ← Nat.pow_succ]; exact h
  rw [Nat.mod_eq_of_lt h2] at hz
  rcases Nat.div_eq_zero_iff.1 hz with h3 | h3 <;> omega
theorem top_some {b a j : Nat} (hz : a / b ^ j % b ≠ 0) : b ^ j ≤ a := by
  rcases Nat.lt_or_ge a (b ^ j) with h | h
  · rw [Nat.div_eq_of_lt h] at hz; simp at hz
  · exact h
theorem lt_of_div {a p : Nat} (h : a / p = 0) (hp : 0 < p) : a < p := by rcases Nat.div_eq_zero_iff.1 h with h3 | h3 <;> omega
theorem k_bd {a b e : Nat} (hb : 2 ≤ b) (ha : nw a ≤ 64) (h : a / b ^ e ≠ 0) : e ≤ 2048 := by
  have h1 : b ^ e ≤ a := by
    rcases Nat.lt_or_ge a (b ^ e) with h2 | h2
    · exact absurd (Nat.div_eq_of_lt h2) h
    · exact h2
  have h2 : 2 ^ e ≤ b ^ e := Nat.pow_le_pow_left hb e
  have h3 : a < 2 ^ (32 * nw a) := lt_nw a
  have h4 : 2 ^ e < 2 ^ (32 * nw a) := by omega
  have h5 := (Nat.pow_lt_pow_iff_right (by decide)).1 h4
  omega
theorem OB.cap {w : World} {base n c : Nat} {A : Option Addr} {l : List Nat} (h : OB w base (.slice A n c) l) : l.length ≤ c ∧ c ≤ 9223372036854775807 := by
  rcases h.blk with ⟨h1, h2⟩ | ⟨g, c', cur, h1, h2, h3, h4, h5, _⟩
  · subst h2; injection h1 with _ _ h1; subst h1; exact ⟨Nat.zero_le _, Nat.zero_le _⟩
  · injection h1 with _ _ h1; subst h1; unfold maxLen at h5; exact ⟨h4, by omega⟩
theorem OB.len_bd {w : World} {base n c : Nat} {A : Option Addr} {l : List Nat} (h : OB w base (.slice A n c) l) (hn : l.length = n) : n ≤ 9223372036854775807 := by
  rcases h.blk with ⟨h1, h2⟩ | ⟨g, c', cur, h1, h2, h3, h4, h5, _⟩
  · subst h2; rw [← hn]; exact Nat.zero_le _
  · unfold maxLen at h5; omega
theorem pow7_ge {b : Nat} (h : 2 ≤ b) : 2 ≤ b ^ 7 := Nat.le_trans h (Nat.le_self_pow (by decide) b)
theorem power7_any (b : Nat) (w : World) (hb : b ≤ 256) : Calls Try.prog 36 #[.int .i64 ((b : Nat) : Int), .int .i64 7] w (Ex (.int .i64 ((b ^ 7 : Nat) : Int)) w) := power_any b 7 w hb (by decide)
set_option maxHeartbeats 8000000 in
set_option maxRecDepth 100000 in
theorem digits_any (A : Option Addr) (c a bs : Nat) (w : World) (hA : Num w w.heap.size A (nw a) a) (ha : nw a ≤ 64) (hb2 : 2 ≤ bs) (hbs : bs ≤ 256) :
    Calls Try.prog 31 #[.agg #[.slice A (nw a) c], .int .i64 ((bs : Nat) : Int)] w (fun e w' => ∃ v, e = .returned v ∧ OB w' w.heap.size v (dgs bs a (ndg bs a)).reverse ∧ Below w.heap.size w w') := by
  obtain ⟨S, hS⟩ : ∃ S, S = bs ^ 7 := ⟨_, rfl⟩
  have HS := hid hS
  have s2 : 2 ≤ S := by rw [hS]; exact pow7_ge hb2
  have s3 : S ≤ 72057594037927936 := by rw [hS]; exact pow_bd hbs (Nat.le_refl 7)
  have ns := nw_i63 (a := S) (by omega)
  have K2 := hid (okB_nw ns)
  clear hS
  obtain ⟨b0, bw⟩ := boxes1 w (.slice A (nw a) c)
  have XN := VB.mk (B := w.heap.size) (a := a) b0 (.inl hA) bw (Nat.le_refl _) (by omega)
  have WW := bw
  clear bw b0
  go_enter Try.func31, Try.ntmps31
  go_wp2_with fail
  generalize hV : (w.alloc (.cells #[.slice A (nw a) c] 24)) = V0 at XN WW ⊢
  clear hV
  have hc := power7_any bs V0 hbs
  rw [← HS.out] at hc
  refine hc.mono ?_
  clear hc
  rintro e w' ⟨rfl, rfl⟩
  go_wp2_with fail
  have hbs : w.heap.size ≤ w'.heap.size := WW.size
  have hc := of_any ((S : Nat) : Int) w' (by omega) (by omega)
  rw [ofS_nat] at hc
  refine hc.mono ?_
  clear hc
  rintro e V1 ⟨v, rfl, hv, hb⟩
  replace XN := XN.below hb
  replace WW := WW.trans (hb.mono WW.size)
  obtain ⟨D1, d1, rfl, ho⟩ := hv
  have O1 := ho.weak (b := w.heap.size) hbs
  clear ho
  have kXN := XN.cell
  have zXN := XN.lt
  clear hb hbs
  go_wp2_with fail
  obtain ⟨b0, bw⟩ := boxes1 V1 (.slice D1 (nw S) d1)
  have hbs := WW.size
  clear kXN zXN
  have qXN2 := XN.lt
  have XS := VB.mk (B := w.heap.size) (a := S) b0 (.inr O1) bw hbs (by omega)
  replace XN := XN.below bw
  replace O1 := O1.below bw (Nat.le_refl _)
  replace WW := WW.trans (bw.mono WW.size)
  clear bw hbs b0
  generalize hV : (V1.alloc (.cells #[.slice D1 (nw S) d1] 24)) = V2 at XN XS O1 WW ⊢
  clear hV
  have kXN := XN.cell
  have zXN := XN.lt
  have kXS := XS.cell
  have zXS := XS.lt
  clear O1
  go_loopw [7] (fun d wr => ∃ (k m : Nat) (M : Option Addr) (mc : Nat), Hid (m = a / bs ^ (7 * k)) ∧ nw m ≤ 64 ∧ Below w.heap.size w wr ∧ VB w.heap.size wr (w.heap.size) M (nw m) mc m ∧ VB w.heap.size wr (V1.heap.size) D1 (nw S) d1 S ∧ OB wr w.heap.size d (dgs bs a (7 * k))) (fun d wr => numAt wr (w.heap.size))
  case atStart => exact ⟨0, a, A, c, (show a = a / bs ^ (7 * 0) by simp), ha, WW, XN, XS, OB.nil _ _⟩
  case round =>
    clear WW kXN zXN kXS zXS XN XS
    obtain ⟨k, m, M, mc, HM, hm, WW, XN, XS, OD⟩ := hrel
    have kXN := XN.cell
    have zXN := XN.lt
    have kXS := XS.cell
    have zXS := XS.lt
    by_cases h0 : m = 0
    · subst h0
      have l0 : decide (0 < ((nw 0 : Nat) : Int)) = false := rfl
      have HT : Hid (a < bs ^ (7 * k)) := lt_of_div HM.out.symm (Nat.pow_pos (by omega))
      go_wp2_with fail
      have hsl : ∃ A c, u7 = Value.slice A (7 * k) c := (by have h := OD.slc; rwa [dgs_len] at h)
      obtain ⟨A1, c1, rfl⟩ := hsl
      obtain ⟨n1, hn1⟩ : ∃ n1, n1 = 7 * k := ⟨_, rfl⟩
      rw [← hn1] at OD HT
      have hn2 : n1 ≤ 9223372036854775807 := OD.len_bd (by rw [dgs_len])
      rw [← hn1]
      clear HM hn1 kXN zXN kXS zXS XN XS l0
      obtain ⟨V8, hV8⟩ : ∃ V8 : World, V8 = wr := ⟨_, rfl⟩
      rw [← hV8] at OD WW
      have hW := hV8.symm
      clear hV8
      go_loopw [7] (fun l wz => ∃ j : Nat, j ≤ n1 ∧ l = .slice A1 j c1 ∧ Hid (a < bs ^ j) ∧ OB wz w.heap.size (.slice A1 j c1) (dgs bs a j) ∧ wz = V8) (fun l _ => match l with | .slice _ k _ => k | _ => 0)
      case atStart => exact ⟨n1, Nat.le_refl _, rfl, HT.out, by rw [hW]; exact OD, hW⟩
      case round =>
        clear OD HT hW
        obtain ⟨j, hj, rfl, HT, OD, rfl⟩ := hrel
        by_cases hj0 : j = 0
        · subst hj0
          have HJ : Hid (ndg bs a = 0) := ndg_eq hb2 HT.out (fun h => absurd h (by omega))
          go_wp2_with fail
          have hc := rev_any wr w.heap.size _ _ OD
          refine hc.mono ?_
          clear hc
          rintro e w2 ⟨rfl, ho, hg⟩
          have hb2' := OD.gbelow hg (Nat.le_refl _) WW.size WW
          go_wp2_with fail
          exact bodyPost_ret (v := .slice A1 0 c1) (by simp [results, Try.results31, go_sem]) rfl ⟨_, rfl, by rw [HJ.out]; exact ho, hb2'⟩
        · obtain ⟨g, rfl, hg, hc, hf⟩ := OD.cell (i := j - 1) (by rw [dgs_len]; omega)
          rw [dgs_at] at hc
          unfold byt at hc
          have j1 : (j : Int) - 1 = ((j - 1 : Nat) : Int) := by omega
          have j2 : 0 < j := by omega
          have j3 : (0 : Int) < (j : Int) := by omega
          obtain ⟨y, hy⟩ : ∃ y, y = a / bs ^ (j - 1) % bs := ⟨_, rfl⟩
          have HYd := hid hy
          rw [← hy] at hc
          have hjc := OD.cap
          rw [dgs_len] at hjc
          obtain ⟨hjc, hcm⟩ := hjc
          have hy1 : y ≤ 255 := by have := Nat.mod_lt (a / bs ^ (j - 1)) (show bs > 0 by omega); omega
          clear hy hj0
          by_cases hy0 : y = 0
          · subst hy0
            have HT2 : Hid (a < bs ^ (j - 1)) := top_zero (by rw [Nat.sub_add_cancel j2]; exact HT.out) HYd.out.symm hb2
            have HO2 : Hid (OB wr w.heap.size (.slice (some ⟨g, 0, none⟩) (j - 1) c1) (dgs bs a (j - 1))) := (by have h := OD; rw [show dgs bs a j = dgs bs a (j - 1) ++ [a / bs ^ (j - 1) % bs] by rw [← dgs_succ, Nat.sub_add_cancel j2]] at h; have h2 := h.pop; rw [dgs_len] at h2; exact h2)
            go_wp2_with fail
            go_roundw
            case rel => exact ⟨j - 1, by omega, rfl, HT2, HO2.out, trivial⟩
            case measure => simp <;> omega
          · have d3 : (((y : Nat) : Int) == 0) = false := by simp; omega
            have HJ : Hid (ndg bs a = j) := ndg_eq hb2 HT.out (fun _ => top_some (by rw [← HYd.out]; exact hy0))
            go_wp2_with fail
            have hc := rev_any wr w.heap.size _ _ OD
            refine hc.mono ?_
            clear hc
            rintro e w2 ⟨rfl, ho, hg⟩
            have hb2' := OD.gbelow hg (Nat.le_refl _) WW.size WW
            go_wp2_with fail
            exact bodyPost_ret (v := .slice (some ⟨g, 0, none⟩) j c1) (by simp [results, Try.results31, go_sem]) rfl ⟨_, rfl, by rw [HJ.out]; exact ho, hb2'⟩
    · have ny0 := nw_pos h0
      have l1 : decide (0 < ((nw m : Nat) : Int)) = true := by simpa using ny0
      have HN0 : Hid (numAt wr (w.heap.size) = m) := numAt_eq kXN XN.num
      have K1 := hid (okB_nw hm)
      obtain ⟨q, hq⟩ : ∃ q, q = m / S := ⟨_, rfl⟩
      obtain ⟨r, hr⟩ : ∃ r, r = m % S := ⟨_, rfl⟩
      have HQ := hid hq
      have HR := hid hr
      have hrS : r < S := by rw [hr]; exact Nat.mod_lt _ (by omega)
      have HQM : Hid (q < m) := (show q < m by rw [hq]; exact Nat.div_lt_self (by omega) (by omega))
      have nq : nw q ≤ 64 := Nat.le_trans (nw_mono (Nat.le_of_lt HQM.out)) hm
      have nr : nw r ≤ 64 := nw_i63 (by omega)
      have K3 := hid (okB_nw nr)
      have hbr : bl r ≤ 63 := by have := bl_le (a := r) (k := 63) (by omega); omega
      have HD := hid (divS_yes (a := m) (b := S) (by omega))
      have k7 : 7 * k ≤ 2048 := k_bd hb2 ha (by rw [← HM.out]; exact h0)
      clear hq hr
      go_wp2_with fail
      obtain ⟨b0, bw⟩ := boxes1 wr (.slice none 0 0)
      have hbs := WW.size
      clear kXN zXN kXS zXS
      have qXS3 := XS.lt
      have qXN3 := XN.lt
      have XR := VB.mk (B := w.heap.size) (a := 0) b0 (.inr (Own.nil _ _ _ _ (Nat.zero_le _))) bw hbs (by omega)
      replace XN := XN.below bw
      replace XS := XS.below bw
      replace OD := OD.below bw (Nat.le_refl _)
      replace WW := WW.trans (bw.mono WW.size)
      clear bw hbs b0
      generalize hV : (wr.alloc (.cells #[.slice none 0 0] 24)) = V3 at XN XS XR OD WW ⊢
      clear hV
      have kXN := XN.cell
      have zXN := XN.lt
      have kXS := XS.cell
      have zXS := XS.lt
      have kXR := XR.cell
      have zXR := XR.lt
      have hbs : w.heap.size ≤ V3.heap.size := WW.size
      have hc := div_any M D1 _ _ mc d1 m S V3 XN.num XS.num (by omega) (by omega)
      rw [bothD_yes K1.out K2.out] at hc
      rw [HD.out] at hc
      rw [← HQ.out] at hc
      rw [← HR.out] at hc
      refine hc.mono ?_
      clear hc
      rintro e V4 ⟨v, u, rfl, hv, hu, hb⟩
      clear kXN zXN kXS zXS kXR zXR
      replace XN := XN.below hb
      replace XS := XS.below hb
      replace XR := XR.below hb
      replace OD := OD.below hb (Nat.le_refl _)
      replace WW := WW.trans (hb.mono WW.size)
      obtain ⟨D7, d7, rfl, ho⟩ := hv
      have O7 := ho.weak (b := w.heap.size) hbs
      clear ho
      obtain ⟨D8, d8, rfl, ho⟩ := hu
      have O8 := ho.weak (b := w.heap.size) hbs
      clear ho
      have kXN := XN.cell
      have zXN := XN.lt
      have kXS := XS.cell
      have zXS := XS.lt
      have kXR := XR.cell
      have zXR := XR.lt
      clear hb hbs
      have fXN := XN.1.frozen 0
      have fXR := XR.1.frozen 0
      go_wp2_with fail
      clear fXN fXR
      clear kXN zXN kXS zXS kXR zXR
      have XNn := XN.set_ (A' := D7) (n' := (nw q)) (c' := d7) (a' := q) (.inr O7)
      replace XS := XS.far (p := ⟨w.heap.size, 0, none⟩) XN.1 XN.2.2 (by simp <;> omega) (.slice D7 (nw q) d7)
      replace XR := XR.far (p := ⟨w.heap.size, 0, none⟩) XN.1 XN.2.2 (by simp <;> omega) (.slice D7 (nw q) d7)
      replace OD := OD.box (p := ⟨w.heap.size, 0, none⟩) XN.1 (by decide) (.slice D7 (nw q) d7)
      replace O7 := O7.box (p := ⟨w.heap.size, 0, none⟩) XN.1 (by decide) (.slice D7 (nw q) d7)
      replace O8 := O8.box (p := ⟨w.heap.size, 0, none⟩) XN.1 (by decide) (.slice D7 (nw q) d7)
      replace XN := XNn
      clear XNn
      replace WW := WW.setCell (p := ⟨w.heap.size, 0, none⟩) XN.2.2 (.slice D7 (nw q) d7)
      have XRn := XR.set_ (A' := D8) (n' := (nw r)) (c' := d8) (a' := r) (.inr O8)
      replace XN := XN.far (p := ⟨wr.heap.size, 0, none⟩) XR.1 XR.2.2 (by simp <;> omega) (.slice D8 (nw r) d8)
      replace XS := XS.far (p := ⟨wr.heap.size, 0, none⟩) XR.1 XR.2.2 (by simp <;> omega) (.slice D8 (nw r) d8)
      replace OD := OD.box (p := ⟨wr.heap.size, 0, none⟩) XR.1 (by decide) (.slice D8 (nw r) d8)
      replace O7 := O7.box (p := ⟨wr.heap.size, 0, none⟩) XR.1 (by decide) (.slice D8 (nw r) d8)
      replace O8 := O8.box (p := ⟨wr.heap.size, 0, none⟩) XR.1 (by decide) (.slice D8 (nw r) d8)
      replace XR := XRn
      clear XRn
      replace WW := WW.setCell (p := ⟨wr.heap.size, 0, none⟩) XR.2.2 (.slice D8 (nw r) d8)
      generalize hV : ((V4.setCell ⟨w.heap.size, 0, none⟩ (.slice D7 (nw q) d7)).setCell ⟨wr.heap.size, 0, none⟩ (.slice D8 (nw r) d8)) = V5 at XN XS XR OD O7 O8 WW ⊢
      clear hV
      have kXN := XN.cell
      have zXN := XN.lt
      have kXS := XS.cell
      have zXS := XS.lt
      have kXR := XR.cell
      have zXR := XR.lt
      have hbs : w.heap.size ≤ V5.heap.size := WW.size
      have hc := int_any D8 (nw r) d8 r V5 XR.num (by omega)
      rw [intS_ok K3.out hbr] at hc
      refine hc.mono ?_
      clear hc
      rintro e V6 ⟨rfl, hb⟩
      clear kXN zXN kXS zXS kXR zXR
      replace XN := XN.below hb
      replace XS := XS.below hb
      replace XR := XR.below hb
      replace OD := OD.below hb (Nat.le_refl _)
      replace O7 := O7.below hb (Nat.le_refl _)
      replace O8 := O8.below hb (Nat.le_refl _)
      replace WW := WW.trans (hb.mono WW.size)
      have kXN := XN.cell
      have zXN := XN.lt
      have kXS := XS.cell
      have zXS := XS.lt
      have kXR := XR.cell
      have zXR := XR.lt
      clear hb hbs
      go_wp2_with fail
      clear XR kXR zXR O7 O8
      go_loopw [7, 9, 33] (fun d2 x i wr => ∃ (j y : Nat), j ≤ 7 ∧ x = .int .i64 ((y : Nat) : Int) ∧ i = .int .i64 ((j : Nat) : Int) ∧ Hid (y = r / bs ^ j) ∧ Below w.heap.size w wr ∧ VB w.heap.size wr (w.heap.size) D7 (nw q) d7 q ∧ VB w.heap.size wr (V1.heap.size) D1 (nw S) d1 S ∧ OB wr w.heap.size d2 (dgs bs a (7 * k + j))) (fun d2 x i wr => (7 - intOf i).toNat)
      case atStart => exact ⟨0, r, by omega, by go_num, by go_num, (show r = r / bs ^ 0 by simp), WW, XN, XS, OD⟩
      case round =>
        clear WW kXN zXN kXS zXS XN XS OD
        obtain ⟨j, y, hj, rfl, rfl, HY, WW, XN, XS, OD⟩ := hrel
        have kXN := XN.cell
        have zXN := XN.lt
        have kXS := XS.cell
        have zXS := XS.lt
        by_cases hj7 : j < 7
        · have hyr : y ≤ r := by rw [HY.out]; exact Nat.div_le_self _ _
          have l2 : decide (((j : Nat) : Int) < 7) = true := by simp; omega
          obtain ⟨d, hd⟩ : ∃ d, d = y % bs := ⟨_, rfl⟩
          obtain ⟨y2, hy2⟩ : ∃ y2, y2 = y / bs := ⟨_, rfl⟩
          have HDg := hid hd
          have HY2 := hid hy2
          have hd1 : d ≤ 255 := by have := Nat.mod_lt y (show bs > 0 by omega); omega
          have tr : Int.tmod (y : Int) (bs : Int) = ((d : Nat) : Int) := by rw [hd]; rfl
          have tq : Int.tdiv (y : Int) (bs : Int) = ((y2 : Nat) : Int) := by rw [hy2]; rfl
          have hz : decide (((bs : Nat) : Int) = 0) = false := by simp; omega
          have hyz : ((y : Nat) : Int) ≤ 72057594037927936 := by omega
          have hyz2 : ((y2 : Nat) : Int) ≤ 72057594037927936 := by have := Nat.div_le_self y bs; omega
          have HY3 : Hid (y2 = r / bs ^ (j + 1)) := (show y2 = _ by rw [hy2, HY.out, Nat.div_div_eq_div_mul, ← Nat.pow_succ])
          have HE : Hid (dgs bs a (7 * k + (j + 1)) = dgs bs a (7 * k + j) ++ [d]) := (show dgs bs a (7 * k + j + 1) = _ by rw [dgs_succ, hd, HY.out, HR.out, HS.out, dig_in hj7, HM.out, div_on])
          clear hd hy2 hyr s3 hrS
          clear kXN zXN kXS zXS
          go_wp2_with (at_builtin; refine wp_appb rfl _ _ rfl w.heap.size wr u7 (dgs bs a (7 * k + j)) d rfl OD rfl (by rw [dgs_len]; omega) WW.size ?_; intro v9 V9 ho hg; replace XN := OD.gvb hg (Nat.le_refl _) XN; replace XS := OD.gvb hg (Nat.le_refl _) XS; replace WW := OD.gbelow hg (Nat.le_refl _) WW.size WW; clear OD; have OD := ho; clear ho; clear hg)
          have kXN := XN.cell
          have zXN := XN.lt
          have kXS := XS.cell
          have zXS := XS.lt
          go_roundw
          case rel => exact ⟨j + 1, y2, by omega, by go_num, by go_num, HY3.out, WW, XN, XS, (by rw [HE.out]; exact OD)⟩
          case measure => simp [intOf] <;> omega
        · obtain rfl : j = 7 := by omega
          have HN1 : Hid (numAt wr (w.heap.size) = q) := numAt_eq kXN XN.num
          have HQ2 : Hid (q = a / bs ^ (7 * (k + 1))) := (show q = _ by rw [HQ.out, HM.out, HS.out, Nat.div_div_eq_div_mul, ← Nat.pow_add, Nat.mul_succ])
          go_wp2_with fail
          go_roundw
          case rel => exact ⟨k + 1, q, D7, d7, HQ2.out, nq, WW, XN, XS, OD⟩
          case measure => rw [HN1.out, HN0.out]; exact HQM.out

end Go.Proofs.Ytohiimpjcgcaiaa
