/- The reference: Mul, twice, longer. -/
import Derived.Test.YtlhfaaghfhiaoaaRef5
set_option linter.unusedVariables false
set_option linter.unusedSimpArgs false
namespace Go.Proofs.Ytlhfaaghfhiaoaa
open Go.RowKit

theorem rmul_any (A B' : Option Addr) (n m c d a b : Nat) (w : World) (hA : Num w w.heap.size A n a) (hB : Num w w.heap.size B' m b) (hn : n ≤ 64) (hm : m ≤ 64) :
    Calls Try.prog 35 #[.agg #[.slice A n c], .agg #[.slice B' m d]] w (RetTwo w.heap.size (limS (a * b)).1 (limS (a * b)).2 w) := by
  obtain ⟨b0, b1, b2, bw⟩ := boxes3 w (.slice A n c) (.slice B' m d) (.slice none 0 0)
  have HXA := hid (Box.mk b0 hA bw)
  have HXB := hid (Box.mk b1 hB bw)
  have HB2 := hid b2
  have HWW := hid bw
  have HN : Hid (nw (a * b) ≤ 1000000) := by
    show _ ≤ _
    have h1 := Nat.lt_of_lt_of_le hA.lt (pw_le hn)
    have h2 := Nat.lt_of_lt_of_le hB.lt (pw_le hm)
    exact Nat.le_trans (nw_le (mul_lt_pw h1 h2)) (by omega)
  clear b0 b1 b2 bw hA hB
  obtain ⟨l1, hl1⟩ : ∃ x, x = (limS (a * b)).1 := ⟨_, rfl⟩
  obtain ⟨l2, hl2⟩ : ∃ x, x = (limS (a * b)).2 := ⟨_, rfl⟩
  rw [← hl1, ← hl2]
  have L1 := hid hl1
  have L2 := hid hl2
  clear hl1 hl2
  go_enter Try.func35, Try.ntmps35
  go_wp2_with fail
  generalize hV : ((w.alloc (.cells #[.slice A n c] 24)).alloc (.cells #[.slice B' m d] 24)).alloc (.cells #[.slice none 0 0] 24) = V at HXA HXB HB2 HWW ⊢
  clear hV
  have kA := HXA.out.cell
  have kB := HXB.out.cell
  go_wp2_with fail
  refine (rproduct_any A B' n m c d a b V HXA.out.num HXB.out.num (by omega) (by omega)).mono ?_
  rintro e v1 ⟨v, rfl, ⟨D, dc, rfl, ho⟩, hb⟩
  have HO := hid ho
  have HB1 := hid hb
  clear ho hb kA kB
  go_wp2_with fail
  have hc := rsized_any D dc (a * b) V.heap.size v1 HO.out HB1.out.size HN.out
  rw [← L1.out, ← L2.out] at hc
  refine hc.mono ?_
  clear hc
  rintro e v2 ⟨v, rfl, ⟨E, ec, rfl, ho⟩, hb⟩
  have HBW := hid (HB1.out.trans (hb.mono HB1.out.size))
  have HO9 := hid (ho.weak (b := w.heap.size) HWW.out.size)
  have B9 := hid (HB2.out.below HBW.out HB2.out.lt)
  have W9 := hid (HWW.out.trans (HBW.out.mono HWW.out.size))
  have cB := B9.out.cell0
  have fB := B9.out.frozen 0
  clear hb ho
  go_wp2_with fail
  have ho2 := HO9.out.box (p := ⟨w.heap.size + 1 + 1, 0, none⟩) B9.out (by decide) (.slice E (nw l1) ec)
  exact bodyPost_ret (v := .tuple #[.agg #[.slice E (nw l1) ec], .int .i64 l2]) (by simp [results, Try.results35, go_sem, cB]) rfl ⟨_, rfl, ⟨E, ec, rfl, ho2⟩, W9.out.setCell (by simp <;> omega) _⟩

theorem twice_step (a k S cc d r q t : Nat) (hI : S + cc * 2 ^ (32 * k) = 2 * (a % 2 ^ (32 * k)) + t) (hd : d = dig a k) (hr : r + q * 4294967296 = 2 * d + cc) :
    r * 2 ^ (32 * k) + S + q * 2 ^ (32 * (k + 1)) = 2 * (a % 2 ^ (32 * (k + 1))) + t := by
  rw [mod_pw_succ, pw_succ, ← hd]
  generalize 2 ^ (32 * k) = P at *
  generalize a % P = m at *
  have e : (r + q * 4294967296) * P = (2 * d + cc) * P := by rw [hr]
  simp only [Nat.add_mul] at e
  rw [show q * (P * 4294967296) = q * 4294967296 * P by rw [Nat.mul_comm P, Nat.mul_assoc]]
  have e2 : 2 * (m + d * P) = 2 * m + 2 * d * P := by rw [Nat.mul_add, Nat.mul_assoc]
  rw [e2]
  omega
set_option maxHeartbeats 4000000 in
theorem rtwice_any (A : Option Addr) (n c a t : Nat) (bit : Bool) (w : World) (hA : Num w w.heap.size A n a) (hn : n ≤ 100000) (ht : t = if bit = true then 1 else 0) :
    Calls Try.prog 58 #[.agg #[.slice A n c], .bool bit] w (RetNat w.heap.size (2 * a + t) w) := by
  obtain ⟨b0, b1, bw⟩ := boxes2 w (.slice A n c) (.slice none 0 0)
  have HXA := hid (Box.mk b0 hA bw)
  have HB2 := hid b1
  have HWW := hid bw
  have t1 : t ≤ 1 := by rw [ht]; split <;> omega
  have hT : Value.int .u32 (if bit = true then 1 else 0) = .int .u32 (t : Int) := by rw [ht]; split <;> rfl
  have HS : ∀ wr, Below (w.heap.size + 2) ((w.alloc (.cells #[.slice A n c] 24)).alloc (.cells #[.slice none 0 0] 24)) wr → True := fun _ _ => trivial
  clear b0 b1 bw hA HS
  have HL : ∀ V : World, Hid (Box V w.heap.size A n c a) → Hid (Blk V (w.heap.size + 1) 24 #[.slice none 0 0]) → Hid (Below w.heap.size w V) → True := fun _ _ _ _ => trivial
  clear HL
  cases bit
  · obtain rfl : t = 0 := by rw [ht]; rfl
    clear ht hT t1
    go_enter Try.func58, Try.ntmps58
    go_wp2_with fail
    generalize hV : (w.alloc (.cells #[.slice A n c] 24)).alloc (.cells #[.slice none 0 0] 24) = V at HXA HB2 HWW ⊢
    clear hV
    go_loopw [7, 5, 6] (fun i o cy wr => ∃ (k cc S : Nat), k ≤ 100000 ∧ i = .int .i64 k ∧ cy = .int .u32 cc ∧ cc ≤ 1 ∧ k ≤ n ∧ OwnsV wr V.heap.size o k S ∧ S + cc * 2 ^ (32 * k) = 2 * (a % 2 ^ (32 * k)) + 0 ∧ Below V.heap.size V wr) (fun i _ _ _ => n - (intOf i).toNat)
    case atStart => exact ⟨0, 0, 0, by omega, rfl, rfl, by omega, by omega, OwnsV.none_ _ _, by simp [Nat.mod_one], Below.refl _ _⟩
    case round =>
      obtain ⟨k, cc, S, hk, rfl, rfl, hcc, hkm, hO, hI, hbl⟩ := hrel
      obtain ⟨O, oc, rfl, hO'⟩ := hO.own
      clear hO'
      have HO := hid hO
      have HI := hid hI
      have HBL := hid hbl
      have HXA_0 := hid (HXA.out.below hbl)
      have kA := HXA_0.out.cell
      clear hO hI hbl
      by_cases hlt : k < n
      · have l1 : ((k : Nat) : Int) < ((n : Nat) : Int) := by omega
        obtain ⟨ad, rfl, hab, hac⟩ := HXA_0.out.num.at_ hlt
        obtain ⟨d, hd⟩ : ∃ d : Nat, d = dig a k := ⟨_, rfl⟩
        have d1 := dig_lt a k
        rw [← hd] at d1 hac
        obtain ⟨m2, hm2⟩ : ∃ m2 : Nat, m2 = 2 * d % 4294967296 := ⟨_, rfl⟩
        obtain ⟨r, hr⟩ : ∃ r : Nat, r = m2 + cc := ⟨_, rfl⟩
        obtain ⟨q, hq⟩ : ∃ q : Nat, q = d / 2147483648 := ⟨_, rfl⟩
        have r1 : r ≤ 4294967295 := by omega
        have q1 : q ≤ 1 := by omega
        have HS1 := hid (twice_step a k S cc d r q 0 HI.out hd (by omega))
        have x1 : IntKind.u32.wrap ((d : Int) * 2) = (m2 : Int) := by rw [IntKind.wrap_u32]; omega
        have x2 : IntKind.u32.wrap ((m2 : Int) + (cc : Int)) = (r : Int) := by rw [IntKind.wrap_u32]; omega
        have x3 : (d : Int) / 2147483648 = (q : Int) := by omega
        have x4 : IntKind.u32.wrap (q : Int) = (q : Int) := by rw [IntKind.wrap_u32]; omega
        have j1 : IntKind.i64.wrap ((k : Int) + 1) = ((k + 1 : Nat) : Int) := by rw [IntWalk.i64_in _ (by omega)]; omega
        have hadV : ad.block < wr.heap.size := hab
        have HD := hid hd
        have HAC := hid (⟨hac, hab⟩ : wr.cell? (ad.add k) = some (.int .u32 ((d : Nat) : Int)) ∧ ad.block < wr.heap.size)
        clear HXA_0 HI hd hm2 hr hq
        go_wp2_with (at_builtin; refine wp_app1 rfl _ _ rfl V.heap.size wr (.slice O k oc) k S r rfl HO.out rfl r1 (by omega) HBL.out.size ?_; intro O1 oc1 v1 ho1 hb1 hlt1 hc1; have HO1 := hid ho1; have HB1 := hid (HBL.out.trans hb1); clear ho1 hb1; have HXA_1 := hid (HXA.out.below HB1.out); have kA1 := HXA_1.out.cell; obtain ⟨ad', e, hab1, hac1⟩ := HXA_1.out.num.at_ hlt; injection e with e; subst e; rw [← HD.out] at hac1)
        go_roundw
        case rel => exact ⟨k + 1, q, _, by omega, by go_num, rfl, q1, by omega, HO1.out, HS1.out, HB1.out⟩
        case measure => simp [intOf] <;> omega
      · obtain rfl : k = n := by omega
        have l1 : decide (((k : Nat) : Int) < ((k : Nat) : Int)) = false := by simp
        have HF : Hid (cc * 2 ^ (32 * k) + S = 2 * a + 0) := by
          show _ = _
          have := HI.out
          rw [Nat.mod_eq_of_lt HXA.out.num.lt] at this
          omega
        clear HI
        go_wp2_with (at_builtin; refine wp_app1 rfl _ _ rfl V.heap.size wr (.slice O k oc) k S cc rfl HO.out rfl (by omega) (by omega) HBL.out.size ?_; intro O1 oc1 v1 ho1 hb1 hlt1 hc1; have HO1 := hid ho1; have HB1 := hid (HBL.out.trans hb1); clear ho1 hb1)
        rw [HF.out] at HO1
        refine (rtrim_any O1 (k + 1) oc1 (2 * a + 0) _ v1 (OwnsV.num HO1.out (Nat.le_refl _)) (Nat.le_refl _) (by omega) hc1).mono ?_
        rintro e w9 ⟨v, rfl, ⟨A', c', rfl, ho⟩, hb⟩
        have HBW := hid (HB1.out.trans (hb.mono HB1.out.size))
        have HO9 := hid (ho.weak (b := w.heap.size) (Nat.le_trans HWW.out.size HB1.out.size))
        have B9 := hid (HB2.out.below HBW.out HB2.out.lt)
        have W9 := hid (HWW.out.trans (HBW.out.mono HWW.out.size))
        have cB := B9.out.cell0
        have fB := B9.out.frozen 0
        clear hb ho HO1 HB1
        go_wp2_with fail
        have ho2 := HO9.out.box (p := ⟨w.heap.size + 1, 0, none⟩) B9.out (by decide) (.slice A' (nw (2 * a + 0)) c')
        exact bodyPost_ret (v := .agg #[.slice A' (nw (2 * a + 0)) c']) (by simp [results, Try.results58, go_sem, cB]) rfl ⟨_, rfl, ⟨A', c', rfl, ho2⟩, W9.out.setCell (by simp <;> omega) _⟩
  · obtain rfl : t = 1 := by rw [ht]; rfl
    clear ht hT t1
    go_enter Try.func58, Try.ntmps58
    go_wp2_with fail
    generalize hV : (w.alloc (.cells #[.slice A n c] 24)).alloc (.cells #[.slice none 0 0] 24) = V at HXA HB2 HWW ⊢
    clear hV
    go_loopw [7, 5, 6] (fun i o cy wr => ∃ (k cc S : Nat), k ≤ 100000 ∧ i = .int .i64 k ∧ cy = .int .u32 cc ∧ cc ≤ 1 ∧ k ≤ n ∧ OwnsV wr V.heap.size o k S ∧ S + cc * 2 ^ (32 * k) = 2 * (a % 2 ^ (32 * k)) + 1 ∧ Below V.heap.size V wr) (fun i _ _ _ => n - (intOf i).toNat)
    case atStart => exact ⟨0, 1, 0, by omega, rfl, rfl, by omega, by omega, OwnsV.none_ _ _, by simp [Nat.mod_one], Below.refl _ _⟩
    case round =>
      obtain ⟨k, cc, S, hk, rfl, rfl, hcc, hkm, hO, hI, hbl⟩ := hrel
      obtain ⟨O, oc, rfl, hO'⟩ := hO.own
      clear hO'
      have HO := hid hO
      have HI := hid hI
      have HBL := hid hbl
      have HXA_0 := hid (HXA.out.below hbl)
      have kA := HXA_0.out.cell
      clear hO hI hbl
      by_cases hlt : k < n
      · have l1 : ((k : Nat) : Int) < ((n : Nat) : Int) := by omega
        obtain ⟨ad, rfl, hab, hac⟩ := HXA_0.out.num.at_ hlt
        obtain ⟨d, hd⟩ : ∃ d : Nat, d = dig a k := ⟨_, rfl⟩
        have d1 := dig_lt a k
        rw [← hd] at d1 hac
        obtain ⟨m2, hm2⟩ : ∃ m2 : Nat, m2 = 2 * d % 4294967296 := ⟨_, rfl⟩
        obtain ⟨r, hr⟩ : ∃ r : Nat, r = m2 + cc := ⟨_, rfl⟩
        obtain ⟨q, hq⟩ : ∃ q : Nat, q = d / 2147483648 := ⟨_, rfl⟩
        have r1 : r ≤ 4294967295 := by omega
        have q1 : q ≤ 1 := by omega
        have HS1 := hid (twice_step a k S cc d r q 1 HI.out hd (by omega))
        have x1 : IntKind.u32.wrap ((d : Int) * 2) = (m2 : Int) := by rw [IntKind.wrap_u32]; omega
        have x2 : IntKind.u32.wrap ((m2 : Int) + (cc : Int)) = (r : Int) := by rw [IntKind.wrap_u32]; omega
        have x3 : (d : Int) / 2147483648 = (q : Int) := by omega
        have x4 : IntKind.u32.wrap (q : Int) = (q : Int) := by rw [IntKind.wrap_u32]; omega
        have j1 : IntKind.i64.wrap ((k : Int) + 1) = ((k + 1 : Nat) : Int) := by rw [IntWalk.i64_in _ (by omega)]; omega
        have hadV : ad.block < wr.heap.size := hab
        have HD := hid hd
        have HAC := hid (⟨hac, hab⟩ : wr.cell? (ad.add k) = some (.int .u32 ((d : Nat) : Int)) ∧ ad.block < wr.heap.size)
        clear HXA_0 HI hd hm2 hr hq
        go_wp2_with (at_builtin; refine wp_app1 rfl _ _ rfl V.heap.size wr (.slice O k oc) k S r rfl HO.out rfl r1 (by omega) HBL.out.size ?_; intro O1 oc1 v1 ho1 hb1 hlt1 hc1; have HO1 := hid ho1; have HB1 := hid (HBL.out.trans hb1); clear ho1 hb1; have HXA_1 := hid (HXA.out.below HB1.out); have kA1 := HXA_1.out.cell; obtain ⟨ad', e, hab1, hac1⟩ := HXA_1.out.num.at_ hlt; injection e with e; subst e; rw [← HD.out] at hac1)
        go_roundw
        case rel => exact ⟨k + 1, q, _, by omega, by go_num, rfl, q1, by omega, HO1.out, HS1.out, HB1.out⟩
        case measure => simp [intOf] <;> omega
      · obtain rfl : k = n := by omega
        have l1 : decide (((k : Nat) : Int) < ((k : Nat) : Int)) = false := by simp
        have HF : Hid (cc * 2 ^ (32 * k) + S = 2 * a + 1) := by
          show _ = _
          have := HI.out
          rw [Nat.mod_eq_of_lt HXA.out.num.lt] at this
          omega
        clear HI
        go_wp2_with (at_builtin; refine wp_app1 rfl _ _ rfl V.heap.size wr (.slice O k oc) k S cc rfl HO.out rfl (by omega) (by omega) HBL.out.size ?_; intro O1 oc1 v1 ho1 hb1 hlt1 hc1; have HO1 := hid ho1; have HB1 := hid (HBL.out.trans hb1); clear ho1 hb1)
        rw [HF.out] at HO1
        refine (rtrim_any O1 (k + 1) oc1 (2 * a + 1) _ v1 (OwnsV.num HO1.out (Nat.le_refl _)) (Nat.le_refl _) (by omega) hc1).mono ?_
        rintro e w9 ⟨v, rfl, ⟨A', c', rfl, ho⟩, hb⟩
        have HBW := hid (HB1.out.trans (hb.mono HB1.out.size))
        have HO9 := hid (ho.weak (b := w.heap.size) (Nat.le_trans HWW.out.size HB1.out.size))
        have B9 := hid (HB2.out.below HBW.out HB2.out.lt)
        have W9 := hid (HWW.out.trans (HBW.out.mono HWW.out.size))
        have cB := B9.out.cell0
        have fB := B9.out.frozen 0
        clear hb ho HO1 HB1
        go_wp2_with fail
        have ho2 := HO9.out.box (p := ⟨w.heap.size + 1, 0, none⟩) B9.out (by decide) (.slice A' (nw (2 * a + 1)) c')
        exact bodyPost_ret (v := .agg #[.slice A' (nw (2 * a + 1)) c']) (by simp [results, Try.results58, go_sem, cB]) rfl ⟨_, rfl, ⟨A', c', rfl, ho2⟩, W9.out.setCell (by simp <;> omega) _⟩

theorem rlonger_any (A B' : Option Addr) (c d a b : Nat) (w : World) (hA : Num w w.heap.size A (nw a) a) (hB : Num w w.heap.size B' (nw b) b) (hn : nw a ≤ 1000) (hm : nw b ≤ 64) :
    Calls Try.prog 59 #[.agg #[.slice A (nw a) c], .agg #[.slice B' (nw b) d]] w (RetB (.bool (decide (b ≤ a))) w) := by
  obtain ⟨b0, b1, bw⟩ := boxes2 w (.slice A (nw a) c) (.slice B' (nw b) d)
  have HXA := hid (Box.mk b0 hA bw)
  have HXB := hid (Box.mk b1 hB bw)
  have HWW := hid bw
  clear b0 b1 bw hA hB
  by_cases h : nw a = nw b
  · have h1 : (((nw a : Nat) : Int) != ((nw b : Nat) : Int)) = false := by simp [h]
    have hn2 : nw a ≤ 64 := by omega
    have HF : Hid (decide (b ≤ a) = decide (0 ≤ ordN a b)) := by
      show _ = _
      unfold ordN
      by_cases h2 : a < b
      · rw [if_pos h2]; simp; omega
      · rw [if_neg h2]; split <;> simp <;> omega
    rw [HF.out]
    obtain ⟨od, hod⟩ : ∃ x, ordN a b = x := ⟨_, rfl⟩
    have OD := hid hod
    rw [hod]
    clear h hod HF
    go_enter Try.func59, Try.ntmps59
    go_wp2_with fail
    generalize hV : (w.alloc (.cells #[.slice A (nw a) c] 24)).alloc (.cells #[.slice B' (nw b) d] 24) = V at HXA HXB HWW ⊢
    clear hV
    have hc := rcompare_any A B' _ _ c d a b V HXA.out.num HXB.out.num hn2 hm
    rw [OD.out] at hc
    refine hc.mono ?_
    clear hc
    rintro e w1 ⟨rfl, hb⟩
    have HW1 := hid (HWW.out.trans (hb.mono HWW.out.size))
    clear hb
    go_wp2_with fail
    go_ret
    exact ⟨rfl, HW1.out⟩
  · have h1 : (((nw a : Nat) : Int) != ((nw b : Nat) : Int)) = true := by rw [bne_iff_ne]; omega
    have HF : Hid (decide (b ≤ a) = decide (nw b < nw a)) := by
      show _ = _
      rcases Nat.lt_or_gt_of_ne h with hl | hl
      · have := lt_of_nw_lt hl
        rw [decide_eq_false (by omega), decide_eq_false (by omega)]
      · have := lt_of_nw_lt hl
        rw [decide_eq_true (by omega), decide_eq_true (by omega)]
    rw [HF.out]
    clear h HF
    go_enter Try.func59, Try.ntmps59
    go_wp2_with fail
    go_ret
    exact ⟨rfl, HWW.out⟩

end Go.Proofs.Ytlhfaaghfhiaoaa
