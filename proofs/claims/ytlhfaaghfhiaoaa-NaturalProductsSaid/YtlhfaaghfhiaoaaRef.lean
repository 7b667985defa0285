/- The reference: its words, bits, ints. -/
import Derived.Test.YtlhfaaghfhiaoaaEq
import Derived.Deep.RegionHeld3
set_option linter.unusedVariables false
set_option linter.unusedSimpArgs false
namespace Go.Proofs.Ytlhfaaghfhiaoaa
open Go.RowKit

/-- The call returns v, and leaves the world W. -/
def RetAt (v : Value) (W : World) (e : Ending) (w' : World) : Prop := e = .returned v ∧ w' = W

theorem rword_any (A : Option Addr) (n c a i B : Nat) (w : World) (hA : Num w B A n a) (hB : B ≤ w.heap.size) (hn : n ≤ 9223372036854775807) (hi : i ≤ 9223372036854775807) :
    Calls Try.prog 47 #[.agg #[.slice A n c], .int .i64 (i : Int)] w (RetAt (.int .i64 ((dig a i : Nat) : Int)) (w.alloc (.cells #[.slice A n c] 24))) := by
  have HA := hid (hA.alloc hB (.cells #[.slice A n c] 24))
  have d1 := dig_lt a i
  by_cases hlt : i < n
  · obtain ⟨ad, rfl, h1, h2⟩ := HA.out.at_ hlt
    have l1 : (i : Int) < (n : Int) := by omega
    clear hA
    go_enter Try.func47, Try.ntmps47
    go_wp2_with fail
    go_ret
    exact ⟨rfl, rfl⟩
  · have hd : dig a i = 0 := dig_above hA.lt (by omega)
    rw [hd]
    have l1 : (n : Int) ≤ (i : Int) := by omega
    clear hA
    go_enter Try.func47, Try.ntmps47
    go_wp2_with fail
    go_ret
    exact ⟨rfl, rfl⟩

def rbitS (a : Nat) (i : Int) : Bool := decide (0 ≤ i) && bitN a i.toNat
theorem rbitS_neg {a : Nat} {i : Int} (h : i < 0) : rbitS a i = false := by unfold rbitS; rw [decide_eq_false (by omega)]; simp
theorem rbitS_nat (a i : Nat) : rbitS a ((i : Nat) : Int) = bitN a i := by unfold rbitS; rw [decide_eq_true (by omega)]; simp
theorem bitS_r {n a : Nat} {i : Int} (h : okB n a = true) : bitS n a i = rbitS a i := by unfold bitS rbitS; rw [h]; rfl

theorem rbit_any (A : Option Addr) (n c a : Nat) (i : Int) (w : World) (hA : Num w w.heap.size A n a) (hn : n ≤ 100000) (i0 : -9223372036854775808 ≤ i) (i1 : i ≤ 9223372036854775807) :
    Calls Try.prog 22 #[.agg #[.slice A n c], .int .i64 i] w (RetB (.bool (rbitS a i)) w) := by
  have HA := hid (hA.alloc (Nat.le_refl _) (.cells #[.slice A n c] 24))
  by_cases hi : i < 0
  · rw [rbitS_neg hi]
    have hd : decide (i < 0) = true := by simpa using hi
    clear hA
    go_enter Try.func22, Try.ntmps22
    go_wp2_with fail
    go_ret
    exact ⟨rfl, (Below.refl _ _).alloc (Nat.le_refl _) _⟩
  · obtain ⟨k, rfl⟩ := Int.eq_ofNat_of_zero_le (show 0 ≤ i by omega)
    have hd : decide (((k : Nat) : Int) < 0) = false := by simp
    have hm : IntKind.i64.wrap (32 * (n : Int)) = 32 * (n : Int) := IntWalk.i64_in _ (by omega)
    rw [rbitS_nat]
    by_cases hk : 32 * n ≤ k
    · rw [bitN_above (Nat.le_trans (Nat.le_trans (bl_le_nw a) (Nat.mul_le_mul_left 32 (nw_le hA.lt))) hk)]
      have h32 : 32 * (n : Int) ≤ (k : Int) := by omega
      clear hA
      go_enter Try.func22, Try.ntmps22
      go_wp2_with fail
      go_ret
      exact ⟨rfl, (Below.refl _ _).alloc (Nat.le_refl _) _⟩
    · have h32 : (k : Int) < 32 * (n : Int) := by omega
      obtain ⟨q, hq⟩ : ∃ q : Nat, q = k / 32 := ⟨_, rfl⟩
      obtain ⟨r, hr⟩ : ∃ r : Nat, r = k % 32 := ⟨_, rfl⟩
      have hr1 : r < 32 := by omega
      have e1 : ((k : Nat) : Int) / 32 = ((q : Nat) : Int) := by omega
      have e2 : ((k : Nat) : Int) % 32 = ((r : Nat) : Int) := by omega
      have hqn : q < n := by omega
      obtain ⟨ad, rfl, g1, g2⟩ := HA.out.at_ hqn
      have d1 := dig_lt a q
      obtain ⟨v, hv⟩ : ∃ v : Nat, v = dig a q / 2 ^ r := ⟨_, rfl⟩
      have d2 : v ≤ 4294967295 := by have : v ≤ dig a q := by rw [hv]; exact Nat.div_le_self _ _
                                     omega
      have e3 : ((dig a q : Nat) : Int) / 2 ^ r = (v : Int) := by rw [hv]; simp
      have e4 : IntKind.u32.wrap (v : Int) = (v : Int) := by rw [IntKind.wrap_u32]; omega
      have HF : Hid (bitN a k = ((v : Int) % 2 == 1)) := by
        show _ = _
        unfold bitN
        rw [← bitN_dig, ← hq, ← hr, ← hv]
        rw [Bool.eq_iff_iff]; simp only [decide_eq_true_eq, beq_iff_eq]; omega
      rw [HF.out]
      clear hq hr hA hi hk HF hv
      go_enter Try.func22, Try.ntmps22
      go_wp2_with fail
      go_ret
      exact ⟨rfl, (Below.refl _ _).alloc (Nat.le_refl _) _⟩

theorem rbits_any (A : Option Addr) (n c a : Nat) (w : World) (hA : Num w w.heap.size A n a) (hn : n ≤ 100000) :
    Calls Try.prog 21 #[.agg #[.slice A n c]] w (RetB (.int .i64 ((bl a : Nat) : Int)) w) := by
  obtain ⟨b0, bw⟩ := boxes1 w (.slice A n c)
  have X := Box.mk b0 hA bw
  have WW := bw
  have hm : IntKind.i64.wrap (32 * (n : Int)) = 32 * (n : Int) := IntWalk.i64_in _ (by omega)
  have hs : bl a ≤ 32 * n := Nat.le_trans (bl_le_nw a) (Nat.mul_le_mul_left 32 (nw_le hA.lt))
  clear b0 bw hA
  go_enter Try.func21, Try.ntmps21
  go_wp2_with fail
  go_loopw [3] (fun i wr => ∃ k : Nat, k ≤ 32 * n ∧ i = .int .i64 k ∧ bl a ≤ k ∧ Box wr w.heap.size A n c a ∧ Below w.heap.size w wr) (fun i _ => (intOf i).toNat)
  case atStart => exact ⟨32 * n, Nat.le_refl _, by rw [Int.natCast_mul]; rfl, hs, X, WW⟩
  case round =>
    obtain ⟨k, hk, rfl, hb, hX, hW⟩ := hrel
    have HX := hid hX
    have HW := hid hW
    have HB := hid hb
    have kX := hX.cell
    have zX := hX.lt
    clear X WW hX hW hb hs
    by_cases hk0 : k = 0
    · subst hk0
      have h0 : bl a = 0 := by have := HB.out; omega
      have H0 := hid h0
      clear h0
      go_wp2_with fail
      go_ret
      exact ⟨ret_int (by rw [H0.out]; rfl), HW.out⟩
    · have j1 : (k : Int) - 1 = ((k - 1 : Nat) : Int) := by omega
      have j2 : 0 < k := by omega
      cases hbit : bitN a (k - 1)
      · have HT := hid hbit
        have HK : Hid (bl a ≤ k - 1) := by
          show _ ≤ _
          rcases Nat.lt_or_ge (k - 1) (bl a) with h | h
          · have e : bl a = k := by have := HB.out; omega
            have ha0 : a ≠ 0 := by intro h'; rw [h', bl_zero] at e; omega
            have := bitN_top ha0
            rw [e, hbit] at this
            cases this
          · exact h
        clear hbit hk0
        go_wp2_with fail
        have hc := rbit_any A n c a ((k - 1 : Nat) : Int) wr HX.out.num hn (by omega) (by omega)
        rw [rbitS_nat, HT.out] at hc
        refine hc.mono ?_
        rintro e w1 ⟨rfl, hb⟩
        have HX1 := hid (HX.out.below hb)
        have HW1 := hid (HW.out.trans (hb.mono HW.out.size))
        clear hb hc
        go_wp2_with fail
        go_roundw
        case rel => exact ⟨k - 1, by omega, by go_num, HK.out, HX1.out, HW1.out⟩
        case measure => simp [intOf]; omega
      · have HT := hid hbit
        have HK : Hid (bl a = k) := by
          show _ = _
          rcases Nat.lt_or_ge (k - 1) (bl a) with h | h
          · have := HB.out; omega
          · rw [bitN_above h] at hbit; cases hbit
        clear hbit hk0
        rw [HK.out]
        go_wp2_with fail
        have hc := rbit_any A n c a ((k - 1 : Nat) : Int) wr HX.out.num hn (by omega) (by omega)
        rw [rbitS_nat, HT.out] at hc
        refine hc.mono ?_
        rintro e w1 ⟨rfl, hb⟩
        have HW1 := hid (HW.out.trans (hb.mono HW.out.size))
        clear hb hc
        go_wp2_with fail
        go_ret
        exact ⟨rfl, HW1.out⟩

theorem rtrim_any (ad : Addr) (n c a B : Nat) (w : World) (hA : Num w B (some ad) n a) (hB : B ≤ w.heap.size) (hn : n ≤ 1000000) (hnc : n ≤ c) :
    Calls Try.prog 45 #[.slice (some ad) n c] w (RetNat w.heap.size a w) := by
  obtain ⟨i0, hi0, hz0, hz1, hz2⟩ := info_parts info62
  obtain ⟨b0, bw⟩ := boxes1 w (.slice none 0 0)
  have B0 := hid b0
  have BW := hid bw
  have HA := hid ((hA.below (bw.mono hB)).more (Nat.le_trans hB bw.size))
  have hlt := hA.lt
  clear hA b0 bw
  go_enter Try.func45, Try.ntmps45
  go_wp2_with fail
  generalize hV : w.alloc (.cells #[.slice none 0 0] 24) = V at B0 BW HA ⊢
  clear hV
  go_loopw [3] (fun i wr => ∃ k j : Nat, k ≤ n ∧ i = .int .i64 k ∧ a < 2 ^ (32 * k) ∧ wr = V.drewN j) (fun i _ => (intOf i).toNat)
  case atStart => exact ⟨n, 0, Nat.le_refl _, rfl, hlt, rfl⟩
  case round =>
    obtain ⟨k, j, hk, rfl, ha, rfl⟩ := hrel
    by_cases hd : k ≠ 0 ∧ dig a (k - 1) = 0
    · obtain ⟨hk0, hd⟩ := hd
      have j1 : (k : Int) - 1 = ((k - 1 : Nat) : Int) := by omega
      have j2 : 0 < k := by omega
      have H := hid (lt_of_dig (by rw [show k - 1 + 1 = k by omega]; exact ha) hd)
      obtain ⟨ad', e, g1, g2⟩ := HA.out.at_ (i := k - 1) (by omega)
      injection e with e
      subst e
      rw [hd] at g2
      clear hd hk0 ha
      go_wp2_with fail
      go_roundw
      case rel => exact ⟨k - 1, _, by omega, by go_num, H.out, rfl⟩
      case measure => simp [intOf]; omega
    · have HK : Hid (k = nw a) := by
        refine (nw_unique ha ?_).symm
        rcases Nat.eq_zero_or_pos k with h | h
        · exact .inl h
        · exact .inr fun h' => hd ⟨by omega, h'⟩
      have HU := hid ha
      have HO := hid (OwnsV.empty V w.heap.size BW.out.size)
      have HN : Hid (Num (V.alloc (.cells #[] 62)) V.heap.size (some ad) k a) := (show Num (V.alloc (.cells #[] 62)) V.heap.size (some ad) k a from ⟨ha, fun h => by
        obtain ⟨ad', e, g1, g2⟩ := (HA.out.alloc (Nat.le_refl _) (.cells #[] 62)).some_ (by omega)
        exact ⟨ad', e, g1, fun i hi => g2 i (by omega)⟩⟩)
      by_cases hk0 : k = 0
      · subst hk0
        clear ha hd
        go_wp2_with (at_builtin; refine wpList_append_own _ rfl _ _ 22 rfl w.heap.size 62 i0 (.int .u32 0) 1 4 Try.underlying22 hi0 hz0 hz1 hz2 rfl (by decide) (.slice (some ⟨V.heap.size, 0, none⟩) 0 0) 0 (words 0 0).toList rfl HO.out.2 ad 0 _ (words 0 a).toList rfl (words_len 0 a) HN.out.news (words_oneCell 0 a) (by unfold maxLen; omega) (by omega) (by have := BW.out.size; simp; omega) ?_; intro v1 w1 hown1 hg1 _; obtain ⟨A', c', rfl, ho⟩ := OwnsV.own (OwnsV.app (k := 0) (s := 0) (by simp) HN.out.lt hown1); have HO1 := hid ho; have HG1 := hid hg1; have HB1 := hid (Blk.grown ((B0.out.drewN j).alloc (.cells #[] 62)) hg1 (by have := B0.out.lt; simp [Value.ownBlock]; omega)); have cB := HB1.out.cell0; have fB := HB1.out.frozen 0; clear hown1 hg1 ho)
        have ho := HO1.out
        rw [Nat.zero_add, Nat.add_zero, show 2 ^ (32 * 0) = 1 from rfl, Nat.mul_one] at ho
        have ho2 := ho.box (p := ⟨w.heap.size, 0, none⟩) HB1.out (by decide) (.slice A' 0 c')
        have hbl : Below w.heap.size w (w1.setCell ⟨w.heap.size, 0, none⟩ (.slice A' 0 c')) := Below.setCell (((below_drewN BW.out j).alloc BW.out.size (.cells #[] 62)).grown HG1.out (by have := BW.out.size; simp; omega) (fun i hi => by have := BW.out.size; simp [Value.ownBlock] at hi; omega)) (Nat.le_refl _) _
        exact bodyPost_ret (v := .agg #[.slice A' 0 c']) (by simp [results, Try.results45, go_sem, cB]) rfl ⟨_, rfl, ⟨A', c', by rw [← HK.out], by rw [← HK.out]; exact ho2⟩, hbl⟩
      · have hk1 : 0 < k := by omega
        have d1 := dig_lt a (k - 1)
        have d2 : ((dig a (k - 1) : Nat) : Int) ≠ 0 := by have : dig a (k - 1) ≠ 0 := fun h' => hd ⟨hk0, h'⟩
                                                          omega
        have d3 : (((dig a (k - 1) : Nat) : Int) == 0) = false := by simpa using d2
        have j1 : (k : Int) - 1 = ((k - 1 : Nat) : Int) := by omega
        obtain ⟨ad', e, g1, g2⟩ := HA.out.at_ (i := k - 1) (by omega)
        injection e with e
        subst e
        clear ha hd d2 hk0
        go_wp2_with (at_builtin; refine wpList_append_own _ rfl _ _ 22 rfl w.heap.size 62 i0 (.int .u32 0) 1 4 Try.underlying22 hi0 hz0 hz1 hz2 rfl (by decide) (.slice (some ⟨V.heap.size, 0, none⟩) 0 0) 0 (words 0 0).toList rfl HO.out.2 ad k _ (words k a).toList rfl (words_len k a) HN.out.news (words_oneCell k a) (by unfold maxLen; omega) (by omega) (by have := BW.out.size; simp; omega) ?_; intro v1 w1 hown1 hg1 _; obtain ⟨A', c', rfl, ho⟩ := OwnsV.own (OwnsV.app (k := 0) (s := 0) (by simp) HN.out.lt hown1); have HO1 := hid ho; have HG1 := hid hg1; have HB1 := hid (Blk.grown ((B0.out.drewN j).alloc (.cells #[] 62)) hg1 (by have := B0.out.lt; simp [Value.ownBlock]; omega)); have cB := HB1.out.cell0; have fB := HB1.out.frozen 0; clear hown1 hg1 ho)
        have ho := HO1.out
        rw [Nat.zero_add, Nat.add_zero, show 2 ^ (32 * 0) = 1 from rfl, Nat.mul_one] at ho
        have ho2 := ho.box (p := ⟨w.heap.size, 0, none⟩) HB1.out (by decide) (.slice A' k c')
        have hbl : Below w.heap.size w (w1.setCell ⟨w.heap.size, 0, none⟩ (.slice A' k c')) := Below.setCell (((below_drewN BW.out j).alloc BW.out.size (.cells #[] 62)).grown HG1.out (by have := BW.out.size; simp; omega) (fun i hi => by have := BW.out.size; simp [Value.ownBlock] at hi; omega)) (Nat.le_refl _) _
        exact bodyPost_ret (v := .agg #[.slice A' k c']) (by simp [results, Try.results45, go_sem, cB]) rfl ⟨_, rfl, ⟨A', c', by rw [← HK.out], by rw [← HK.out]; exact ho2⟩, hbl⟩

theorem rof_any (x : Nat) (w : World) (hx : x ≤ 9223372036854775807) :
    Calls Try.prog 18 #[.int .i64 (x : Int)] w (RetNat w.heap.size x w) := by
  obtain ⟨m, hm⟩ : ∃ m : Nat, m = x % 4294967296 := ⟨_, rfl⟩
  obtain ⟨q, hq⟩ : ∃ q : Nat, q = x / 4294967296 := ⟨_, rfl⟩
  have e1 : (x : Int) % 4294967296 = (m : Int) := by omega
  have e2 : (x : Int) / 4294967296 = (q : Int) := by omega
  have t1 : Int.tmod (x : Int) 4294967296 = (m : Int) := by rw [Int.tmod_eq_emod_of_nonneg (by omega)]; exact e1
  have t2 : Int.tdiv (x : Int) 4294967296 = (q : Int) := by rw [Int.tdiv_eq_ediv_of_nonneg (by omega)]; exact e2
  have m1 : m ≤ 4294967295 := by omega
  have q1 : q ≤ 2147483647 := by omega
  have w1 : IntKind.u32.wrap (m : Int) = (m : Int) := by rw [IntKind.wrap_u32]; omega
  have w2 : IntKind.u32.wrap (q : Int) = (q : Int) := by rw [IntKind.wrap_u32]; omega
  have w3 : IntKind.i64.wrap (m : Int) = (m : Int) := IntWalk.i64_in _ (by omega)
  have w4 : IntKind.i64.wrap (q : Int) = (q : Int) := IntWalk.i64_in _ (by omega)
  have EW : words 2 x = #[.int .u32 (m : Int), .int .u32 (q : Int)] := by
    have d0 : dig x 0 = m := by unfold dig; rw [hm]; simp
    have d1 : dig x 1 = q := by unfold dig; rw [hq]; exact Nat.mod_eq_of_lt (by omega)
    show #[Value.int .u32 ((dig x 0 : Nat) : Int), .int .u32 ((dig x 1 : Nat) : Int)] = _
    rw [d0, d1]
  have hlt : x < 2 ^ (32 * 2) := by show x < 18446744073709551616; omega
  obtain ⟨b0, bw⟩ := boxes1 w (.slice none 0 0)
  have hn := Blk.new (w.alloc (.cells #[.slice none 0 0] 24)) 62 (words 2 x)
  have HN := hid (num_blk (B := (w.alloc (.cells #[.slice none 0 0] 24)).heap.size + 1) hn hlt (by omega))
  have B0 := hid (b0.alloc (.cells (words 2 x) 62))
  have BW := hid (bw.alloc bw.size (.cells (words 2 x) 62))
  have hsz : (w.alloc (.cells #[.slice none 0 0] 24)).heap.size = w.heap.size + 1 := by simp
  rw [EW, hsz] at HN
  rw [EW] at B0 BW
  clear EW hlt hm hq b0 bw hn hsz
  go_enter Try.func18, Try.ntmps18
  go_wp2_with fail
  refine (rtrim_any _ 2 2 x _ _ HN.out (by simp) (by omega) (by omega)).mono ?_
  rintro e w1 ⟨v, rfl, ⟨A', c', rfl, ho⟩, hb⟩
  have HO := hid (ho.weak (b := w.heap.size) (by simp; omega))
  have B1 := hid (B0.out.below hb B0.out.lt)
  have W1 := hid (BW.out.trans (hb.mono BW.out.size))
  have cB := B1.out.cell0
  have fB := B1.out.frozen 0
  clear hb ho B0 BW HN
  go_wp2_with fail
  have ho2 := HO.out.box (p := ⟨w.heap.size, 0, none⟩) B1.out (by decide) (.slice A' (nw x) c')
  exact bodyPost_ret (v := .agg #[.slice A' (nw x) c']) (by simp [results, Try.results18, go_sem, cB]) rfl ⟨_, rfl, ⟨A', c', rfl, ho2⟩, W1.out.setCell (Nat.le_refl _) _⟩

theorem rword_b (A : Option Addr) (n c a i : Nat) (z x : Int) (w : World) (hA : Num w w.heap.size A n a) (hn : n ≤ 9223372036854775807) (hi : i ≤ 9223372036854775807) (hz : z = ((i : Nat) : Int)) (hx : ((dig a i : Nat) : Int) = x) :
    Calls Try.prog 47 #[.agg #[.slice A n c], .int .i64 z] w (RetB (.int .i64 x) w) := by
  subst hz hx
  refine (rword_any A n c a i _ w hA (Nat.le_refl _) hn hi).mono ?_
  rintro e w1 ⟨rfl, hw⟩
  exact ⟨rfl, by rw [hw]; exact (Below.refl _ _).alloc (Nat.le_refl _) _⟩

/-- The int of a number, as the reference has it. -/
def rintS (a : Nat) : Int × Bool := if bl a ≤ 63 then ((a : Int), true) else (0, false)
theorem rint_any (A : Option Addr) (c a : Nat) (w : World) (hA : Num w w.heap.size A (nw a) a) (hn : nw a ≤ 64) :
    Calls Try.prog 23 #[.agg #[.slice A (nw a) c]] w (RetB (.tuple #[.int .i64 (rintS a).1, .bool (rintS a).2]) w) := by
  obtain ⟨b0, bw⟩ := boxes1 w (.slice A (nw a) c)
  have HX := hid (Box.mk b0 hA bw)
  have WW := hid bw
  have d0 := dig_lt a 0
  have d1 := dig_lt a 1
  clear b0 bw hA
  by_cases h2 : 2 < nw a
  · have l2 : 2 < ((nw a : Nat) : Int) := by omega
    have HR : Hid (rintS a = (0, false)) := by
      show _ = _
      unfold rintS
      rw [if_neg]
      intro h
      have := nw_le_bl (a := a) (n := 2) (by omega)
      omega
    rw [HR.out]
    clear h2
    go_enter Try.func23, Try.ntmps23
    go_wp2_with fail
    exact bodyPost_ret (v := .tuple #[.int .i64 0, .bool false]) (by simp [results, Try.results23, go_sem]) rfl ⟨rfl, WW.out⟩
  · have l2 : ((nw a : Nat) : Int) ≤ 2 := by omega
    have l3 : decide (2 < ((nw a : Nat) : Int)) = false := by simp; omega
    have hal : a < 2 ^ (32 * 2) := Nat.lt_of_lt_of_le (lt_nw a) (pw_le (by omega))
    have hal2 : a < 18446744073709551616 := hal
    have e1 : dig a 1 = a / 4294967296 := by unfold dig; exact Nat.mod_eq_of_lt (by omega)
    have e0 : dig a 0 = a % 4294967296 := by unfold dig; simp
    obtain ⟨x, hx⟩ : ∃ x, x = dig a 1 := ⟨_, rfl⟩
    obtain ⟨y, hy⟩ : ∃ y, y = dig a 0 := ⟨_, rfl⟩
    rw [← hx] at e1 d1
    rw [← hy] at e0 d0
    have X1 := hid hx
    have Y1 := hid hy
    have EA : Hid ((a : Int) = (x : Int) * 4294967296 + (y : Int)) := by show _ = _; omega
    by_cases hbig : 2147483648 ≤ x
    · have lb : 2147483648 ≤ (x : Int) := by omega
      have HR : Hid (rintS a = (0, false)) := by
        show _ = _
        unfold rintS
        rw [if_neg]
        intro h
        have h5 := lt_bl a
        have h6 : 2 ^ bl a ≤ 2 ^ 63 := Nat.pow_le_pow_right (by omega) h
        rw [show 2 ^ 63 = 9223372036854775808 from rfl] at h6
        omega
      rw [HR.out]
      clear h2 hal hal2 e1 e0 hx hy hbig
      go_enter Try.func23, Try.ntmps23
      go_wp2_with fail
      generalize hV : w.alloc (.cells #[.slice A (nw a) c] 24) = V at HX WW ⊢
      clear hV
      have hc := rword_any A _ c a 1 _ V HX.out.num (Nat.le_refl _) (by omega) (by omega)
      rw [← X1.out] at hc
      refine hc.mono ?_
      clear hc
      rintro e w1 ⟨rfl, hw⟩
      have HB1 := hid (show Below V.heap.size V w1 by rw [hw]; exact (Below.refl _ _).alloc (Nat.le_refl _) _)
      have HX1 := hid (HX.out.below HB1.out)
      have HW1 := hid (WW.out.trans (HB1.out.mono WW.out.size))
      have kX := HX1.out.cell
      have zX := HX1.out.lt
      clear hw HX WW
      go_wp2_with fail
      exact bodyPost_ret (v := .tuple #[.int .i64 0, .bool false]) (by simp [results, Try.results23, go_sem]) rfl ⟨rfl, HW1.out⟩
    · have lb : (x : Int) < 2147483648 := by omega
      have HR : Hid (rintS a = ((a : Int), true)) := by
        show _ = _
        unfold rintS
        rw [if_pos (bl_le (k := 63) (by rw [show 2 ^ 63 = 9223372036854775808 from rfl]; omega))]
      rw [HR.out]
      obtain ⟨X, hX⟩ : ∃ X : Int, (x : Int) = X := ⟨_, rfl⟩
      obtain ⟨Y, hY⟩ : ∃ Y : Int, (y : Int) = Y := ⟨_, rfl⟩
      have EX : Hid (((dig a 1 : Nat) : Int) = X) := by show _ = _; rw [← hX, X1.out]
      have EY : Hid (((dig a 0 : Nat) : Int) = Y) := by show _ = _; rw [← hY, Y1.out]
      have EB : Hid ((a : Int) = X * 4294967296 + Y) := by show _ = _; rw [← hX, ← hY]; exact EA.out
      have x0 : 0 ≤ X := by omega
      have x1 : X ≤ 2147483647 := by omega
      have y0 : 0 ≤ Y := by omega
      have y1 : Y ≤ 4294967295 := by omega
      have m1 : IntKind.i64.wrap (X * 4294967296) = X * 4294967296 := IntWalk.i64_in _ (by omega)
      have m2 : IntKind.i64.wrap (X * 4294967296 + Y) = X * 4294967296 + Y := IntWalk.i64_in _ (by omega)
      clear h2 hal hal2 e1 e0 hx hy hbig hX hY EA X1 Y1 lb d1 d0
      go_enter Try.func23, Try.ntmps23
      go_wp2_with fail
      generalize hV : w.alloc (.cells #[.slice A (nw a) c] 24) = V at HX WW ⊢
      clear hV
      have hc := rword_any A _ c a 1 _ V HX.out.num (Nat.le_refl _) (by omega) (by omega)
      rw [EX.out] at hc
      refine hc.mono ?_
      clear hc
      rintro e w1 ⟨rfl, hw⟩
      have HB1 := hid (show Below V.heap.size V w1 by rw [hw]; exact (Below.refl _ _).alloc (Nat.le_refl _) _)
      have HX1 := hid (HX.out.below HB1.out)
      have HW1 := hid (WW.out.trans (HB1.out.mono WW.out.size))
      have kX := HX1.out.cell
      have zX := HX1.out.lt
      clear hw HX WW
      go_wp2_with fail
      have Z1 : Hid ((1 : Int) = ((1 : Nat) : Int)) := rfl
      have Z0 : Hid ((0 : Int) = ((0 : Nat) : Int)) := rfl
      have HXd := hid (HX1.out.drew)
      have HWd := hid (HW1.out.drew)
      clear zX
      go_region_held3 (fun w' => w'.cell? ⟨w.heap.size, 0, none⟩ = some (.slice A (nw a) c)) (first | exact kX | exact q1 | exact q2)
        (first
        | (go_at_call 47; (with_reducible refine (rword_b A _ c a 1 1 X _ HXd.out.num (by omega) (by omega) Z1.out EX.out).mono ?_); rintro e v1 ⟨rfl, hb⟩; have HX3 := hid (HXd.out.below hb); have q1 := HX3.out.cell; have HW3 := hid (HWd.out.trans (hb.mono HWd.out.size)); clear hb)
        | (go_at_call 47; (with_reducible refine (rword_b A _ c a 0 0 Y _ HX3.out.num (by omega) (by omega) Z0.out EY.out).mono ?_); rintro e v2 ⟨rfl, hb⟩; have HX4 := hid (HX3.out.below hb); have q2 := HX4.out.cell; have HW4 := hid (HW3.out.trans (hb.mono HW3.out.size)); clear hb))
      go_wp2_with fail
      rw [EB.out]
      exact bodyPost_ret (v := .tuple #[.int .i64 (X * 4294967296 + Y), .bool true]) (by simp [results, Try.results23, go_sem]) rfl ⟨rfl, HW4.out⟩
end Go.Proofs.Ytlhfaaghfhiaoaa
