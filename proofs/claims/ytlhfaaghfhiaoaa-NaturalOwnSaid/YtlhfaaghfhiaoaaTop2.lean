/- Bits, Bit, Shift, Of, and Int of package natural. -/
import Derived.Test.YtlhfaaghfhiaoaaTop
import Derived.Test.YtlhfaaghfhiaoaaBl
set_option linter.unusedVariables false
set_option linter.unusedSimpArgs false
namespace Go.Proofs.Ytlhfaaghfhiaoaa
open Go.RowKit

def bitsS (n a : Nat) : Int := if okB n a then (bl a : Int) else 0
theorem bitsS_yes {n a : Nat} (h : okB n a = true) : bitsS n a = (bl a : Int) := by unfold bitsS; rw [h]; rfl
theorem bitsS_no {n a : Nat} (h : okB n a = false) : bitsS n a = 0 := by unfold bitsS; rw [h]; rfl

theorem len32 (y : Nat) (h : y < 4294967296) (w : World) : Calls Try.prog 46 #[.int .u32 (y : Int)] w (Ex (.int .i64 ((Lib.bitLen y : Nat) : Int)) w) := by
  have := Try.bits_Len32 (y : Int) w (by omega) (by omega)
  rw [Int.toNat_natCast] at this
  exact this

theorem bits_any (A : Option Addr) (n c a : Nat) (w : World) (hA : Num w w.heap.size A n a) (hn : n ≤ 9223372036854775807) :
    Calls Try.prog 19 #[.agg #[.slice A n c]] w (RetB (.int .i64 (bitsS n a)) w) := by
  obtain ⟨b0, bw⟩ := boxes1 w (.slice A n c)
  have B0_0 := hid b0
  have W_0 := hid bw
  have HA_0 := hid (hA.below bw)
  clear bw b0 hA
  cases h1 : okB n a
  · rw [bitsS_no h1]
    have H1 := hid h1
    clear h1
    go_enter Try.func19, Try.ntmps19
    go_wp2_with fail
    refine (valid_any A _ c a w.heap.size _ HA_0.out (by simp <;> omega) hn).mono ?_
    rintro e w1 ⟨rfl, hb⟩
    have z1 : w.heap.size + 1 ≤ w1.heap.size := by have := hb.size; simp at this; omega
    have B0_1 := hid (B0_0.out.below hb (by simp <;> omega))
    have c0_1 := B0_1.out.cell0
    have f0_1 := B0_1.out.frozen 0
    have HA_1 := hid (HA_0.out.below (hb.mono (by simp <;> omega)))
    have W_1 := hid (W_0.out.trans (hb.mono (by simp <;> omega)))
    clear hb
    rw [H1.out]
    go_wp2_with fail
    go_ret
    exact ⟨rfl, W_1.out⟩
  · rw [bitsS_yes h1]
    have H1 := hid h1
    have hn1 : n ≤ 64 := (okB_yes.1 h1).2
    have hna : nw a = n := (okB_yes.1 h1).1
    subst hna
    clear h1
    by_cases h0 : a = 0
    · have hz : ((nw a : Nat) : Int) = 0 := by rw [h0]; rfl
      have hbl : ((bl a : Nat) : Int) = 0 := by rw [h0]; rfl
      have HBL := hid hbl
      clear h0 hbl
      go_enter Try.func19, Try.ntmps19
      go_wp2_with fail
      refine (valid_any A _ c a w.heap.size _ HA_0.out (by simp <;> omega) hn).mono ?_
      rintro e w1 ⟨rfl, hb⟩
      have z1 : w.heap.size + 1 ≤ w1.heap.size := by have := hb.size; simp at this; omega
      have B0_1 := hid (B0_0.out.below hb (by simp <;> omega))
      have c0_1 := B0_1.out.cell0
      have f0_1 := B0_1.out.frozen 0
      have HA_1 := hid (HA_0.out.below (hb.mono (by simp <;> omega)))
      have W_1 := hid (W_0.out.trans (hb.mono (by simp <;> omega)))
      clear hb
      rw [H1.out]
      go_wp2_with fail
      go_ret
      exact ⟨ret_int HBL.out.symm, W_1.out⟩
    · have hp := nw_pos h0
      have HBL := hid (bl_top h0)
      have hz : (((nw a : Nat) : Int) == 0) = false := by simp; omega
      have i1 : nw a - 1 < nw a := by omega
      have HL := hid (len32 (dig a (nw a - 1)) (dig_lt _ _))
      have bd := (bitLen_word (dig a (nw a - 1)) (by have := dig_top h0; omega) (dig_lt _ _)).2.1
      clear h0
      go_enter Try.func19, Try.ntmps19
      go_wp2_with fail
      refine (valid_any A _ c a w.heap.size _ HA_0.out (by simp <;> omega) hn).mono ?_
      rintro e w1 ⟨rfl, hb⟩
      have z1 : w.heap.size + 1 ≤ w1.heap.size := by have := hb.size; simp at this; omega
      have B0_1 := hid (B0_0.out.below hb (by simp <;> omega))
      have c0_1 := B0_1.out.cell0
      have f0_1 := B0_1.out.frozen 0
      have HA_1 := hid (HA_0.out.below (hb.mono (by simp <;> omega)))
      have W_1 := hid (W_0.out.trans (hb.mono (by simp <;> omega)))
      clear hb
      rw [H1.out]
      obtain ⟨ad, rfl, ha1, ha2⟩ := HA_1.out.at_ i1
      go_wp2_with fail
      refine (HL.out _).mono ?_
      rintro e w2 ⟨rfl, hw2⟩
      have WW : Hid (Below w.heap.size w w2) := by rw [hw2]; exact W_1
      subst hw2
      go_wp2_with fail
      go_ret
      exact ⟨ret_int (by rw [HBL.out]; omega), WW.out⟩

/-- Whether bit i is set, if the number is valid. -/
def bitS (n a : Nat) (i : Int) : Bool := okB n a && (decide (0 ≤ i) && bitN a i.toNat)
theorem bitS_no {n a : Nat} {i : Int} (h : okB n a = false) : bitS n a i = false := by unfold bitS; rw [h]; rfl
theorem bitS_neg {n a : Nat} {i : Int} (h : i < 0) : bitS n a i = false := by unfold bitS; rw [decide_eq_false (by omega)]; simp
theorem bitS_yes {n a i : Nat} (h : okB n a = true) : bitS n a ((i : Nat) : Int) = bitN a i := by unfold bitS; rw [h, decide_eq_true (by omega)]; simp

theorem shr_and_one (x r : Nat) (hx : x < 4294967296) : bits BinOp.and IntKind.u32 (((x : Nat) : Int) / 2 ^ r) 1 = ((x / 2 ^ r % 2 : Nat) : Int) := by
  have e : ((x : Nat) : Int) / 2 ^ r = ((x / 2 ^ r : Nat) : Int) := by simp
  have h : x / 2 ^ r < 4294967296 := Nat.lt_of_le_of_lt (Nat.div_le_self _ _) hx
  rw [e, show (1 : Int) = ((1 : Nat) : Int) from rfl, u32_and_nat _ _ h (by omega), nat_mask1]

theorem bit_any (A : Option Addr) (n c a : Nat) (i : Int) (w : World) (hA : Num w w.heap.size A n a) (hn : n ≤ 9223372036854775807) (i0 : -9223372036854775808 ≤ i) (i1 : i ≤ 9223372036854775807) :
    Calls Try.prog 20 #[.agg #[.slice A n c], .int .i64 i] w (RetB (.bool (bitS n a i)) w) := by
  obtain ⟨b0, bw⟩ := boxes1 w (.slice A n c)
  have B0_0 := hid b0
  have W_0 := hid bw
  have HA_0 := hid (hA.below bw)
  clear bw b0 hA
  cases h1 : okB n a
  · rw [bitS_no h1]
    have H1 := hid h1
    clear h1
    go_enter Try.func20, Try.ntmps20
    go_wp2_with fail
    refine (valid_any A _ c a w.heap.size _ HA_0.out (by simp <;> omega) hn).mono ?_
    rintro e w1 ⟨rfl, hb⟩
    have z1 : w.heap.size + 1 ≤ w1.heap.size := by have := hb.size; simp at this; omega
    have B0_1 := hid (B0_0.out.below hb (by simp <;> omega))
    have c0_1 := B0_1.out.cell0
    have f0_1 := B0_1.out.frozen 0
    have HA_1 := hid (HA_0.out.below (hb.mono (by simp <;> omega)))
    have W_1 := hid (W_0.out.trans (hb.mono (by simp <;> omega)))
    clear hb
    rw [H1.out]
    go_wp2_with fail
    go_ret
    exact ⟨rfl, W_1.out⟩
  · by_cases hi : i < 0
    · rw [bitS_neg hi]
      have H1 := hid h1
      have hd : decide (i < 0) = true := by simpa using hi
      clear h1
      go_enter Try.func20, Try.ntmps20
      go_wp2_with fail
      refine (valid_any A _ c a w.heap.size _ HA_0.out (by simp <;> omega) hn).mono ?_
      rintro e w1 ⟨rfl, hb⟩
      have z1 : w.heap.size + 1 ≤ w1.heap.size := by have := hb.size; simp at this; omega
      have B0_1 := hid (B0_0.out.below hb (by simp <;> omega))
      have c0_1 := B0_1.out.cell0
      have f0_1 := B0_1.out.frozen 0
      have HA_1 := hid (HA_0.out.below (hb.mono (by simp <;> omega)))
      have W_1 := hid (W_0.out.trans (hb.mono (by simp <;> omega)))
      clear hb
      rw [H1.out]
      go_wp2_with fail
      go_ret
      exact ⟨rfl, W_1.out⟩
    · obtain ⟨k, rfl⟩ := Int.eq_ofNat_of_zero_le (show 0 ≤ i by omega)
      have H1 := hid h1
      have hn1 : n ≤ 64 := (okB_yes.1 h1).2
      have hd : decide (((k : Nat) : Int) < 0) = false := by simp
      obtain ⟨q, hq⟩ : ∃ q : Nat, q = k / 32 := ⟨_, rfl⟩
      obtain ⟨r, hr⟩ : ∃ r : Nat, r = k % 32 := ⟨_, rfl⟩
      have hr1 : r < 32 := by omega
      have e1 : ((k : Nat) : Int) / 32 = ((q : Nat) : Int) := by omega
      have e2 : ((k : Nat) : Int) % 32 = ((r : Nat) : Int) := by omega
      have e3 := shr_and_one (dig a q) r (dig_lt _ _)
      have HF : Hid (bitS n a ((k : Nat) : Int) = (((dig a q / 2 ^ r % 2 : Nat) : Int) == 1)) := by
        show _ = _
        rw [bitS_yes h1]
        unfold bitN
        rw [← bitN_dig, ← hq, ← hr]
        generalize dig a q / 2 ^ r % 2 = v
        rw [Bool.eq_iff_iff]; simp only [decide_eq_true_eq, beq_iff_eq]; omega
      rw [HF.out]
      clear h1 hi hq hr
      go_enter Try.func20, Try.ntmps20
      go_wp2_with fail
      refine (valid_any A _ c a w.heap.size _ HA_0.out (by simp <;> omega) hn).mono ?_
      rintro e w1 ⟨rfl, hb⟩
      have z1 : w.heap.size + 1 ≤ w1.heap.size := by have := hb.size; simp at this; omega
      have B0_1 := hid (B0_0.out.below hb (by simp <;> omega))
      have c0_1 := B0_1.out.cell0
      have f0_1 := B0_1.out.frozen 0
      have HA_1 := hid (HA_0.out.below (hb.mono (by simp <;> omega)))
      have W_1 := hid (W_0.out.trans (hb.mono (by simp <;> omega)))
      clear hb
      rw [H1.out]
      go_wp2_with fail
      refine (word_nat A n c a w.heap.size q _ HA_1.out hn).mono ?_
      rintro e w2 ⟨rfl, hw2⟩
      have WW : Hid (Below w.heap.size w w2) := by rw [hw2]; exact W_1
      subst hw2
      go_wp2_with fail
      go_ret
      exact ⟨rfl, WW.out⟩

def shiftV (n a : Nat) (x : Int) : Nat × Int := if okB n a then shiftS a x else (0, 1)
theorem shiftV_no {n a : Nat} {x : Int} (h : okB n a = false) : shiftV n a x = (0, 1) := by unfold shiftV; rw [h]; rfl
theorem shiftV_yes {n a : Nat} {x : Int} (h : okB n a = true) : shiftV n a x = shiftS a x := by unfold shiftV; rw [h]; rfl

theorem shift_any (A : Option Addr) (n c a : Nat) (x : Int) (w : World) (hA : Num w w.heap.size A n a) (hn : n ≤ 9223372036854775807) (i0 : -9223372036854775808 ≤ x) (i1 : x ≤ 9223372036854775807) :
    Calls Try.prog 32 #[.agg #[.slice A n c], .int .i64 x] w (RetTwo w.heap.size (shiftV n a x).1 (shiftV n a x).2 w) := by
  obtain ⟨b0, b1, bw⟩ := boxes2 w (.slice A n c) (.slice none 0 0)
  have B0_0 := hid b0
  have B1_0 := hid b1
  have W_0 := hid bw
  have HA_0 := hid (hA.below bw)
  clear bw b0 b1 hA
  cases h1 : okB n a
  · rw [shiftV_no h1]
    have H1 := hid h1
    clear h1
    go_enter Try.func32, Try.ntmps32
    go_wp2_with fail
    refine (valid_any A _ c a w.heap.size _ HA_0.out (by simp <;> omega) hn).mono ?_
    rintro e w1 ⟨rfl, hb⟩
    have z1 : w.heap.size + 2 ≤ w1.heap.size := by have := hb.size; simp at this; omega
    have B0_1 := hid (B0_0.out.below hb (by simp <;> omega))
    have c0_1 := B0_1.out.cell0
    have f0_1 := B0_1.out.frozen 0
    have B1_1 := hid (B1_0.out.below hb (by simp <;> omega))
    have c1_1 := B1_1.out.cell0
    have f1_1 := B1_1.out.frozen 0
    have HA_1 := hid (HA_0.out.below (hb.mono (by simp <;> omega)))
    have W_1 := hid (W_0.out.trans (hb.mono (by simp <;> omega)))
    clear hb
    rw [H1.out]
    go_wp2_with fail
    exact bodyPost_ret (v := .tuple #[.agg #[.slice none 0 0], .int .i64 1]) (by simp [results, Try.results32, go_sem, c1_1]) rfl ⟨_, rfl, NatV.nil _ _, W_1.out.setCell (show w.heap.size ≤ w.heap.size + 1 by omega) _⟩
  · rw [shiftV_yes h1]
    have H1 := hid h1
    have hn1 : n ≤ 64 := (okB_yes.1 h1).2
    have hna : nw a = n := (okB_yes.1 h1).1
    subst hna
    clear h1
    by_cases hr : x < -10000 ∨ 10000 < x
    · rw [shiftS_range hr]
      by_cases hr1 : x < -10000
      · have hd : decide (x < -10000) = true := by simpa using hr1
        go_enter Try.func32, Try.ntmps32
        go_wp2_with fail
        refine (valid_any A _ c a w.heap.size _ HA_0.out (by simp <;> omega) hn).mono ?_
        rintro e w1 ⟨rfl, hb⟩
        have z1 : w.heap.size + 2 ≤ w1.heap.size := by have := hb.size; simp at this; omega
        have B0_1 := hid (B0_0.out.below hb (by simp <;> omega))
        have c0_1 := B0_1.out.cell0
        have f0_1 := B0_1.out.frozen 0
        have B1_1 := hid (B1_0.out.below hb (by simp <;> omega))
        have c1_1 := B1_1.out.cell0
        have f1_1 := B1_1.out.frozen 0
        have HA_1 := hid (HA_0.out.below (hb.mono (by simp <;> omega)))
        have W_1 := hid (W_0.out.trans (hb.mono (by simp <;> omega)))
        clear hb
        rw [H1.out]
        go_wp2_with fail
        exact bodyPost_ret (v := .tuple #[.agg #[.slice none 0 0], .int .i64 2]) (by simp [results, Try.results32, go_sem, c1_1]) rfl ⟨_, rfl, NatV.nil _ _, W_1.out.setCell (show w.heap.size ≤ w.heap.size + 1 by omega) _⟩
      · have hd : decide (x < -10000) = false := by simpa using hr1
        have hr2 : 10000 < x := by omega
        have hd2 : decide (10000 < x) = true := by simpa using hr2
        go_enter Try.func32, Try.ntmps32
        go_wp2_with fail
        refine (valid_any A _ c a w.heap.size _ HA_0.out (by simp <;> omega) hn).mono ?_
        rintro e w1 ⟨rfl, hb⟩
        have z1 : w.heap.size + 2 ≤ w1.heap.size := by have := hb.size; simp at this; omega
        have B0_1 := hid (B0_0.out.below hb (by simp <;> omega))
        have c0_1 := B0_1.out.cell0
        have f0_1 := B0_1.out.frozen 0
        have B1_1 := hid (B1_0.out.below hb (by simp <;> omega))
        have c1_1 := B1_1.out.cell0
        have f1_1 := B1_1.out.frozen 0
        have HA_1 := hid (HA_0.out.below (hb.mono (by simp <;> omega)))
        have W_1 := hid (W_0.out.trans (hb.mono (by simp <;> omega)))
        clear hb
        rw [H1.out]
        go_wp2_with fail
        exact bodyPost_ret (v := .tuple #[.agg #[.slice none 0 0], .int .i64 2]) (by simp [results, Try.results32, go_sem, c1_1]) rfl ⟨_, rfl, NatV.nil _ _, W_1.out.setCell (show w.heap.size ≤ w.heap.size + 1 by omega) _⟩
    · have x0 : -10000 ≤ x := by omega
      have x1 : x ≤ 10000 := by omega
      have hd : decide (x < -10000) = false := by simp; omega
      have hd2 : decide (10000 < x) = false := by simp; omega
      by_cases h0 : a = 0
      · rw [shiftS_none hr (.inl h0)]
        have hz : ((nw a : Nat) : Int) = 0 := by rw [h0]; rfl
        clear h0 hr
        go_enter Try.func32, Try.ntmps32
        go_wp2_with fail
        refine (valid_any A _ c a w.heap.size _ HA_0.out (by simp <;> omega) hn).mono ?_
        rintro e w1 ⟨rfl, hb⟩
        have z1 : w.heap.size + 2 ≤ w1.heap.size := by have := hb.size; simp at this; omega
        have B0_1 := hid (B0_0.out.below hb (by simp <;> omega))
        have c0_1 := B0_1.out.cell0
        have f0_1 := B0_1.out.frozen 0
        have B1_1 := hid (B1_0.out.below hb (by simp <;> omega))
        have c1_1 := B1_1.out.cell0
        have f1_1 := B1_1.out.frozen 0
        have HA_1 := hid (HA_0.out.below (hb.mono (by simp <;> omega)))
        have W_1 := hid (W_0.out.trans (hb.mono (by simp <;> omega)))
        clear hb
        rw [H1.out]
        go_wp2_with fail
        exact bodyPost_ret (v := .tuple #[.agg #[.slice none 0 0], .int .i64 0]) (by simp [results, Try.results32, go_sem, c1_1]) rfl ⟨_, rfl, NatV.nil _ _, W_1.out.setCell (show w.heap.size ≤ w.heap.size + 1 by omega) _⟩
      · have hp := nw_pos h0
        have hz : (((nw a : Nat) : Int) == 0) = false := by simp; omega
        have hbl : bl a ≤ 2048 := bl_nw.1 hn1
        by_cases hs : (bl a : Int) + x ≤ 0
        · rw [shiftS_none hr (.inr hs)]
          have hd3 : decide ((bl a : Int) + x ≤ 0) = true := by simpa using hs
          clear h0 hr
          go_enter Try.func32, Try.ntmps32
          go_wp2_with fail
          refine (valid_any A _ c a w.heap.size _ HA_0.out (by simp <;> omega) hn).mono ?_
          rintro e w1 ⟨rfl, hb⟩
          have z1 : w.heap.size + 2 ≤ w1.heap.size := by have := hb.size; simp at this; omega
          have B0_1 := hid (B0_0.out.below hb (by simp <;> omega))
          have c0_1 := B0_1.out.cell0
          have f0_1 := B0_1.out.frozen 0
          have B1_1 := hid (B1_0.out.below hb (by simp <;> omega))
          have c1_1 := B1_1.out.cell0
          have f1_1 := B1_1.out.frozen 0
          have HA_1 := hid (HA_0.out.below (hb.mono (by simp <;> omega)))
          have W_1 := hid (W_0.out.trans (hb.mono (by simp <;> omega)))
          clear hb
          rw [H1.out]
          go_wp2_with fail
          refine (bits_any A _ c a _ (HA_1.out.more (by omega)) (by omega)).mono ?_
          rintro e w2 ⟨rfl, hb⟩
          have z2 : w.heap.size + 2 ≤ w2.heap.size := Nat.le_trans z1 hb.size
          have B0_2 := hid (B0_1.out.below hb (by omega))
          have c0_2 := B0_2.out.cell0
          have f0_2 := B0_2.out.frozen 0
          have B1_2 := hid (B1_1.out.below hb (by omega))
          have c1_2 := B1_2.out.cell0
          have f1_2 := B1_2.out.frozen 0
          have HA_2 := hid (HA_1.out.below (hb.mono (by omega)))
          have W_2 := hid (W_1.out.trans (hb.mono (by omega)))
          clear hb
          rw [bitsS_yes H1.out]
          go_wp2_with fail
          exact bodyPost_ret (v := .tuple #[.agg #[.slice none 0 0], .int .i64 0]) (by simp [results, Try.results32, go_sem, c1_2]) rfl ⟨_, rfl, NatV.nil _ _, W_2.out.setCell (show w.heap.size ≤ w.heap.size + 1 by omega) _⟩
        · have hd3 : decide ((bl a : Int) + x ≤ 0) = false := by simpa using hs
          by_cases ht : 2048 < (bl a : Int) + x
          · rw [shiftS_big hr h0 ht]
            have hd4 : decide (2048 < (bl a : Int) + x) = true := by simpa using ht
            clear h0 hr
            go_enter Try.func32, Try.ntmps32
            go_wp2_with fail
            refine (valid_any A _ c a w.heap.size _ HA_0.out (by simp <;> omega) hn).mono ?_
            rintro e w1 ⟨rfl, hb⟩
            have z1 : w.heap.size + 2 ≤ w1.heap.size := by have := hb.size; simp at this; omega
            have B0_1 := hid (B0_0.out.below hb (by simp <;> omega))
            have c0_1 := B0_1.out.cell0
            have f0_1 := B0_1.out.frozen 0
            have B1_1 := hid (B1_0.out.below hb (by simp <;> omega))
            have c1_1 := B1_1.out.cell0
            have f1_1 := B1_1.out.frozen 0
            have HA_1 := hid (HA_0.out.below (hb.mono (by simp <;> omega)))
            have W_1 := hid (W_0.out.trans (hb.mono (by simp <;> omega)))
            clear hb
            rw [H1.out]
            go_wp2_with fail
            refine (bits_any A _ c a _ (HA_1.out.more (by omega)) (by omega)).mono ?_
            rintro e w2 ⟨rfl, hb⟩
            have z2 : w.heap.size + 2 ≤ w2.heap.size := Nat.le_trans z1 hb.size
            have B0_2 := hid (B0_1.out.below hb (by omega))
            have c0_2 := B0_2.out.cell0
            have f0_2 := B0_2.out.frozen 0
            have B1_2 := hid (B1_1.out.below hb (by omega))
            have c1_2 := B1_2.out.cell0
            have f1_2 := B1_2.out.frozen 0
            have HA_2 := hid (HA_1.out.below (hb.mono (by omega)))
            have W_2 := hid (W_1.out.trans (hb.mono (by omega)))
            clear hb
            rw [bitsS_yes H1.out]
            go_wp2_with fail
            refine (bits_any A _ c a _ (HA_2.out.more (by omega)) (by omega)).mono ?_
            rintro e w3 ⟨rfl, hb⟩
            have z3 : w.heap.size + 2 ≤ w3.heap.size := Nat.le_trans z2 hb.size
            have B0_3 := hid (B0_2.out.below hb (by omega))
            have c0_3 := B0_3.out.cell0
            have f0_3 := B0_3.out.frozen 0
            have B1_3 := hid (B1_2.out.below hb (by omega))
            have c1_3 := B1_3.out.cell0
            have f1_3 := B1_3.out.frozen 0
            have HA_3 := hid (HA_2.out.below (hb.mono (by omega)))
            have W_3 := hid (W_2.out.trans (hb.mono (by omega)))
            clear hb
            rw [bitsS_yes H1.out]
            go_wp2_with fail
            exact bodyPost_ret (v := .tuple #[.agg #[.slice none 0 0], .int .i64 9]) (by simp [results, Try.results32, go_sem, c1_3]) rfl ⟨_, rfl, NatV.nil _ _, W_3.out.setCell (show w.heap.size ≤ w.heap.size + 1 by omega) _⟩
          · have hd4 : decide (2048 < (bl a : Int) + x) = false := by simpa using ht
            rw [shiftS_ok hr h0 (by omega)]
            have HB := hid (bl_shN a x h0)
            obtain ⟨sz, hsz⟩ : ∃ sz : Nat, ((bl a : Int) + x + 32 - 1) / 32 = (sz : Int) := ⟨(((bl a : Int) + x + 32 - 1) / 32).toNat, by omega⟩
            have hsz2 : sz ≤ 64 := by omega
            have HM : Hid (shN a x % 2 ^ (32 * sz) = shN a x) := by
              refine Nat.mod_eq_of_lt (Nat.lt_of_lt_of_le (lt_bl _) (Nat.pow_le_pow_right (by omega) ?_))
              have := HB.out
              omega
            clear h0 hr
            go_enter Try.func32, Try.ntmps32
            go_wp2_with fail
            refine (valid_any A _ c a w.heap.size _ HA_0.out (by simp <;> omega) hn).mono ?_
            rintro e w1 ⟨rfl, hb⟩
            have z1 : w.heap.size + 2 ≤ w1.heap.size := by have := hb.size; simp at this; omega
            have B0_1 := hid (B0_0.out.below hb (by simp <;> omega))
            have c0_1 := B0_1.out.cell0
            have f0_1 := B0_1.out.frozen 0
            have B1_1 := hid (B1_0.out.below hb (by simp <;> omega))
            have c1_1 := B1_1.out.cell0
            have f1_1 := B1_1.out.frozen 0
            have HA_1 := hid (HA_0.out.below (hb.mono (by simp <;> omega)))
            have W_1 := hid (W_0.out.trans (hb.mono (by simp <;> omega)))
            clear hb
            rw [H1.out]
            go_wp2_with fail
            refine (bits_any A _ c a _ (HA_1.out.more (by omega)) (by omega)).mono ?_
            rintro e w2 ⟨rfl, hb⟩
            have z2 : w.heap.size + 2 ≤ w2.heap.size := Nat.le_trans z1 hb.size
            have B0_2 := hid (B0_1.out.below hb (by omega))
            have c0_2 := B0_2.out.cell0
            have f0_2 := B0_2.out.frozen 0
            have B1_2 := hid (B1_1.out.below hb (by omega))
            have c1_2 := B1_2.out.cell0
            have f1_2 := B1_2.out.frozen 0
            have HA_2 := hid (HA_1.out.below (hb.mono (by omega)))
            have W_2 := hid (W_1.out.trans (hb.mono (by omega)))
            clear hb
            rw [bitsS_yes H1.out]
            go_wp2_with fail
            refine (bits_any A _ c a _ (HA_2.out.more (by omega)) (by omega)).mono ?_
            rintro e w3 ⟨rfl, hb⟩
            have z3 : w.heap.size + 2 ≤ w3.heap.size := Nat.le_trans z2 hb.size
            have B0_3 := hid (B0_2.out.below hb (by omega))
            have c0_3 := B0_3.out.cell0
            have f0_3 := B0_3.out.frozen 0
            have B1_3 := hid (B1_2.out.below hb (by omega))
            have c1_3 := B1_3.out.cell0
            have f1_3 := B1_3.out.frozen 0
            have HA_3 := hid (HA_2.out.below (hb.mono (by omega)))
            have W_3 := hid (W_2.out.trans (hb.mono (by omega)))
            clear hb
            rw [bitsS_yes H1.out]
            go_wp2_with fail
            refine (bits_any A _ c a _ (HA_3.out.more (by omega)) (by omega)).mono ?_
            rintro e w4 ⟨rfl, hb⟩
            have z4 : w.heap.size + 2 ≤ w4.heap.size := Nat.le_trans z3 hb.size
            have B0_4 := hid (B0_3.out.below hb (by omega))
            have c0_4 := B0_4.out.cell0
            have f0_4 := B0_4.out.frozen 0
            have B1_4 := hid (B1_3.out.below hb (by omega))
            have c1_4 := B1_4.out.cell0
            have f1_4 := B1_4.out.frozen 0
            have HA_4 := hid (HA_3.out.below (hb.mono (by omega)))
            have W_4 := hid (W_3.out.trans (hb.mono (by omega)))
            clear hb
            rw [bitsS_yes H1.out]
            go_wp2_with fail
            refine (shifted_any A _ c a w.heap.size sz x _ HA_4.out (by omega) (by omega) (by omega) (by omega) (by omega)).mono ?_
            rintro e w5 ⟨rfl, hrow, hb⟩
            rw [HM.out] at hrow
            have ho := hrow.own (Nat.le_refl _) (by unfold maxLen; omega)
            clear hrow
            have z5 : w.heap.size + 2 ≤ w5.heap.size := Nat.le_trans z4 hb.size
            have B0_5 := hid (B0_4.out.below hb (by omega))
            have c0_5 := B0_5.out.cell0
            have f0_5 := B0_5.out.frozen 0
            have B1_5 := hid (B1_4.out.below hb (by omega))
            have c1_5 := B1_5.out.cell0
            have f1_5 := B1_5.out.frozen 0
            have HA_5 := hid (HA_4.out.below (hb.mono (by omega)))
            have HO_5 := hid ho
            clear ho
            have W_5 := hid (W_4.out.trans (hb.mono (by omega)))
            clear hb
            go_wp2_with fail
            refine (number_any _ _ _ (shN a x) w.heap.size _ (HO_5.out.weak (by omega)) (by omega)).mono ?_
            rintro e w6 ⟨v, rfl, ⟨A4, c4, rfl, ho4⟩, hb⟩
            have z6 : w.heap.size + 2 ≤ w6.heap.size := Nat.le_trans z5 hb.size
            have B0_6 := hid (B0_5.out.below hb (by omega))
            have c0_6 := B0_6.out.cell0
            have f0_6 := B0_6.out.frozen 0
            have B1_6 := hid (B1_5.out.below hb (by omega))
            have c1_6 := B1_6.out.cell0
            have f1_6 := B1_6.out.frozen 0
            have HA_6 := hid (HA_5.out.below (hb.mono (by omega)))
            have HO_6 := hid (HO_5.out.below hb (Nat.le_refl _))
            have HP_6 := hid ho4
            clear ho4
            have W_6 := hid (W_5.out.trans (hb.mono (by omega)))
            clear hb
            go_wp2_with fail
            exact bodyPost_ret (v := .tuple #[.agg #[.slice A4 (nw (shN a x)) c4], .int .i64 0]) (by simp [results, Try.results32, go_sem, c1_6]) rfl ⟨_, rfl, ⟨_, _, rfl, HP_6.out.box (p := ⟨w.heap.size + 1, 0, none⟩) B1_6.out (by decide) _⟩, W_6.out.setCell (show w.heap.size ≤ w.heap.size + 1 by omega) _⟩

end Go.Proofs.Ytlhfaaghfhiaoaa
