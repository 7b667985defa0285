/- Bits, Bit, Shift, Of, and Int of package natural. -/
import Derived.Test.YtomkmkjkeihodaaDoorTop
import Derived.Test.YtomkmkjkeihodaaDoorBl
set_option linter.unusedVariables false
set_option linter.unusedSimpArgs false
namespace Go.Proofs.YtomkmkjkeihodaaDoor
open Go.RowKit

def bitsS (n a : Nat) : Int := if okB n a then (bl a : Int) else 0
theorem bitsS_yes {n a : Nat} (h : okB n a = true) : bitsS n a = (bl a : Int) := by unfold bitsS; rw [h]; rfl
theorem bitsS_no {n a : Nat} (h : okB n a = false) : bitsS n a = 0 := by unfold bitsS; rw [h]; rfl

theorem len32 (y : Nat) (h : y < 4294967296) (w : World) : Calls Tryd.prog 70 #[.int .u32 (y : Int)] w (Ex (.int .i64 ((Lib.bitLen y : Nat) : Int)) w) := by
  have := Tryd.bits_Len32 (y : Int) w (by omega) (by omega)
  rw [Int.toNat_natCast] at this
  exact this

theorem bits_any (A : Option Addr) (n c a : Nat) (w : World) (hA : Num w w.heap.size A n a) (hn : n ≤ 9223372036854775807) :
    Calls Tryd.prog 49 #[.agg #[.slice A n c]] w (RetB (.int .i64 (bitsS n a)) w) := by
  obtain ⟨b0, bw⟩ := boxes1 w (.slice A n c)
  have B0_0 := hid b0
  have W_0 := hid bw
  have HA_0 := hid (hA.below bw)
  clear bw b0 hA
  cases h1 : okB n a
  · rw [bitsS_no h1]
    have H1 := hid h1
    clear h1
    go_enter Tryd.func49, Tryd.ntmps49
    go_wp2_with fail
    refine (valid_any A _ c a w.heap.size _ HA_0.out (by simp <;> omega) hn).mono ?_
    rintro e w1 ⟨rfl, hb⟩
    have z1 : w.heap.size + 1 ≤ w1.heap.size := by have := hb.size; simp at this; omega
    have B0_1 := hid (B0_0.out.below hb (by simp <;> omega))
    have c0_1 := B0_1.out.cell0
    have f0_1 := B0_1.out.frozen 0
    have HA_1 := hid (HA_0.out.below (hb.mono (by simp <;> omega)))
    have W_1 := hid (W_0.out.trans (hb.mono (by simp <;> omega)))
    clear hb
    rw [H1.out]
    go_wp2_with fail
    go_ret
    exact ⟨rfl, W_1.out⟩
  · rw [bitsS_yes h1]
    have H1 := hid h1
    have hn1 : n ≤ 64 := (okB_yes.1 h1).2
    have hna : nw a = n := (okB_yes.1 h1).1
    subst hna
    clear h1
    by_cases h0 : a = 0
    · have hz : ((nw a : Nat) : Int) = 0 := by rw [h0]; rfl
      have hbl : ((bl a : Nat) : Int) = 0 := by rw [h0]; rfl
      have HBL := hid hbl
      clear h0 hbl
      go_enter Tryd.func49, Tryd.ntmps49
      go_wp2_with fail
      refine (valid_any A _ c a w.heap.size _ HA_0.out (by simp <;> omega) hn).mono ?_
      rintro e w1 ⟨rfl, hb⟩
      have z1 : w.heap.size + 1 ≤ w1.heap.size := by have := hb.size; simp at this; omega
      have B0_1 := hid (B0_0.out.below hb (by simp <;> omega))
      have c0_1 := B0_1.out.cell0
      have f0_1 := B0_1.out.frozen 0
      have HA_1 := hid (HA_0.out.below (hb.mono (by simp <;> omega)))
      have W_1 := hid (W_0.out.trans (hb.mono (by simp <;> omega)))
      clear hb
      rw [H1.out]
      go_wp2_with fail
      go_ret
      exact ⟨ret_int HBL.out.symm, W_1.out⟩
    · have hp := nw_pos h0
      have HBL := hid (bl_top h0)
      have hz : (((nw a : Nat) : Int) == 0) = false := by simp; omega
      have i1 : nw a - 1 < nw a := by omega
      have HL := hid (len32 (dig a (nw a - 1)) (dig_lt _ _))
      have bd := (bitLen_word (dig a (nw a - 1)) (by have := dig_top h0; omega) (dig_lt _ _)).2.1
      clear h0
      go_enter Tryd.func49, Tryd.ntmps49
      go_wp2_with fail
      refine (valid_any A _ c a w.heap.size _ HA_0.out (by simp <;> omega) hn).mono ?_
      rintro e w1 ⟨rfl, hb⟩
      have z1 : w.heap.size + 1 ≤ w1.heap.size := by have := hb.size; simp at this; omega
      have B0_1 := hid (B0_0.out.below hb (by simp <;> omega))
      have c0_1 := B0_1.out.cell0
      have f0_1 := B0_1.out.frozen 0
      have HA_1 := hid (HA_0.out.below (hb.mono (by simp <;> omega)))
      have W_1 := hid (W_0.out.trans (hb.mono (by simp <;> omega)))
      clear hb
      rw [H1.out]
      obtain ⟨ad, rfl, ha1, ha2⟩ := HA_1.out.at_ i1
      go_wp2_with fail
      refine (HL.out _).mono ?_
      rintro e w2 ⟨rfl, hw2⟩
      have WW : Hid (Below w.heap.size w w2) := by rw [hw2]; exact W_1
      subst hw2
      go_wp2_with fail
      go_ret
      exact ⟨ret_int (by rw [HBL.out]; omega), WW.out⟩

/-- Whether bit i is set, if the number is valid. -/
def bitS (n a : Nat) (i : Int) : Bool := okB n a && (decide (0 ≤ i) && bitN a i.toNat)
theorem bitS_no {n a : Nat} {i : Int} (h : okB n a = false) : bitS n a i = false := by unfold bitS; rw [h]; rfl
theorem bitS_neg {n a : Nat} {i : Int} (h : i < 0) : bitS n a i = false := by unfold bitS; rw [decide_eq_false (by omega)]; simp
theorem bitS_yes {n a i : Nat} (h : okB n a = true) : bitS n a ((i : Nat) : Int) = bitN a i := by unfold bitS; rw [h, decide_eq_true (by omega)]; simp

theorem shr_and_one (x r : Nat) (hx : x < 4294967296) : bits BinOp.and IntKind.u32 (((x : Nat) : Int) / 2 ^ r) 1 = ((x / 2 ^ r % 2 : Nat) : Int) := by
  have e : ((x : Nat) : Int) / 2 ^ r = ((x / 2 ^ r : Nat) : Int) := by simp
  have h : x / 2 ^ r < 4294967296 := Nat.lt_of_le_of_lt (Nat.div_le_self _ _) hx
  rw [e, show (1 : Int) = ((1 : Nat) : Int) from rfl, u32_and_nat _ _ h (by omega), nat_mask1]

theorem bit_any (A : Option Addr) (n c a : Nat) (i : Int) (w : World) (hA : Num w w.heap.size A n a) (hn : n ≤ 9223372036854775807) (i0 : -9223372036854775808 ≤ i) (i1 : i ≤ 9223372036854775807) :
    Calls Tryd.prog 89 #[.agg #[.slice A n c], .int .i64 i] w (RetB (.bool (bitS n a i)) w) := by
  obtain ⟨b0, bw⟩ := boxes1 w (.slice A n c)
  have B0_0 := hid b0
  have W_0 := hid bw
  have HA_0 := hid (hA.below bw)
  clear bw b0 hA
  cases h1 : okB n a
  · rw [bitS_no h1]
    have H1 := hid h1
    clear h1
    go_enter Tryd.func89, Tryd.ntmps89
    go_wp2_with fail
    refine (valid_any A _ c a w.heap.size _ HA_0.out (by simp <;> omega) hn).mono ?_
    rintro e w1 ⟨rfl, hb⟩
    have z1 : w.heap.size + 1 ≤ w1.heap.size := by have := hb.size; simp at this; omega
    have B0_1 := hid (B0_0.out.below hb (by simp <;> omega))
    have c0_1 := B0_1.out.cell0
    have f0_1 := B0_1.out.frozen 0
    have HA_1 := hid (HA_0.out.below (hb.mono (by simp <;> omega)))
    have W_1 := hid (W_0.out.trans (hb.mono (by simp <;> omega)))
    clear hb
    rw [H1.out]
    go_wp2_with fail
    go_ret
    exact ⟨rfl, W_1.out⟩
  · by_cases hi : i < 0
    · rw [bitS_neg hi]
      have H1 := hid h1
      have hd : decide (i < 0) = true := by simpa using hi
      clear h1
      go_enter Tryd.func89, Tryd.ntmps89
      go_wp2_with fail
      refine (valid_any A _ c a w.heap.size _ HA_0.out (by simp <;> omega) hn).mono ?_
      rintro e w1 ⟨rfl, hb⟩
      have z1 : w.heap.size + 1 ≤ w1.heap.size := by have := hb.size; simp at this; omega
      have B0_1 := hid (B0_0.out.below hb (by simp <;> omega))
      have c0_1 := B0_1.out.cell0
      have f0_1 := B0_1.out.frozen 0
      have HA_1 := hid (HA_0.out.below (hb.mono (by simp <;> omega)))
      have W_1 := hid (W_0.out.trans (hb.mono (by simp <;> omega)))
      clear hb
      rw [H1.out]
      go_wp2_with fail
      go_ret
      exact ⟨rfl, W_1.out⟩
    · obtain ⟨k, rfl⟩ := Int.eq_ofNat_of_zero_le (show 0 ≤ i by omega)
      have H1 := hid h1
      have hn1 : n ≤ 64 := (okB_yes.1 h1).2
      have hd : decide (((k : Nat) : Int) < 0) = false := by simp
      obtain ⟨q, hq⟩ : ∃ q : Nat, q = k / 32 := ⟨_, rfl⟩
      obtain ⟨r, hr⟩ : ∃ r : Nat, r = k % 32 := ⟨_, rfl⟩
      have hr1 : r < 32 := by omega
      have e1 : ((k : Nat) : Int) / 32 = ((q : Nat) : Int) := by omega
      have e2 : ((k : Nat) : Int) % 32 = ((r : Nat) : Int) := by omega
      have e3 := shr_and_one (dig a q) r (dig_lt _ _)
      have HF : Hid (bitS n a ((k : Nat) : Int) = (((dig a q / 2 ^ r % 2 : Nat) : Int) == 1)) := by
        show _ = _
        rw [bitS_yes h1]
        unfold bitN
        rw [← bitN_dig, ← hq, ← hr]
        generalize dig a q / 2 ^ r % 2 = v
        rw [Bool.eq_iff_iff]; simp only [decide_eq_true_eq, beq_iff_eq]; omega
      rw [HF.out]
      clear h1 hi hq hr
      go_enter Tryd.func89, Tryd.ntmps89
      go_wp2_with fail
      refine (valid_any A _ c a w.heap.size _ HA_0.out (by simp <;> omega) hn).mono ?_
      rintro e w1 ⟨rfl, hb⟩
      have z1 : w.heap.size + 1 ≤ w1.heap.size := by have := hb.size; simp at this; omega
      have B0_1 := hid (B0_0.out.below hb (by simp <;> omega))
      have c0_1 := B0_1.out.cell0
      have f0_1 := B0_1.out.frozen 0
      have HA_1 := hid (HA_0.out.below (hb.mono (by simp <;> omega)))
      have W_1 := hid (W_0.out.trans (hb.mono (by simp <;> omega)))
      clear hb
      rw [H1.out]
      go_wp2_with fail
      refine (word_nat A n c a w.heap.size q _ HA_1.out hn).mono ?_
      rintro e w2 ⟨rfl, hw2⟩
      have WW : Hid (Below w.heap.size w w2) := by rw [hw2]; exact W_1
      subst hw2
      go_wp2_with fail
      go_ret
      exact ⟨rfl, WW.out⟩

def shiftV (n a : Nat) (x : Int) : Nat × Int := if okB n a then shiftS a x else (0, 1)
theorem shiftV_no {n a : Nat} {x : Int} (h : okB n a = false) : shiftV n a x = (0, 1) := by unfold shiftV; rw [h]; rfl
theorem shiftV_yes {n a : Nat} {x : Int} (h : okB n a = true) : shiftV n a x = shiftS a x := by unfold shiftV; rw [h]; rfl
end Go.Proofs.YtomkmkjkeihodaaDoor
