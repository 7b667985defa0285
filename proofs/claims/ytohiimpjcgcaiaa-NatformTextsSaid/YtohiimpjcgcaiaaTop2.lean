/- Bits, Bit, Shift, Of, and Int of package natural. -/
import Derived.Test.YtohiimpjcgcaiaaTop
import Derived.Test.YtohiimpjcgcaiaaBl
set_option linter.unusedVariables false
set_option linter.unusedSimpArgs false
namespace Go.Proofs.Ytohiimpjcgcaiaa
open Go.RowKit

def bitsS (n a : Nat) : Int := if okB n a then (bl a : Int) else 0
theorem bitsS_yes {n a : Nat} (h : okB n a = true) : bitsS n a = (bl a : Int) := by unfold bitsS; rw [h]; rfl
theorem bitsS_no {n a : Nat} (h : okB n a = false) : bitsS n a = 0 := by unfold bitsS; rw [h]; rfl

theorem len32 (y : Nat) (h : y < 4294967296) (w : World) : Calls Try.prog 52 #[.int .u32 (y : Int)] w (Ex (.int .i64 ((Lib.bitLen y : Nat) : Int)) w) := by
  have := Try.bits_Len32 (y : Int) w (by omega) (by omega)
  rw [Int.toNat_natCast] at this
  exact this

theorem bits_any (A : Option Addr) (n c a : Nat) (w : World) (hA : Num w w.heap.size A n a) (hn : n ≤ 9223372036854775807) :
    Calls Try.prog 44 #[.agg #[.slice A n c]] w (RetB (.int .i64 (bitsS n a)) w) := by
  obtain ⟨b0, bw⟩ := boxes1 w (.slice A n c)
  have B0_0 := hid b0
  have W_0 := hid bw
  have HA_0 := hid (hA.below bw)
  clear bw b0 hA
  cases h1 : okB n a
  · rw [bitsS_no h1]
    have H1 := hid h1
    clear h1
    go_enter Try.func44, Try.ntmps44
    go_wp2_with fail
    refine (valid_any A _ c a w.heap.size _ HA_0.out (by simp <;> omega) hn).mono ?_
    rintro e w1 ⟨rfl, hb⟩
    have z1 : w.heap.size + 1 ≤ w1.heap.size := by have := hb.size; simp at this; omega
    have B0_1 := hid (B0_0.out.below hb (by simp <;> omega))
    have c0_1 := B0_1.out.cell0
    have f0_1 := B0_1.out.frozen 0
    have HA_1 := hid (HA_0.out.below (hb.mono (by simp <;> omega)))
    have W_1 := hid (W_0.out.trans (hb.mono (by simp <;> omega)))
    clear hb
    rw [H1.out]
    go_wp2_with fail
    go_ret
    exact ⟨rfl, W_1.out⟩
  · rw [bitsS_yes h1]
    have H1 := hid h1
    have hn1 : n ≤ 64 := (okB_yes.1 h1).2
    have hna : nw a = n := (okB_yes.1 h1).1
    subst hna
    clear h1
    by_cases h0 : a = 0
    · have hz : ((nw a : Nat) : Int) = 0 := by rw [h0]; rfl
      have hbl : ((bl a : Nat) : Int) = 0 := by rw [h0]; rfl
      have HBL := hid hbl
      clear h0 hbl
      go_enter Try.func44, Try.ntmps44
      go_wp2_with fail
      refine (valid_any A _ c a w.heap.size _ HA_0.out (by simp <;> omega) hn).mono ?_
      rintro e w1 ⟨rfl, hb⟩
      have z1 : w.heap.size + 1 ≤ w1.heap.size := by have := hb.size; simp at this; omega
      have B0_1 := hid (B0_0.out.below hb (by simp <;> omega))
      have c0_1 := B0_1.out.cell0
      have f0_1 := B0_1.out.frozen 0
      have HA_1 := hid (HA_0.out.below (hb.mono (by simp <;> omega)))
      have W_1 := hid (W_0.out.trans (hb.mono (by simp <;> omega)))
      clear hb
      rw [H1.out]
      go_wp2_with fail
      go_ret
      exact ⟨ret_int HBL.out.symm, W_1.out⟩
    · have hp := nw_pos h0
      have HBL := hid (bl_top h0)
      have hz : (((nw a : Nat) : Int) == 0) = false := by simp; omega
      have i1 : nw a - 1 < nw a := by omega
      have HL := hid (len32 (dig a (nw a - 1)) (dig_lt _ _))
      have bd := (bitLen_word (dig a (nw a - 1)) (by have := dig_top h0; omega) (dig_lt _ _)).2.1
      clear h0
      go_enter Try.func44, Try.ntmps44
      go_wp2_with fail
      refine (valid_any A _ c a w.heap.size _ HA_0.out (by simp <;> omega) hn).mono ?_
      rintro e w1 ⟨rfl, hb⟩
      have z1 : w.heap.size + 1 ≤ w1.heap.size := by have := hb.size; simp at this; omega
      have B0_1 := hid (B0_0.out.below hb (by simp <;> omega))
      have c0_1 := B0_1.out.cell0
      have f0_1 := B0_1.out.frozen 0
      have HA_1 := hid (HA_0.out.below (hb.mono (by simp <;> omega)))
      have W_1 := hid (W_0.out.trans (hb.mono (by simp <;> omega)))
      clear hb
      rw [H1.out]
      obtain ⟨ad, rfl, ha1, ha2⟩ := HA_1.out.at_ i1
      go_wp2_with fail
      refine (HL.out _).mono ?_
      rintro e w2 ⟨rfl, hw2⟩
      have WW : Hid (Below w.heap.size w w2) := by rw [hw2]; exact W_1
      subst hw2
      go_wp2_with fail
      go_ret
      exact ⟨ret_int (by rw [HBL.out]; omega), WW.out⟩
end Go.Proofs.Ytohiimpjcgcaiaa
