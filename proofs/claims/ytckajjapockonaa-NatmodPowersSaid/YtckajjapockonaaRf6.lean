/- the reference of layer 3: Bit, Bits. -/
import Derived.Test.YtckajjapockonaaRf5
set_option linter.unusedVariables false
set_option linter.unusedSimpArgs false
namespace Go.Proofs.Ytckajjapockonaa
open Go.RowKit

theorem shr_mod_two (x r : Nat) (hx : x < 4294967296) : Int.tmod (((x : Nat) : Int) / 2 ^ r) 2 = ((x / 2 ^ r % 2 : Nat) : Int) := by
  have e : ((x : Nat) : Int) / 2 ^ r = ((x / 2 ^ r : Nat) : Int) := by simp
  rw [e, Int.tmod_eq_emod_of_nonneg (Int.natCast_nonneg _)]; exact (Int.natCast_emod _ _).symm

theorem rbit_any (A : Option Addr) (c a k : Nat) (w : World) (hA : Num w w.heap.size A (nw a) a) (hn : nw a ≤ 1000000) (hk : k ≤ 100000000) :
    Calls Try.prog 63 #[.agg #[.slice A (nw a) c], .int .i64 (k : Int)] w (RetB (.bool (bitN a k)) w) := by
  have HA := hid (hA.alloc (Nat.le_refl _) (.cells #[.slice A (nw a) c] 24))
  obtain ⟨q, hq⟩ : ∃ q : Nat, q = k / 32 := ⟨_, rfl⟩
  obtain ⟨r, hr⟩ : ∃ r : Nat, r = k % 32 := ⟨_, rfl⟩
  have hr1 : r < 32 := by omega
  have e1 : ((k : Nat) : Int) / 32 = ((q : Nat) : Int) := by omega
  have e2 : ((k : Nat) : Int) % 32 = ((r : Nat) : Int) := by omega
  by_cases hlt : q < nw a
  · obtain ⟨ad, rfl, h1, h2⟩ := HA.out.at_ hlt
    have l1 : (q : Int) < ((nw a : Nat) : Int) := by omega
    have hd := dig_lt a q
    have e3 := shr_mod_two (dig a q) r hd
    have HF : bitN a k = (((dig a q / 2 ^ r % 2 : Nat) : Int) == 1) := by
      unfold bitN
      rw [← bitN_dig, ← hq, ← hr]
      generalize dig a q / 2 ^ r % 2 = v
      rw [Bool.eq_iff_iff]; simp only [decide_eq_true_eq, beq_iff_eq]; omega
    generalize dig a q / 2 ^ r % 2 = v at e3 HF
    replace HF := hid HF
    rw [HF.out]
    clear hA hq hr
    go_enter Try.func63, Try.ntmps63
    go_wp2_with fail
    go_ret
    exact ⟨rfl, (Below.refl _ _).alloc (Nat.le_refl _) _⟩
  · have l1 : ((nw a : Nat) : Int) ≤ (q : Int) := by omega
    have HF : Hid (bitN a k = false) := by
      show _ = _
      unfold bitN
      rw [← bitN_dig, ← hq, ← hr, dig_above (lt_nw a) (by omega)]
      simp
    rw [HF.out]
    clear hA hq hr
    go_enter Try.func63, Try.ntmps63
    go_wp2_with fail
    go_ret
    exact ⟨rfl, (Below.refl _ _).alloc (Nat.le_refl _) _⟩

theorem bl_of_bit {a k : Nat} (h1 : bl a ≤ k + 1) (h2 : bitN a k = true) : bl a = k + 1 := by
  rcases Nat.lt_or_ge k (bl a) with h | h
  · omega
  · rw [bitN_above h] at h2; cases h2
theorem bl_no_bit {a k : Nat} (h1 : bl a ≤ k + 1) (h2 : bitN a k = false) : bl a ≤ k := by
  rcases Nat.lt_or_ge k (bl a) with h | h
  · have e : bl a = k + 1 := by omega
    have h0 : a ≠ 0 := by rintro rfl; rw [bl_zero] at e; omega
    have := bitN_top h0
    rw [e, show k + 1 - 1 = k by omega, h2] at this
    cases this
  · exact h

theorem rbits_any (A : Option Addr) (c a : Nat) (w : World) (hA : Num w w.heap.size A (nw a) a) (hn : nw a ≤ 1000000) :
    Calls Try.prog 62 #[.agg #[.slice A (nw a) c]] w (RetB (.int .i64 ((bl a : Nat) : Int)) w) := by
  obtain ⟨b0, bw⟩ := boxes1 w (.slice A (nw a) c)
  have XA := hid (Box.mk b0 hA bw)
  have WW := hid bw
  have HBL := hid (bl_le_nw a)
  clear b0 bw hA
  obtain ⟨N, hN⟩ : ∃ N : Nat, N = nw a * 32 := ⟨_, rfl⟩
  have j0 : IntKind.i64.wrap (32 * ((nw a : Nat) : Int)) = ((N : Nat) : Int) := by rw [IntWalk.i64_in _ (by omega)]; omega
  have hN1 : N ≤ 32000000 := by omega
  have HNN := hid hN
  clear hN
  go_enter Try.func62, Try.ntmps62
  go_wp2_with fail
  generalize hV : w.alloc (.cells #[.slice A (nw a) c] 24) = V at XA WW ⊢
  clear hV
  go_loopw [3] (fun i wr => ∃ k : Nat, k ≤ N ∧ i = .int .i64 k ∧ bl a ≤ k ∧ Below w.heap.size w wr ∧ Box wr w.heap.size A (nw a) c a) (fun i _ => (intOf i).toNat)
  case atStart => exact ⟨N, by omega, by go_num, by have := HBL.out; have := HNN.out; omega, WW.out, XA.out⟩
  case round =>
    obtain ⟨k, hk, rfl, hI, hW, hX⟩ := hrel
    have HW := hid hW
    have HX := hid hX
    have HI := hid hI
    have kX := hX.cell
    clear hW hX XA WW hI
    by_cases h0 : k = 0
    · subst h0
      go_wp2_with fail
      go_ret
      exact ⟨ret_int (by have := HI.out; omega), HW.out⟩
    · obtain ⟨j, rfl⟩ : ∃ j, k = j + 1 := ⟨k - 1, by omega⟩
      have e1 : ((j + 1 : Nat) : Int) - 1 = ((j : Nat) : Int) := by omega
      have l1 : (0 : Int) < ((j + 1 : Nat) : Int) := by omega
      clear h0
      cases hb : bitN a j
      · have HB := hid hb
        have HI2 := hid (bl_no_bit HI.out hb)
        clear hb
        go_wp2_with fail
        have hc := rbit_any A c a j wr HX.out.num hn (by omega)
        rw [HB.out] at hc
        refine hc.mono ?_
        clear hc
        rintro e w1 ⟨rfl, hb⟩
        have HW1 := hid (HW.out.trans (hb.mono HW.out.size))
        have HX1 := hid (HX.out.below hb)
        clear hb
        go_wp2_with fail
        go_roundw
        case rel => exact ⟨j, by omega, by go_num, HI2.out, HW1.out, HX1.out⟩
        case measure => simp [intOf] <;> omega
      · have HB := hid hb
        have HI2 := hid (bl_of_bit HI.out hb)
        clear hb
        go_wp2_with fail
        have hc := rbit_any A c a j wr HX.out.num hn (by omega)
        rw [HB.out] at hc
        refine hc.mono ?_
        clear hc
        rintro e w1 ⟨rfl, hb⟩
        have HW1 := hid (HW.out.trans (hb.mono HW.out.size))
        clear hb
        go_wp2_with fail
        go_ret
        exact ⟨ret_int (by have := HI2.out; omega), HW1.out⟩
end Go.Proofs.Ytckajjapockonaa
