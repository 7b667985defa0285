/- Of and Int of package natural. -/
import Derived.Test.YtomkmkjkeihodaaDoorTop2
set_option linter.unusedVariables false
set_option linter.unusedSimpArgs false
namespace Go.Proofs.YtomkmkjkeihodaaDoor
open Go.RowKit

def ofS (x : Int) : Nat × Int := if x < 0 then (0, 2) else (x.toNat, 0)
theorem ofS_neg {x : Int} (h : x < 0) : ofS x = (0, 2) := by unfold ofS; rw [if_pos h]
theorem ofS_nat (x : Nat) : ofS ((x : Nat) : Int) = (x, 0) := by unfold ofS; rw [if_neg (by omega), Int.toNat_natCast]

theorem words_two (x : Nat) (h : x < 18446744073709551616) : #[Value.int .u32 (((x : Nat) : Int) % 4294967296), Value.int .u32 (((x : Nat) : Int) / 4294967296)] = words 2 x := by
  have e : ((x : Nat) : Int) / 4294967296 = ((x : Nat) : Int) / 4294967296 % 4294967296 := by omega
  rw [e]
  unfold words dig
  simp [List.range, List.range.loop]

theorem of_any (x : Int) (w : World) (h0 : -9223372036854775808 ≤ x) (h1 : x ≤ 9223372036854775807) :
    Calls Tryd.prog 62 #[.int .i64 x] w (RetTwo w.heap.size (ofS x).1 (ofS x).2 w) := by
  by_cases hx : x < 0
  · rw [ofS_neg hx]
    have hd : decide (x < 0) = true := by simpa using hx
    go_enter Tryd.func62, Tryd.ntmps62
    go_wp2_with fail
    exact bodyPost_ret (v := .tuple #[.agg #[.slice none 0 0], .int .i64 2]) (by simp [results, Tryd.results62, go_sem]) rfl ⟨_, rfl, NatV.nil _ _, (Below.refl _ _).alloc (Nat.le_refl _) _⟩
  · obtain ⟨k, rfl⟩ := Int.eq_ofNat_of_zero_le (show 0 ≤ x by omega)
    rw [ofS_nat]
    have hd : decide (((k : Nat) : Int) < 0) = false := by simp
    have HW := hid (words_two k (by omega))
    have hk : k < 2 ^ (32 * 2) := by omega
    go_enter Tryd.func62, Tryd.ntmps62
    go_wp2_with fail
    rw [HW.out]
    have hO : Own ((w.alloc (.cells #[.slice none 0 0] 37)).alloc (.cells (words 2 k) 48)) w.heap.size (some ⟨w.heap.size + 1, 0, none⟩) 2 2 k := by
      have e : (w.alloc (.cells #[.slice none 0 0] 37)).heap.size = w.heap.size + 1 := by simp
      rw [← e]
      exact Row.own ⟨hk, Blk.new _ _ _⟩ (by omega) (by unfold maxLen; omega)
    have HO := hid hO
    have HB := hid ((Blk.new w 37 #[.slice none 0 0]).alloc (.cells (words 2 k) 48))
    have HW2 := hid (((Below.refl w.heap.size w).alloc (Nat.le_refl _) (.cells #[.slice none 0 0] 37)).alloc (by simp) (.cells (words 2 k) 48))
    clear hO
    refine (number_any _ 2 2 k w.heap.size _ HO.out (by simp; omega)).mono ?_
    rintro e w1 ⟨v, rfl, ⟨A4, c4, rfl, ho4⟩, hb⟩
    have z1 : w.heap.size + 2 ≤ w1.heap.size := by have := hb.size; simp at this; omega
    have HB1 := hid (HB.out.below hb (by simp; omega))
    have c1 := HB1.out.cell0
    have f1 := HB1.out.frozen 0
    have HP := hid ho4
    have W1 := hid (HW2.out.trans (hb.mono (by simp; omega)))
    clear ho4 hb
    go_wp2_with fail
    exact bodyPost_ret (v := .tuple #[.agg #[.slice A4 (nw k) c4], .int .i64 0]) (by simp [results, Tryd.results62, go_sem, c1]) rfl ⟨_, rfl, ⟨_, _, rfl, HP.out.box (p := ⟨w.heap.size, 0, none⟩) HB1.out (by decide) _⟩, W1.out.setCell (show w.heap.size ≤ w.heap.size by omega) _⟩

/-- What Int returns: the int, and the error number. -/
def intS (n a : Nat) : Int × Int := if okB n a then (if bl a ≤ 63 then ((a : Int), 0) else (0, 9)) else (0, 1)
theorem intS_no {n a : Nat} (h : okB n a = false) : intS n a = (0, 1) := by unfold intS; rw [h]; rfl
theorem intS_big {n a : Nat} (h : okB n a = true) (h2 : ¬ bl a ≤ 63) : intS n a = (0, 9) := by unfold intS; rw [h, if_neg h2]; rfl
theorem intS_ok {n a : Nat} (h : okB n a = true) (h2 : bl a ≤ 63) : intS n a = ((a : Int), 0) := by unfold intS; rw [h, if_pos h2]; rfl
def RetII (x f : Int) (w : World) (e : Ending) (w' : World) : Prop := e = .returned (.tuple #[.int .i64 x, .int .i64 f]) ∧ Below w.heap.size w w'

theorem ofInt_i64 (a : Nat) (ha : a < 9223372036854775808) : (BitVec.ofInt 64 (a : Int)).toNat = a := by
  rw [BitVec.ofInt_natCast, BitVec.toNat_ofNat]; exact Nat.mod_eq_of_lt (by omega)
theorem i64_or_nat (a b : Nat) (ha : a < 9223372036854775808) (hb : b < 9223372036854775808) : bits .or .i64 (a : Int) (b : Int) = ((a ||| b : Nat) : Int) := by
  have hx : a ||| b < 2 ^ 63 := Nat.or_lt_two_pow (by omega) (by omega)
  show IntKind.i64.wrap ((BitVec.ofInt 64 (a : Int) ||| BitVec.ofInt 64 (b : Int)).toNat : Int) = _
  rw [BitVec.toNat_or, ofInt_i64 a ha, ofInt_i64 b hb, IntKind.wrap_i64]
  omega

theorem int_any (A : Option Addr) (n c a : Nat) (w : World) (hA : Num w w.heap.size A n a) (hn : n ≤ 9223372036854775807) :
    Calls Tryd.prog 29 #[.agg #[.slice A n c]] w (RetII (intS n a).1 (intS n a).2 w) := by
  obtain ⟨b0, bw⟩ := boxes1 w (.slice A n c)
  have B0_0 := hid b0
  have W_0 := hid bw
  have HA_0 := hid (hA.below bw)
  clear bw b0 hA
  cases h1 : okB n a
  · rw [intS_no h1]
    have H1 := hid h1
    clear h1
    go_enter Tryd.func29, Tryd.ntmps29
    go_wp2_with fail
    refine (valid_any A _ c a w.heap.size _ HA_0.out (by simp <;> omega) hn).mono ?_
    rintro e w1 ⟨rfl, hb⟩
    have z1 : w.heap.size + 1 ≤ w1.heap.size := by have := hb.size; simp at this; omega
    have B0_1 := hid (B0_0.out.below hb (by simp <;> omega))
    have c0_1 := B0_1.out.cell0
    have f0_1 := B0_1.out.frozen 0
    have HA_1 := hid (HA_0.out.below (hb.mono (by simp <;> omega)))
    have W_1 := hid (W_0.out.trans (hb.mono (by simp <;> omega)))
    clear hb
    rw [H1.out]
    go_wp2_with fail
    go_ret2
    exact ⟨rfl, W_1.out⟩
  · have hn1 : n ≤ 64 := (okB_yes.1 h1).2
    have hna : nw a = n := (okB_yes.1 h1).1
    by_cases hb : bl a ≤ 63
    · rw [intS_ok h1 hb]
      have H1 := hid h1
      have hd : decide (64 ≤ ((bl a : Nat) : Int)) = false := by simp; omega
      have ha : a < 9223372036854775808 := Nat.lt_of_lt_of_le (lt_bl a) (Nat.pow_le_pow_right (n := 2) (by omega) hb)
      have e1 : dig a 1 = a / 4294967296 := by unfold dig; rw [show 2 ^ (32 * 1) = 4294967296 from rfl]; omega
      have e0 : dig a 0 = a % 4294967296 := by unfold dig; rw [show 2 ^ (32 * 0) = 1 from rfl, Nat.div_one]
      have d1 : dig a 1 ≤ 2147483647 := by omega
      have d0 := dig_lt a 0
      have hz1 : digZ a 1 = ((dig a 1 : Nat) : Int) := digZ_nat a 1
      have hz0 : digZ a 0 = ((dig a 0 : Nat) : Int) := digZ_nat a 0
      have hz2 : 0 ≤ digZ a 1 ∧ digZ a 1 ≤ 2147483647 := by rw [hz1]; omega
      have hz3 : 0 ≤ digZ a 0 ∧ digZ a 0 ≤ 4294967295 := by rw [hz0]; omega
      have HF : Hid (bits BinOp.or IntKind.i64 (digZ a 1 * 4294967296) (digZ a 0) = ((a : Nat) : Int)) := by
        have e : ((dig a 1 : Nat) : Int) * 4294967296 = ((dig a 1 * 4294967296 : Nat) : Int) := by simp
        show _ = _
        rw [hz1, hz0, e, i64_or_nat _ _ (by omega) (by omega), nat_join 32 _ _ (by omega) (by omega)]
        omega
      clear h1 hna e1 e0 ha hz1 hz0 d1 d0
      go_enter Tryd.func29, Tryd.ntmps29
      go_wp2_with fail
      refine (valid_any A _ c a w.heap.size _ HA_0.out (by simp <;> omega) hn).mono ?_
      rintro e w1 ⟨rfl, hb⟩
      have z1 : w.heap.size + 1 ≤ w1.heap.size := by have := hb.size; simp at this; omega
      have B0_1 := hid (B0_0.out.below hb (by simp <;> omega))
      have c0_1 := B0_1.out.cell0
      have f0_1 := B0_1.out.frozen 0
      have HA_1 := hid (HA_0.out.below (hb.mono (by simp <;> omega)))
      have W_1 := hid (W_0.out.trans (hb.mono (by simp <;> omega)))
      clear hb
      rw [H1.out]
      go_wp2_with fail
      refine (bits_any A _ c a _ (HA_1.out.more (by omega)) (by omega)).mono ?_
      rintro e w2 ⟨rfl, hb⟩
      have z2 : w.heap.size + 1 ≤ w2.heap.size := Nat.le_trans z1 hb.size
      have B0_2 := hid (B0_1.out.below hb (by omega))
      have c0_2 := B0_2.out.cell0
      have f0_2 := B0_2.out.frozen 0
      have HA_2 := hid (HA_1.out.below (hb.mono (by omega)))
      have W_2 := hid (W_1.out.trans (hb.mono (by omega)))
      clear hb
      rw [bitsS_yes H1.out]
      go_wp2_with fail
      go_quiet ((go_at_call 50; exact Calls.quiet_of_same (word_any A n c a w.heap.size _ _ (HA_2.out.drewN _) (by omega))))
      go_wp2_with fail
      go_ret2
      exact ⟨ret_two HF.out rfl, below_drewN W_2.out _⟩
    · rw [intS_big h1 hb]
      have H1 := hid h1
      have hd : decide (64 ≤ ((bl a : Nat) : Int)) = true := by simp; omega
      clear h1 hna
      go_enter Tryd.func29, Tryd.ntmps29
      go_wp2_with fail
      refine (valid_any A _ c a w.heap.size _ HA_0.out (by simp <;> omega) hn).mono ?_
      rintro e w1 ⟨rfl, hb⟩
      have z1 : w.heap.size + 1 ≤ w1.heap.size := by have := hb.size; simp at this; omega
      have B0_1 := hid (B0_0.out.below hb (by simp <;> omega))
      have c0_1 := B0_1.out.cell0
      have f0_1 := B0_1.out.frozen 0
      have HA_1 := hid (HA_0.out.below (hb.mono (by simp <;> omega)))
      have W_1 := hid (W_0.out.trans (hb.mono (by simp <;> omega)))
      clear hb
      rw [H1.out]
      go_wp2_with fail
      refine (bits_any A _ c a _ (HA_1.out.more (by omega)) (by omega)).mono ?_
      rintro e w2 ⟨rfl, hb⟩
      have z2 : w.heap.size + 1 ≤ w2.heap.size := Nat.le_trans z1 hb.size
      have B0_2 := hid (B0_1.out.below hb (by omega))
      have c0_2 := B0_2.out.cell0
      have f0_2 := B0_2.out.frozen 0
      have HA_2 := hid (HA_1.out.below (hb.mono (by omega)))
      have W_2 := hid (W_1.out.trans (hb.mono (by omega)))
      clear hb
      rw [bitsS_yes H1.out]
      go_wp2_with fail
      go_ret2
      exact ⟨rfl, W_2.out⟩

end Go.Proofs.YtomkmkjkeihodaaDoor
