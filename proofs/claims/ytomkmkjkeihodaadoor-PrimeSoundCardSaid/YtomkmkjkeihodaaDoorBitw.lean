/- Bits: the borrow of a difference of words, disjoint halves joined by or. -/
import Derived.WalkKit
import Derived.Laws.BitsAllLaws
import Derived.Laws.ShiftsVarLaws
set_option linter.unusedVariables false
set_option linter.unusedSimpArgs false
namespace Go.Proofs.YtomkmkjkeihodaaDoor
open Go

theorem bit31 (v : Nat) (h : v < 4294967296) : v / 2 ^ 31 % 2 = if 2147483648 ≤ v then 1 else 0 := by split <;> omega

theorem top_bit_lt (v : Nat) (h : v < 4294967296) : v.testBit 31 = decide (2147483648 ≤ v) := by
  rw [Nat.testBit_eq_decide_div_mod_eq, bit31 v h]
  by_cases hv : 2147483648 ≤ v <;> simp [hv]

theorem top_bit (v : Nat) (h : v < 4294967296) : v / 2147483648 = if v.testBit 31 then 1 else 0 := by
  rw [top_bit_lt v h]
  by_cases hv : 2147483648 ≤ v <;> simp [hv] <;> omega

theorem borrow_nat (x y c d : Nat) (hx : x < 4294967296) (hy : y < 4294967296) (hc : c ≤ 1) (hd : d < 4294967296) (h : d + y + c = x ∨ d + y + c = x + 4294967296) :
    (((4294967295 ^^^ x) &&& y) ||| ((4294967295 ^^^ (x ^^^ y)) &&& d)) / 2147483648 = if x < y + c then 1 else 0 := by
  have b1 : 4294967295 ^^^ x < 4294967296 := Nat.xor_lt_two_pow (n := 32) (by omega) (by omega)
  have b3 : (4294967295 ^^^ x) &&& y < 4294967296 := Nat.lt_of_le_of_lt Nat.and_le_right hy
  have b4 : (4294967295 ^^^ (x ^^^ y)) &&& d < 4294967296 := Nat.lt_of_le_of_lt Nat.and_le_right hd
  rw [top_bit _ (Nat.or_lt_two_pow (n := 32) b3 b4)]
  rw [Nat.testBit_or, Nat.testBit_and, Nat.testBit_and, Nat.testBit_xor, Nat.testBit_xor, Nat.testBit_xor, top_bit_lt 4294967295 (by omega), top_bit_lt x hx, top_bit_lt y hy, top_bit_lt d hd]
  by_cases p : 2147483648 ≤ x <;> by_cases q : 2147483648 ≤ y <;> by_cases r : 2147483648 ≤ d <;> simp [p, q, r] <;> omega

theorem max_u32 : IntKind.u32.max = 4294967295 := by decide +kernel

theorem borrow_bits (x y c d : Int) (x0 : 0 ≤ x) (x1 : x ≤ 4294967295) (y0 : 0 ≤ y) (y1 : y ≤ 4294967295) (c0 : 0 ≤ c) (c1 : c ≤ 1) (hd : d = (x - y - c) % 4294967296) :
    bits BinOp.or IntKind.u32 (bits BinOp.and IntKind.u32 (bits BinOp.xor IntKind.u32 IntKind.u32.max x) y) (bits BinOp.and IntKind.u32 (bits BinOp.xor IntKind.u32 IntKind.u32.max (bits BinOp.xor IntKind.u32 x y)) d) / 2147483648 = if x < y + c then 1 else 0 := by
  have d0 : 0 ≤ d := by omega
  have d1 : d ≤ 4294967295 := by omega
  obtain ⟨x, rfl⟩ := Int.eq_ofNat_of_zero_le x0
  obtain ⟨y, rfl⟩ := Int.eq_ofNat_of_zero_le y0
  obtain ⟨c, rfl⟩ := Int.eq_ofNat_of_zero_le c0
  obtain ⟨d, rfl⟩ := Int.eq_ofNat_of_zero_le d0
  have hx : x < 4294967296 := by omega
  have hy : y < 4294967296 := by omega
  have hd' : d < 4294967296 := by omega
  have b0 : x ^^^ y < 4294967296 := Nat.xor_lt_two_pow (n := 32) hx hy
  have b1 : 4294967295 ^^^ x < 4294967296 := Nat.xor_lt_two_pow (n := 32) (by omega) (by omega)
  have b2 : 4294967295 ^^^ (x ^^^ y) < 4294967296 := Nat.xor_lt_two_pow (n := 32) (by omega) (by omega)
  have b3 : (4294967295 ^^^ x) &&& y < 4294967296 := Nat.lt_of_le_of_lt Nat.and_le_right hy
  have b4 : (4294967295 ^^^ (x ^^^ y)) &&& d < 4294967296 := Nat.lt_of_le_of_lt Nat.and_le_right hd'
  have e : (4294967295 : Int) = ((4294967295 : Nat) : Int) := rfl
  rw [max_u32, u32_xor_nat x y hx hy, e, u32_xor_nat _ x (by omega) hx, u32_xor_nat _ _ (by omega) b0, u32_and_nat _ _ b1 hy, u32_and_nat _ _ b2 hd', u32_or_nat _ _ b3 b4]
  have := borrow_nat x y c d hx hy (by omega) hd' (by omega)
  rw [show (2147483648 : Int) = ((2147483648 : Nat) : Int) from rfl, ← Int.natCast_ediv, this]
  split <;> split <;> first | rfl | omega

theorem or_high (hi lo : Int) (h0 : 0 ≤ hi) (h1 : hi ≤ 4294967295) (l0 : 0 ≤ lo) (l1 : lo ≤ 4294967295) : bits BinOp.or IntKind.u64 (hi * 4294967296) lo = hi * 4294967296 + lo := by
  obtain ⟨x, rfl⟩ := Int.eq_ofNat_of_zero_le h0
  obtain ⟨y, rfl⟩ := Int.eq_ofNat_of_zero_le l0
  have e : ((x : Nat) : Int) * 4294967296 = ((x * 4294967296 : Nat) : Int) := by simp
  rw [e, u64_or_nat _ _ (by omega) (by omega), nat_join 32 _ _ (by omega) (by omega)]
  simp

theorem and31 (y : Int) : bits BinOp.and IntKind.i64 y 31 = y % 32 := by
  show IntKind.i64.wrap ((BitVec.ofInt 64 y &&& BitVec.ofInt 64 31).toNat : Int) = _
  rw [BitVec.toNat_and, BitVec.toNat_ofInt, BitVec.toNat_ofInt]
  rw [show ((31 : Int) % ((2 ^ 64 : Nat) : Int)).toNat = 31 by decide, nat_mask5, IntKind.wrap_i64]
  omega

theorem pow_off (off : Nat) (ho : off ≤ 31) : 2 ^ off * 2 ^ (32 - off) = 4294967296 := by rw [← Nat.pow_add, show off + (32 - off) = 32 by omega]
theorem div_off (lo hi off : Nat) (ho : off ≤ 31) : (hi * 4294967296 + lo) / 2 ^ off = hi * 2 ^ (32 - off) + lo / 2 ^ off := by
  rw [← pow_off off ho, show hi * (2 ^ off * 2 ^ (32 - off)) + lo = 2 ^ off * (hi * 2 ^ (32 - off)) + lo by rw [Nat.mul_left_comm], Nat.mul_add_div (Nat.pow_pos (by omega))]

/-- The two parts of a shifted word, joined. -/
theorem join_parts (lo hi off : Nat) (ho : off ≤ 31) (hl : lo < 4294967296) :
    bits BinOp.or IntKind.u32 (((lo : Nat) : Int) / 2 ^ off) (((hi : Nat) : Int) * 2 ^ (32 - off) % 4294967296) = (((hi * 2 ^ (32 - off) + lo / 2 ^ off) % 4294967296 : Nat) : Int) := by
  have e1 : ((lo : Nat) : Int) / 2 ^ off = ((lo / 2 ^ off : Nat) : Int) := by simp
  have e2 : ((hi : Nat) : Int) * 2 ^ (32 - off) % 4294967296 = ((hi * 2 ^ (32 - off) % 4294967296 : Nat) : Int) := by simp
  have hp := pow_off off ho
  have hp0 : 0 < 2 ^ off := Nat.pow_pos (by omega)
  have h1 : lo / 2 ^ off < 2 ^ (32 - off) := by rw [Nat.div_lt_iff_lt_mul hp0, Nat.mul_comm, hp]; exact hl
  have h2 : 2 ^ (32 - off) ≤ 4294967296 := by rw [← hp]; exact Nat.le_mul_of_pos_left _ hp0
  have e3 : hi * 2 ^ (32 - off) % 4294967296 = hi % 2 ^ off * 2 ^ (32 - off) := by rw [← hp, Nat.mul_comm (2 ^ off), Nat.mul_comm hi, Nat.mul_mod_mul_left, Nat.mul_comm]
  have h3 : hi % 2 ^ off * 2 ^ (32 - off) + 2 ^ (32 - off) ≤ 4294967296 := by
    have := Nat.mul_le_mul_right (2 ^ (32 - off)) (show hi % 2 ^ off + 1 ≤ 2 ^ off from Nat.mod_lt _ hp0)
    rw [hp, Nat.add_mul, Nat.one_mul] at this
    exact this
  rw [e1, e2, u32_or_nat _ _ (by omega) (Nat.mod_lt _ (by omega)), Nat.or_comm, nat_join (32 - off) _ _ (by rw [e3]; exact Nat.mul_mod_left _ _) h1]
  congr 1
  rw [Nat.add_mod, e3, Nat.mod_eq_of_lt (a := lo / 2 ^ off) (by omega)]
  exact (Nat.mod_eq_of_lt (by omega)).symm

end Go.Proofs.YtomkmkjkeihodaaDoor
