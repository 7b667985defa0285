/- The small functions on words: what each call returns. -/
import Derived.Test.YtomkmkjkeihodaaDoorMem
import Derived.Test.YtomkmkjkeihodaaDoorBitw
import Derived.Test.YtomkmkjkeihodaaDoorShelf
import Derived.WalkSpells
import Derived.WalkLawsBesides
import Derived.Deep.QuietTactic
import Derived.BigQuiet
import Derived.Outline
set_option linter.unusedVariables false
set_option linter.unusedSimpArgs false
namespace Go.Proofs.YtomkmkjkeihodaaDoor
open Go.RowKit

/-- The call returns v and does nothing else (it may draw). -/
def Ret (v : Value) (w : World) (e : Ending) (w' : World) : Prop := e = .returned v ∧ ∃ n, w' = w.drewN n

/-- The call returns v; the world is as it was. -/
def Ex (v : Value) (w : World) (e : Ending) (w' : World) : Prop := e = .returned v ∧ w' = w
theorem Ex.ret {v : Value} {w : World} {e : Ending} {w' : World} (h : Ex v w e w') : Ret v w e w' := ⟨h.1, 0, h.2⟩

theorem ret_int {k : IntKind} {a b : Int} (h : a = b) : Ending.returned (.int k a) = .returned (.int k b) := by rw [h]
theorem ret_two {k l : IntKind} {a b c d : Int} (h : a = b) (h' : c = d) : Ending.returned (.tuple #[.int k a, .int l c]) = .returned (.tuple #[.int k b, .int l d]) := by rw [h, h']

/-- The digit at a place that may be negative. -/
def digZ (a : Nat) (i : Int) : Int := if i < 0 then 0 else ((dig a i.toNat : Nat) : Int)
theorem digZ_nat (a i : Nat) : digZ a ((i : Nat) : Int) = ((dig a i : Nat) : Int) := by unfold digZ; rw [if_neg (by omega), Int.toNat_natCast]
theorem digZ_neg {a : Nat} {i : Int} (h : i < 0) : digZ a i = 0 := by unfold digZ; rw [if_pos h]
theorem digZ_bd (a : Nat) (i : Int) : 0 ≤ digZ a i ∧ digZ a i ≤ 4294967295 := by
  unfold digZ
  have := dig_lt a i.toNat
  split <;> omega

theorem word_any (A : Option Addr) (n c a B : Nat) (i : Int) (w : World) (hN : Num w B A n a) (hn : n ≤ 9223372036854775807) :
    Calls Tryd.prog 50 #[.slice A n c, .int .i64 i] w (Ex (.int .u32 (digZ a i)) w) := by
  by_cases h0 : i < 0
  · have hz := hid (digZ_neg (a := a) h0)
    have hd : decide (i < 0) = true := by simpa using h0
    go_enter Tryd.func50, Tryd.ntmps50
    go_wp2
    go_ret
    exact ⟨ret_int hz.out.symm, rfl⟩
  · obtain ⟨k, rfl⟩ := Int.eq_ofNat_of_zero_le (show 0 ≤ i by omega)
    by_cases h1 : k < n
    · obtain ⟨ad, rfl, hb, hc⟩ := hN.at_ h1
      have hz := hid (digZ_nat a k)
      clear hN
      go_enter Tryd.func50, Tryd.ntmps50
      go_wp2
      go_ret
      exact ⟨ret_int hz.out.symm, rfl⟩
    · have hz := hid ((digZ_nat a k).trans (by rw [dig_above hN.lt (by omega)]))
      clear hN
      go_enter Tryd.func50, Tryd.ntmps50
      go_wp2
      go_ret
      exact ⟨ret_int hz.out.symm, rfl⟩

theorem word_nat (A : Option Addr) (n c a B k : Nat) (w : World) (hN : Num w B A n a) (hn : n ≤ 9223372036854775807) :
    Calls Tryd.prog 50 #[.slice A n c, .int .i64 ((k : Nat) : Int)] w (Ex (.int .u32 ((dig a k : Nat) : Int)) w) := by
  rw [← digZ_nat]
  exact word_any A n c a B _ w hN hn

theorem add32 (x y c : Int) (w : World) (x0 : 0 ≤ x) (x1 : x ≤ 4294967295) (y0 : 0 ≤ y) (y1 : y ≤ 4294967295) (c0 : 0 ≤ c) (c1 : c ≤ 4294967295) :
    Calls Tryd.prog 107 #[.int .u32 x, .int .u32 y, .int .u32 c] w (Ex (.tuple #[.int .u32 ((x + y + c) % 4294967296), .int .u32 ((x + y + c) / 4294967296)]) w) := by
  go_enter Tryd.func107, Tryd.ntmps107
  go_wp2
  go_ret2
  exact ⟨ret_two rfl rfl, rfl⟩

theorem sub32 (x y c k : Int) (w : World) (x0 : 0 ≤ x) (x1 : x ≤ 4294967295) (y0 : 0 ≤ y) (y1 : y ≤ 4294967295) (c0 : 0 ≤ c) (c1 : c ≤ 1) (hk : Hid (k = if x < y + c then 1 else 0)) :
    Calls Tryd.prog 114 #[.int .u32 x, .int .u32 y, .int .u32 c] w (Ex (.tuple #[.int .u32 ((x - y - c) % 4294967296), .int .u32 k]) w) := by
  have hb := hid (borrow_bits x y c _ x0 x1 y0 y1 c0 c1 rfl)
  go_enter Tryd.func114, Tryd.ntmps114
  go_wp2
  go_ret2
  exact ⟨ret_two rfl (hb.out.trans hk.out.symm), rfl⟩

theorem mul32 (x y : Int) (w : World) (x0 : 0 ≤ x) (x1 : x ≤ 4294967295) (y0 : 0 ≤ y) (y1 : y ≤ 4294967295) :
    Calls Tryd.prog 113 #[.int .u32 x, .int .u32 y] w (Ex (.tuple #[.int .u32 (x * y / 4294967296), .int .u32 (x * y % 4294967296)]) w) := by
  have hp0 : 0 ≤ x * y := Int.mul_nonneg x0 y0
  have hp1 : x * y ≤ 4294967295 * 4294967295 := Int.mul_le_mul x1 y1 y0 (by omega)
  go_enter Tryd.func113, Tryd.ntmps113
  go_wp2
  go_ret2
  exact ⟨ret_two rfl rfl, rfl⟩

theorem div32 (hi lo y : Int) (w : World) (h : hi < y) (x0 : 0 ≤ hi) (l0 : 0 ≤ lo) (l1 : lo ≤ 4294967295) (y1 : y ≤ 4294967295) :
    Calls Tryd.prog 118 #[.int .u32 hi, .int .u32 lo, .int .u32 y] w (Ret (.tuple #[.int .u32 ((hi * 4294967296 + lo) / y), .int .u32 ((hi * 4294967296 + lo) % y)]) w) := by
  have h0 : (y == 0) = false := by simp; omega
  have h2 : (y != 0) = true := by simp; omega
  have h3 : decide (y ≤ hi) = false := by simp; omega
  have ho := or_high hi lo x0 (by omega) l0 l1
  have q0 : 0 ≤ (hi * 4294967296 + lo) / y := Int.ediv_nonneg (by omega) (by omega)
  have q1 : (hi * 4294967296 + lo) / y ≤ 4294967295 := by
    have : (hi * 4294967296 + lo) / y < 4294967296 := Int.ediv_lt_of_lt_mul (by omega) (by omega)
    omega
  have r0 : 0 ≤ (hi * 4294967296 + lo) % y := Int.emod_nonneg _ (by omega)
  have r1 : (hi * 4294967296 + lo) % y < y := Int.emod_lt_of_pos _ (by omega)
  go_enter Tryd.func118, Tryd.ntmps118
  go_wp2
  go_quiet (fail)
  go_wp2
  go_ret2
  exact ⟨ret_two rfl rfl, _, rfl⟩

theorem multiply (x y c : Int) (w : World) (x0 : 0 ≤ x) (x1 : x ≤ 4294967295) (y0 : 0 ≤ y) (y1 : y ≤ 4294967295) (c0 : 0 ≤ c) (c1 : c ≤ 4294967295) :
    Calls Tryd.prog 106 #[.int .u32 x, .int .u32 y, .int .u32 c] w (Ex (.tuple #[.int .u32 ((x * y + c) / 4294967296), .int .u32 ((x * y + c) % 4294967296)]) w) := by
  have hp0 : 0 ≤ x * y := Int.mul_nonneg x0 y0
  have hp1 : x * y ≤ 4294967295 * 4294967295 := Int.mul_le_mul x1 y1 y0 (by omega)
  have hm := hid (mul32 x y w x0 x1 y0 y1)
  go_enter Tryd.func106, Tryd.ntmps106
  go_wp2_with fail
  refine hm.out.mono ?_
  rintro e w' ⟨rfl, rfl⟩
  go_wp2_with fail
  refine (add32 (x * y % 4294967296) c 0 _ (by omega) (by omega) c0 c1 (by omega) (by omega)).mono ?_
  rintro e w' ⟨rfl, rfl⟩
  go_wp2_with fail
  go_ret2
  exact ⟨ret_two (by omega) (by omega), rfl⟩

theorem named (n : Nat) : ∃ r : Nat, Hid (r = n) := ⟨n, rfl⟩

theorem add32_nat (x y c r q : Nat) (w : World) (hx : x ≤ 4294967295) (hy : y ≤ 4294967295) (hc : c ≤ 4294967295) (hr : Hid (r = (x + y + c) % 4294967296)) (hq : Hid (q = (x + y + c) / 4294967296)) :
    Calls Tryd.prog 107 #[.int .u32 (x : Int), .int .u32 (y : Int), .int .u32 (c : Int)] w (Ex (.tuple #[.int .u32 (r : Int), .int .u32 (q : Int)]) w) := by
  have e1 : (r : Int) = ((x : Int) + y + c) % 4294967296 := by have := hr.out; omega
  have e2 : (q : Int) = ((x : Int) + y + c) / 4294967296 := by have := hq.out; omega
  rw [e1, e2]
  exact add32 x y c w (by omega) (by omega) (by omega) (by omega) (by omega) (by omega)

theorem add32_nat0 (x y r q : Nat) (w : World) (hx : x ≤ 4294967295) (hy : y ≤ 4294967295) (hr : Hid (r = (x + y) % 4294967296)) (hq : Hid (q = (x + y) / 4294967296)) :
    Calls Tryd.prog 107 #[.int .u32 (x : Int), .int .u32 (y : Int), .int .u32 0] w (Ex (.tuple #[.int .u32 (r : Int), .int .u32 (q : Int)]) w) :=
  add32_nat x y 0 r q w hx hy (by omega) hr hq

/-- x - y - c = r - q 2^32. -/
theorem sub32_nat (x y c r q : Nat) (w : World) (hx : x ≤ 4294967295) (hy : y ≤ 4294967295) (hc : c ≤ 1) (hr : r ≤ 4294967295) (hq : q ≤ 1) (h : Hid (r + y + c = x + q * 4294967296)) :
    Calls Tryd.prog 114 #[.int .u32 (x : Int), .int .u32 (y : Int), .int .u32 (c : Int)] w (Ex (.tuple #[.int .u32 (r : Int), .int .u32 (q : Int)]) w) := by
  have h' := h.out
  have e1 : (r : Int) = ((x : Int) - y - c) % 4294967296 := by omega
  rw [e1]
  refine sub32 x y c q w (by omega) (by omega) (by omega) (by omega) (by omega) (by omega) ?_
  show (q : Int) = _
  split <;> omega

theorem div32_nat (hi lo y q r : Nat) (w : World) (h : hi < y) (l1 : lo ≤ 4294967295) (y1 : y ≤ 4294967295) (hq : Hid (q = (hi * 4294967296 + lo) / y)) (hr : Hid (r = (hi * 4294967296 + lo) % y)) :
    Calls Tryd.prog 118 #[.int .u32 (hi : Int), .int .u32 (lo : Int), .int .u32 (y : Int)] w (Ret (.tuple #[.int .u32 (q : Int), .int .u32 (r : Int)]) w) := by
  have e1 : (q : Int) = ((hi : Int) * 4294967296 + lo) / y := by rw [hq.out]; simp
  have e2 : (r : Int) = ((hi : Int) * 4294967296 + lo) % y := by rw [hr.out]; simp
  rw [e1, e2]
  exact div32 hi lo y w (by omega) (by omega) (by omega) (by omega) (by omega)

/-- A call that draws, behind draws. -/
theorem quiet_add {P : Program} {f : FuncId} {args : Array Value} {w : World} {a n : Nat} {v : Value}
    (h : Calls P f args (w.drewN (a + n)) (Ret v (w.drewN (a + n)))) :
    Calls P f args (w.drewN (a + n)) fun e w'' => e = .returned v ∧ ∃ m, w'' = w.drewN (a + m) :=
  h.mono fun _ _ ⟨he, m, hm⟩ => ⟨he, n + m, by rw [hm, World.drewN_drewN, Nat.add_assoc]⟩

theorem multiply_nat (x y c r q : Nat) (w : World) (hx : x ≤ 4294967295) (hy : y ≤ 4294967295) (hc : c ≤ 4294967295) (hr : Hid (r = (x * y + c) % 4294967296)) (hq : Hid (q = (x * y + c) / 4294967296)) :
    Calls Tryd.prog 106 #[.int .u32 (x : Int), .int .u32 (y : Int), .int .u32 (c : Int)] w (Ex (.tuple #[.int .u32 (q : Int), .int .u32 (r : Int)]) w) := by
  have e1 : (r : Int) = ((x : Int) * y + c) % 4294967296 := by rw [hr.out]; simp
  have e2 : (q : Int) = ((x : Int) * y + c) / 4294967296 := by rw [hq.out]; simp
  rw [e1, e2]
  exact multiply x y c w (by omega) (by omega) (by omega) (by omega) (by omega) (by omega)

end Go.Proofs.YtomkmkjkeihodaaDoor
