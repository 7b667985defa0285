/- NatmodRing: the walk. -/
import Derived.Test.YtckajjapockonaaDo3
set_option linter.unusedVariables false
set_option linter.unusedSimpArgs false
namespace Go.Proofs.Ytckajjapockonaa
open Go.RowKit

def oq7_5_0 : Oper := { dst := some 42, op := Op.move (Operand.tmp 10), type := 44, pos := "law.go:136", after := #[], guard := none }
def oq7_5_1 : Oper := { dst := some 43, op := Op.load 24 (Operand.tmp 4), type := 24, pos := "law.go:136", after := #[], guard := none }
def oq7_5_2 : Oper := { dst := some 44, op := Op.load 24 (Operand.tmp 5), type := 24, pos := "law.go:136", after := #[], guard := none }
def oq7_5_3 : Oper := { dst := some 45, op := Op.call { callee := Callee.value (Operand.tmp 42), args := #[Operand.func 20, Operand.tmp 43, Operand.tmp 44], argTypes := #[29, 24, 24] }, type := 24, pos := "law.go:136", after := #[{ on := 0, ground := Ground.data }, { on := 1, ground := Ground.data }, { on := 2, ground := Ground.data }], guard := none }
def oq7_5_4 : Oper := { dst := some 46, op := Op.move (Operand.tmp 10), type := 44, pos := "law.go:136", after := #[], guard := none }
def oq7_5_5 : Oper := { dst := some 47, op := Op.load 24 (Operand.tmp 5), type := 24, pos := "law.go:136", after := #[], guard := none }
def oq7_5_6 : Oper := { dst := some 48, op := Op.load 24 (Operand.tmp 6), type := 24, pos := "law.go:136", after := #[], guard := none }
def oq7_5_7 : Oper := { dst := some 49, op := Op.call { callee := Callee.value (Operand.tmp 46), args := #[Operand.func 20, Operand.tmp 47, Operand.tmp 48], argTypes := #[29, 24, 24] }, type := 24, pos := "law.go:136", after := #[{ on := 4, ground := Ground.data }, { on := 5, ground := Ground.data }, { on := 6, ground := Ground.data }, { on := 3, ground := Ground.chain }], guard := none }
def oq7_5_8 : Oper := { dst := some 11, op := Op.alloc 24, type := 0, pos := "law.go:136", after := #[], guard := none }
def oq7_5_9 : Oper := { dst := some 12, op := Op.alloc 24, type := 0, pos := "law.go:136", after := #[], guard := none }
def oq7_5_10 : Oper := { dst := none, op := Op.store 24 (Operand.tmp 11) (Operand.tmp 45), type := 0, pos := "law.go:136", after := #[{ on := 8, ground := Ground.data }, { on := 3, ground := Ground.data }, { on := 7, ground := Ground.chain }, { on := 0, ground := Ground.phase }, { on := 1, ground := Ground.phase }, { on := 2, ground := Ground.phase }, { on := 3, ground := Ground.phase }, { on := 4, ground := Ground.textOnly Departure.lateStores }, { on := 5, ground := Ground.textOnly Departure.lateStores }, { on := 6, ground := Ground.textOnly Departure.lateStores }, { on := 7, ground := Ground.textOnly Departure.lateStoresUnsure }, { on := 8, ground := Ground.phase }, { on := 9, ground := Ground.phase }], guard := none }
def oq7_5_11 : Oper := { dst := none, op := Op.store 24 (Operand.tmp 12) (Operand.tmp 49), type := 0, pos := "law.go:136", after := #[{ on := 9, ground := Ground.data }, { on := 7, ground := Ground.data }, { on := 10, ground := Ground.chain }, { on := 0, ground := Ground.phase }, { on := 1, ground := Ground.phase }, { on := 2, ground := Ground.phase }, { on := 3, ground := Ground.phase }, { on := 4, ground := Ground.phase }, { on := 5, ground := Ground.phase }, { on := 6, ground := Ground.phase }, { on := 7, ground := Ground.phase }, { on := 8, ground := Ground.phase }, { on := 9, ground := Ground.phase }, { on := 10, ground := Ground.phase }], guard := none }
def oq7_12_0 : Oper := { dst := some 68, op := Op.move (Operand.tmp 10), type := 44, pos := "law.go:144", after := #[], guard := none }
def oq7_12_1 : Oper := { dst := some 69, op := Op.move (Operand.tmp 10), type := 44, pos := "law.go:144", after := #[], guard := none }
def oq7_12_2 : Oper := { dst := some 70, op := Op.load 24 (Operand.tmp 4), type := 24, pos := "law.go:144", after := #[], guard := none }
def oq7_12_3 : Oper := { dst := some 71, op := Op.load 24 (Operand.tmp 6), type := 24, pos := "law.go:144", after := #[], guard := none }
def oq7_12_4 : Oper := { dst := some 72, op := Op.call { callee := Callee.value (Operand.tmp 69), args := #[Operand.func 20, Operand.tmp 70, Operand.tmp 71], argTypes := #[29, 24, 24] }, type := 24, pos := "law.go:144", after := #[{ on := 1, ground := Ground.data }, { on := 2, ground := Ground.data }, { on := 3, ground := Ground.data }], guard := none }
def oq7_12_5 : Oper := { dst := some 73, op := Op.load 24 (Operand.tmp 12), type := 24, pos := "law.go:144", after := #[], guard := none }
def oq7_12_6 : Oper := { dst := some 74, op := Op.call { callee := Callee.value (Operand.tmp 68), args := #[Operand.func 14, Operand.tmp 72, Operand.tmp 73], argTypes := #[29, 24, 24] }, type := 24, pos := "law.go:144", after := #[{ on := 0, ground := Ground.data }, { on := 4, ground := Ground.data }, { on := 5, ground := Ground.data }, { on := 4, ground := Ground.chain }], guard := none }
def oq7_12_7 : Oper := { dst := some 17, op := Op.alloc 24, type := 0, pos := "law.go:144", after := #[], guard := none }
def oq7_12_8 : Oper := { dst := none, op := Op.store 24 (Operand.tmp 17) (Operand.tmp 74), type := 0, pos := "law.go:144", after := #[{ on := 7, ground := Ground.data }, { on := 6, ground := Ground.data }, { on := 6, ground := Ground.chain }, { on := 0, ground := Ground.phase }, { on := 1, ground := Ground.phase }, { on := 2, ground := Ground.phase }, { on := 3, ground := Ground.phase }, { on := 4, ground := Ground.phase }, { on := 5, ground := Ground.phase }, { on := 6, ground := Ground.phase }, { on := 7, ground := Ground.phase }], guard := none }
def oq7_15_0 : Oper := { dst := some 83, op := Op.load 4 (Operand.tmp 9), type := 4, pos := "law.go:147", after := #[], guard := none }
def oq7_15_1 : Oper := { dst := some 84, op := Op.move (Operand.tmp 83), type := 4, pos := "law.go:147", after := #[{ on := 0, ground := Ground.data }], guard := none }
def oq7_15_2 : Oper := { dst := some 85, op := Op.load 24 (Operand.tmp 14), type := 24, pos := "law.go:147", after := #[{ on := 1, ground := Ground.guard }], guard := some (1, true) }
def oq7_15_3 : Oper := { dst := some 86, op := Op.load 24 (Operand.tmp 15), type := 24, pos := "law.go:147", after := #[{ on := 1, ground := Ground.guard }], guard := some (1, true) }
def oq7_15_4 : Oper := { dst := some 87, op := Op.call { callee := Callee.value (Operand.func 17), args := #[Operand.tmp 85, Operand.tmp 86], argTypes := #[24, 24] }, type := 4, pos := "law.go:147", after := #[{ on := 2, ground := Ground.data }, { on := 3, ground := Ground.data }, { on := 1, ground := Ground.chain }, { on := 1, ground := Ground.guard }], guard := some (1, true) }
def oq7_15_5 : Oper := { dst := some 88, op := Op.pick (Operand.tmp 84) (Operand.tmp 87) (Operand.const (Value.bool false)), type := 4, pos := "law.go:147", after := #[{ on := 1, ground := Ground.data }, { on := 4, ground := Ground.data }], guard := none }
def oq7_15_6 : Oper := { dst := some 89, op := Op.move (Operand.tmp 88), type := 4, pos := "law.go:147", after := #[{ on := 5, ground := Ground.data }, { on := 4, ground := Ground.chain }], guard := none }
def oq7_15_7 : Oper := { dst := some 90, op := Op.load 24 (Operand.tmp 16), type := 24, pos := "law.go:147", after := #[{ on := 6, ground := Ground.guard }], guard := some (6, true) }
def oq7_15_8 : Oper := { dst := some 91, op := Op.load 24 (Operand.tmp 17), type := 24, pos := "law.go:147", after := #[{ on := 6, ground := Ground.guard }], guard := some (6, true) }
def oq7_15_9 : Oper := { dst := some 92, op := Op.call { callee := Callee.value (Operand.func 17), args := #[Operand.tmp 90, Operand.tmp 91], argTypes := #[24, 24] }, type := 4, pos := "law.go:147", after := #[{ on := 7, ground := Ground.data }, { on := 8, ground := Ground.data }, { on := 6, ground := Ground.chain }, { on := 6, ground := Ground.guard }], guard := some (6, true) }
def oq7_15_10 : Oper := { dst := some 93, op := Op.pick (Operand.tmp 89) (Operand.tmp 92) (Operand.const (Value.bool false)), type := 4, pos := "law.go:147", after := #[{ on := 6, ground := Ground.data }, { on := 9, ground := Ground.data }], guard := none }
def oq7_15_11 : Oper := { dst := some 94, op := Op.move (Operand.tmp 93), type := 4, pos := "law.go:147", after := #[{ on := 10, ground := Ground.data }, { on := 9, ground := Ground.chain }], guard := none }
def oq7_15_12 : Oper := { dst := some 95, op := Op.load 24 (Operand.tmp 18), type := 24, pos := "law.go:147", after := #[{ on := 11, ground := Ground.guard }], guard := some (11, true) }
def oq7_15_13 : Oper := { dst := some 96, op := Op.load 24 (Operand.tmp 4), type := 24, pos := "law.go:147", after := #[{ on := 11, ground := Ground.guard }], guard := some (11, true) }
def oq7_15_14 : Oper := { dst := some 97, op := Op.call { callee := Callee.value (Operand.func 17), args := #[Operand.tmp 95, Operand.tmp 96], argTypes := #[24, 24] }, type := 4, pos := "law.go:147", after := #[{ on := 12, ground := Ground.data }, { on := 13, ground := Ground.data }, { on := 11, ground := Ground.chain }, { on := 11, ground := Ground.guard }], guard := some (11, true) }
def oq7_15_15 : Oper := { dst := some 98, op := Op.pick (Operand.tmp 94) (Operand.tmp 97) (Operand.const (Value.bool false)), type := 4, pos := "law.go:147", after := #[{ on := 11, ground := Ground.data }, { on := 14, ground := Ground.data }], guard := none }
def oq7_15_16 : Oper := { dst := some 99, op := Op.move (Operand.tmp 98), type := 4, pos := "law.go:147", after := #[{ on := 15, ground := Ground.data }, { on := 14, ground := Ground.chain }], guard := none }
def oq7_15_17 : Oper := { dst := some 100, op := Op.fieldAddr 24 (Operand.tmp 19) 0, type := 0, pos := "law.go:147", after := #[{ on := 16, ground := Ground.guard }], guard := some (16, true) }
def oq7_15_18 : Oper := { dst := some 101, op := Op.load 22 (Operand.tmp 100), type := 22, pos := "law.go:147", after := #[{ on := 17, ground := Ground.data }, { on := 16, ground := Ground.guard }], guard := some (16, true) }
def oq7_15_19 : Oper := { dst := some 102, op := Op.call { callee := Callee.builtin Builtin.len, args := #[Operand.tmp 101], argTypes := #[22] }, type := 3, pos := "law.go:147", after := #[{ on := 18, ground := Ground.data }, { on := 16, ground := Ground.guard }], guard := some (16, true) }
def oq7_15_20 : Oper := { dst := some 103, op := Op.binOp BinOp.eql 3 (Operand.tmp 102) (Operand.const (Value.int IntKind.i64 0)) 3, type := 4, pos := "law.go:147", after := #[{ on := 19, ground := Ground.data }, { on := 16, ground := Ground.guard }], guard := some (16, true) }
def oq7_15_21 : Oper := { dst := some 104, op := Op.pick (Operand.tmp 99) (Operand.tmp 103) (Operand.const (Value.bool false)), type := 4, pos := "law.go:147", after := #[{ on := 16, ground := Ground.data }, { on := 20, ground := Ground.data }], guard := none }
def oq7_15_22 : Oper := { dst := some 105, op := Op.move (Operand.tmp 104), type := 4, pos := "law.go:147", after := #[{ on := 21, ground := Ground.data }, { on := 16, ground := Ground.chain }], guard := none }
def oq7_15_23 : Oper := { dst := some 106, op := Op.load 24 (Operand.tmp 11), type := 24, pos := "law.go:147", after := #[{ on := 22, ground := Ground.guard }], guard := some (22, true) }
def oq7_15_24 : Oper := { dst := some 107, op := Op.move (Operand.tmp 10), type := 44, pos := "law.go:147", after := #[{ on := 22, ground := Ground.guard }], guard := some (22, true) }
def oq7_15_25 : Oper := { dst := some 108, op := Op.load 24 (Operand.tmp 5), type := 24, pos := "law.go:147", after := #[{ on := 22, ground := Ground.guard }], guard := some (22, true) }
def oq7_15_26 : Oper := { dst := some 109, op := Op.load 24 (Operand.tmp 4), type := 24, pos := "law.go:147", after := #[{ on := 22, ground := Ground.guard }], guard := some (22, true) }
def oq7_15_27 : Oper := { dst := some 110, op := Op.call { callee := Callee.value (Operand.tmp 107), args := #[Operand.func 20, Operand.tmp 108, Operand.tmp 109], argTypes := #[29, 24, 24] }, type := 24, pos := "law.go:147", after := #[{ on := 24, ground := Ground.data }, { on := 25, ground := Ground.data }, { on := 26, ground := Ground.data }, { on := 22, ground := Ground.chain }, { on := 22, ground := Ground.guard }], guard := some (22, true) }
def oq7_15_28 : Oper := { dst := some 111, op := Op.call { callee := Callee.value (Operand.func 17), args := #[Operand.tmp 106, Operand.tmp 110], argTypes := #[24, 24] }, type := 4, pos := "law.go:147", after := #[{ on := 23, ground := Ground.data }, { on := 27, ground := Ground.data }, { on := 27, ground := Ground.chain }, { on := 22, ground := Ground.guard }], guard := some (22, true) }
def oq7_15_29 : Oper := { dst := some 112, op := Op.pick (Operand.tmp 105) (Operand.tmp 111) (Operand.const (Value.bool false)), type := 4, pos := "law.go:147", after := #[{ on := 22, ground := Ground.data }, { on := 28, ground := Ground.data }], guard := none }
def oq7_15_30 : Oper := { dst := some 113, op := Op.move (Operand.tmp 112), type := 4, pos := "law.go:147", after := #[{ on := 29, ground := Ground.data }, { on := 28, ground := Ground.chain }], guard := none }
def oq7_15_31 : Oper := { dst := some 114, op := Op.load 24 (Operand.tmp 13), type := 24, pos := "law.go:147", after := #[{ on := 30, ground := Ground.guard }], guard := some (30, true) }
def oq7_15_32 : Oper := { dst := some 115, op := Op.move (Operand.tmp 10), type := 44, pos := "law.go:147", after := #[{ on := 30, ground := Ground.guard }], guard := some (30, true) }
def oq7_15_33 : Oper := { dst := some 116, op := Op.load 24 (Operand.tmp 5), type := 24, pos := "law.go:147", after := #[{ on := 30, ground := Ground.guard }], guard := some (30, true) }
def oq7_15_34 : Oper := { dst := some 117, op := Op.load 24 (Operand.tmp 4), type := 24, pos := "law.go:147", after := #[{ on := 30, ground := Ground.guard }], guard := some (30, true) }
def oq7_15_35 : Oper := { dst := some 118, op := Op.call { callee := Callee.value (Operand.tmp 115), args := #[Operand.func 14, Operand.tmp 116, Operand.tmp 117], argTypes := #[29, 24, 24] }, type := 24, pos := "law.go:147", after := #[{ on := 32, ground := Ground.data }, { on := 33, ground := Ground.data }, { on := 34, ground := Ground.data }, { on := 30, ground := Ground.chain }, { on := 30, ground := Ground.guard }], guard := some (30, true) }
def oq7_15_36 : Oper := { dst := some 119, op := Op.call { callee := Callee.value (Operand.func 17), args := #[Operand.tmp 114, Operand.tmp 118], argTypes := #[24, 24] }, type := 4, pos := "law.go:147", after := #[{ on := 31, ground := Ground.data }, { on := 35, ground := Ground.data }, { on := 35, ground := Ground.chain }, { on := 30, ground := Ground.guard }], guard := some (30, true) }
def oq7_15_37 : Oper := { dst := some 120, op := Op.pick (Operand.tmp 113) (Operand.tmp 119) (Operand.const (Value.bool false)), type := 4, pos := "law.go:147", after := #[{ on := 30, ground := Ground.data }, { on := 36, ground := Ground.data }], guard := none }
def oq7_15_38 : Oper := { dst := some 121, op := Op.move (Operand.tmp 120), type := 4, pos := "law.go:147", after := #[{ on := 37, ground := Ground.data }, { on := 36, ground := Ground.chain }], guard := none }
def oq7_15_39 : Oper := { dst := some 122, op := Op.load 4 (Operand.tmp 9), type := 4, pos := "law.go:147", after := #[{ on := 38, ground := Ground.guard }], guard := some (38, true) }
def oq7_15_40 : Oper := { dst := some 123, op := Op.pick (Operand.tmp 121) (Operand.tmp 122) (Operand.const (Value.bool false)), type := 4, pos := "law.go:147", after := #[{ on := 38, ground := Ground.data }, { on := 39, ground := Ground.data }], guard := none }
def oq7_15_41 : Oper := { dst := some 8, op := Op.assign (Operand.tmp 123), type := 4, pos := "law.go:147", after := #[{ on := 40, ground := Ground.data }, { on := 38, ground := Ground.chain }, { on := 0, ground := Ground.phase }, { on := 1, ground := Ground.phase }, { on := 2, ground := Ground.phase }, { on := 3, ground := Ground.phase }, { on := 4, ground := Ground.phase }, { on := 5, ground := Ground.phase }, { on := 6, ground := Ground.phase }, { on := 7, ground := Ground.phase }, { on := 8, ground := Ground.phase }, { on := 9, ground := Ground.phase }, { on := 10, ground := Ground.phase }, { on := 11, ground := Ground.phase }, { on := 12, ground := Ground.phase }, { on := 13, ground := Ground.phase }, { on := 14, ground := Ground.phase }, { on := 15, ground := Ground.phase }, { on := 16, ground := Ground.phase }, { on := 17, ground := Ground.phase }, { on := 18, ground := Ground.phase }, { on := 19, ground := Ground.phase }, { on := 20, ground := Ground.phase }, { on := 21, ground := Ground.phase }, { on := 22, ground := Ground.phase }, { on := 23, ground := Ground.phase }, { on := 24, ground := Ground.phase }, { on := 25, ground := Ground.phase }, { on := 26, ground := Ground.phase }, { on := 27, ground := Ground.phase }, { on := 28, ground := Ground.phase }, { on := 29, ground := Ground.phase }, { on := 30, ground := Ground.phase }, { on := 31, ground := Ground.phase }, { on := 32, ground := Ground.phase }, { on := 33, ground := Ground.phase }, { on := 34, ground := Ground.phase }, { on := 35, ground := Ground.phase }, { on := 36, ground := Ground.phase }, { on := 37, ground := Ground.phase }, { on := 38, ground := Ground.phase }, { on := 39, ground := Ground.phase }, { on := 40, ground := Ground.phase }], guard := none }
theorem chk30 {n a k b l c q m : Nat} (h : chk3 n a k b l c q m = 0) : nw a = n ∧ nw b = k ∧ nw c = l ∧ nw m = q ∧ q ≤ 32 ∧ 0 < m ∧ a < m ∧ b < m ∧ c < m := by
  unfold chk3 at h
  by_cases h1 : (okB n a && (okB k b && (okB l c && modB q m))) = true
  · rw [if_pos h1] at h
    by_cases h2 : a < m ∧ b < m ∧ c < m
    · rw [Bool.and_eq_true, Bool.and_eq_true, Bool.and_eq_true] at h1
      obtain ⟨h3, h4, h5, h6⟩ := h1
      obtain ⟨h7, h8, h9⟩ := modB_yes h6
      exact ⟨(okB_yes.1 h3).1, (okB_yes.1 h4).1, (okB_yes.1 h5).1, h7, h8, h9, h2.1, h2.2.1, h2.2.2⟩
    · rw [if_neg h2] at h; cases h
  · rw [if_neg h1] at h; cases h
theorem ring_assoc (a b e m : Nat) : a * (b * e % m) % m = a * b % m * e % m := by rw [Nat.mul_mod_mod, Nat.mod_mul_mod, Nat.mul_assoc]
theorem ring_dist (a b e m : Nat) : (a * e % m + b * e % m) % m = (a + b) % m * e % m := by rw [Nat.mod_mul_mod, ← Nat.add_mod, Nat.add_mul]
theorem ring_back {a b m : Nat} (h1 : a < m) (h2 : b < m) : ((a + b) % m + (m - b)) % m = a := by
  rw [Nat.mod_add_mod, show a + b + (m - b) = a + m by omega, Nat.add_mod_right, Nat.mod_eq_of_lt h1]
theorem ring_zero {a m : Nat} (h1 : a < m) : (a + (m - a)) % m = 0 := by rw [show a + (m - a) = m by omega, Nat.mod_self]
theorem wp_landX {P : Program} {c : Code} {Q : Exit → Act → World → Prop} {a : Act} {w : World} {F : Nat → Nat → Option Addr → Nat → Option Addr → Nat → Act} (R : Nat → Nat → Option Addr → Nat → Option Addr → Nat → World → Prop)
    (hreg : c.wp P (fun e a1 w1 => e = Exit.normal ∧ ∃ x0 x1 x2 x3 x4 x5, a1 = F x0 x1 x2 x3 x4 x5 ∧ R x0 x1 x2 x3 x4 x5 w1) a w) (himp : ∀ x0 x1 x2 x3 x4 x5 w1, R x0 x1 x2 x3 x4 x5 w1 → Q Exit.normal (F x0 x1 x2 x3 x4 x5) w1) : c.wp P Q a w :=
  Code.wp_mono (fun e a1 w1 h => by obtain ⟨rfl, x0, x1, x2, x3, x4, x5, rfl, hR⟩ := h; exact himp _ _ _ _ _ _ w1 hR) hreg
theorem wp_landY {P : Program} {c : Code} {Q : Exit → Act → World → Prop} {a : Act} {w : World} {F : Nat → Option Addr → Nat → Option Addr → Nat → Act} (R : Nat → Option Addr → Nat → Option Addr → Nat → World → Prop)
    (hreg : c.wp P (fun e a1 w1 => e = Exit.normal ∧ ∃ x0 x1 x2 x3 x4, a1 = F x0 x1 x2 x3 x4 ∧ R x0 x1 x2 x3 x4 w1) a w) (himp : ∀ x0 x1 x2 x3 x4 w1, R x0 x1 x2 x3 x4 w1 → Q Exit.normal (F x0 x1 x2 x3 x4) w1) : c.wp P Q a w :=
  Code.wp_mono (fun e a1 w1 h => by obtain ⟨rfl, x0, x1, x2, x3, x4, rfl, hR⟩ := h; exact himp _ _ _ _ _ w1 hR) hreg
set_option maxHeartbeats 16000000 in
set_option maxRecDepth 100000 in
theorem ringl_far1 (A B' E C' : Option Addr) (n k l q c d f p a b e m : Nat) (w : World) (hA : Num w w.heap.size A n a) (hB : Num w w.heap.size B' k b) (hE : Num w w.heap.size E l e) (hC : Num w w.heap.size C' q m) (hn : n ≤ 9223372036854775807) (hk : k ≤ 9223372036854775807) (hl : l ≤ 9223372036854775807) (hq : q ≤ 9223372036854775807) (hg : ¬ (n ≤ 32 ∧ k ≤ 32 ∧ l ≤ 32 ∧ q ≤ 32)) :
    Calls Try.prog 7 #[.agg #[.slice A n c], .agg #[.slice B' k d], .agg #[.slice E l f], .agg #[.slice C' q p]] w (RetB (.bool true) w) := by
  have HG : Hid (decide (n ≤ 32 ∧ k ≤ 32 ∧ l ≤ 32 ∧ q ≤ 32) = false) := decide_eq_false hg
  clear hg
  obtain ⟨b0, b1, b2, b3, bw⟩ := boxes4 w (.slice A n c) (.slice B' k d) (.slice E l f) (.slice C' q p)
  have XA := VB.mk (B := w.heap.size) (a := a) b0 (.inl hA) bw (Nat.le_refl _) (by omega)
  have XB := VB.mk (B := w.heap.size) (a := b) b1 (.inl hB) bw (Nat.le_refl _) (by omega)
  have XE := VB.mk (B := w.heap.size) (a := e) b2 (.inl hE) bw (Nat.le_refl _) (by omega)
  have XC := VB.mk (B := w.heap.size) (a := m) b3 (.inl hC) bw (Nat.le_refl _) (by omega)
  have WW := bw
  clear bw b0 b1 b2 b3
  go_enter Try.func7, Try.ntmps7
  go_wp2_with fail
  generalize hV : ((((w.alloc (.cells #[.slice A n c] 24)).alloc (.cells #[.slice B' k d] 24)).alloc (.cells #[.slice E l f] 24)).alloc (.cells #[.slice C' q p] 24)) = V0 at XA XB XE XC WW ⊢
  clear hV
  have hbs : w.heap.size ≤ V0.heap.size := WW.size
  have hc := awake_any V0
  refine hc.mono ?_
  clear hc
  rintro e V1 ⟨rfl, hb⟩
  replace XA := XA.below hb
  replace XB := XB.below hb
  replace XE := XE.below hb
  replace XC := XC.below hb
  replace WW := WW.trans (hb.mono WW.size)
  have kXA := XA.cell
  have zXA := XA.lt
  have kXB := XB.cell
  have zXB := XB.lt
  have kXE := XE.cell
  have zXE := XE.lt
  have kXC := XC.cell
  have zXC := XC.lt
  clear hb hbs
  go_wp2_with fail
  have hbs : w.heap.size ≤ V1.heap.size := WW.size
  have hc := few_n4 32 (by omega) V1 A B' E C' n k l q c d f p (by omega) (by omega) (by omega) (by omega)
  rw [HG.out] at hc
  refine hc.mono ?_
  clear hc
  rintro e V2 ⟨rfl, hb⟩
  clear kXA zXA kXB zXB kXE zXE kXC zXC
  replace XA := XA.below hb
  replace XB := XB.below hb
  replace XE := XE.below hb
  replace XC := XC.below hb
  replace WW := WW.trans (hb.mono WW.size)
  have kXA := XA.cell
  have zXA := XA.lt
  have kXB := XB.cell
  have zXB := XB.lt
  have kXE := XE.cell
  have zXE := XE.lt
  have kXC := XC.cell
  have zXC := XC.lt
  clear hb hbs
  go_wp2_with fail
  have hbs : w.heap.size ≤ V2.heap.size := WW.size
  have hc := awake_any V2
  refine hc.mono ?_
  clear hc
  rintro e V3 ⟨rfl, hb⟩
  clear kXA zXA kXB zXB kXE zXE kXC zXC
  replace XA := XA.below hb
  replace XB := XB.below hb
  replace XE := XE.below hb
  replace XC := XC.below hb
  replace WW := WW.trans (hb.mono WW.size)
  have kXA := XA.cell
  have zXA := XA.lt
  have kXB := XB.cell
  have zXB := XB.lt
  have kXE := XE.cell
  have zXE := XE.lt
  have kXC := XC.cell
  have zXC := XC.lt
  clear hb hbs
  go_wp2_with fail
  go_ret
  exact ⟨rfl, WW⟩

set_option maxHeartbeats 16000000 in
set_option maxRecDepth 100000 in
theorem ringl_far2 (A B' E C' : Option Addr) (n k l q c d f p a b e m : Nat) (w : World) (hA : Num w w.heap.size A n a) (hB : Num w w.heap.size B' k b) (hE : Num w w.heap.size E l e) (hC : Num w w.heap.size C' q m) (hn : n ≤ 9223372036854775807) (hk : k ≤ 9223372036854775807) (hl : l ≤ 9223372036854775807) (hq : q ≤ 9223372036854775807) (hg : n ≤ 32 ∧ k ≤ 32 ∧ l ≤ 32 ∧ q ≤ 32) (h0 : ¬ chk3 n a k b l e q m = 0) :
    Calls Try.prog 7 #[.agg #[.slice A n c], .agg #[.slice B' k d], .agg #[.slice E l f], .agg #[.slice C' q p]] w (RetB (.bool true) w) := by
  have HG : Hid (decide (n ≤ 32 ∧ k ≤ 32 ∧ l ≤ 32 ∧ q ≤ 32) = true) := decide_eq_true hg
  obtain ⟨e0, he0⟩ : ∃ x, chk3 n a k b l e q m = x := ⟨_, rfl⟩
  have HC := hid he0
  rw [he0] at h0
  have z1 : (e0 != 0) = true := by simpa using h0
  clear he0 h0
  clear hg
  obtain ⟨b0, b1, b2, b3, bw⟩ := boxes4 w (.slice A n c) (.slice B' k d) (.slice E l f) (.slice C' q p)
  have XA := VB.mk (B := w.heap.size) (a := a) b0 (.inl hA) bw (Nat.le_refl _) (by omega)
  have XB := VB.mk (B := w.heap.size) (a := b) b1 (.inl hB) bw (Nat.le_refl _) (by omega)
  have XE := VB.mk (B := w.heap.size) (a := e) b2 (.inl hE) bw (Nat.le_refl _) (by omega)
  have XC := VB.mk (B := w.heap.size) (a := m) b3 (.inl hC) bw (Nat.le_refl _) (by omega)
  have WW := bw
  clear bw b0 b1 b2 b3
  go_enter Try.func7, Try.ntmps7
  go_wp2_with fail
  generalize hV : ((((w.alloc (.cells #[.slice A n c] 24)).alloc (.cells #[.slice B' k d] 24)).alloc (.cells #[.slice E l f] 24)).alloc (.cells #[.slice C' q p] 24)) = V0 at XA XB XE XC WW ⊢
  clear hV
  have hbs : w.heap.size ≤ V0.heap.size := WW.size
  have hc := awake_any V0
  refine hc.mono ?_
  clear hc
  rintro e V1 ⟨rfl, hb⟩
  replace XA := XA.below hb
  replace XB := XB.below hb
  replace XE := XE.below hb
  replace XC := XC.below hb
  replace WW := WW.trans (hb.mono WW.size)
  have kXA := XA.cell
  have zXA := XA.lt
  have kXB := XB.cell
  have zXB := XB.lt
  have kXE := XE.cell
  have zXE := XE.lt
  have kXC := XC.cell
  have zXC := XC.lt
  clear hb hbs
  go_wp2_with fail
  have hbs : w.heap.size ≤ V1.heap.size := WW.size
  have hc := few_n4 32 (by omega) V1 A B' E C' n k l q c d f p (by omega) (by omega) (by omega) (by omega)
  rw [HG.out] at hc
  refine hc.mono ?_
  clear hc
  rintro e V2 ⟨rfl, hb⟩
  clear kXA zXA kXB zXB kXE zXE kXC zXC
  replace XA := XA.below hb
  replace XB := XB.below hb
  replace XE := XE.below hb
  replace XC := XC.below hb
  replace WW := WW.trans (hb.mono WW.size)
  have kXA := XA.cell
  have zXA := XA.lt
  have kXB := XB.cell
  have zXB := XB.lt
  have kXE := XE.cell
  have zXE := XE.lt
  have kXC := XC.cell
  have zXC := XC.lt
  clear hb hbs
  go_wp2_with fail
  have hbs : w.heap.size ≤ V2.heap.size := WW.size
  have hc := first_a3 V2 A B' E _ _ _ c d f a b e _ m p C' XA.num XB.num XE.num XC.num (by omega) (by omega) (by omega) (by omega)
  rw [HC.out] at hc
  refine hc.mono ?_
  clear hc
  rintro e V3 ⟨rfl, hb⟩
  clear kXA zXA kXB zXB kXE zXE kXC zXC
  replace XA := XA.below hb
  replace XB := XB.below hb
  replace XE := XE.below hb
  replace XC := XC.below hb
  replace WW := WW.trans (hb.mono WW.size)
  have kXA := XA.cell
  have zXA := XA.lt
  have kXB := XB.cell
  have zXB := XB.lt
  have kXE := XE.cell
  have zXE := XE.lt
  have kXC := XC.cell
  have zXC := XC.lt
  clear hb hbs
  go_wp2_with fail
  have hbs : w.heap.size ≤ V3.heap.size := WW.size
  have hc := awake_any V3
  refine hc.mono ?_
  clear hc
  rintro e V4 ⟨rfl, hb⟩
  clear kXA zXA kXB zXB kXE zXE kXC zXC
  replace XA := XA.below hb
  replace XB := XB.below hb
  replace XE := XE.below hb
  replace XC := XC.below hb
  replace WW := WW.trans (hb.mono WW.size)
  have kXA := XA.cell
  have zXA := XA.lt
  have kXB := XB.cell
  have zXB := XB.lt
  have kXE := XE.cell
  have zXE := XE.lt
  have kXC := XC.cell
  have zXC := XC.lt
  clear hb hbs
  go_wp2_with fail
  go_ret
  exact ⟨rfl, WW⟩

set_option maxHeartbeats 16000000 in
set_option maxRecDepth 100000 in
theorem ringl_ok (A B' E C' : Option Addr) (n k l q c d f p a b e m : Nat) (w : World) (hA : Num w w.heap.size A n a) (hB : Num w w.heap.size B' k b) (hE : Num w w.heap.size E l e) (hC : Num w w.heap.size C' q m) (hn : n ≤ 9223372036854775807) (hk : k ≤ 9223372036854775807) (hl : l ≤ 9223372036854775807) (hq : q ≤ 9223372036854775807) (hg : n ≤ 32 ∧ k ≤ 32 ∧ l ≤ 32 ∧ q ≤ 32) (h0 : chk3 n a k b l e q m = 0) :
    Calls Try.prog 7 #[.agg #[.slice A n c], .agg #[.slice B' k d], .agg #[.slice E l f], .agg #[.slice C' q p]] w (RetB (.bool true) w) := by
  have HG : Hid (decide (n ≤ 32 ∧ k ≤ 32 ∧ l ≤ 32 ∧ q ≤ 32) = true) := decide_eq_true hg
  have HC := hid h0
  obtain ⟨hna, hkb, hle, hqm, hm, hm0, ha, hb, he⟩ := chk30 h0
  subst hna hkb hle hqm
  obtain ⟨x1, hx1⟩ : ∃ z, z = (a * b) % m := ⟨_, rfl⟩
  have Hx1 := hid hx1
  have lx1 : x1 < m := by rw [hx1]; exact Nat.mod_lt _ hm0
  have nx1 : nw x1 ≤ 32 := Nat.le_trans (nw_mono (Nat.le_of_lt lx1)) hm
  obtain ⟨x2, hx2⟩ : ∃ z, z = (b * e) % m := ⟨_, rfl⟩
  have Hx2 := hid hx2
  have lx2 : x2 < m := by rw [hx2]; exact Nat.mod_lt _ hm0
  have nx2 : nw x2 ≤ 32 := Nat.le_trans (nw_mono (Nat.le_of_lt lx2)) hm
  obtain ⟨x3, hx3⟩ : ∃ z, z = (a + b) % m := ⟨_, rfl⟩
  have Hx3 := hid hx3
  have lx3 : x3 < m := by rw [hx3]; exact Nat.mod_lt _ hm0
  have nx3 : nw x3 ≤ 32 := Nat.le_trans (nw_mono (Nat.le_of_lt lx3)) hm
  obtain ⟨x4, hx4⟩ : ∃ z, z = (x1 * e) % m := ⟨_, rfl⟩
  have Hx4 := hid hx4
  have lx4 : x4 < m := by rw [hx4]; exact Nat.mod_lt _ hm0
  have nx4 : nw x4 ≤ 32 := Nat.le_trans (nw_mono (Nat.le_of_lt lx4)) hm
  obtain ⟨x6, hx6⟩ : ∃ z, z = (x3 * e) % m := ⟨_, rfl⟩
  have Hx6 := hid hx6
  have lx6 : x6 < m := by rw [hx6]; exact Nat.mod_lt _ hm0
  have nx6 : nw x6 ≤ 32 := Nat.le_trans (nw_mono (Nat.le_of_lt lx6)) hm
  obtain ⟨x7, hx7⟩ : ∃ z, z = (a * e) % m := ⟨_, rfl⟩
  have Hx7 := hid hx7
  have lx7 : x7 < m := by rw [hx7]; exact Nat.mod_lt _ hm0
  have nx7 : nw x7 ≤ 32 := Nat.le_trans (nw_mono (Nat.le_of_lt lx7)) hm
  have na : nw a ≤ 32 := Nat.le_trans (nw_mono (Nat.le_of_lt ha)) hm
  have nb : nw b ≤ 32 := Nat.le_trans (nw_mono (Nat.le_of_lt hb)) hm
  have ne : nw e ≤ 32 := Nat.le_trans (nw_mono (Nat.le_of_lt he)) hm
  have H5 : Hid (a * x2 % m = x4) := (show a * x2 % m = x4 by rw [hx4, hx1, hx2, ring_assoc])
  have H8 : Hid ((x7 + x2) % m = x6) := (show (x7 + x2) % m = x6 by rw [hx6, hx3, hx7, hx2, ring_dist])
  have H9 : Hid ((x3 + (m - b)) % m = a) := (show _ = a by rw [hx3]; exact ring_back ha hb)
  have H10 : Hid ((a + (m - a)) % m = 0) := ring_zero ha
  have H11 : Hid (b * a % m = x1) := (show b * a % m = x1 by rw [hx1, Nat.mul_comm])
  have H12 : Hid ((b + a) % m = x3) := (show (b + a) % m = x3 by rw [hx3, Nat.add_comm])
  have z0 : (((nw 0 : Nat) : Int) == 0) = true := rfl
  clear h0 hx1 hx2 hx3 hx4 hx6 hx7 hm0
  clear hg
  obtain ⟨b0, b1, b2, b3, bw⟩ := boxes4 w (.slice A (nw a) c) (.slice B' (nw b) d) (.slice E (nw e) f) (.slice C' (nw m) p)
  have XA := VB.mk (B := w.heap.size) (a := a) b0 (.inl hA) bw (Nat.le_refl _) (by omega)
  have XB := VB.mk (B := w.heap.size) (a := b) b1 (.inl hB) bw (Nat.le_refl _) (by omega)
  have XE := VB.mk (B := w.heap.size) (a := e) b2 (.inl hE) bw (Nat.le_refl _) (by omega)
  have XC := VB.mk (B := w.heap.size) (a := m) b3 (.inl hC) bw (Nat.le_refl _) (by omega)
  have WW := bw
  clear bw b0 b1 b2 b3
  go_enter Try.func7, Try.ntmps7
  go_wp2_with fail
  generalize hV : ((((w.alloc (.cells #[.slice A (nw a) c] 24)).alloc (.cells #[.slice B' (nw b) d] 24)).alloc (.cells #[.slice E (nw e) f] 24)).alloc (.cells #[.slice C' (nw m) p] 24)) = V0 at XA XB XE XC WW ⊢
  clear hV
  have hbs : w.heap.size ≤ V0.heap.size := WW.size
  have hc := awake_any V0
  refine hc.mono ?_
  clear hc
  rintro e V1 ⟨rfl, hb⟩
  replace XA := XA.below hb
  replace XB := XB.below hb
  replace XE := XE.below hb
  replace XC := XC.below hb
  replace WW := WW.trans (hb.mono WW.size)
  have kXA := XA.cell
  have zXA := XA.lt
  have kXB := XB.cell
  have zXB := XB.lt
  have kXE := XE.cell
  have zXE := XE.lt
  have kXC := XC.cell
  have zXC := XC.lt
  clear hb hbs
  go_wp2_with fail
  have hbs : w.heap.size ≤ V1.heap.size := WW.size
  have hc := few_n4 32 (by omega) V1 A B' E C' (nw a) (nw b) (nw e) (nw m) c d f p (by omega) (by omega) (by omega) (by omega)
  rw [HG.out] at hc
  refine hc.mono ?_
  clear hc
  rintro e V2 ⟨rfl, hb⟩
  clear kXA zXA kXB zXB kXE zXE kXC zXC
  replace XA := XA.below hb
  replace XB := XB.below hb
  replace XE := XE.below hb
  replace XC := XC.below hb
  replace WW := WW.trans (hb.mono WW.size)
  have kXA := XA.cell
  have zXA := XA.lt
  have kXB := XB.cell
  have zXB := XB.lt
  have kXE := XE.cell
  have zXE := XE.lt
  have kXC := XC.cell
  have zXC := XC.lt
  clear hb hbs
  go_wp2_with fail
  have hbs : w.heap.size ≤ V2.heap.size := WW.size
  have hc := first_a3 V2 A B' E _ _ _ c d f a b e _ m p C' XA.num XB.num XE.num XC.num (by omega) (by omega) (by omega) (by omega)
  rw [HC.out] at hc
  refine hc.mono ?_
  clear hc
  rintro e V3 ⟨rfl, hb⟩
  clear kXA zXA kXB zXB kXE zXE kXC zXC
  replace XA := XA.below hb
  replace XB := XB.below hb
  replace XE := XE.below hb
  replace XC := XC.below hb
  replace WW := WW.trans (hb.mono WW.size)
  have kXA := XA.cell
  have zXA := XA.lt
  have kXB := XB.cell
  have zXB := XB.lt
  have kXE := XE.cell
  have zXE := XE.lt
  have kXC := XC.cell
  have zXC := XC.lt
  clear hb hbs
  go_wp2_with fail
  clear kXA zXA kXB zXB kXE zXE kXC zXC
  have qXC4 := XC.lt
  have bw := (Below.refl V3.heap.size V3).alloc (Nat.le_refl _) (.cells #[.bool true] 4)
  have BG := Blk.new V3 4 #[.bool true]
  replace XA := XA.below bw
  replace XB := XB.below bw
  replace XE := XE.below bw
  replace XC := XC.below bw
  replace WW := WW.trans (bw.mono WW.size)
  clear bw
  generalize hV : V3.alloc (.cells #[.bool true] 4) = V4 at XA XB XE XC BG WW ⊢
  clear hV
  have kXA := XA.cell
  have zXA := XA.lt
  have kXB := XB.cell
  have zXB := XB.lt
  have kXE := XE.cell
  have zXE := XE.lt
  have kXC := XC.cell
  have zXC := XC.lt
  have kBG := BG.cell0
  have zBG := BG.lt
  have hb_ := hb
  have he_ := he
  have ha_ := ha
  clear kXA zXA kXB zXB kXE zXE kXC zXC kBG zBG
  apply wp_landX (R := fun gX1 gX2 D1 d1 D2 d2 w1 => Below w.heap.size w w1 ∧ VB w.heap.size w1 (w.heap.size) A (nw a) c a ∧ VB w.heap.size w1 (w.heap.size + 1) B' (nw b) d b ∧ VB w.heap.size w1 (w.heap.size + 1 + 1) E (nw e) f e ∧ VB w.heap.size w1 (w.heap.size + 1 + 1 + 1) C' (nw m) p m ∧ VB w.heap.size w1 (gX1) D1 (nw x1) d1 x1 ∧ VB w.heap.size w1 (gX2) D2 (nw x2) d2 x2 ∧ Own w1 w.heap.size D1 (nw x1) d1 x1 ∧ Own w1 w.heap.size D2 (nw x2) d2 x2 ∧ Blk w1 (V3.heap.size) 4 #[.bool true] ∧ w.heap.size + 1 + 1 + 1 < gX1 ∧ V3.heap.size < gX1 ∧ w.heap.size + 1 + 1 + 1 < gX2 ∧ V3.heap.size < gX2 ∧ gX1 ≠ gX2)
  case hreg =>
    refine wp_region_noPanic ?_
    have WWd := WW.drew
    have XAd := XA.drew
    have XBd := XB.drew
    have XEd := XE.drew
    have XCd := XC.drew
    have BGd : Blk V4.drew (V3.heap.size) 4 #[.bool true] := BG
    have hst : (fun w' => w'.cell? ⟨w.heap.size, 0, none⟩ = some (.slice A (nw a) c) ∧ w'.cell? ⟨w.heap.size + 1, 0, none⟩ = some (.slice B' (nw b) d) ∧ w'.cell? ⟨w.heap.size + 1 + 1, 0, none⟩ = some (.slice E (nw e) f)) V4.drew := ⟨XA.cell, XB.cell, XE.cell⟩
    have qq0 := XCd.lt
    refine region_L 19 (fun w' => w'.cell? ⟨w.heap.size, 0, none⟩ = some (.slice A (nw a) c) ∧ w'.cell? ⟨w.heap.size + 1, 0, none⟩ = some (.slice B' (nw b) d) ∧ w'.cell? ⟨w.heap.size + 1 + 1, 0, none⟩ = some (.slice E (nw e) f)) (by kernel_rfl) hst (fun hHeld => ?_)
    clear hst
    generalize hV : V4.drew = U4x0 at hHeld WWd qq0 XAd XBd XEd XCd BGd ⊢
    clear hV
    have WW := WWd
    have XA := XAd
    have XB := XBd
    have XE := XEd
    have XC := XCd
    have BG := BGd
    clear WWd XAd XBd XEd XCd BGd
    refine AnyL_take (i := 0) (oi := oq7_5_0) (v := ?_) rfl (by kernel_rfl) (by kernel_rfl) (by kernel_rfl) (by kernel_rfl) (fun _ _ _ h => h) (Or.inl ⟨by rfl, ?_⟩) (by assumption) ?_
    rotate_left
    · (delta oq7_5_0; intro ws hSw; (try dsimp only at hSw); (try go_simp); (try with_reducible rfl))
    (try simp only [oq7_5_0, Act.put, List.setIfInBounds_toArray, List.set_cons_zero, List.set_cons_succ])
    refine AnyL_take (i := 1) (oi := oq7_5_1) (v := ?_) rfl (by kernel_rfl) (by kernel_rfl) (by kernel_rfl) (by kernel_rfl) (fun _ _ _ h => h) (Or.inl ⟨by rfl, ?_⟩) (by assumption) ?_
    rotate_left
    · (delta oq7_5_1; intro ws hSw; (try dsimp only at hSw); (try go_simp); (try with_reducible rfl))
    (try simp only [oq7_5_1, Act.put, List.setIfInBounds_toArray, List.set_cons_zero, List.set_cons_succ])
    refine AnyL_take (i := 2) (oi := oq7_5_2) (v := ?_) rfl (by kernel_rfl) (by kernel_rfl) (by kernel_rfl) (by kernel_rfl) (fun _ _ _ h => h) (Or.inl ⟨by rfl, ?_⟩) (by assumption) ?_
    rotate_left
    · (delta oq7_5_2; intro ws hSw; (try dsimp only at hSw); (try go_simp); (try with_reducible rfl))
    (try simp only [oq7_5_2, Act.put, List.setIfInBounds_toArray, List.set_cons_zero, List.set_cons_succ])
    refine AnyL_take (i := 4) (oi := oq7_5_4) (v := ?_) rfl (by kernel_rfl) (by kernel_rfl) (by kernel_rfl) (by kernel_rfl) (fun _ _ _ h => h) (Or.inl ⟨by rfl, ?_⟩) (by assumption) ?_
    rotate_left
    · (delta oq7_5_4; intro ws hSw; (try dsimp only at hSw); (try go_simp); (try with_reducible rfl))
    (try simp only [oq7_5_4, Act.put, List.setIfInBounds_toArray, List.set_cons_zero, List.set_cons_succ])
    refine AnyL_take (i := 5) (oi := oq7_5_5) (v := ?_) rfl (by kernel_rfl) (by kernel_rfl) (by kernel_rfl) (by kernel_rfl) (fun _ _ _ h => h) (Or.inl ⟨by rfl, ?_⟩) (by assumption) ?_
    rotate_left
    · (delta oq7_5_5; intro ws hSw; (try dsimp only at hSw); (try go_simp); (try with_reducible rfl))
    (try simp only [oq7_5_5, Act.put, List.setIfInBounds_toArray, List.set_cons_zero, List.set_cons_succ])
    refine AnyL_take (i := 6) (oi := oq7_5_6) (v := ?_) rfl (by kernel_rfl) (by kernel_rfl) (by kernel_rfl) (by kernel_rfl) (fun _ _ _ h => h) (Or.inl ⟨by rfl, ?_⟩) (by assumption) ?_
    rotate_left
    · (delta oq7_5_6; intro ws hSw; (try dsimp only at hSw); (try go_simp); (try with_reducible rfl))
    (try simp only [oq7_5_6, Act.put, List.setIfInBounds_toArray, List.set_cons_zero, List.set_cons_succ])
    refine AnyL_ready (rs := [3, 8, 9]) (by kernel_rfl) (by simp) ?_
    refine ReadyL.cons (o := oq7_5_3) rfl (fun K hK => ?_) ?_
    · delta oq7_5_3
      go_simp
      have hbs : w.heap.size ≤ U4x0.heap.size := WW.size
      have hc := do_mul (w.heap.size + 1 + 1 + 1) (V3.heap.size) A B' C' c d p a b m U4x0 XA.num XB.num XC.num hm ha_ hb_ XC.1 BG
      rw [← Hx1.out] at hc
      refine hc.mono ?_
      clear hc
      rintro e V6 ⟨v, rfl, hv, hb⟩
      replace XA := XA.below hb
      replace XB := XB.below hb
      replace XE := XE.below hb
      replace XC := XC.below hb
      replace BG := BG.below hb BG.lt
      replace WW := WW.trans (hb.mono WW.size)
      have sz6 := hb.size
      obtain ⟨D1, d1, rfl, ho⟩ := hv
      have O1 := ho.weak (b := w.heap.size) hbs
      clear ho
      clear hb hbs
      refine hK.out _ _ (⟨XA.cell, XB.cell, XE.cell⟩) (fun hHeld2 => ?_)
      clear hK K hHeld
      have hHeld := hHeld2
      clear hHeld2
      (try simp only [oq7_5_3, Act.put, List.setIfInBounds_toArray, List.set_cons_zero, List.set_cons_succ])
      refine AnyL_ready (rs := [7, 8, 9]) (by kernel_rfl) (by simp) ?_
      refine ReadyL.cons (o := oq7_5_7) rfl (fun K hK => ?_) ?_
      · delta oq7_5_7
        go_simp
        have hbs : w.heap.size ≤ V6.heap.size := WW.size
        have hc := do_mul (w.heap.size + 1 + 1 + 1) (V3.heap.size) B' E C' d f p b e m V6 XB.num XE.num XC.num hm hb_ he_ XC.1 BG
        rw [← Hx2.out] at hc
        refine hc.mono ?_
        clear hc
        rintro e V7 ⟨v, rfl, hv, hb⟩
        replace XA := XA.below hb
        replace XB := XB.below hb
        replace XE := XE.below hb
        replace XC := XC.below hb
        replace O1 := O1.below hb (Nat.le_refl _)
        replace BG := BG.below hb BG.lt
        replace WW := WW.trans (hb.mono WW.size)
        have sz7 := hb.size
        obtain ⟨D2, d2, rfl, ho⟩ := hv
        have O2 := ho.weak (b := w.heap.size) hbs
        clear ho
        clear hb hbs
        refine hK.out _ _ (⟨XA.cell, XB.cell, XE.cell⟩) (fun hHeld2 => ?_)
        clear hK K hHeld
        have hHeld := hHeld2
        clear hHeld2
        (try simp only [oq7_5_7, Act.put, List.setIfInBounds_toArray, List.set_cons_zero, List.set_cons_succ])
        refine AnyL_ready (rs := [8, 9]) (by kernel_rfl) (by simp) ?_
        refine ReadyL.cons (o := oq7_5_8) rfl (fun K hK => ?_) ?_
        · delta oq7_5_8
          have lqXC : w.heap.size + 1 + 1 + 1 < V7.heap.size := XC.lt
          have lqBG : V3.heap.size < V7.heap.size := BG.lt
          go_simp
          have ba := (Below.refl V7.heap.size V7).alloc (Nat.le_refl _) (.cells #[.slice none 0 0] 24)
          have XAn := XA.below ba
          have XBn := XB.below ba
          have XEn := XE.below ba
          have XCn := XC.below ba
          have O1n := O1.below ba (Nat.le_refl _)
          have O2n := O2.below ba (Nat.le_refl _)
          have BGn := BG.below ba BG.lt
          have bn := Blk.new V7 24 #[.slice none 0 0]
          have X1n := VB.mk (B := w.heap.size) (a := 0) bn (.inr (Own.nil _ _ _ _ (Nat.zero_le _))) ba WW.size WW.size
          have WWn := WW.trans (ba.mono WW.size)
          have sn : V7.heap.size < (V7.alloc (.cells #[.slice none 0 0] 24)).heap.size := bn.lt
          refine hK.out _ _ (⟨XAn.cell, XBn.cell, XEn.cell⟩) (fun hHeld2 => ?_)
          clear hK K hHeld
          (try simp only [oq7_5_8, Act.put, List.setIfInBounds_toArray, List.set_cons_zero, List.set_cons_succ])
          generalize hV : V7.alloc (.cells #[.slice none 0 0] 24) = V8 at hHeld2 sn WWn XAn XBn XEn XCn X1n O1n O2n BGn ⊢
          clear hV ba bn WW XA XB XE XC O1 O2 BG
          have WW := WWn
          have XA := XAn
          have XB := XBn
          have XE := XEn
          have XC := XCn
          have X1 := X1n
          have O1 := O1n
          have O2 := O2n
          have BG := BGn
          have sz8 := sn
          have hHeld := hHeld2
          clear sn hHeld2 WWn XAn XBn XEn XCn X1n O1n O2n BGn
          obtain ⟨gX1, hg⟩ : ∃ x, x = V7.heap.size := ⟨_, rfl⟩
          have mX1XC : w.heap.size + 1 + 1 + 1 < gX1 := by omega
          have mX1BG : V3.heap.size < gX1 := by omega
          rw [← hg] at X1 sz8 ⊢
          clear hg lqXC lqBG
          refine AnyL_ready (rs := [9]) (by kernel_rfl) (by simp) ?_
          refine ReadyL.cons (o := oq7_5_9) rfl (fun K hK => ?_) ReadyL.nil
          delta oq7_5_9
          have lqXC : w.heap.size + 1 + 1 + 1 < V8.heap.size := XC.lt
          have lqBG : V3.heap.size < V8.heap.size := BG.lt
          have lX1 : gX1 < V8.heap.size := X1.lt
          go_simp
          have ba := (Below.refl V8.heap.size V8).alloc (Nat.le_refl _) (.cells #[.slice none 0 0] 24)
          have XAn := XA.below ba
          have XBn := XB.below ba
          have XEn := XE.below ba
          have XCn := XC.below ba
          have X1n := X1.below ba
          have O1n := O1.below ba (Nat.le_refl _)
          have O2n := O2.below ba (Nat.le_refl _)
          have BGn := BG.below ba BG.lt
          have bn := Blk.new V8 24 #[.slice none 0 0]
          have X2n := VB.mk (B := w.heap.size) (a := 0) bn (.inr (Own.nil _ _ _ _ (Nat.zero_le _))) ba WW.size WW.size
          have WWn := WW.trans (ba.mono WW.size)
          have sn : V8.heap.size < (V8.alloc (.cells #[.slice none 0 0] 24)).heap.size := bn.lt
          refine hK.out _ _ (⟨XAn.cell, XBn.cell, XEn.cell⟩) (fun hHeld2 => ?_)
          clear hK K hHeld
          (try simp only [oq7_5_9, Act.put, List.setIfInBounds_toArray, List.set_cons_zero, List.set_cons_succ])
          generalize hV : V8.alloc (.cells #[.slice none 0 0] 24) = V9 at hHeld2 sn WWn XAn XBn XEn XCn X1n X2n O1n O2n BGn ⊢
          clear hV ba bn WW XA XB XE XC X1 O1 O2 BG
          have WW := WWn
          have XA := XAn
          have XB := XBn
          have XE := XEn
          have XC := XCn
          have X1 := X1n
          have X2 := X2n
          have O1 := O1n
          have O2 := O2n
          have BG := BGn
          have sz9 := sn
          have hHeld := hHeld2
          clear sn hHeld2 WWn XAn XBn XEn XCn X1n X2n O1n O2n BGn
          obtain ⟨gX2, hg⟩ : ∃ x, x = V8.heap.size := ⟨_, rfl⟩
          have mX2XC : w.heap.size + 1 + 1 + 1 < gX2 := by omega
          have mX2BG : V3.heap.size < gX2 := by omega
          have nX1X2 : gX1 ≠ gX2 := by omega
          rw [← hg] at X2 sz9 ⊢
          clear hg lqXC lqBG lX1
          refine AnyL_ready (rs := [10]) (by kernel_rfl) (by simp) ?_
          refine ReadyL.cons (o := oq7_5_10) rfl (fun K hK => ?_) ReadyL.nil
          delta oq7_5_10
          have fz := X1.1.frozen 0
          have cz := X1.cell
          have lz := X1.lt
          go_simp
          have XAn := XA.far (p := ⟨gX1, 0, none⟩) X1.1 X1.2.2 (by simp <;> omega) (.slice D1 (nw x1) d1)
          have XBn := XB.far (p := ⟨gX1, 0, none⟩) X1.1 X1.2.2 (by simp <;> omega) (.slice D1 (nw x1) d1)
          have XEn := XE.far (p := ⟨gX1, 0, none⟩) X1.1 X1.2.2 (by simp <;> omega) (.slice D1 (nw x1) d1)
          have XCn := XC.far (p := ⟨gX1, 0, none⟩) X1.1 X1.2.2 (by simp <;> omega) (.slice D1 (nw x1) d1)
          have X2n := X2.far (p := ⟨gX1, 0, none⟩) X1.1 X1.2.2 (by simp <;> omega) (.slice D1 (nw x1) d1)
          have X1n := X1.set_ (A' := D1) (n' := (nw x1)) (c' := d1) (a' := x1) (.inr O1)
          have O1n := O1.box (p := ⟨gX1, 0, none⟩) X1.1 (by decide) (.slice D1 (nw x1) d1)
          have O2n := O2.box (p := ⟨gX1, 0, none⟩) X1.1 (by decide) (.slice D1 (nw x1) d1)
          have BGn := BG.far (p := ⟨gX1, 0, none⟩) (by simp <;> omega) (.slice D1 (nw x1) d1)
          have WWn := WW.setCell (p := ⟨gX1, 0, none⟩) (by simp <;> omega) (.slice D1 (nw x1) d1)
          refine hK.out _ _ (⟨XAn.cell, XBn.cell, XEn.cell⟩) (fun hHeld2 => ?_)
          clear hK K hHeld
          (try simp only [oq7_5_10, Act.put, List.setIfInBounds_toArray, List.set_cons_zero, List.set_cons_succ])
          generalize hV : V9.setCell ⟨gX1, 0, none⟩ (.slice D1 (nw x1) d1) = V10 at hHeld2 WWn XAn XBn XEn XCn X1n X2n O1n O2n BGn ⊢
          clear hV fz cz lz WW XA XB XE XC X1 X2 O1 O2 BG
          have WW := WWn
          have XA := XAn
          have XB := XBn
          have XE := XEn
          have XC := XCn
          have X1 := X1n
          have X2 := X2n
          have O1 := O1n
          have O2 := O2n
          have BG := BGn
          have hHeld := hHeld2
          clear hHeld2
          clear WWn XAn XBn XEn XCn X1n X2n O1n O2n BGn
          refine AnyL_ready (rs := [11]) (by kernel_rfl) (by simp) ?_
          refine ReadyL.cons (o := oq7_5_11) rfl (fun K hK => ?_) ReadyL.nil
          delta oq7_5_11
          have fz := X2.1.frozen 0
          have cz := X2.cell
          have lz := X2.lt
          go_simp
          have XAn := XA.far (p := ⟨gX2, 0, none⟩) X2.1 X2.2.2 (by simp <;> omega) (.slice D2 (nw x2) d2)
          have XBn := XB.far (p := ⟨gX2, 0, none⟩) X2.1 X2.2.2 (by simp <;> omega) (.slice D2 (nw x2) d2)
          have XEn := XE.far (p := ⟨gX2, 0, none⟩) X2.1 X2.2.2 (by simp <;> omega) (.slice D2 (nw x2) d2)
          have XCn := XC.far (p := ⟨gX2, 0, none⟩) X2.1 X2.2.2 (by simp <;> omega) (.slice D2 (nw x2) d2)
          have X1n := X1.far (p := ⟨gX2, 0, none⟩) X2.1 X2.2.2 (by simp <;> omega) (.slice D2 (nw x2) d2)
          have X2n := X2.set_ (A' := D2) (n' := (nw x2)) (c' := d2) (a' := x2) (.inr O2)
          have O1n := O1.box (p := ⟨gX2, 0, none⟩) X2.1 (by decide) (.slice D2 (nw x2) d2)
          have O2n := O2.box (p := ⟨gX2, 0, none⟩) X2.1 (by decide) (.slice D2 (nw x2) d2)
          have BGn := BG.far (p := ⟨gX2, 0, none⟩) (by simp <;> omega) (.slice D2 (nw x2) d2)
          have WWn := WW.setCell (p := ⟨gX2, 0, none⟩) (by simp <;> omega) (.slice D2 (nw x2) d2)
          refine hK.out _ _ (⟨XAn.cell, XBn.cell, XEn.cell⟩) (fun hHeld2 => ?_)
          clear hK K hHeld
          (try simp only [oq7_5_11, Act.put, List.setIfInBounds_toArray, List.set_cons_zero, List.set_cons_succ])
          generalize hV : V10.setCell ⟨gX2, 0, none⟩ (.slice D2 (nw x2) d2) = V11 at hHeld2 WWn XAn XBn XEn XCn X1n X2n O1n O2n BGn ⊢
          clear hV fz cz lz WW XA XB XE XC X1 X2 O1 O2 BG
          have WW := WWn
          have XA := XAn
          have XB := XBn
          have XE := XEn
          have XC := XCn
          have X1 := X1n
          have X2 := X2n
          have O1 := O1n
          have O2 := O2n
          have BG := BGn
          have hHeld := hHeld2
          clear hHeld2
          clear WWn XAn XBn XEn XCn X1n X2n O1n O2n BGn
          refine AnyL_done (by kernel_rfl) ?_ _
          clear hHeld
          refine NoPanic.normal ?_
          exact ⟨rfl, gX1, gX2, D1, d1, D2, d2, rfl, WW, XA, XB, XE, XC, X1, X2, O1, O2, BG, (by first | exact mX1XC | omega), (by first | exact mX1BG | omega), (by first | exact mX2XC | omega), (by first | exact mX2BG | omega), (by first | exact nX1X2 | omega)⟩
        refine ReadyL.cons (o := oq7_5_9) rfl (fun K hK => ?_) ReadyL.nil
        · delta oq7_5_9
          have lqXC : w.heap.size + 1 + 1 + 1 < V7.heap.size := XC.lt
          have lqBG : V3.heap.size < V7.heap.size := BG.lt
          go_simp
          have ba := (Below.refl V7.heap.size V7).alloc (Nat.le_refl _) (.cells #[.slice none 0 0] 24)
          have XAn := XA.below ba
          have XBn := XB.below ba
          have XEn := XE.below ba
          have XCn := XC.below ba
          have O1n := O1.below ba (Nat.le_refl _)
          have O2n := O2.below ba (Nat.le_refl _)
          have BGn := BG.below ba BG.lt
          have bn := Blk.new V7 24 #[.slice none 0 0]
          have X2n := VB.mk (B := w.heap.size) (a := 0) bn (.inr (Own.nil _ _ _ _ (Nat.zero_le _))) ba WW.size WW.size
          have WWn := WW.trans (ba.mono WW.size)
          have sn : V7.heap.size < (V7.alloc (.cells #[.slice none 0 0] 24)).heap.size := bn.lt
          refine hK.out _ _ (⟨XAn.cell, XBn.cell, XEn.cell⟩) (fun hHeld2 => ?_)
          clear hK K hHeld
          (try simp only [oq7_5_9, Act.put, List.setIfInBounds_toArray, List.set_cons_zero, List.set_cons_succ])
          generalize hV : V7.alloc (.cells #[.slice none 0 0] 24) = V8 at hHeld2 sn WWn XAn XBn XEn XCn X2n O1n O2n BGn ⊢
          clear hV ba bn WW XA XB XE XC O1 O2 BG
          have WW := WWn
          have XA := XAn
          have XB := XBn
          have XE := XEn
          have XC := XCn
          have X2 := X2n
          have O1 := O1n
          have O2 := O2n
          have BG := BGn
          have sz8 := sn
          have hHeld := hHeld2
          clear sn hHeld2 WWn XAn XBn XEn XCn X2n O1n O2n BGn
          obtain ⟨gX2, hg⟩ : ∃ x, x = V7.heap.size := ⟨_, rfl⟩
          have mX2XC : w.heap.size + 1 + 1 + 1 < gX2 := by omega
          have mX2BG : V3.heap.size < gX2 := by omega
          rw [← hg] at X2 sz8 ⊢
          clear hg lqXC lqBG
          refine AnyL_ready (rs := [8]) (by kernel_rfl) (by simp) ?_
          refine ReadyL.cons (o := oq7_5_8) rfl (fun K hK => ?_) ReadyL.nil
          delta oq7_5_8
          have lqXC : w.heap.size + 1 + 1 + 1 < V8.heap.size := XC.lt
          have lqBG : V3.heap.size < V8.heap.size := BG.lt
          have lX2 : gX2 < V8.heap.size := X2.lt
          go_simp
          have ba := (Below.refl V8.heap.size V8).alloc (Nat.le_refl _) (.cells #[.slice none 0 0] 24)
          have XAn := XA.below ba
          have XBn := XB.below ba
          have XEn := XE.below ba
          have XCn := XC.below ba
          have X2n := X2.below ba
          have O1n := O1.below ba (Nat.le_refl _)
          have O2n := O2.below ba (Nat.le_refl _)
          have BGn := BG.below ba BG.lt
          have bn := Blk.new V8 24 #[.slice none 0 0]
          have X1n := VB.mk (B := w.heap.size) (a := 0) bn (.inr (Own.nil _ _ _ _ (Nat.zero_le _))) ba WW.size WW.size
          have WWn := WW.trans (ba.mono WW.size)
          have sn : V8.heap.size < (V8.alloc (.cells #[.slice none 0 0] 24)).heap.size := bn.lt
          refine hK.out _ _ (⟨XAn.cell, XBn.cell, XEn.cell⟩) (fun hHeld2 => ?_)
          clear hK K hHeld
          (try simp only [oq7_5_8, Act.put, List.setIfInBounds_toArray, List.set_cons_zero, List.set_cons_succ])
          generalize hV : V8.alloc (.cells #[.slice none 0 0] 24) = V9 at hHeld2 sn WWn XAn XBn XEn XCn X2n X1n O1n O2n BGn ⊢
          clear hV ba bn WW XA XB XE XC X2 O1 O2 BG
          have WW := WWn
          have XA := XAn
          have XB := XBn
          have XE := XEn
          have XC := XCn
          have X2 := X2n
          have X1 := X1n
          have O1 := O1n
          have O2 := O2n
          have BG := BGn
          have sz9 := sn
          have hHeld := hHeld2
          clear sn hHeld2 WWn XAn XBn XEn XCn X2n X1n O1n O2n BGn
          obtain ⟨gX1, hg⟩ : ∃ x, x = V8.heap.size := ⟨_, rfl⟩
          have mX1XC : w.heap.size + 1 + 1 + 1 < gX1 := by omega
          have mX1BG : V3.heap.size < gX1 := by omega
          have nX2X1 : gX2 ≠ gX1 := by omega
          rw [← hg] at X1 sz9 ⊢
          clear hg lqXC lqBG lX2
          refine AnyL_ready (rs := [10]) (by kernel_rfl) (by simp) ?_
          refine ReadyL.cons (o := oq7_5_10) rfl (fun K hK => ?_) ReadyL.nil
          delta oq7_5_10
          have fz := X1.1.frozen 0
          have cz := X1.cell
          have lz := X1.lt
          go_simp
          have XAn := XA.far (p := ⟨gX1, 0, none⟩) X1.1 X1.2.2 (by simp <;> omega) (.slice D1 (nw x1) d1)
          have XBn := XB.far (p := ⟨gX1, 0, none⟩) X1.1 X1.2.2 (by simp <;> omega) (.slice D1 (nw x1) d1)
          have XEn := XE.far (p := ⟨gX1, 0, none⟩) X1.1 X1.2.2 (by simp <;> omega) (.slice D1 (nw x1) d1)
          have XCn := XC.far (p := ⟨gX1, 0, none⟩) X1.1 X1.2.2 (by simp <;> omega) (.slice D1 (nw x1) d1)
          have X2n := X2.far (p := ⟨gX1, 0, none⟩) X1.1 X1.2.2 (by simp <;> omega) (.slice D1 (nw x1) d1)
          have X1n := X1.set_ (A' := D1) (n' := (nw x1)) (c' := d1) (a' := x1) (.inr O1)
          have O1n := O1.box (p := ⟨gX1, 0, none⟩) X1.1 (by decide) (.slice D1 (nw x1) d1)
          have O2n := O2.box (p := ⟨gX1, 0, none⟩) X1.1 (by decide) (.slice D1 (nw x1) d1)
          have BGn := BG.far (p := ⟨gX1, 0, none⟩) (by simp <;> omega) (.slice D1 (nw x1) d1)
          have WWn := WW.setCell (p := ⟨gX1, 0, none⟩) (by simp <;> omega) (.slice D1 (nw x1) d1)
          refine hK.out _ _ (⟨XAn.cell, XBn.cell, XEn.cell⟩) (fun hHeld2 => ?_)
          clear hK K hHeld
          (try simp only [oq7_5_10, Act.put, List.setIfInBounds_toArray, List.set_cons_zero, List.set_cons_succ])
          generalize hV : V9.setCell ⟨gX1, 0, none⟩ (.slice D1 (nw x1) d1) = V10 at hHeld2 WWn XAn XBn XEn XCn X2n X1n O1n O2n BGn ⊢
          clear hV fz cz lz WW XA XB XE XC X2 X1 O1 O2 BG
          have WW := WWn
          have XA := XAn
          have XB := XBn
          have XE := XEn
          have XC := XCn
          have X2 := X2n
          have X1 := X1n
          have O1 := O1n
          have O2 := O2n
          have BG := BGn
          have hHeld := hHeld2
          clear hHeld2
          clear WWn XAn XBn XEn XCn X2n X1n O1n O2n BGn
          refine AnyL_ready (rs := [11]) (by kernel_rfl) (by simp) ?_
          refine ReadyL.cons (o := oq7_5_11) rfl (fun K hK => ?_) ReadyL.nil
          delta oq7_5_11
          have fz := X2.1.frozen 0
          have cz := X2.cell
          have lz := X2.lt
          go_simp
          have XAn := XA.far (p := ⟨gX2, 0, none⟩) X2.1 X2.2.2 (by simp <;> omega) (.slice D2 (nw x2) d2)
          have XBn := XB.far (p := ⟨gX2, 0, none⟩) X2.1 X2.2.2 (by simp <;> omega) (.slice D2 (nw x2) d2)
          have XEn := XE.far (p := ⟨gX2, 0, none⟩) X2.1 X2.2.2 (by simp <;> omega) (.slice D2 (nw x2) d2)
          have XCn := XC.far (p := ⟨gX2, 0, none⟩) X2.1 X2.2.2 (by simp <;> omega) (.slice D2 (nw x2) d2)
          have X1n := X1.far (p := ⟨gX2, 0, none⟩) X2.1 X2.2.2 (by simp <;> omega) (.slice D2 (nw x2) d2)
          have X2n := X2.set_ (A' := D2) (n' := (nw x2)) (c' := d2) (a' := x2) (.inr O2)
          have O1n := O1.box (p := ⟨gX2, 0, none⟩) X2.1 (by decide) (.slice D2 (nw x2) d2)
          have O2n := O2.box (p := ⟨gX2, 0, none⟩) X2.1 (by decide) (.slice D2 (nw x2) d2)
          have BGn := BG.far (p := ⟨gX2, 0, none⟩) (by simp <;> omega) (.slice D2 (nw x2) d2)
          have WWn := WW.setCell (p := ⟨gX2, 0, none⟩) (by simp <;> omega) (.slice D2 (nw x2) d2)
          refine hK.out _ _ (⟨XAn.cell, XBn.cell, XEn.cell⟩) (fun hHeld2 => ?_)
          clear hK K hHeld
          (try simp only [oq7_5_11, Act.put, List.setIfInBounds_toArray, List.set_cons_zero, List.set_cons_succ])
          generalize hV : V10.setCell ⟨gX2, 0, none⟩ (.slice D2 (nw x2) d2) = V11 at hHeld2 WWn XAn XBn XEn XCn X2n X1n O1n O2n BGn ⊢
          clear hV fz cz lz WW XA XB XE XC X2 X1 O1 O2 BG
          have WW := WWn
          have XA := XAn
          have XB := XBn
          have XE := XEn
          have XC := XCn
          have X2 := X2n
          have X1 := X1n
          have O1 := O1n
          have O2 := O2n
          have BG := BGn
          have hHeld := hHeld2
          clear hHeld2
          clear WWn XAn XBn XEn XCn X2n X1n O1n O2n BGn
          refine AnyL_done (by kernel_rfl) ?_ _
          clear hHeld
          refine NoPanic.normal ?_
          exact ⟨rfl, gX1, gX2, D1, d1, D2, d2, rfl, WW, XA, XB, XE, XC, X1, X2, O1, O2, BG, (by first | exact mX1XC | omega), (by first | exact mX1BG | omega), (by first | exact mX2XC | omega), (by first | exact mX2BG | omega), (by first | exact nX1X2 | omega)⟩
      refine ReadyL.cons (o := oq7_5_8) rfl (fun K hK => ?_) ?_
      · delta oq7_5_8
        have lqXC : w.heap.size + 1 + 1 + 1 < V6.heap.size := XC.lt
        have lqBG : V3.heap.size < V6.heap.size := BG.lt
        go_simp
        have ba := (Below.refl V6.heap.size V6).alloc (Nat.le_refl _) (.cells #[.slice none 0 0] 24)
        have XAn := XA.below ba
        have XBn := XB.below ba
        have XEn := XE.below ba
        have XCn := XC.below ba
        have O1n := O1.below ba (Nat.le_refl _)
        have BGn := BG.below ba BG.lt
        have bn := Blk.new V6 24 #[.slice none 0 0]
        have X1n := VB.mk (B := w.heap.size) (a := 0) bn (.inr (Own.nil _ _ _ _ (Nat.zero_le _))) ba WW.size WW.size
        have WWn := WW.trans (ba.mono WW.size)
        have sn : V6.heap.size < (V6.alloc (.cells #[.slice none 0 0] 24)).heap.size := bn.lt
        refine hK.out _ _ (⟨XAn.cell, XBn.cell, XEn.cell⟩) (fun hHeld2 => ?_)
        clear hK K hHeld
        (try simp only [oq7_5_8, Act.put, List.setIfInBounds_toArray, List.set_cons_zero, List.set_cons_succ])
        generalize hV : V6.alloc (.cells #[.slice none 0 0] 24) = V7 at hHeld2 sn WWn XAn XBn XEn XCn X1n O1n BGn ⊢
        clear hV ba bn WW XA XB XE XC O1 BG
        have WW := WWn
        have XA := XAn
        have XB := XBn
        have XE := XEn
        have XC := XCn
        have X1 := X1n
        have O1 := O1n
        have BG := BGn
        have sz7 := sn
        have hHeld := hHeld2
        clear sn hHeld2 WWn XAn XBn XEn XCn X1n O1n BGn
        obtain ⟨gX1, hg⟩ : ∃ x, x = V6.heap.size := ⟨_, rfl⟩
        have mX1XC : w.heap.size + 1 + 1 + 1 < gX1 := by omega
        have mX1BG : V3.heap.size < gX1 := by omega
        rw [← hg] at X1 sz7 ⊢
        clear hg lqXC lqBG
        refine AnyL_ready (rs := [7, 9]) (by kernel_rfl) (by simp) ?_
        refine ReadyL.cons (o := oq7_5_7) rfl (fun K hK => ?_) ?_
        · delta oq7_5_7
          go_simp
          have hbs : w.heap.size ≤ V7.heap.size := WW.size
          have hc := do_mul (w.heap.size + 1 + 1 + 1) (V3.heap.size) B' E C' d f p b e m V7 XB.num XE.num XC.num hm hb_ he_ XC.1 BG
          rw [← Hx2.out] at hc
          refine hc.mono ?_
          clear hc
          rintro e V8 ⟨v, rfl, hv, hb⟩
          replace XA := XA.below hb
          replace XB := XB.below hb
          replace XE := XE.below hb
          replace XC := XC.below hb
          replace X1 := X1.below hb
          replace O1 := O1.below hb (Nat.le_refl _)
          replace BG := BG.below hb BG.lt
          replace WW := WW.trans (hb.mono WW.size)
          have sz8 := hb.size
          obtain ⟨D2, d2, rfl, ho⟩ := hv
          have O2 := ho.weak (b := w.heap.size) hbs
          clear ho
          clear hb hbs
          refine hK.out _ _ (⟨XA.cell, XB.cell, XE.cell⟩) (fun hHeld2 => ?_)
          clear hK K hHeld
          have hHeld := hHeld2
          clear hHeld2
          (try simp only [oq7_5_7, Act.put, List.setIfInBounds_toArray, List.set_cons_zero, List.set_cons_succ])
          refine AnyL_ready (rs := [9]) (by kernel_rfl) (by simp) ?_
          refine ReadyL.cons (o := oq7_5_9) rfl (fun K hK => ?_) ReadyL.nil
          delta oq7_5_9
          have lqXC : w.heap.size + 1 + 1 + 1 < V8.heap.size := XC.lt
          have lqBG : V3.heap.size < V8.heap.size := BG.lt
          have lX1 : gX1 < V8.heap.size := X1.lt
          go_simp
          have ba := (Below.refl V8.heap.size V8).alloc (Nat.le_refl _) (.cells #[.slice none 0 0] 24)
          have XAn := XA.below ba
          have XBn := XB.below ba
          have XEn := XE.below ba
          have XCn := XC.below ba
          have X1n := X1.below ba
          have O1n := O1.below ba (Nat.le_refl _)
          have O2n := O2.below ba (Nat.le_refl _)
          have BGn := BG.below ba BG.lt
          have bn := Blk.new V8 24 #[.slice none 0 0]
          have X2n := VB.mk (B := w.heap.size) (a := 0) bn (.inr (Own.nil _ _ _ _ (Nat.zero_le _))) ba WW.size WW.size
          have WWn := WW.trans (ba.mono WW.size)
          have sn : V8.heap.size < (V8.alloc (.cells #[.slice none 0 0] 24)).heap.size := bn.lt
          refine hK.out _ _ (⟨XAn.cell, XBn.cell, XEn.cell⟩) (fun hHeld2 => ?_)
          clear hK K hHeld
          (try simp only [oq7_5_9, Act.put, List.setIfInBounds_toArray, List.set_cons_zero, List.set_cons_succ])
          generalize hV : V8.alloc (.cells #[.slice none 0 0] 24) = V9 at hHeld2 sn WWn XAn XBn XEn XCn X1n X2n O1n O2n BGn ⊢
          clear hV ba bn WW XA XB XE XC X1 O1 O2 BG
          have WW := WWn
          have XA := XAn
          have XB := XBn
          have XE := XEn
          have XC := XCn
          have X1 := X1n
          have X2 := X2n
          have O1 := O1n
          have O2 := O2n
          have BG := BGn
          have sz9 := sn
          have hHeld := hHeld2
          clear sn hHeld2 WWn XAn XBn XEn XCn X1n X2n O1n O2n BGn
          obtain ⟨gX2, hg⟩ : ∃ x, x = V8.heap.size := ⟨_, rfl⟩
          have mX2XC : w.heap.size + 1 + 1 + 1 < gX2 := by omega
          have mX2BG : V3.heap.size < gX2 := by omega
          have nX1X2 : gX1 ≠ gX2 := by omega
          rw [← hg] at X2 sz9 ⊢
          clear hg lqXC lqBG lX1
          refine AnyL_ready (rs := [10]) (by kernel_rfl) (by simp) ?_
          refine ReadyL.cons (o := oq7_5_10) rfl (fun K hK => ?_) ReadyL.nil
          delta oq7_5_10
          have fz := X1.1.frozen 0
          have cz := X1.cell
          have lz := X1.lt
          go_simp
          have XAn := XA.far (p := ⟨gX1, 0, none⟩) X1.1 X1.2.2 (by simp <;> omega) (.slice D1 (nw x1) d1)
          have XBn := XB.far (p := ⟨gX1, 0, none⟩) X1.1 X1.2.2 (by simp <;> omega) (.slice D1 (nw x1) d1)
          have XEn := XE.far (p := ⟨gX1, 0, none⟩) X1.1 X1.2.2 (by simp <;> omega) (.slice D1 (nw x1) d1)
          have XCn := XC.far (p := ⟨gX1, 0, none⟩) X1.1 X1.2.2 (by simp <;> omega) (.slice D1 (nw x1) d1)
          have X2n := X2.far (p := ⟨gX1, 0, none⟩) X1.1 X1.2.2 (by simp <;> omega) (.slice D1 (nw x1) d1)
          have X1n := X1.set_ (A' := D1) (n' := (nw x1)) (c' := d1) (a' := x1) (.inr O1)
          have O1n := O1.box (p := ⟨gX1, 0, none⟩) X1.1 (by decide) (.slice D1 (nw x1) d1)
          have O2n := O2.box (p := ⟨gX1, 0, none⟩) X1.1 (by decide) (.slice D1 (nw x1) d1)
          have BGn := BG.far (p := ⟨gX1, 0, none⟩) (by simp <;> omega) (.slice D1 (nw x1) d1)
          have WWn := WW.setCell (p := ⟨gX1, 0, none⟩) (by simp <;> omega) (.slice D1 (nw x1) d1)
          refine hK.out _ _ (⟨XAn.cell, XBn.cell, XEn.cell⟩) (fun hHeld2 => ?_)
          clear hK K hHeld
          (try simp only [oq7_5_10, Act.put, List.setIfInBounds_toArray, List.set_cons_zero, List.set_cons_succ])
          generalize hV : V9.setCell ⟨gX1, 0, none⟩ (.slice D1 (nw x1) d1) = V10 at hHeld2 WWn XAn XBn XEn XCn X1n X2n O1n O2n BGn ⊢
          clear hV fz cz lz WW XA XB XE XC X1 X2 O1 O2 BG
          have WW := WWn
          have XA := XAn
          have XB := XBn
          have XE := XEn
          have XC := XCn
          have X1 := X1n
          have X2 := X2n
          have O1 := O1n
          have O2 := O2n
          have BG := BGn
          have hHeld := hHeld2
          clear hHeld2
          clear WWn XAn XBn XEn XCn X1n X2n O1n O2n BGn
          refine AnyL_ready (rs := [11]) (by kernel_rfl) (by simp) ?_
          refine ReadyL.cons (o := oq7_5_11) rfl (fun K hK => ?_) ReadyL.nil
          delta oq7_5_11
          have fz := X2.1.frozen 0
          have cz := X2.cell
          have lz := X2.lt
          go_simp
          have XAn := XA.far (p := ⟨gX2, 0, none⟩) X2.1 X2.2.2 (by simp <;> omega) (.slice D2 (nw x2) d2)
          have XBn := XB.far (p := ⟨gX2, 0, none⟩) X2.1 X2.2.2 (by simp <;> omega) (.slice D2 (nw x2) d2)
          have XEn := XE.far (p := ⟨gX2, 0, none⟩) X2.1 X2.2.2 (by simp <;> omega) (.slice D2 (nw x2) d2)
          have XCn := XC.far (p := ⟨gX2, 0, none⟩) X2.1 X2.2.2 (by simp <;> omega) (.slice D2 (nw x2) d2)
          have X1n := X1.far (p := ⟨gX2, 0, none⟩) X2.1 X2.2.2 (by simp <;> omega) (.slice D2 (nw x2) d2)
          have X2n := X2.set_ (A' := D2) (n' := (nw x2)) (c' := d2) (a' := x2) (.inr O2)
          have O1n := O1.box (p := ⟨gX2, 0, none⟩) X2.1 (by decide) (.slice D2 (nw x2) d2)
          have O2n := O2.box (p := ⟨gX2, 0, none⟩) X2.1 (by decide) (.slice D2 (nw x2) d2)
          have BGn := BG.far (p := ⟨gX2, 0, none⟩) (by simp <;> omega) (.slice D2 (nw x2) d2)
          have WWn := WW.setCell (p := ⟨gX2, 0, none⟩) (by simp <;> omega) (.slice D2 (nw x2) d2)
          refine hK.out _ _ (⟨XAn.cell, XBn.cell, XEn.cell⟩) (fun hHeld2 => ?_)
          clear hK K hHeld
          (try simp only [oq7_5_11, Act.put, List.setIfInBounds_toArray, List.set_cons_zero, List.set_cons_succ])
          generalize hV : V10.setCell ⟨gX2, 0, none⟩ (.slice D2 (nw x2) d2) = V11 at hHeld2 WWn XAn XBn XEn XCn X1n X2n O1n O2n BGn ⊢
          clear hV fz cz lz WW XA XB XE XC X1 X2 O1 O2 BG
          have WW := WWn
          have XA := XAn
          have XB := XBn
          have XE := XEn
          have XC := XCn
          have X1 := X1n
          have X2 := X2n
          have O1 := O1n
          have O2 := O2n
          have BG := BGn
          have hHeld := hHeld2
          clear hHeld2
          clear WWn XAn XBn XEn XCn X1n X2n O1n O2n BGn
          refine AnyL_done (by kernel_rfl) ?_ _
          clear hHeld
          refine NoPanic.normal ?_
          exact ⟨rfl, gX1, gX2, D1, d1, D2, d2, rfl, WW, XA, XB, XE, XC, X1, X2, O1, O2, BG, (by first | exact mX1XC | omega), (by first | exact mX1BG | omega), (by first | exact mX2XC | omega), (by first | exact mX2BG | omega), (by first | exact nX1X2 | omega)⟩
        refine ReadyL.cons (o := oq7_5_9) rfl (fun K hK => ?_) ReadyL.nil
        · delta oq7_5_9
          have lqXC : w.heap.size + 1 + 1 + 1 < V7.heap.size := XC.lt
          have lqBG : V3.heap.size < V7.heap.size := BG.lt
          have lX1 : gX1 < V7.heap.size := X1.lt
          go_simp
          have ba := (Below.refl V7.heap.size V7).alloc (Nat.le_refl _) (.cells #[.slice none 0 0] 24)
          have XAn := XA.below ba
          have XBn := XB.below ba
          have XEn := XE.below ba
          have XCn := XC.below ba
          have X1n := X1.below ba
          have O1n := O1.below ba (Nat.le_refl _)
          have BGn := BG.below ba BG.lt
          have bn := Blk.new V7 24 #[.slice none 0 0]
          have X2n := VB.mk (B := w.heap.size) (a := 0) bn (.inr (Own.nil _ _ _ _ (Nat.zero_le _))) ba WW.size WW.size
          have WWn := WW.trans (ba.mono WW.size)
          have sn : V7.heap.size < (V7.alloc (.cells #[.slice none 0 0] 24)).heap.size := bn.lt
          refine hK.out _ _ (⟨XAn.cell, XBn.cell, XEn.cell⟩) (fun hHeld2 => ?_)
          clear hK K hHeld
          (try simp only [oq7_5_9, Act.put, List.setIfInBounds_toArray, List.set_cons_zero, List.set_cons_succ])
          generalize hV : V7.alloc (.cells #[.slice none 0 0] 24) = V8 at hHeld2 sn WWn XAn XBn XEn XCn X1n X2n O1n BGn ⊢
          clear hV ba bn WW XA XB XE XC X1 O1 BG
          have WW := WWn
          have XA := XAn
          have XB := XBn
          have XE := XEn
          have XC := XCn
          have X1 := X1n
          have X2 := X2n
          have O1 := O1n
          have BG := BGn
          have sz8 := sn
          have hHeld := hHeld2
          clear sn hHeld2 WWn XAn XBn XEn XCn X1n X2n O1n BGn
          obtain ⟨gX2, hg⟩ : ∃ x, x = V7.heap.size := ⟨_, rfl⟩
          have mX2XC : w.heap.size + 1 + 1 + 1 < gX2 := by omega
          have mX2BG : V3.heap.size < gX2 := by omega
          have nX1X2 : gX1 ≠ gX2 := by omega
          rw [← hg] at X2 sz8 ⊢
          clear hg lqXC lqBG lX1
          refine AnyL_ready (rs := [7]) (by kernel_rfl) (by simp) ?_
          refine ReadyL.cons (o := oq7_5_7) rfl (fun K hK => ?_) ReadyL.nil
          delta oq7_5_7
          go_simp
          have hbs : w.heap.size ≤ V8.heap.size := WW.size
          have hc := do_mul (w.heap.size + 1 + 1 + 1) (V3.heap.size) B' E C' d f p b e m V8 XB.num XE.num XC.num hm hb_ he_ XC.1 BG
          rw [← Hx2.out] at hc
          refine hc.mono ?_
          clear hc
          rintro e V9 ⟨v, rfl, hv, hb⟩
          replace XA := XA.below hb
          replace XB := XB.below hb
          replace XE := XE.below hb
          replace XC := XC.below hb
          replace X1 := X1.below hb
          replace X2 := X2.below hb
          replace O1 := O1.below hb (Nat.le_refl _)
          replace BG := BG.below hb BG.lt
          replace WW := WW.trans (hb.mono WW.size)
          have sz9 := hb.size
          obtain ⟨D2, d2, rfl, ho⟩ := hv
          have O2 := ho.weak (b := w.heap.size) hbs
          clear ho
          clear hb hbs
          refine hK.out _ _ (⟨XA.cell, XB.cell, XE.cell⟩) (fun hHeld2 => ?_)
          clear hK K hHeld
          have hHeld := hHeld2
          clear hHeld2
          (try simp only [oq7_5_7, Act.put, List.setIfInBounds_toArray, List.set_cons_zero, List.set_cons_succ])
          refine AnyL_ready (rs := [10]) (by kernel_rfl) (by simp) ?_
          refine ReadyL.cons (o := oq7_5_10) rfl (fun K hK => ?_) ReadyL.nil
          delta oq7_5_10
          have fz := X1.1.frozen 0
          have cz := X1.cell
          have lz := X1.lt
          go_simp
          have XAn := XA.far (p := ⟨gX1, 0, none⟩) X1.1 X1.2.2 (by simp <;> omega) (.slice D1 (nw x1) d1)
          have XBn := XB.far (p := ⟨gX1, 0, none⟩) X1.1 X1.2.2 (by simp <;> omega) (.slice D1 (nw x1) d1)
          have XEn := XE.far (p := ⟨gX1, 0, none⟩) X1.1 X1.2.2 (by simp <;> omega) (.slice D1 (nw x1) d1)
          have XCn := XC.far (p := ⟨gX1, 0, none⟩) X1.1 X1.2.2 (by simp <;> omega) (.slice D1 (nw x1) d1)
          have X2n := X2.far (p := ⟨gX1, 0, none⟩) X1.1 X1.2.2 (by simp <;> omega) (.slice D1 (nw x1) d1)
          have X1n := X1.set_ (A' := D1) (n' := (nw x1)) (c' := d1) (a' := x1) (.inr O1)
          have O1n := O1.box (p := ⟨gX1, 0, none⟩) X1.1 (by decide) (.slice D1 (nw x1) d1)
          have O2n := O2.box (p := ⟨gX1, 0, none⟩) X1.1 (by decide) (.slice D1 (nw x1) d1)
          have BGn := BG.far (p := ⟨gX1, 0, none⟩) (by simp <;> omega) (.slice D1 (nw x1) d1)
          have WWn := WW.setCell (p := ⟨gX1, 0, none⟩) (by simp <;> omega) (.slice D1 (nw x1) d1)
          refine hK.out _ _ (⟨XAn.cell, XBn.cell, XEn.cell⟩) (fun hHeld2 => ?_)
          clear hK K hHeld
          (try simp only [oq7_5_10, Act.put, List.setIfInBounds_toArray, List.set_cons_zero, List.set_cons_succ])
          generalize hV : V9.setCell ⟨gX1, 0, none⟩ (.slice D1 (nw x1) d1) = V10 at hHeld2 WWn XAn XBn XEn XCn X1n X2n O1n O2n BGn ⊢
          clear hV fz cz lz WW XA XB XE XC X1 X2 O1 O2 BG
          have WW := WWn
          have XA := XAn
          have XB := XBn
          have XE := XEn
          have XC := XCn
          have X1 := X1n
          have X2 := X2n
          have O1 := O1n
          have O2 := O2n
          have BG := BGn
          have hHeld := hHeld2
          clear hHeld2
          clear WWn XAn XBn XEn XCn X1n X2n O1n O2n BGn
          refine AnyL_ready (rs := [11]) (by kernel_rfl) (by simp) ?_
          refine ReadyL.cons (o := oq7_5_11) rfl (fun K hK => ?_) ReadyL.nil
          delta oq7_5_11
          have fz := X2.1.frozen 0
          have cz := X2.cell
          have lz := X2.lt
          go_simp
          have XAn := XA.far (p := ⟨gX2, 0, none⟩) X2.1 X2.2.2 (by simp <;> omega) (.slice D2 (nw x2) d2)
          have XBn := XB.far (p := ⟨gX2, 0, none⟩) X2.1 X2.2.2 (by simp <;> omega) (.slice D2 (nw x2) d2)
          have XEn := XE.far (p := ⟨gX2, 0, none⟩) X2.1 X2.2.2 (by simp <;> omega) (.slice D2 (nw x2) d2)
          have XCn := XC.far (p := ⟨gX2, 0, none⟩) X2.1 X2.2.2 (by simp <;> omega) (.slice D2 (nw x2) d2)
          have X1n := X1.far (p := ⟨gX2, 0, none⟩) X2.1 X2.2.2 (by simp <;> omega) (.slice D2 (nw x2) d2)
          have X2n := X2.set_ (A' := D2) (n' := (nw x2)) (c' := d2) (a' := x2) (.inr O2)
          have O1n := O1.box (p := ⟨gX2, 0, none⟩) X2.1 (by decide) (.slice D2 (nw x2) d2)
          have O2n := O2.box (p := ⟨gX2, 0, none⟩) X2.1 (by decide) (.slice D2 (nw x2) d2)
          have BGn := BG.far (p := ⟨gX2, 0, none⟩) (by simp <;> omega) (.slice D2 (nw x2) d2)
          have WWn := WW.setCell (p := ⟨gX2, 0, none⟩) (by simp <;> omega) (.slice D2 (nw x2) d2)
          refine hK.out _ _ (⟨XAn.cell, XBn.cell, XEn.cell⟩) (fun hHeld2 => ?_)
          clear hK K hHeld
          (try simp only [oq7_5_11, Act.put, List.setIfInBounds_toArray, List.set_cons_zero, List.set_cons_succ])
          generalize hV : V10.setCell ⟨gX2, 0, none⟩ (.slice D2 (nw x2) d2) = V11 at hHeld2 WWn XAn XBn XEn XCn X1n X2n O1n O2n BGn ⊢
          clear hV fz cz lz WW XA XB XE XC X1 X2 O1 O2 BG
          have WW := WWn
          have XA := XAn
          have XB := XBn
          have XE := XEn
          have XC := XCn
          have X1 := X1n
          have X2 := X2n
          have O1 := O1n
          have O2 := O2n
          have BG := BGn
          have hHeld := hHeld2
          clear hHeld2
          clear WWn XAn XBn XEn XCn X1n X2n O1n O2n BGn
          refine AnyL_done (by kernel_rfl) ?_ _
          clear hHeld
          refine NoPanic.normal ?_
          exact ⟨rfl, gX1, gX2, D1, d1, D2, d2, rfl, WW, XA, XB, XE, XC, X1, X2, O1, O2, BG, (by first | exact mX1XC | omega), (by first | exact mX1BG | omega), (by first | exact mX2XC | omega), (by first | exact mX2BG | omega), (by first | exact nX1X2 | omega)⟩
      refine ReadyL.cons (o := oq7_5_9) rfl (fun K hK => ?_) ReadyL.nil
      · delta oq7_5_9
        have lqXC : w.heap.size + 1 + 1 + 1 < V6.heap.size := XC.lt
        have lqBG : V3.heap.size < V6.heap.size := BG.lt
        go_simp
        have ba := (Below.refl V6.heap.size V6).alloc (Nat.le_refl _) (.cells #[.slice none 0 0] 24)
        have XAn := XA.below ba
        have XBn := XB.below ba
        have XEn := XE.below ba
        have XCn := XC.below ba
        have O1n := O1.below ba (Nat.le_refl _)
        have BGn := BG.below ba BG.lt
        have bn := Blk.new V6 24 #[.slice none 0 0]
        have X2n := VB.mk (B := w.heap.size) (a := 0) bn (.inr (Own.nil _ _ _ _ (Nat.zero_le _))) ba WW.size WW.size
        have WWn := WW.trans (ba.mono WW.size)
        have sn : V6.heap.size < (V6.alloc (.cells #[.slice none 0 0] 24)).heap.size := bn.lt
        refine hK.out _ _ (⟨XAn.cell, XBn.cell, XEn.cell⟩) (fun hHeld2 => ?_)
        clear hK K hHeld
        (try simp only [oq7_5_9, Act.put, List.setIfInBounds_toArray, List.set_cons_zero, List.set_cons_succ])
        generalize hV : V6.alloc (.cells #[.slice none 0 0] 24) = V7 at hHeld2 sn WWn XAn XBn XEn XCn X2n O1n BGn ⊢
        clear hV ba bn WW XA XB XE XC O1 BG
        have WW := WWn
        have XA := XAn
        have XB := XBn
        have XE := XEn
        have XC := XCn
        have X2 := X2n
        have O1 := O1n
        have BG := BGn
        have sz7 := sn
        have hHeld := hHeld2
        clear sn hHeld2 WWn XAn XBn XEn XCn X2n O1n BGn
        obtain ⟨gX2, hg⟩ : ∃ x, x = V6.heap.size := ⟨_, rfl⟩
        have mX2XC : w.heap.size + 1 + 1 + 1 < gX2 := by omega
        have mX2BG : V3.heap.size < gX2 := by omega
        rw [← hg] at X2 sz7 ⊢
        clear hg lqXC lqBG
        refine AnyL_ready (rs := [7, 8]) (by kernel_rfl) (by simp) ?_
        refine ReadyL.cons (o := oq7_5_7) rfl (fun K hK => ?_) ?_
        · delta oq7_5_7
          go_simp
          have hbs : w.heap.size ≤ V7.heap.size := WW.size
          have hc := do_mul (w.heap.size + 1 + 1 + 1) (V3.heap.size) B' E C' d f p b e m V7 XB.num XE.num XC.num hm hb_ he_ XC.1 BG
          rw [← Hx2.out] at hc
          refine hc.mono ?_
          clear hc
          rintro e V8 ⟨v, rfl, hv, hb⟩
          replace XA := XA.below hb
          replace XB := XB.below hb
          replace XE := XE.below hb
          replace XC := XC.below hb
          replace X2 := X2.below hb
          replace O1 := O1.below hb (Nat.le_refl _)
          replace BG := BG.below hb BG.lt
          replace WW := WW.trans (hb.mono WW.size)
          have sz8 := hb.size
          obtain ⟨D2, d2, rfl, ho⟩ := hv
          have O2 := ho.weak (b := w.heap.size) hbs
          clear ho
          clear hb hbs
          refine hK.out _ _ (⟨XA.cell, XB.cell, XE.cell⟩) (fun hHeld2 => ?_)
          clear hK K hHeld
          have hHeld := hHeld2
          clear hHeld2
          (try simp only [oq7_5_7, Act.put, List.setIfInBounds_toArray, List.set_cons_zero, List.set_cons_succ])
          refine AnyL_ready (rs := [8]) (by kernel_rfl) (by simp) ?_
          refine ReadyL.cons (o := oq7_5_8) rfl (fun K hK => ?_) ReadyL.nil
          delta oq7_5_8
          have lqXC : w.heap.size + 1 + 1 + 1 < V8.heap.size := XC.lt
          have lqBG : V3.heap.size < V8.heap.size := BG.lt
          have lX2 : gX2 < V8.heap.size := X2.lt
          go_simp
          have ba := (Below.refl V8.heap.size V8).alloc (Nat.le_refl _) (.cells #[.slice none 0 0] 24)
          have XAn := XA.below ba
          have XBn := XB.below ba
          have XEn := XE.below ba
          have XCn := XC.below ba
          have X2n := X2.below ba
          have O1n := O1.below ba (Nat.le_refl _)
          have O2n := O2.below ba (Nat.le_refl _)
          have BGn := BG.below ba BG.lt
          have bn := Blk.new V8 24 #[.slice none 0 0]
          have X1n := VB.mk (B := w.heap.size) (a := 0) bn (.inr (Own.nil _ _ _ _ (Nat.zero_le _))) ba WW.size WW.size
          have WWn := WW.trans (ba.mono WW.size)
          have sn : V8.heap.size < (V8.alloc (.cells #[.slice none 0 0] 24)).heap.size := bn.lt
          refine hK.out _ _ (⟨XAn.cell, XBn.cell, XEn.cell⟩) (fun hHeld2 => ?_)
          clear hK K hHeld
          (try simp only [oq7_5_8, Act.put, List.setIfInBounds_toArray, List.set_cons_zero, List.set_cons_succ])
          generalize hV : V8.alloc (.cells #[.slice none 0 0] 24) = V9 at hHeld2 sn WWn XAn XBn XEn XCn X2n X1n O1n O2n BGn ⊢
          clear hV ba bn WW XA XB XE XC X2 O1 O2 BG
          have WW := WWn
          have XA := XAn
          have XB := XBn
          have XE := XEn
          have XC := XCn
          have X2 := X2n
          have X1 := X1n
          have O1 := O1n
          have O2 := O2n
          have BG := BGn
          have sz9 := sn
          have hHeld := hHeld2
          clear sn hHeld2 WWn XAn XBn XEn XCn X2n X1n O1n O2n BGn
          obtain ⟨gX1, hg⟩ : ∃ x, x = V8.heap.size := ⟨_, rfl⟩
          have mX1XC : w.heap.size + 1 + 1 + 1 < gX1 := by omega
          have mX1BG : V3.heap.size < gX1 := by omega
          have nX2X1 : gX2 ≠ gX1 := by omega
          rw [← hg] at X1 sz9 ⊢
          clear hg lqXC lqBG lX2
          refine AnyL_ready (rs := [10]) (by kernel_rfl) (by simp) ?_
          refine ReadyL.cons (o := oq7_5_10) rfl (fun K hK => ?_) ReadyL.nil
          delta oq7_5_10
          have fz := X1.1.frozen 0
          have cz := X1.cell
          have lz := X1.lt
          go_simp
          have XAn := XA.far (p := ⟨gX1, 0, none⟩) X1.1 X1.2.2 (by simp <;> omega) (.slice D1 (nw x1) d1)
          have XBn := XB.far (p := ⟨gX1, 0, none⟩) X1.1 X1.2.2 (by simp <;> omega) (.slice D1 (nw x1) d1)
          have XEn := XE.far (p := ⟨gX1, 0, none⟩) X1.1 X1.2.2 (by simp <;> omega) (.slice D1 (nw x1) d1)
          have XCn := XC.far (p := ⟨gX1, 0, none⟩) X1.1 X1.2.2 (by simp <;> omega) (.slice D1 (nw x1) d1)
          have X2n := X2.far (p := ⟨gX1, 0, none⟩) X1.1 X1.2.2 (by simp <;> omega) (.slice D1 (nw x1) d1)
          have X1n := X1.set_ (A' := D1) (n' := (nw x1)) (c' := d1) (a' := x1) (.inr O1)
          have O1n := O1.box (p := ⟨gX1, 0, none⟩) X1.1 (by decide) (.slice D1 (nw x1) d1)
          have O2n := O2.box (p := ⟨gX1, 0, none⟩) X1.1 (by decide) (.slice D1 (nw x1) d1)
          have BGn := BG.far (p := ⟨gX1, 0, none⟩) (by simp <;> omega) (.slice D1 (nw x1) d1)
          have WWn := WW.setCell (p := ⟨gX1, 0, none⟩) (by simp <;> omega) (.slice D1 (nw x1) d1)
          refine hK.out _ _ (⟨XAn.cell, XBn.cell, XEn.cell⟩) (fun hHeld2 => ?_)
          clear hK K hHeld
          (try simp only [oq7_5_10, Act.put, List.setIfInBounds_toArray, List.set_cons_zero, List.set_cons_succ])
          generalize hV : V9.setCell ⟨gX1, 0, none⟩ (.slice D1 (nw x1) d1) = V10 at hHeld2 WWn XAn XBn XEn XCn X2n X1n O1n O2n BGn ⊢
          clear hV fz cz lz WW XA XB XE XC X2 X1 O1 O2 BG
          have WW := WWn
          have XA := XAn
          have XB := XBn
          have XE := XEn
          have XC := XCn
          have X2 := X2n
          have X1 := X1n
          have O1 := O1n
          have O2 := O2n
          have BG := BGn
          have hHeld := hHeld2
          clear hHeld2
          clear WWn XAn XBn XEn XCn X2n X1n O1n O2n BGn
          refine AnyL_ready (rs := [11]) (by kernel_rfl) (by simp) ?_
          refine ReadyL.cons (o := oq7_5_11) rfl (fun K hK => ?_) ReadyL.nil
          delta oq7_5_11
          have fz := X2.1.frozen 0
          have cz := X2.cell
          have lz := X2.lt
          go_simp
          have XAn := XA.far (p := ⟨gX2, 0, none⟩) X2.1 X2.2.2 (by simp <;> omega) (.slice D2 (nw x2) d2)
          have XBn := XB.far (p := ⟨gX2, 0, none⟩) X2.1 X2.2.2 (by simp <;> omega) (.slice D2 (nw x2) d2)
          have XEn := XE.far (p := ⟨gX2, 0, none⟩) X2.1 X2.2.2 (by simp <;> omega) (.slice D2 (nw x2) d2)
          have XCn := XC.far (p := ⟨gX2, 0, none⟩) X2.1 X2.2.2 (by simp <;> omega) (.slice D2 (nw x2) d2)
          have X1n := X1.far (p := ⟨gX2, 0, none⟩) X2.1 X2.2.2 (by simp <;> omega) (.slice D2 (nw x2) d2)
          have X2n := X2.set_ (A' := D2) (n' := (nw x2)) (c' := d2) (a' := x2) (.inr O2)
          have O1n := O1.box (p := ⟨gX2, 0, none⟩) X2.1 (by decide) (.slice D2 (nw x2) d2)
          have O2n := O2.box (p := ⟨gX2, 0, none⟩) X2.1 (by decide) (.slice D2 (nw x2) d2)
          have BGn := BG.far (p := ⟨gX2, 0, none⟩) (by simp <;> omega) (.slice D2 (nw x2) d2)
          have WWn := WW.setCell (p := ⟨gX2, 0, none⟩) (by simp <;> omega) (.slice D2 (nw x2) d2)
          refine hK.out _ _ (⟨XAn.cell, XBn.cell, XEn.cell⟩) (fun hHeld2 => ?_)
          clear hK K hHeld
          (try simp only [oq7_5_11, Act.put, List.setIfInBounds_toArray, List.set_cons_zero, List.set_cons_succ])
          generalize hV : V10.setCell ⟨gX2, 0, none⟩ (.slice D2 (nw x2) d2) = V11 at hHeld2 WWn XAn XBn XEn XCn X2n X1n O1n O2n BGn ⊢
          clear hV fz cz lz WW XA XB XE XC X2 X1 O1 O2 BG
          have WW := WWn
          have XA := XAn
          have XB := XBn
          have XE := XEn
          have XC := XCn
          have X2 := X2n
          have X1 := X1n
          have O1 := O1n
          have O2 := O2n
          have BG := BGn
          have hHeld := hHeld2
          clear hHeld2
          clear WWn XAn XBn XEn XCn X2n X1n O1n O2n BGn
          refine AnyL_done (by kernel_rfl) ?_ _
          clear hHeld
          refine NoPanic.normal ?_
          exact ⟨rfl, gX1, gX2, D1, d1, D2, d2, rfl, WW, XA, XB, XE, XC, X1, X2, O1, O2, BG, (by first | exact mX1XC | omega), (by first | exact mX1BG | omega), (by first | exact mX2XC | omega), (by first | exact mX2BG | omega), (by first | exact nX1X2 | omega)⟩
        refine ReadyL.cons (o := oq7_5_8) rfl (fun K hK => ?_) ReadyL.nil
        · delta oq7_5_8
          have lqXC : w.heap.size + 1 + 1 + 1 < V7.heap.size := XC.lt
          have lqBG : V3.heap.size < V7.heap.size := BG.lt
          have lX2 : gX2 < V7.heap.size := X2.lt
          go_simp
          have ba := (Below.refl V7.heap.size V7).alloc (Nat.le_refl _) (.cells #[.slice none 0 0] 24)
          have XAn := XA.below ba
          have XBn := XB.below ba
          have XEn := XE.below ba
          have XCn := XC.below ba
          have X2n := X2.below ba
          have O1n := O1.below ba (Nat.le_refl _)
          have BGn := BG.below ba BG.lt
          have bn := Blk.new V7 24 #[.slice none 0 0]
          have X1n := VB.mk (B := w.heap.size) (a := 0) bn (.inr (Own.nil _ _ _ _ (Nat.zero_le _))) ba WW.size WW.size
          have WWn := WW.trans (ba.mono WW.size)
          have sn : V7.heap.size < (V7.alloc (.cells #[.slice none 0 0] 24)).heap.size := bn.lt
          refine hK.out _ _ (⟨XAn.cell, XBn.cell, XEn.cell⟩) (fun hHeld2 => ?_)
          clear hK K hHeld
          (try simp only [oq7_5_8, Act.put, List.setIfInBounds_toArray, List.set_cons_zero, List.set_cons_succ])
          generalize hV : V7.alloc (.cells #[.slice none 0 0] 24) = V8 at hHeld2 sn WWn XAn XBn XEn XCn X2n X1n O1n BGn ⊢
          clear hV ba bn WW XA XB XE XC X2 O1 BG
          have WW := WWn
          have XA := XAn
          have XB := XBn
          have XE := XEn
          have XC := XCn
          have X2 := X2n
          have X1 := X1n
          have O1 := O1n
          have BG := BGn
          have sz8 := sn
          have hHeld := hHeld2
          clear sn hHeld2 WWn XAn XBn XEn XCn X2n X1n O1n BGn
          obtain ⟨gX1, hg⟩ : ∃ x, x = V7.heap.size := ⟨_, rfl⟩
          have mX1XC : w.heap.size + 1 + 1 + 1 < gX1 := by omega
          have mX1BG : V3.heap.size < gX1 := by omega
          have nX2X1 : gX2 ≠ gX1 := by omega
          rw [← hg] at X1 sz8 ⊢
          clear hg lqXC lqBG lX2
          refine AnyL_ready (rs := [7]) (by kernel_rfl) (by simp) ?_
          refine ReadyL.cons (o := oq7_5_7) rfl (fun K hK => ?_) ReadyL.nil
          delta oq7_5_7
          go_simp
          have hbs : w.heap.size ≤ V8.heap.size := WW.size
          have hc := do_mul (w.heap.size + 1 + 1 + 1) (V3.heap.size) B' E C' d f p b e m V8 XB.num XE.num XC.num hm hb_ he_ XC.1 BG
          rw [← Hx2.out] at hc
          refine hc.mono ?_
          clear hc
          rintro e V9 ⟨v, rfl, hv, hb⟩
          replace XA := XA.below hb
          replace XB := XB.below hb
          replace XE := XE.below hb
          replace XC := XC.below hb
          replace X2 := X2.below hb
          replace X1 := X1.below hb
          replace O1 := O1.below hb (Nat.le_refl _)
          replace BG := BG.below hb BG.lt
          replace WW := WW.trans (hb.mono WW.size)
          have sz9 := hb.size
          obtain ⟨D2, d2, rfl, ho⟩ := hv
          have O2 := ho.weak (b := w.heap.size) hbs
          clear ho
          clear hb hbs
          refine hK.out _ _ (⟨XA.cell, XB.cell, XE.cell⟩) (fun hHeld2 => ?_)
          clear hK K hHeld
          have hHeld := hHeld2
          clear hHeld2
          (try simp only [oq7_5_7, Act.put, List.setIfInBounds_toArray, List.set_cons_zero, List.set_cons_succ])
          refine AnyL_ready (rs := [10]) (by kernel_rfl) (by simp) ?_
          refine ReadyL.cons (o := oq7_5_10) rfl (fun K hK => ?_) ReadyL.nil
          delta oq7_5_10
          have fz := X1.1.frozen 0
          have cz := X1.cell
          have lz := X1.lt
          go_simp
          have XAn := XA.far (p := ⟨gX1, 0, none⟩) X1.1 X1.2.2 (by simp <;> omega) (.slice D1 (nw x1) d1)
          have XBn := XB.far (p := ⟨gX1, 0, none⟩) X1.1 X1.2.2 (by simp <;> omega) (.slice D1 (nw x1) d1)
          have XEn := XE.far (p := ⟨gX1, 0, none⟩) X1.1 X1.2.2 (by simp <;> omega) (.slice D1 (nw x1) d1)
          have XCn := XC.far (p := ⟨gX1, 0, none⟩) X1.1 X1.2.2 (by simp <;> omega) (.slice D1 (nw x1) d1)
          have X2n := X2.far (p := ⟨gX1, 0, none⟩) X1.1 X1.2.2 (by simp <;> omega) (.slice D1 (nw x1) d1)
          have X1n := X1.set_ (A' := D1) (n' := (nw x1)) (c' := d1) (a' := x1) (.inr O1)
          have O1n := O1.box (p := ⟨gX1, 0, none⟩) X1.1 (by decide) (.slice D1 (nw x1) d1)
          have O2n := O2.box (p := ⟨gX1, 0, none⟩) X1.1 (by decide) (.slice D1 (nw x1) d1)
          have BGn := BG.far (p := ⟨gX1, 0, none⟩) (by simp <;> omega) (.slice D1 (nw x1) d1)
          have WWn := WW.setCell (p := ⟨gX1, 0, none⟩) (by simp <;> omega) (.slice D1 (nw x1) d1)
          refine hK.out _ _ (⟨XAn.cell, XBn.cell, XEn.cell⟩) (fun hHeld2 => ?_)
          clear hK K hHeld
          (try simp only [oq7_5_10, Act.put, List.setIfInBounds_toArray, List.set_cons_zero, List.set_cons_succ])
          generalize hV : V9.setCell ⟨gX1, 0, none⟩ (.slice D1 (nw x1) d1) = V10 at hHeld2 WWn XAn XBn XEn XCn X2n X1n O1n O2n BGn ⊢
          clear hV fz cz lz WW XA XB XE XC X2 X1 O1 O2 BG
          have WW := WWn
          have XA := XAn
          have XB := XBn
          have XE := XEn
          have XC := XCn
          have X2 := X2n
          have X1 := X1n
          have O1 := O1n
          have O2 := O2n
          have BG := BGn
          have hHeld := hHeld2
          clear hHeld2
          clear WWn XAn XBn XEn XCn X2n X1n O1n O2n BGn
          refine AnyL_ready (rs := [11]) (by kernel_rfl) (by simp) ?_
          refine ReadyL.cons (o := oq7_5_11) rfl (fun K hK => ?_) ReadyL.nil
          delta oq7_5_11
          have fz := X2.1.frozen 0
          have cz := X2.cell
          have lz := X2.lt
          go_simp
          have XAn := XA.far (p := ⟨gX2, 0, none⟩) X2.1 X2.2.2 (by simp <;> omega) (.slice D2 (nw x2) d2)
          have XBn := XB.far (p := ⟨gX2, 0, none⟩) X2.1 X2.2.2 (by simp <;> omega) (.slice D2 (nw x2) d2)
          have XEn := XE.far (p := ⟨gX2, 0, none⟩) X2.1 X2.2.2 (by simp <;> omega) (.slice D2 (nw x2) d2)
          have XCn := XC.far (p := ⟨gX2, 0, none⟩) X2.1 X2.2.2 (by simp <;> omega) (.slice D2 (nw x2) d2)
          have X1n := X1.far (p := ⟨gX2, 0, none⟩) X2.1 X2.2.2 (by simp <;> omega) (.slice D2 (nw x2) d2)
          have X2n := X2.set_ (A' := D2) (n' := (nw x2)) (c' := d2) (a' := x2) (.inr O2)
          have O1n := O1.box (p := ⟨gX2, 0, none⟩) X2.1 (by decide) (.slice D2 (nw x2) d2)
          have O2n := O2.box (p := ⟨gX2, 0, none⟩) X2.1 (by decide) (.slice D2 (nw x2) d2)
          have BGn := BG.far (p := ⟨gX2, 0, none⟩) (by simp <;> omega) (.slice D2 (nw x2) d2)
          have WWn := WW.setCell (p := ⟨gX2, 0, none⟩) (by simp <;> omega) (.slice D2 (nw x2) d2)
          refine hK.out _ _ (⟨XAn.cell, XBn.cell, XEn.cell⟩) (fun hHeld2 => ?_)
          clear hK K hHeld
          (try simp only [oq7_5_11, Act.put, List.setIfInBounds_toArray, List.set_cons_zero, List.set_cons_succ])
          generalize hV : V10.setCell ⟨gX2, 0, none⟩ (.slice D2 (nw x2) d2) = V11 at hHeld2 WWn XAn XBn XEn XCn X2n X1n O1n O2n BGn ⊢
          clear hV fz cz lz WW XA XB XE XC X2 X1 O1 O2 BG
          have WW := WWn
          have XA := XAn
          have XB := XBn
          have XE := XEn
          have XC := XCn
          have X2 := X2n
          have X1 := X1n
          have O1 := O1n
          have O2 := O2n
          have BG := BGn
          have hHeld := hHeld2
          clear hHeld2
          clear WWn XAn XBn XEn XCn X2n X1n O1n O2n BGn
          refine AnyL_done (by kernel_rfl) ?_ _
          clear hHeld
          refine NoPanic.normal ?_
          exact ⟨rfl, gX1, gX2, D1, d1, D2, d2, rfl, WW, XA, XB, XE, XC, X1, X2, O1, O2, BG, (by first | exact mX1XC | omega), (by first | exact mX1BG | omega), (by first | exact mX2XC | omega), (by first | exact mX2BG | omega), (by first | exact nX1X2 | omega)⟩
    refine ReadyL.cons (o := oq7_5_8) rfl (fun K hK => ?_) ?_
    · delta oq7_5_8
      have lqXC : w.heap.size + 1 + 1 + 1 < U4x0.heap.size := XC.lt
      have lqBG : V3.heap.size < U4x0.heap.size := BG.lt
      go_simp
      have ba := (Below.refl U4x0.heap.size U4x0).alloc (Nat.le_refl _) (.cells #[.slice none 0 0] 24)
      have XAn := XA.below ba
      have XBn := XB.below ba
      have XEn := XE.below ba
      have XCn := XC.below ba
      have BGn := BG.below ba BG.lt
      have bn := Blk.new U4x0 24 #[.slice none 0 0]
      have X1n := VB.mk (B := w.heap.size) (a := 0) bn (.inr (Own.nil _ _ _ _ (Nat.zero_le _))) ba WW.size WW.size
      have WWn := WW.trans (ba.mono WW.size)
      have sn : U4x0.heap.size < (U4x0.alloc (.cells #[.slice none 0 0] 24)).heap.size := bn.lt
      refine hK.out _ _ (⟨XAn.cell, XBn.cell, XEn.cell⟩) (fun hHeld2 => ?_)
      clear hK K hHeld
      (try simp only [oq7_5_8, Act.put, List.setIfInBounds_toArray, List.set_cons_zero, List.set_cons_succ])
      generalize hV : U4x0.alloc (.cells #[.slice none 0 0] 24) = V6 at hHeld2 sn WWn XAn XBn XEn XCn X1n BGn ⊢
      clear hV ba bn WW XA XB XE XC BG
      have WW := WWn
      have XA := XAn
      have XB := XBn
      have XE := XEn
      have XC := XCn
      have X1 := X1n
      have BG := BGn
      have sz6 := sn
      have hHeld := hHeld2
      clear sn hHeld2 WWn XAn XBn XEn XCn X1n BGn
      obtain ⟨gX1, hg⟩ : ∃ x, x = U4x0.heap.size := ⟨_, rfl⟩
      have mX1XC : w.heap.size + 1 + 1 + 1 < gX1 := by omega
      have mX1BG : V3.heap.size < gX1 := by omega
      rw [← hg] at X1 sz6 ⊢
      clear hg lqXC lqBG
      refine AnyL_ready (rs := [3, 9]) (by kernel_rfl) (by simp) ?_
      refine ReadyL.cons (o := oq7_5_3) rfl (fun K hK => ?_) ?_
      · delta oq7_5_3
        go_simp
        have hbs : w.heap.size ≤ V6.heap.size := WW.size
        have hc := do_mul (w.heap.size + 1 + 1 + 1) (V3.heap.size) A B' C' c d p a b m V6 XA.num XB.num XC.num hm ha_ hb_ XC.1 BG
        rw [← Hx1.out] at hc
        refine hc.mono ?_
        clear hc
        rintro e V7 ⟨v, rfl, hv, hb⟩
        replace XA := XA.below hb
        replace XB := XB.below hb
        replace XE := XE.below hb
        replace XC := XC.below hb
        replace X1 := X1.below hb
        replace BG := BG.below hb BG.lt
        replace WW := WW.trans (hb.mono WW.size)
        have sz7 := hb.size
        obtain ⟨D1, d1, rfl, ho⟩ := hv
        have O1 := ho.weak (b := w.heap.size) hbs
        clear ho
        clear hb hbs
        refine hK.out _ _ (⟨XA.cell, XB.cell, XE.cell⟩) (fun hHeld2 => ?_)
        clear hK K hHeld
        have hHeld := hHeld2
        clear hHeld2
        (try simp only [oq7_5_3, Act.put, List.setIfInBounds_toArray, List.set_cons_zero, List.set_cons_succ])
        refine AnyL_ready (rs := [7, 9]) (by kernel_rfl) (by simp) ?_
        refine ReadyL.cons (o := oq7_5_7) rfl (fun K hK => ?_) ?_
        · delta oq7_5_7
          go_simp
          have hbs : w.heap.size ≤ V7.heap.size := WW.size
          have hc := do_mul (w.heap.size + 1 + 1 + 1) (V3.heap.size) B' E C' d f p b e m V7 XB.num XE.num XC.num hm hb_ he_ XC.1 BG
          rw [← Hx2.out] at hc
          refine hc.mono ?_
          clear hc
          rintro e V8 ⟨v, rfl, hv, hb⟩
          replace XA := XA.below hb
          replace XB := XB.below hb
          replace XE := XE.below hb
          replace XC := XC.below hb
          replace X1 := X1.below hb
          replace O1 := O1.below hb (Nat.le_refl _)
          replace BG := BG.below hb BG.lt
          replace WW := WW.trans (hb.mono WW.size)
          have sz8 := hb.size
          obtain ⟨D2, d2, rfl, ho⟩ := hv
          have O2 := ho.weak (b := w.heap.size) hbs
          clear ho
          clear hb hbs
          refine hK.out _ _ (⟨XA.cell, XB.cell, XE.cell⟩) (fun hHeld2 => ?_)
          clear hK K hHeld
          have hHeld := hHeld2
          clear hHeld2
          (try simp only [oq7_5_7, Act.put, List.setIfInBounds_toArray, List.set_cons_zero, List.set_cons_succ])
          refine AnyL_ready (rs := [9]) (by kernel_rfl) (by simp) ?_
          refine ReadyL.cons (o := oq7_5_9) rfl (fun K hK => ?_) ReadyL.nil
          delta oq7_5_9
          have lqXC : w.heap.size + 1 + 1 + 1 < V8.heap.size := XC.lt
          have lqBG : V3.heap.size < V8.heap.size := BG.lt
          have lX1 : gX1 < V8.heap.size := X1.lt
          go_simp
          have ba := (Below.refl V8.heap.size V8).alloc (Nat.le_refl _) (.cells #[.slice none 0 0] 24)
          have XAn := XA.below ba
          have XBn := XB.below ba
          have XEn := XE.below ba
          have XCn := XC.below ba
          have X1n := X1.below ba
          have O1n := O1.below ba (Nat.le_refl _)
          have O2n := O2.below ba (Nat.le_refl _)
          have BGn := BG.below ba BG.lt
          have bn := Blk.new V8 24 #[.slice none 0 0]
          have X2n := VB.mk (B := w.heap.size) (a := 0) bn (.inr (Own.nil _ _ _ _ (Nat.zero_le _))) ba WW.size WW.size
          have WWn := WW.trans (ba.mono WW.size)
          have sn : V8.heap.size < (V8.alloc (.cells #[.slice none 0 0] 24)).heap.size := bn.lt
          refine hK.out _ _ (⟨XAn.cell, XBn.cell, XEn.cell⟩) (fun hHeld2 => ?_)
          clear hK K hHeld
          (try simp only [oq7_5_9, Act.put, List.setIfInBounds_toArray, List.set_cons_zero, List.set_cons_succ])
          generalize hV : V8.alloc (.cells #[.slice none 0 0] 24) = V9 at hHeld2 sn WWn XAn XBn XEn XCn X1n X2n O1n O2n BGn ⊢
          clear hV ba bn WW XA XB XE XC X1 O1 O2 BG
          have WW := WWn
          have XA := XAn
          have XB := XBn
          have XE := XEn
          have XC := XCn
          have X1 := X1n
          have X2 := X2n
          have O1 := O1n
          have O2 := O2n
          have BG := BGn
          have sz9 := sn
          have hHeld := hHeld2
          clear sn hHeld2 WWn XAn XBn XEn XCn X1n X2n O1n O2n BGn
          obtain ⟨gX2, hg⟩ : ∃ x, x = V8.heap.size := ⟨_, rfl⟩
          have mX2XC : w.heap.size + 1 + 1 + 1 < gX2 := by omega
          have mX2BG : V3.heap.size < gX2 := by omega
          have nX1X2 : gX1 ≠ gX2 := by omega
          rw [← hg] at X2 sz9 ⊢
          clear hg lqXC lqBG lX1
          refine AnyL_ready (rs := [10]) (by kernel_rfl) (by simp) ?_
          refine ReadyL.cons (o := oq7_5_10) rfl (fun K hK => ?_) ReadyL.nil
          delta oq7_5_10
          have fz := X1.1.frozen 0
          have cz := X1.cell
          have lz := X1.lt
          go_simp
          have XAn := XA.far (p := ⟨gX1, 0, none⟩) X1.1 X1.2.2 (by simp <;> omega) (.slice D1 (nw x1) d1)
          have XBn := XB.far (p := ⟨gX1, 0, none⟩) X1.1 X1.2.2 (by simp <;> omega) (.slice D1 (nw x1) d1)
          have XEn := XE.far (p := ⟨gX1, 0, none⟩) X1.1 X1.2.2 (by simp <;> omega) (.slice D1 (nw x1) d1)
          have XCn := XC.far (p := ⟨gX1, 0, none⟩) X1.1 X1.2.2 (by simp <;> omega) (.slice D1 (nw x1) d1)
          have X2n := X2.far (p := ⟨gX1, 0, none⟩) X1.1 X1.2.2 (by simp <;> omega) (.slice D1 (nw x1) d1)
          have X1n := X1.set_ (A' := D1) (n' := (nw x1)) (c' := d1) (a' := x1) (.inr O1)
          have O1n := O1.box (p := ⟨gX1, 0, none⟩) X1.1 (by decide) (.slice D1 (nw x1) d1)
          have O2n := O2.box (p := ⟨gX1, 0, none⟩) X1.1 (by decide) (.slice D1 (nw x1) d1)
          have BGn := BG.far (p := ⟨gX1, 0, none⟩) (by simp <;> omega) (.slice D1 (nw x1) d1)
          have WWn := WW.setCell (p := ⟨gX1, 0, none⟩) (by simp <;> omega) (.slice D1 (nw x1) d1)
          refine hK.out _ _ (⟨XAn.cell, XBn.cell, XEn.cell⟩) (fun hHeld2 => ?_)
          clear hK K hHeld
          (try simp only [oq7_5_10, Act.put, List.setIfInBounds_toArray, List.set_cons_zero, List.set_cons_succ])
          generalize hV : V9.setCell ⟨gX1, 0, none⟩ (.slice D1 (nw x1) d1) = V10 at hHeld2 WWn XAn XBn XEn XCn X1n X2n O1n O2n BGn ⊢
          clear hV fz cz lz WW XA XB XE XC X1 X2 O1 O2 BG
          have WW := WWn
          have XA := XAn
          have XB := XBn
          have XE := XEn
          have XC := XCn
          have X1 := X1n
          have X2 := X2n
          have O1 := O1n
          have O2 := O2n
          have BG := BGn
          have hHeld := hHeld2
          clear hHeld2
          clear WWn XAn XBn XEn XCn X1n X2n O1n O2n BGn
          refine AnyL_ready (rs := [11]) (by kernel_rfl) (by simp) ?_
          refine ReadyL.cons (o := oq7_5_11) rfl (fun K hK => ?_) ReadyL.nil
          delta oq7_5_11
          have fz := X2.1.frozen 0
          have cz := X2.cell
          have lz := X2.lt
          go_simp
          have XAn := XA.far (p := ⟨gX2, 0, none⟩) X2.1 X2.2.2 (by simp <;> omega) (.slice D2 (nw x2) d2)
          have XBn := XB.far (p := ⟨gX2, 0, none⟩) X2.1 X2.2.2 (by simp <;> omega) (.slice D2 (nw x2) d2)
          have XEn := XE.far (p := ⟨gX2, 0, none⟩) X2.1 X2.2.2 (by simp <;> omega) (.slice D2 (nw x2) d2)
          have XCn := XC.far (p := ⟨gX2, 0, none⟩) X2.1 X2.2.2 (by simp <;> omega) (.slice D2 (nw x2) d2)
          have X1n := X1.far (p := ⟨gX2, 0, none⟩) X2.1 X2.2.2 (by simp <;> omega) (.slice D2 (nw x2) d2)
          have X2n := X2.set_ (A' := D2) (n' := (nw x2)) (c' := d2) (a' := x2) (.inr O2)
          have O1n := O1.box (p := ⟨gX2, 0, none⟩) X2.1 (by decide) (.slice D2 (nw x2) d2)
          have O2n := O2.box (p := ⟨gX2, 0, none⟩) X2.1 (by decide) (.slice D2 (nw x2) d2)
          have BGn := BG.far (p := ⟨gX2, 0, none⟩) (by simp <;> omega) (.slice D2 (nw x2) d2)
          have WWn := WW.setCell (p := ⟨gX2, 0, none⟩) (by simp <;> omega) (.slice D2 (nw x2) d2)
          refine hK.out _ _ (⟨XAn.cell, XBn.cell, XEn.cell⟩) (fun hHeld2 => ?_)
          clear hK K hHeld
          (try simp only [oq7_5_11, Act.put, List.setIfInBounds_toArray, List.set_cons_zero, List.set_cons_succ])
          generalize hV : V10.setCell ⟨gX2, 0, none⟩ (.slice D2 (nw x2) d2) = V11 at hHeld2 WWn XAn XBn XEn XCn X1n X2n O1n O2n BGn ⊢
          clear hV fz cz lz WW XA XB XE XC X1 X2 O1 O2 BG
          have WW := WWn
          have XA := XAn
          have XB := XBn
          have XE := XEn
          have XC := XCn
          have X1 := X1n
          have X2 := X2n
          have O1 := O1n
          have O2 := O2n
          have BG := BGn
          have hHeld := hHeld2
          clear hHeld2
          clear WWn XAn XBn XEn XCn X1n X2n O1n O2n BGn
          refine AnyL_done (by kernel_rfl) ?_ _
          clear hHeld
          refine NoPanic.normal ?_
          exact ⟨rfl, gX1, gX2, D1, d1, D2, d2, rfl, WW, XA, XB, XE, XC, X1, X2, O1, O2, BG, (by first | exact mX1XC | omega), (by first | exact mX1BG | omega), (by first | exact mX2XC | omega), (by first | exact mX2BG | omega), (by first | exact nX1X2 | omega)⟩
        refine ReadyL.cons (o := oq7_5_9) rfl (fun K hK => ?_) ReadyL.nil
        · delta oq7_5_9
          have lqXC : w.heap.size + 1 + 1 + 1 < V7.heap.size := XC.lt
          have lqBG : V3.heap.size < V7.heap.size := BG.lt
          have lX1 : gX1 < V7.heap.size := X1.lt
          go_simp
          have ba := (Below.refl V7.heap.size V7).alloc (Nat.le_refl _) (.cells #[.slice none 0 0] 24)
          have XAn := XA.below ba
          have XBn := XB.below ba
          have XEn := XE.below ba
          have XCn := XC.below ba
          have X1n := X1.below ba
          have O1n := O1.below ba (Nat.le_refl _)
          have BGn := BG.below ba BG.lt
          have bn := Blk.new V7 24 #[.slice none 0 0]
          have X2n := VB.mk (B := w.heap.size) (a := 0) bn (.inr (Own.nil _ _ _ _ (Nat.zero_le _))) ba WW.size WW.size
          have WWn := WW.trans (ba.mono WW.size)
          have sn : V7.heap.size < (V7.alloc (.cells #[.slice none 0 0] 24)).heap.size := bn.lt
          refine hK.out _ _ (⟨XAn.cell, XBn.cell, XEn.cell⟩) (fun hHeld2 => ?_)
          clear hK K hHeld
          (try simp only [oq7_5_9, Act.put, List.setIfInBounds_toArray, List.set_cons_zero, List.set_cons_succ])
          generalize hV : V7.alloc (.cells #[.slice none 0 0] 24) = V8 at hHeld2 sn WWn XAn XBn XEn XCn X1n X2n O1n BGn ⊢
          clear hV ba bn WW XA XB XE XC X1 O1 BG
          have WW := WWn
          have XA := XAn
          have XB := XBn
          have XE := XEn
          have XC := XCn
          have X1 := X1n
          have X2 := X2n
          have O1 := O1n
          have BG := BGn
          have sz8 := sn
          have hHeld := hHeld2
          clear sn hHeld2 WWn XAn XBn XEn XCn X1n X2n O1n BGn
          obtain ⟨gX2, hg⟩ : ∃ x, x = V7.heap.size := ⟨_, rfl⟩
          have mX2XC : w.heap.size + 1 + 1 + 1 < gX2 := by omega
          have mX2BG : V3.heap.size < gX2 := by omega
          have nX1X2 : gX1 ≠ gX2 := by omega
          rw [← hg] at X2 sz8 ⊢
          clear hg lqXC lqBG lX1
          refine AnyL_ready (rs := [7]) (by kernel_rfl) (by simp) ?_
          refine ReadyL.cons (o := oq7_5_7) rfl (fun K hK => ?_) ReadyL.nil
          delta oq7_5_7
          go_simp
          have hbs : w.heap.size ≤ V8.heap.size := WW.size
          have hc := do_mul (w.heap.size + 1 + 1 + 1) (V3.heap.size) B' E C' d f p b e m V8 XB.num XE.num XC.num hm hb_ he_ XC.1 BG
          rw [← Hx2.out] at hc
          refine hc.mono ?_
          clear hc
          rintro e V9 ⟨v, rfl, hv, hb⟩
          replace XA := XA.below hb
          replace XB := XB.below hb
          replace XE := XE.below hb
          replace XC := XC.below hb
          replace X1 := X1.below hb
          replace X2 := X2.below hb
          replace O1 := O1.below hb (Nat.le_refl _)
          replace BG := BG.below hb BG.lt
          replace WW := WW.trans (hb.mono WW.size)
          have sz9 := hb.size
          obtain ⟨D2, d2, rfl, ho⟩ := hv
          have O2 := ho.weak (b := w.heap.size) hbs
          clear ho
          clear hb hbs
          refine hK.out _ _ (⟨XA.cell, XB.cell, XE.cell⟩) (fun hHeld2 => ?_)
          clear hK K hHeld
          have hHeld := hHeld2
          clear hHeld2
          (try simp only [oq7_5_7, Act.put, List.setIfInBounds_toArray, List.set_cons_zero, List.set_cons_succ])
          refine AnyL_ready (rs := [10]) (by kernel_rfl) (by simp) ?_
          refine ReadyL.cons (o := oq7_5_10) rfl (fun K hK => ?_) ReadyL.nil
          delta oq7_5_10
          have fz := X1.1.frozen 0
          have cz := X1.cell
          have lz := X1.lt
          go_simp
          have XAn := XA.far (p := ⟨gX1, 0, none⟩) X1.1 X1.2.2 (by simp <;> omega) (.slice D1 (nw x1) d1)
          have XBn := XB.far (p := ⟨gX1, 0, none⟩) X1.1 X1.2.2 (by simp <;> omega) (.slice D1 (nw x1) d1)
          have XEn := XE.far (p := ⟨gX1, 0, none⟩) X1.1 X1.2.2 (by simp <;> omega) (.slice D1 (nw x1) d1)
          have XCn := XC.far (p := ⟨gX1, 0, none⟩) X1.1 X1.2.2 (by simp <;> omega) (.slice D1 (nw x1) d1)
          have X2n := X2.far (p := ⟨gX1, 0, none⟩) X1.1 X1.2.2 (by simp <;> omega) (.slice D1 (nw x1) d1)
          have X1n := X1.set_ (A' := D1) (n' := (nw x1)) (c' := d1) (a' := x1) (.inr O1)
          have O1n := O1.box (p := ⟨gX1, 0, none⟩) X1.1 (by decide) (.slice D1 (nw x1) d1)
          have O2n := O2.box (p := ⟨gX1, 0, none⟩) X1.1 (by decide) (.slice D1 (nw x1) d1)
          have BGn := BG.far (p := ⟨gX1, 0, none⟩) (by simp <;> omega) (.slice D1 (nw x1) d1)
          have WWn := WW.setCell (p := ⟨gX1, 0, none⟩) (by simp <;> omega) (.slice D1 (nw x1) d1)
          refine hK.out _ _ (⟨XAn.cell, XBn.cell, XEn.cell⟩) (fun hHeld2 => ?_)
          clear hK K hHeld
          (try simp only [oq7_5_10, Act.put, List.setIfInBounds_toArray, List.set_cons_zero, List.set_cons_succ])
          generalize hV : V9.setCell ⟨gX1, 0, none⟩ (.slice D1 (nw x1) d1) = V10 at hHeld2 WWn XAn XBn XEn XCn X1n X2n O1n O2n BGn ⊢
          clear hV fz cz lz WW XA XB XE XC X1 X2 O1 O2 BG
          have WW := WWn
          have XA := XAn
          have XB := XBn
          have XE := XEn
          have XC := XCn
          have X1 := X1n
          have X2 := X2n
          have O1 := O1n
          have O2 := O2n
          have BG := BGn
          have hHeld := hHeld2
          clear hHeld2
          clear WWn XAn XBn XEn XCn X1n X2n O1n O2n BGn
          refine AnyL_ready (rs := [11]) (by kernel_rfl) (by simp) ?_
          refine ReadyL.cons (o := oq7_5_11) rfl (fun K hK => ?_) ReadyL.nil
          delta oq7_5_11
          have fz := X2.1.frozen 0
          have cz := X2.cell
          have lz := X2.lt
          go_simp
          have XAn := XA.far (p := ⟨gX2, 0, none⟩) X2.1 X2.2.2 (by simp <;> omega) (.slice D2 (nw x2) d2)
          have XBn := XB.far (p := ⟨gX2, 0, none⟩) X2.1 X2.2.2 (by simp <;> omega) (.slice D2 (nw x2) d2)
          have XEn := XE.far (p := ⟨gX2, 0, none⟩) X2.1 X2.2.2 (by simp <;> omega) (.slice D2 (nw x2) d2)
          have XCn := XC.far (p := ⟨gX2, 0, none⟩) X2.1 X2.2.2 (by simp <;> omega) (.slice D2 (nw x2) d2)
          have X1n := X1.far (p := ⟨gX2, 0, none⟩) X2.1 X2.2.2 (by simp <;> omega) (.slice D2 (nw x2) d2)
          have X2n := X2.set_ (A' := D2) (n' := (nw x2)) (c' := d2) (a' := x2) (.inr O2)
          have O1n := O1.box (p := ⟨gX2, 0, none⟩) X2.1 (by decide) (.slice D2 (nw x2) d2)
          have O2n := O2.box (p := ⟨gX2, 0, none⟩) X2.1 (by decide) (.slice D2 (nw x2) d2)
          have BGn := BG.far (p := ⟨gX2, 0, none⟩) (by simp <;> omega) (.slice D2 (nw x2) d2)
          have WWn := WW.setCell (p := ⟨gX2, 0, none⟩) (by simp <;> omega) (.slice D2 (nw x2) d2)
          refine hK.out _ _ (⟨XAn.cell, XBn.cell, XEn.cell⟩) (fun hHeld2 => ?_)
          clear hK K hHeld
          (try simp only [oq7_5_11, Act.put, List.setIfInBounds_toArray, List.set_cons_zero, List.set_cons_succ])
          generalize hV : V10.setCell ⟨gX2, 0, none⟩ (.slice D2 (nw x2) d2) = V11 at hHeld2 WWn XAn XBn XEn XCn X1n X2n O1n O2n BGn ⊢
          clear hV fz cz lz WW XA XB XE XC X1 X2 O1 O2 BG
          have WW := WWn
          have XA := XAn
          have XB := XBn
          have XE := XEn
          have XC := XCn
          have X1 := X1n
          have X2 := X2n
          have O1 := O1n
          have O2 := O2n
          have BG := BGn
          have hHeld := hHeld2
          clear hHeld2
          clear WWn XAn XBn XEn XCn X1n X2n O1n O2n BGn
          refine AnyL_done (by kernel_rfl) ?_ _
          clear hHeld
          refine NoPanic.normal ?_
          exact ⟨rfl, gX1, gX2, D1, d1, D2, d2, rfl, WW, XA, XB, XE, XC, X1, X2, O1, O2, BG, (by first | exact mX1XC | omega), (by first | exact mX1BG | omega), (by first | exact mX2XC | omega), (by first | exact mX2BG | omega), (by first | exact nX1X2 | omega)⟩
      refine ReadyL.cons (o := oq7_5_9) rfl (fun K hK => ?_) ReadyL.nil
      · delta oq7_5_9
        have lqXC : w.heap.size + 1 + 1 + 1 < V6.heap.size := XC.lt
        have lqBG : V3.heap.size < V6.heap.size := BG.lt
        have lX1 : gX1 < V6.heap.size := X1.lt
        go_simp
        have ba := (Below.refl V6.heap.size V6).alloc (Nat.le_refl _) (.cells #[.slice none 0 0] 24)
        have XAn := XA.below ba
        have XBn := XB.below ba
        have XEn := XE.below ba
        have XCn := XC.below ba
        have X1n := X1.below ba
        have BGn := BG.below ba BG.lt
        have bn := Blk.new V6 24 #[.slice none 0 0]
        have X2n := VB.mk (B := w.heap.size) (a := 0) bn (.inr (Own.nil _ _ _ _ (Nat.zero_le _))) ba WW.size WW.size
        have WWn := WW.trans (ba.mono WW.size)
        have sn : V6.heap.size < (V6.alloc (.cells #[.slice none 0 0] 24)).heap.size := bn.lt
        refine hK.out _ _ (⟨XAn.cell, XBn.cell, XEn.cell⟩) (fun hHeld2 => ?_)
        clear hK K hHeld
        (try simp only [oq7_5_9, Act.put, List.setIfInBounds_toArray, List.set_cons_zero, List.set_cons_succ])
        generalize hV : V6.alloc (.cells #[.slice none 0 0] 24) = V7 at hHeld2 sn WWn XAn XBn XEn XCn X1n X2n BGn ⊢
        clear hV ba bn WW XA XB XE XC X1 BG
        have WW := WWn
        have XA := XAn
        have XB := XBn
        have XE := XEn
        have XC := XCn
        have X1 := X1n
        have X2 := X2n
        have BG := BGn
        have sz7 := sn
        have hHeld := hHeld2
        clear sn hHeld2 WWn XAn XBn XEn XCn X1n X2n BGn
        obtain ⟨gX2, hg⟩ : ∃ x, x = V6.heap.size := ⟨_, rfl⟩
        have mX2XC : w.heap.size + 1 + 1 + 1 < gX2 := by omega
        have mX2BG : V3.heap.size < gX2 := by omega
        have nX1X2 : gX1 ≠ gX2 := by omega
        rw [← hg] at X2 sz7 ⊢
        clear hg lqXC lqBG lX1
        refine AnyL_ready (rs := [3]) (by kernel_rfl) (by simp) ?_
        refine ReadyL.cons (o := oq7_5_3) rfl (fun K hK => ?_) ReadyL.nil
        delta oq7_5_3
        go_simp
        have hbs : w.heap.size ≤ V7.heap.size := WW.size
        have hc := do_mul (w.heap.size + 1 + 1 + 1) (V3.heap.size) A B' C' c d p a b m V7 XA.num XB.num XC.num hm ha_ hb_ XC.1 BG
        rw [← Hx1.out] at hc
        refine hc.mono ?_
        clear hc
        rintro e V8 ⟨v, rfl, hv, hb⟩
        replace XA := XA.below hb
        replace XB := XB.below hb
        replace XE := XE.below hb
        replace XC := XC.below hb
        replace X1 := X1.below hb
        replace X2 := X2.below hb
        replace BG := BG.below hb BG.lt
        replace WW := WW.trans (hb.mono WW.size)
        have sz8 := hb.size
        obtain ⟨D1, d1, rfl, ho⟩ := hv
        have O1 := ho.weak (b := w.heap.size) hbs
        clear ho
        clear hb hbs
        refine hK.out _ _ (⟨XA.cell, XB.cell, XE.cell⟩) (fun hHeld2 => ?_)
        clear hK K hHeld
        have hHeld := hHeld2
        clear hHeld2
        (try simp only [oq7_5_3, Act.put, List.setIfInBounds_toArray, List.set_cons_zero, List.set_cons_succ])
        refine AnyL_ready (rs := [7]) (by kernel_rfl) (by simp) ?_
        refine ReadyL.cons (o := oq7_5_7) rfl (fun K hK => ?_) ReadyL.nil
        delta oq7_5_7
        go_simp
        have hbs : w.heap.size ≤ V8.heap.size := WW.size
        have hc := do_mul (w.heap.size + 1 + 1 + 1) (V3.heap.size) B' E C' d f p b e m V8 XB.num XE.num XC.num hm hb_ he_ XC.1 BG
        rw [← Hx2.out] at hc
        refine hc.mono ?_
        clear hc
        rintro e V9 ⟨v, rfl, hv, hb⟩
        replace XA := XA.below hb
        replace XB := XB.below hb
        replace XE := XE.below hb
        replace XC := XC.below hb
        replace X1 := X1.below hb
        replace X2 := X2.below hb
        replace O1 := O1.below hb (Nat.le_refl _)
        replace BG := BG.below hb BG.lt
        replace WW := WW.trans (hb.mono WW.size)
        have sz9 := hb.size
        obtain ⟨D2, d2, rfl, ho⟩ := hv
        have O2 := ho.weak (b := w.heap.size) hbs
        clear ho
        clear hb hbs
        refine hK.out _ _ (⟨XA.cell, XB.cell, XE.cell⟩) (fun hHeld2 => ?_)
        clear hK K hHeld
        have hHeld := hHeld2
        clear hHeld2
        (try simp only [oq7_5_7, Act.put, List.setIfInBounds_toArray, List.set_cons_zero, List.set_cons_succ])
        refine AnyL_ready (rs := [10]) (by kernel_rfl) (by simp) ?_
        refine ReadyL.cons (o := oq7_5_10) rfl (fun K hK => ?_) ReadyL.nil
        delta oq7_5_10
        have fz := X1.1.frozen 0
        have cz := X1.cell
        have lz := X1.lt
        go_simp
        have XAn := XA.far (p := ⟨gX1, 0, none⟩) X1.1 X1.2.2 (by simp <;> omega) (.slice D1 (nw x1) d1)
        have XBn := XB.far (p := ⟨gX1, 0, none⟩) X1.1 X1.2.2 (by simp <;> omega) (.slice D1 (nw x1) d1)
        have XEn := XE.far (p := ⟨gX1, 0, none⟩) X1.1 X1.2.2 (by simp <;> omega) (.slice D1 (nw x1) d1)
        have XCn := XC.far (p := ⟨gX1, 0, none⟩) X1.1 X1.2.2 (by simp <;> omega) (.slice D1 (nw x1) d1)
        have X2n := X2.far (p := ⟨gX1, 0, none⟩) X1.1 X1.2.2 (by simp <;> omega) (.slice D1 (nw x1) d1)
        have X1n := X1.set_ (A' := D1) (n' := (nw x1)) (c' := d1) (a' := x1) (.inr O1)
        have O1n := O1.box (p := ⟨gX1, 0, none⟩) X1.1 (by decide) (.slice D1 (nw x1) d1)
        have O2n := O2.box (p := ⟨gX1, 0, none⟩) X1.1 (by decide) (.slice D1 (nw x1) d1)
        have BGn := BG.far (p := ⟨gX1, 0, none⟩) (by simp <;> omega) (.slice D1 (nw x1) d1)
        have WWn := WW.setCell (p := ⟨gX1, 0, none⟩) (by simp <;> omega) (.slice D1 (nw x1) d1)
        refine hK.out _ _ (⟨XAn.cell, XBn.cell, XEn.cell⟩) (fun hHeld2 => ?_)
        clear hK K hHeld
        (try simp only [oq7_5_10, Act.put, List.setIfInBounds_toArray, List.set_cons_zero, List.set_cons_succ])
        generalize hV : V9.setCell ⟨gX1, 0, none⟩ (.slice D1 (nw x1) d1) = V10 at hHeld2 WWn XAn XBn XEn XCn X1n X2n O1n O2n BGn ⊢
        clear hV fz cz lz WW XA XB XE XC X1 X2 O1 O2 BG
        have WW := WWn
        have XA := XAn
        have XB := XBn
        have XE := XEn
        have XC := XCn
        have X1 := X1n
        have X2 := X2n
        have O1 := O1n
        have O2 := O2n
        have BG := BGn
        have hHeld := hHeld2
        clear hHeld2
        clear WWn XAn XBn XEn XCn X1n X2n O1n O2n BGn
        refine AnyL_ready (rs := [11]) (by kernel_rfl) (by simp) ?_
        refine ReadyL.cons (o := oq7_5_11) rfl (fun K hK => ?_) ReadyL.nil
        delta oq7_5_11
        have fz := X2.1.frozen 0
        have cz := X2.cell
        have lz := X2.lt
        go_simp
        have XAn := XA.far (p := ⟨gX2, 0, none⟩) X2.1 X2.2.2 (by simp <;> omega) (.slice D2 (nw x2) d2)
        have XBn := XB.far (p := ⟨gX2, 0, none⟩) X2.1 X2.2.2 (by simp <;> omega) (.slice D2 (nw x2) d2)
        have XEn := XE.far (p := ⟨gX2, 0, none⟩) X2.1 X2.2.2 (by simp <;> omega) (.slice D2 (nw x2) d2)
        have XCn := XC.far (p := ⟨gX2, 0, none⟩) X2.1 X2.2.2 (by simp <;> omega) (.slice D2 (nw x2) d2)
        have X1n := X1.far (p := ⟨gX2, 0, none⟩) X2.1 X2.2.2 (by simp <;> omega) (.slice D2 (nw x2) d2)
        have X2n := X2.set_ (A' := D2) (n' := (nw x2)) (c' := d2) (a' := x2) (.inr O2)
        have O1n := O1.box (p := ⟨gX2, 0, none⟩) X2.1 (by decide) (.slice D2 (nw x2) d2)
        have O2n := O2.box (p := ⟨gX2, 0, none⟩) X2.1 (by decide) (.slice D2 (nw x2) d2)
        have BGn := BG.far (p := ⟨gX2, 0, none⟩) (by simp <;> omega) (.slice D2 (nw x2) d2)
        have WWn := WW.setCell (p := ⟨gX2, 0, none⟩) (by simp <;> omega) (.slice D2 (nw x2) d2)
        refine hK.out _ _ (⟨XAn.cell, XBn.cell, XEn.cell⟩) (fun hHeld2 => ?_)
        clear hK K hHeld
        (try simp only [oq7_5_11, Act.put, List.setIfInBounds_toArray, List.set_cons_zero, List.set_cons_succ])
        generalize hV : V10.setCell ⟨gX2, 0, none⟩ (.slice D2 (nw x2) d2) = V11 at hHeld2 WWn XAn XBn XEn XCn X1n X2n O1n O2n BGn ⊢
        clear hV fz cz lz WW XA XB XE XC X1 X2 O1 O2 BG
        have WW := WWn
        have XA := XAn
        have XB := XBn
        have XE := XEn
        have XC := XCn
        have X1 := X1n
        have X2 := X2n
        have O1 := O1n
        have O2 := O2n
        have BG := BGn
        have hHeld := hHeld2
        clear hHeld2
        clear WWn XAn XBn XEn XCn X1n X2n O1n O2n BGn
        refine AnyL_done (by kernel_rfl) ?_ _
        clear hHeld
        refine NoPanic.normal ?_
        exact ⟨rfl, gX1, gX2, D1, d1, D2, d2, rfl, WW, XA, XB, XE, XC, X1, X2, O1, O2, BG, (by first | exact mX1XC | omega), (by first | exact mX1BG | omega), (by first | exact mX2XC | omega), (by first | exact mX2BG | omega), (by first | exact nX1X2 | omega)⟩
    refine ReadyL.cons (o := oq7_5_9) rfl (fun K hK => ?_) ReadyL.nil
    · delta oq7_5_9
      have lqXC : w.heap.size + 1 + 1 + 1 < U4x0.heap.size := XC.lt
      have lqBG : V3.heap.size < U4x0.heap.size := BG.lt
      go_simp
      have ba := (Below.refl U4x0.heap.size U4x0).alloc (Nat.le_refl _) (.cells #[.slice none 0 0] 24)
      have XAn := XA.below ba
      have XBn := XB.below ba
      have XEn := XE.below ba
      have XCn := XC.below ba
      have BGn := BG.below ba BG.lt
      have bn := Blk.new U4x0 24 #[.slice none 0 0]
      have X2n := VB.mk (B := w.heap.size) (a := 0) bn (.inr (Own.nil _ _ _ _ (Nat.zero_le _))) ba WW.size WW.size
      have WWn := WW.trans (ba.mono WW.size)
      have sn : U4x0.heap.size < (U4x0.alloc (.cells #[.slice none 0 0] 24)).heap.size := bn.lt
      refine hK.out _ _ (⟨XAn.cell, XBn.cell, XEn.cell⟩) (fun hHeld2 => ?_)
      clear hK K hHeld
      (try simp only [oq7_5_9, Act.put, List.setIfInBounds_toArray, List.set_cons_zero, List.set_cons_succ])
      generalize hV : U4x0.alloc (.cells #[.slice none 0 0] 24) = V6 at hHeld2 sn WWn XAn XBn XEn XCn X2n BGn ⊢
      clear hV ba bn WW XA XB XE XC BG
      have WW := WWn
      have XA := XAn
      have XB := XBn
      have XE := XEn
      have XC := XCn
      have X2 := X2n
      have BG := BGn
      have sz6 := sn
      have hHeld := hHeld2
      clear sn hHeld2 WWn XAn XBn XEn XCn X2n BGn
      obtain ⟨gX2, hg⟩ : ∃ x, x = U4x0.heap.size := ⟨_, rfl⟩
      have mX2XC : w.heap.size + 1 + 1 + 1 < gX2 := by omega
      have mX2BG : V3.heap.size < gX2 := by omega
      rw [← hg] at X2 sz6 ⊢
      clear hg lqXC lqBG
      refine AnyL_ready (rs := [3, 8]) (by kernel_rfl) (by simp) ?_
      refine ReadyL.cons (o := oq7_5_3) rfl (fun K hK => ?_) ?_
      · delta oq7_5_3
        go_simp
        have hbs : w.heap.size ≤ V6.heap.size := WW.size
        have hc := do_mul (w.heap.size + 1 + 1 + 1) (V3.heap.size) A B' C' c d p a b m V6 XA.num XB.num XC.num hm ha_ hb_ XC.1 BG
        rw [← Hx1.out] at hc
        refine hc.mono ?_
        clear hc
        rintro e V7 ⟨v, rfl, hv, hb⟩
        replace XA := XA.below hb
        replace XB := XB.below hb
        replace XE := XE.below hb
        replace XC := XC.below hb
        replace X2 := X2.below hb
        replace BG := BG.below hb BG.lt
        replace WW := WW.trans (hb.mono WW.size)
        have sz7 := hb.size
        obtain ⟨D1, d1, rfl, ho⟩ := hv
        have O1 := ho.weak (b := w.heap.size) hbs
        clear ho
        clear hb hbs
        refine hK.out _ _ (⟨XA.cell, XB.cell, XE.cell⟩) (fun hHeld2 => ?_)
        clear hK K hHeld
        have hHeld := hHeld2
        clear hHeld2
        (try simp only [oq7_5_3, Act.put, List.setIfInBounds_toArray, List.set_cons_zero, List.set_cons_succ])
        refine AnyL_ready (rs := [7, 8]) (by kernel_rfl) (by simp) ?_
        refine ReadyL.cons (o := oq7_5_7) rfl (fun K hK => ?_) ?_
        · delta oq7_5_7
          go_simp
          have hbs : w.heap.size ≤ V7.heap.size := WW.size
          have hc := do_mul (w.heap.size + 1 + 1 + 1) (V3.heap.size) B' E C' d f p b e m V7 XB.num XE.num XC.num hm hb_ he_ XC.1 BG
          rw [← Hx2.out] at hc
          refine hc.mono ?_
          clear hc
          rintro e V8 ⟨v, rfl, hv, hb⟩
          replace XA := XA.below hb
          replace XB := XB.below hb
          replace XE := XE.below hb
          replace XC := XC.below hb
          replace X2 := X2.below hb
          replace O1 := O1.below hb (Nat.le_refl _)
          replace BG := BG.below hb BG.lt
          replace WW := WW.trans (hb.mono WW.size)
          have sz8 := hb.size
          obtain ⟨D2, d2, rfl, ho⟩ := hv
          have O2 := ho.weak (b := w.heap.size) hbs
          clear ho
          clear hb hbs
          refine hK.out _ _ (⟨XA.cell, XB.cell, XE.cell⟩) (fun hHeld2 => ?_)
          clear hK K hHeld
          have hHeld := hHeld2
          clear hHeld2
          (try simp only [oq7_5_7, Act.put, List.setIfInBounds_toArray, List.set_cons_zero, List.set_cons_succ])
          refine AnyL_ready (rs := [8]) (by kernel_rfl) (by simp) ?_
          refine ReadyL.cons (o := oq7_5_8) rfl (fun K hK => ?_) ReadyL.nil
          delta oq7_5_8
          have lqXC : w.heap.size + 1 + 1 + 1 < V8.heap.size := XC.lt
          have lqBG : V3.heap.size < V8.heap.size := BG.lt
          have lX2 : gX2 < V8.heap.size := X2.lt
          go_simp
          have ba := (Below.refl V8.heap.size V8).alloc (Nat.le_refl _) (.cells #[.slice none 0 0] 24)
          have XAn := XA.below ba
          have XBn := XB.below ba
          have XEn := XE.below ba
          have XCn := XC.below ba
          have X2n := X2.below ba
          have O1n := O1.below ba (Nat.le_refl _)
          have O2n := O2.below ba (Nat.le_refl _)
          have BGn := BG.below ba BG.lt
          have bn := Blk.new V8 24 #[.slice none 0 0]
          have X1n := VB.mk (B := w.heap.size) (a := 0) bn (.inr (Own.nil _ _ _ _ (Nat.zero_le _))) ba WW.size WW.size
          have WWn := WW.trans (ba.mono WW.size)
          have sn : V8.heap.size < (V8.alloc (.cells #[.slice none 0 0] 24)).heap.size := bn.lt
          refine hK.out _ _ (⟨XAn.cell, XBn.cell, XEn.cell⟩) (fun hHeld2 => ?_)
          clear hK K hHeld
          (try simp only [oq7_5_8, Act.put, List.setIfInBounds_toArray, List.set_cons_zero, List.set_cons_succ])
          generalize hV : V8.alloc (.cells #[.slice none 0 0] 24) = V9 at hHeld2 sn WWn XAn XBn XEn XCn X2n X1n O1n O2n BGn ⊢
          clear hV ba bn WW XA XB XE XC X2 O1 O2 BG
          have WW := WWn
          have XA := XAn
          have XB := XBn
          have XE := XEn
          have XC := XCn
          have X2 := X2n
          have X1 := X1n
          have O1 := O1n
          have O2 := O2n
          have BG := BGn
          have sz9 := sn
          have hHeld := hHeld2
          clear sn hHeld2 WWn XAn XBn XEn XCn X2n X1n O1n O2n BGn
          obtain ⟨gX1, hg⟩ : ∃ x, x = V8.heap.size := ⟨_, rfl⟩
          have mX1XC : w.heap.size + 1 + 1 + 1 < gX1 := by omega
          have mX1BG : V3.heap.size < gX1 := by omega
          have nX2X1 : gX2 ≠ gX1 := by omega
          rw [← hg] at X1 sz9 ⊢
          clear hg lqXC lqBG lX2
          refine AnyL_ready (rs := [10]) (by kernel_rfl) (by simp) ?_
          refine ReadyL.cons (o := oq7_5_10) rfl (fun K hK => ?_) ReadyL.nil
          delta oq7_5_10
          have fz := X1.1.frozen 0
          have cz := X1.cell
          have lz := X1.lt
          go_simp
          have XAn := XA.far (p := ⟨gX1, 0, none⟩) X1.1 X1.2.2 (by simp <;> omega) (.slice D1 (nw x1) d1)
          have XBn := XB.far (p := ⟨gX1, 0, none⟩) X1.1 X1.2.2 (by simp <;> omega) (.slice D1 (nw x1) d1)
          have XEn := XE.far (p := ⟨gX1, 0, none⟩) X1.1 X1.2.2 (by simp <;> omega) (.slice D1 (nw x1) d1)
          have XCn := XC.far (p := ⟨gX1, 0, none⟩) X1.1 X1.2.2 (by simp <;> omega) (.slice D1 (nw x1) d1)
          have X2n := X2.far (p := ⟨gX1, 0, none⟩) X1.1 X1.2.2 (by simp <;> omega) (.slice D1 (nw x1) d1)
          have X1n := X1.set_ (A' := D1) (n' := (nw x1)) (c' := d1) (a' := x1) (.inr O1)
          have O1n := O1.box (p := ⟨gX1, 0, none⟩) X1.1 (by decide) (.slice D1 (nw x1) d1)
          have O2n := O2.box (p := ⟨gX1, 0, none⟩) X1.1 (by decide) (.slice D1 (nw x1) d1)
          have BGn := BG.far (p := ⟨gX1, 0, none⟩) (by simp <;> omega) (.slice D1 (nw x1) d1)
          have WWn := WW.setCell (p := ⟨gX1, 0, none⟩) (by simp <;> omega) (.slice D1 (nw x1) d1)
          refine hK.out _ _ (⟨XAn.cell, XBn.cell, XEn.cell⟩) (fun hHeld2 => ?_)
          clear hK K hHeld
          (try simp only [oq7_5_10, Act.put, List.setIfInBounds_toArray, List.set_cons_zero, List.set_cons_succ])
          generalize hV : V9.setCell ⟨gX1, 0, none⟩ (.slice D1 (nw x1) d1) = V10 at hHeld2 WWn XAn XBn XEn XCn X2n X1n O1n O2n BGn ⊢
          clear hV fz cz lz WW XA XB XE XC X2 X1 O1 O2 BG
          have WW := WWn
          have XA := XAn
          have XB := XBn
          have XE := XEn
          have XC := XCn
          have X2 := X2n
          have X1 := X1n
          have O1 := O1n
          have O2 := O2n
          have BG := BGn
          have hHeld := hHeld2
          clear hHeld2
          clear WWn XAn XBn XEn XCn X2n X1n O1n O2n BGn
          refine AnyL_ready (rs := [11]) (by kernel_rfl) (by simp) ?_
          refine ReadyL.cons (o := oq7_5_11) rfl (fun K hK => ?_) ReadyL.nil
          delta oq7_5_11
          have fz := X2.1.frozen 0
          have cz := X2.cell
          have lz := X2.lt
          go_simp
          have XAn := XA.far (p := ⟨gX2, 0, none⟩) X2.1 X2.2.2 (by simp <;> omega) (.slice D2 (nw x2) d2)
          have XBn := XB.far (p := ⟨gX2, 0, none⟩) X2.1 X2.2.2 (by simp <;> omega) (.slice D2 (nw x2) d2)
          have XEn := XE.far (p := ⟨gX2, 0, none⟩) X2.1 X2.2.2 (by simp <;> omega) (.slice D2 (nw x2) d2)
          have XCn := XC.far (p := ⟨gX2, 0, none⟩) X2.1 X2.2.2 (by simp <;> omega) (.slice D2 (nw x2) d2)
          have X1n := X1.far (p := ⟨gX2, 0, none⟩) X2.1 X2.2.2 (by simp <;> omega) (.slice D2 (nw x2) d2)
          have X2n := X2.set_ (A' := D2) (n' := (nw x2)) (c' := d2) (a' := x2) (.inr O2)
          have O1n := O1.box (p := ⟨gX2, 0, none⟩) X2.1 (by decide) (.slice D2 (nw x2) d2)
          have O2n := O2.box (p := ⟨gX2, 0, none⟩) X2.1 (by decide) (.slice D2 (nw x2) d2)
          have BGn := BG.far (p := ⟨gX2, 0, none⟩) (by simp <;> omega) (.slice D2 (nw x2) d2)
          have WWn := WW.setCell (p := ⟨gX2, 0, none⟩) (by simp <;> omega) (.slice D2 (nw x2) d2)
          refine hK.out _ _ (⟨XAn.cell, XBn.cell, XEn.cell⟩) (fun hHeld2 => ?_)
          clear hK K hHeld
          (try simp only [oq7_5_11, Act.put, List.setIfInBounds_toArray, List.set_cons_zero, List.set_cons_succ])
          generalize hV : V10.setCell ⟨gX2, 0, none⟩ (.slice D2 (nw x2) d2) = V11 at hHeld2 WWn XAn XBn XEn XCn X2n X1n O1n O2n BGn ⊢
          clear hV fz cz lz WW XA XB XE XC X2 X1 O1 O2 BG
          have WW := WWn
          have XA := XAn
          have XB := XBn
          have XE := XEn
          have XC := XCn
          have X2 := X2n
          have X1 := X1n
          have O1 := O1n
          have O2 := O2n
          have BG := BGn
          have hHeld := hHeld2
          clear hHeld2
          clear WWn XAn XBn XEn XCn X2n X1n O1n O2n BGn
          refine AnyL_done (by kernel_rfl) ?_ _
          clear hHeld
          refine NoPanic.normal ?_
          exact ⟨rfl, gX1, gX2, D1, d1, D2, d2, rfl, WW, XA, XB, XE, XC, X1, X2, O1, O2, BG, (by first | exact mX1XC | omega), (by first | exact mX1BG | omega), (by first | exact mX2XC | omega), (by first | exact mX2BG | omega), (by first | exact nX1X2 | omega)⟩
        refine ReadyL.cons (o := oq7_5_8) rfl (fun K hK => ?_) ReadyL.nil
        · delta oq7_5_8
          have lqXC : w.heap.size + 1 + 1 + 1 < V7.heap.size := XC.lt
          have lqBG : V3.heap.size < V7.heap.size := BG.lt
          have lX2 : gX2 < V7.heap.size := X2.lt
          go_simp
          have ba := (Below.refl V7.heap.size V7).alloc (Nat.le_refl _) (.cells #[.slice none 0 0] 24)
          have XAn := XA.below ba
          have XBn := XB.below ba
          have XEn := XE.below ba
          have XCn := XC.below ba
          have X2n := X2.below ba
          have O1n := O1.below ba (Nat.le_refl _)
          have BGn := BG.below ba BG.lt
          have bn := Blk.new V7 24 #[.slice none 0 0]
          have X1n := VB.mk (B := w.heap.size) (a := 0) bn (.inr (Own.nil _ _ _ _ (Nat.zero_le _))) ba WW.size WW.size
          have WWn := WW.trans (ba.mono WW.size)
          have sn : V7.heap.size < (V7.alloc (.cells #[.slice none 0 0] 24)).heap.size := bn.lt
          refine hK.out _ _ (⟨XAn.cell, XBn.cell, XEn.cell⟩) (fun hHeld2 => ?_)
          clear hK K hHeld
          (try simp only [oq7_5_8, Act.put, List.setIfInBounds_toArray, List.set_cons_zero, List.set_cons_succ])
          generalize hV : V7.alloc (.cells #[.slice none 0 0] 24) = V8 at hHeld2 sn WWn XAn XBn XEn XCn X2n X1n O1n BGn ⊢
          clear hV ba bn WW XA XB XE XC X2 O1 BG
          have WW := WWn
          have XA := XAn
          have XB := XBn
          have XE := XEn
          have XC := XCn
          have X2 := X2n
          have X1 := X1n
          have O1 := O1n
          have BG := BGn
          have sz8 := sn
          have hHeld := hHeld2
          clear sn hHeld2 WWn XAn XBn XEn XCn X2n X1n O1n BGn
          obtain ⟨gX1, hg⟩ : ∃ x, x = V7.heap.size := ⟨_, rfl⟩
          have mX1XC : w.heap.size + 1 + 1 + 1 < gX1 := by omega
          have mX1BG : V3.heap.size < gX1 := by omega
          have nX2X1 : gX2 ≠ gX1 := by omega
          rw [← hg] at X1 sz8 ⊢
          clear hg lqXC lqBG lX2
          refine AnyL_ready (rs := [7]) (by kernel_rfl) (by simp) ?_
          refine ReadyL.cons (o := oq7_5_7) rfl (fun K hK => ?_) ReadyL.nil
          delta oq7_5_7
          go_simp
          have hbs : w.heap.size ≤ V8.heap.size := WW.size
          have hc := do_mul (w.heap.size + 1 + 1 + 1) (V3.heap.size) B' E C' d f p b e m V8 XB.num XE.num XC.num hm hb_ he_ XC.1 BG
          rw [← Hx2.out] at hc
          refine hc.mono ?_
          clear hc
          rintro e V9 ⟨v, rfl, hv, hb⟩
          replace XA := XA.below hb
          replace XB := XB.below hb
          replace XE := XE.below hb
          replace XC := XC.below hb
          replace X2 := X2.below hb
          replace X1 := X1.below hb
          replace O1 := O1.below hb (Nat.le_refl _)
          replace BG := BG.below hb BG.lt
          replace WW := WW.trans (hb.mono WW.size)
          have sz9 := hb.size
          obtain ⟨D2, d2, rfl, ho⟩ := hv
          have O2 := ho.weak (b := w.heap.size) hbs
          clear ho
          clear hb hbs
          refine hK.out _ _ (⟨XA.cell, XB.cell, XE.cell⟩) (fun hHeld2 => ?_)
          clear hK K hHeld
          have hHeld := hHeld2
          clear hHeld2
          (try simp only [oq7_5_7, Act.put, List.setIfInBounds_toArray, List.set_cons_zero, List.set_cons_succ])
          refine AnyL_ready (rs := [10]) (by kernel_rfl) (by simp) ?_
          refine ReadyL.cons (o := oq7_5_10) rfl (fun K hK => ?_) ReadyL.nil
          delta oq7_5_10
          have fz := X1.1.frozen 0
          have cz := X1.cell
          have lz := X1.lt
          go_simp
          have XAn := XA.far (p := ⟨gX1, 0, none⟩) X1.1 X1.2.2 (by simp <;> omega) (.slice D1 (nw x1) d1)
          have XBn := XB.far (p := ⟨gX1, 0, none⟩) X1.1 X1.2.2 (by simp <;> omega) (.slice D1 (nw x1) d1)
          have XEn := XE.far (p := ⟨gX1, 0, none⟩) X1.1 X1.2.2 (by simp <;> omega) (.slice D1 (nw x1) d1)
          have XCn := XC.far (p := ⟨gX1, 0, none⟩) X1.1 X1.2.2 (by simp <;> omega) (.slice D1 (nw x1) d1)
          have X2n := X2.far (p := ⟨gX1, 0, none⟩) X1.1 X1.2.2 (by simp <;> omega) (.slice D1 (nw x1) d1)
          have X1n := X1.set_ (A' := D1) (n' := (nw x1)) (c' := d1) (a' := x1) (.inr O1)
          have O1n := O1.box (p := ⟨gX1, 0, none⟩) X1.1 (by decide) (.slice D1 (nw x1) d1)
          have O2n := O2.box (p := ⟨gX1, 0, none⟩) X1.1 (by decide) (.slice D1 (nw x1) d1)
          have BGn := BG.far (p := ⟨gX1, 0, none⟩) (by simp <;> omega) (.slice D1 (nw x1) d1)
          have WWn := WW.setCell (p := ⟨gX1, 0, none⟩) (by simp <;> omega) (.slice D1 (nw x1) d1)
          refine hK.out _ _ (⟨XAn.cell, XBn.cell, XEn.cell⟩) (fun hHeld2 => ?_)
          clear hK K hHeld
          (try simp only [oq7_5_10, Act.put, List.setIfInBounds_toArray, List.set_cons_zero, List.set_cons_succ])
          generalize hV : V9.setCell ⟨gX1, 0, none⟩ (.slice D1 (nw x1) d1) = V10 at hHeld2 WWn XAn XBn XEn XCn X2n X1n O1n O2n BGn ⊢
          clear hV fz cz lz WW XA XB XE XC X2 X1 O1 O2 BG
          have WW := WWn
          have XA := XAn
          have XB := XBn
          have XE := XEn
          have XC := XCn
          have X2 := X2n
          have X1 := X1n
          have O1 := O1n
          have O2 := O2n
          have BG := BGn
          have hHeld := hHeld2
          clear hHeld2
          clear WWn XAn XBn XEn XCn X2n X1n O1n O2n BGn
          refine AnyL_ready (rs := [11]) (by kernel_rfl) (by simp) ?_
          refine ReadyL.cons (o := oq7_5_11) rfl (fun K hK => ?_) ReadyL.nil
          delta oq7_5_11
          have fz := X2.1.frozen 0
          have cz := X2.cell
          have lz := X2.lt
          go_simp
          have XAn := XA.far (p := ⟨gX2, 0, none⟩) X2.1 X2.2.2 (by simp <;> omega) (.slice D2 (nw x2) d2)
          have XBn := XB.far (p := ⟨gX2, 0, none⟩) X2.1 X2.2.2 (by simp <;> omega) (.slice D2 (nw x2) d2)
          have XEn := XE.far (p := ⟨gX2, 0, none⟩) X2.1 X2.2.2 (by simp <;> omega) (.slice D2 (nw x2) d2)
          have XCn := XC.far (p := ⟨gX2, 0, none⟩) X2.1 X2.2.2 (by simp <;> omega) (.slice D2 (nw x2) d2)
          have X1n := X1.far (p := ⟨gX2, 0, none⟩) X2.1 X2.2.2 (by simp <;> omega) (.slice D2 (nw x2) d2)
          have X2n := X2.set_ (A' := D2) (n' := (nw x2)) (c' := d2) (a' := x2) (.inr O2)
          have O1n := O1.box (p := ⟨gX2, 0, none⟩) X2.1 (by decide) (.slice D2 (nw x2) d2)
          have O2n := O2.box (p := ⟨gX2, 0, none⟩) X2.1 (by decide) (.slice D2 (nw x2) d2)
          have BGn := BG.far (p := ⟨gX2, 0, none⟩) (by simp <;> omega) (.slice D2 (nw x2) d2)
          have WWn := WW.setCell (p := ⟨gX2, 0, none⟩) (by simp <;> omega) (.slice D2 (nw x2) d2)
          refine hK.out _ _ (⟨XAn.cell, XBn.cell, XEn.cell⟩) (fun hHeld2 => ?_)
          clear hK K hHeld
          (try simp only [oq7_5_11, Act.put, List.setIfInBounds_toArray, List.set_cons_zero, List.set_cons_succ])
          generalize hV : V10.setCell ⟨gX2, 0, none⟩ (.slice D2 (nw x2) d2) = V11 at hHeld2 WWn XAn XBn XEn XCn X2n X1n O1n O2n BGn ⊢
          clear hV fz cz lz WW XA XB XE XC X2 X1 O1 O2 BG
          have WW := WWn
          have XA := XAn
          have XB := XBn
          have XE := XEn
          have XC := XCn
          have X2 := X2n
          have X1 := X1n
          have O1 := O1n
          have O2 := O2n
          have BG := BGn
          have hHeld := hHeld2
          clear hHeld2
          clear WWn XAn XBn XEn XCn X2n X1n O1n O2n BGn
          refine AnyL_done (by kernel_rfl) ?_ _
          clear hHeld
          refine NoPanic.normal ?_
          exact ⟨rfl, gX1, gX2, D1, d1, D2, d2, rfl, WW, XA, XB, XE, XC, X1, X2, O1, O2, BG, (by first | exact mX1XC | omega), (by first | exact mX1BG | omega), (by first | exact mX2XC | omega), (by first | exact mX2BG | omega), (by first | exact nX1X2 | omega)⟩
      refine ReadyL.cons (o := oq7_5_8) rfl (fun K hK => ?_) ReadyL.nil
      · delta oq7_5_8
        have lqXC : w.heap.size + 1 + 1 + 1 < V6.heap.size := XC.lt
        have lqBG : V3.heap.size < V6.heap.size := BG.lt
        have lX2 : gX2 < V6.heap.size := X2.lt
        go_simp
        have ba := (Below.refl V6.heap.size V6).alloc (Nat.le_refl _) (.cells #[.slice none 0 0] 24)
        have XAn := XA.below ba
        have XBn := XB.below ba
        have XEn := XE.below ba
        have XCn := XC.below ba
        have X2n := X2.below ba
        have BGn := BG.below ba BG.lt
        have bn := Blk.new V6 24 #[.slice none 0 0]
        have X1n := VB.mk (B := w.heap.size) (a := 0) bn (.inr (Own.nil _ _ _ _ (Nat.zero_le _))) ba WW.size WW.size
        have WWn := WW.trans (ba.mono WW.size)
        have sn : V6.heap.size < (V6.alloc (.cells #[.slice none 0 0] 24)).heap.size := bn.lt
        refine hK.out _ _ (⟨XAn.cell, XBn.cell, XEn.cell⟩) (fun hHeld2 => ?_)
        clear hK K hHeld
        (try simp only [oq7_5_8, Act.put, List.setIfInBounds_toArray, List.set_cons_zero, List.set_cons_succ])
        generalize hV : V6.alloc (.cells #[.slice none 0 0] 24) = V7 at hHeld2 sn WWn XAn XBn XEn XCn X2n X1n BGn ⊢
        clear hV ba bn WW XA XB XE XC X2 BG
        have WW := WWn
        have XA := XAn
        have XB := XBn
        have XE := XEn
        have XC := XCn
        have X2 := X2n
        have X1 := X1n
        have BG := BGn
        have sz7 := sn
        have hHeld := hHeld2
        clear sn hHeld2 WWn XAn XBn XEn XCn X2n X1n BGn
        obtain ⟨gX1, hg⟩ : ∃ x, x = V6.heap.size := ⟨_, rfl⟩
        have mX1XC : w.heap.size + 1 + 1 + 1 < gX1 := by omega
        have mX1BG : V3.heap.size < gX1 := by omega
        have nX2X1 : gX2 ≠ gX1 := by omega
        rw [← hg] at X1 sz7 ⊢
        clear hg lqXC lqBG lX2
        refine AnyL_ready (rs := [3]) (by kernel_rfl) (by simp) ?_
        refine ReadyL.cons (o := oq7_5_3) rfl (fun K hK => ?_) ReadyL.nil
        delta oq7_5_3
        go_simp
        have hbs : w.heap.size ≤ V7.heap.size := WW.size
        have hc := do_mul (w.heap.size + 1 + 1 + 1) (V3.heap.size) A B' C' c d p a b m V7 XA.num XB.num XC.num hm ha_ hb_ XC.1 BG
        rw [← Hx1.out] at hc
        refine hc.mono ?_
        clear hc
        rintro e V8 ⟨v, rfl, hv, hb⟩
        replace XA := XA.below hb
        replace XB := XB.below hb
        replace XE := XE.below hb
        replace XC := XC.below hb
        replace X2 := X2.below hb
        replace X1 := X1.below hb
        replace BG := BG.below hb BG.lt
        replace WW := WW.trans (hb.mono WW.size)
        have sz8 := hb.size
        obtain ⟨D1, d1, rfl, ho⟩ := hv
        have O1 := ho.weak (b := w.heap.size) hbs
        clear ho
        clear hb hbs
        refine hK.out _ _ (⟨XA.cell, XB.cell, XE.cell⟩) (fun hHeld2 => ?_)
        clear hK K hHeld
        have hHeld := hHeld2
        clear hHeld2
        (try simp only [oq7_5_3, Act.put, List.setIfInBounds_toArray, List.set_cons_zero, List.set_cons_succ])
        refine AnyL_ready (rs := [7]) (by kernel_rfl) (by simp) ?_
        refine ReadyL.cons (o := oq7_5_7) rfl (fun K hK => ?_) ReadyL.nil
        delta oq7_5_7
        go_simp
        have hbs : w.heap.size ≤ V8.heap.size := WW.size
        have hc := do_mul (w.heap.size + 1 + 1 + 1) (V3.heap.size) B' E C' d f p b e m V8 XB.num XE.num XC.num hm hb_ he_ XC.1 BG
        rw [← Hx2.out] at hc
        refine hc.mono ?_
        clear hc
        rintro e V9 ⟨v, rfl, hv, hb⟩
        replace XA := XA.below hb
        replace XB := XB.below hb
        replace XE := XE.below hb
        replace XC := XC.below hb
        replace X2 := X2.below hb
        replace X1 := X1.below hb
        replace O1 := O1.below hb (Nat.le_refl _)
        replace BG := BG.below hb BG.lt
        replace WW := WW.trans (hb.mono WW.size)
        have sz9 := hb.size
        obtain ⟨D2, d2, rfl, ho⟩ := hv
        have O2 := ho.weak (b := w.heap.size) hbs
        clear ho
        clear hb hbs
        refine hK.out _ _ (⟨XA.cell, XB.cell, XE.cell⟩) (fun hHeld2 => ?_)
        clear hK K hHeld
        have hHeld := hHeld2
        clear hHeld2
        (try simp only [oq7_5_7, Act.put, List.setIfInBounds_toArray, List.set_cons_zero, List.set_cons_succ])
        refine AnyL_ready (rs := [10]) (by kernel_rfl) (by simp) ?_
        refine ReadyL.cons (o := oq7_5_10) rfl (fun K hK => ?_) ReadyL.nil
        delta oq7_5_10
        have fz := X1.1.frozen 0
        have cz := X1.cell
        have lz := X1.lt
        go_simp
        have XAn := XA.far (p := ⟨gX1, 0, none⟩) X1.1 X1.2.2 (by simp <;> omega) (.slice D1 (nw x1) d1)
        have XBn := XB.far (p := ⟨gX1, 0, none⟩) X1.1 X1.2.2 (by simp <;> omega) (.slice D1 (nw x1) d1)
        have XEn := XE.far (p := ⟨gX1, 0, none⟩) X1.1 X1.2.2 (by simp <;> omega) (.slice D1 (nw x1) d1)
        have XCn := XC.far (p := ⟨gX1, 0, none⟩) X1.1 X1.2.2 (by simp <;> omega) (.slice D1 (nw x1) d1)
        have X2n := X2.far (p := ⟨gX1, 0, none⟩) X1.1 X1.2.2 (by simp <;> omega) (.slice D1 (nw x1) d1)
        have X1n := X1.set_ (A' := D1) (n' := (nw x1)) (c' := d1) (a' := x1) (.inr O1)
        have O1n := O1.box (p := ⟨gX1, 0, none⟩) X1.1 (by decide) (.slice D1 (nw x1) d1)
        have O2n := O2.box (p := ⟨gX1, 0, none⟩) X1.1 (by decide) (.slice D1 (nw x1) d1)
        have BGn := BG.far (p := ⟨gX1, 0, none⟩) (by simp <;> omega) (.slice D1 (nw x1) d1)
        have WWn := WW.setCell (p := ⟨gX1, 0, none⟩) (by simp <;> omega) (.slice D1 (nw x1) d1)
        refine hK.out _ _ (⟨XAn.cell, XBn.cell, XEn.cell⟩) (fun hHeld2 => ?_)
        clear hK K hHeld
        (try simp only [oq7_5_10, Act.put, List.setIfInBounds_toArray, List.set_cons_zero, List.set_cons_succ])
        generalize hV : V9.setCell ⟨gX1, 0, none⟩ (.slice D1 (nw x1) d1) = V10 at hHeld2 WWn XAn XBn XEn XCn X2n X1n O1n O2n BGn ⊢
        clear hV fz cz lz WW XA XB XE XC X2 X1 O1 O2 BG
        have WW := WWn
        have XA := XAn
        have XB := XBn
        have XE := XEn
        have XC := XCn
        have X2 := X2n
        have X1 := X1n
        have O1 := O1n
        have O2 := O2n
        have BG := BGn
        have hHeld := hHeld2
        clear hHeld2
        clear WWn XAn XBn XEn XCn X2n X1n O1n O2n BGn
        refine AnyL_ready (rs := [11]) (by kernel_rfl) (by simp) ?_
        refine ReadyL.cons (o := oq7_5_11) rfl (fun K hK => ?_) ReadyL.nil
        delta oq7_5_11
        have fz := X2.1.frozen 0
        have cz := X2.cell
        have lz := X2.lt
        go_simp
        have XAn := XA.far (p := ⟨gX2, 0, none⟩) X2.1 X2.2.2 (by simp <;> omega) (.slice D2 (nw x2) d2)
        have XBn := XB.far (p := ⟨gX2, 0, none⟩) X2.1 X2.2.2 (by simp <;> omega) (.slice D2 (nw x2) d2)
        have XEn := XE.far (p := ⟨gX2, 0, none⟩) X2.1 X2.2.2 (by simp <;> omega) (.slice D2 (nw x2) d2)
        have XCn := XC.far (p := ⟨gX2, 0, none⟩) X2.1 X2.2.2 (by simp <;> omega) (.slice D2 (nw x2) d2)
        have X1n := X1.far (p := ⟨gX2, 0, none⟩) X2.1 X2.2.2 (by simp <;> omega) (.slice D2 (nw x2) d2)
        have X2n := X2.set_ (A' := D2) (n' := (nw x2)) (c' := d2) (a' := x2) (.inr O2)
        have O1n := O1.box (p := ⟨gX2, 0, none⟩) X2.1 (by decide) (.slice D2 (nw x2) d2)
        have O2n := O2.box (p := ⟨gX2, 0, none⟩) X2.1 (by decide) (.slice D2 (nw x2) d2)
        have BGn := BG.far (p := ⟨gX2, 0, none⟩) (by simp <;> omega) (.slice D2 (nw x2) d2)
        have WWn := WW.setCell (p := ⟨gX2, 0, none⟩) (by simp <;> omega) (.slice D2 (nw x2) d2)
        refine hK.out _ _ (⟨XAn.cell, XBn.cell, XEn.cell⟩) (fun hHeld2 => ?_)
        clear hK K hHeld
        (try simp only [oq7_5_11, Act.put, List.setIfInBounds_toArray, List.set_cons_zero, List.set_cons_succ])
        generalize hV : V10.setCell ⟨gX2, 0, none⟩ (.slice D2 (nw x2) d2) = V11 at hHeld2 WWn XAn XBn XEn XCn X2n X1n O1n O2n BGn ⊢
        clear hV fz cz lz WW XA XB XE XC X2 X1 O1 O2 BG
        have WW := WWn
        have XA := XAn
        have XB := XBn
        have XE := XEn
        have XC := XCn
        have X2 := X2n
        have X1 := X1n
        have O1 := O1n
        have O2 := O2n
        have BG := BGn
        have hHeld := hHeld2
        clear hHeld2
        clear WWn XAn XBn XEn XCn X2n X1n O1n O2n BGn
        refine AnyL_done (by kernel_rfl) ?_ _
        clear hHeld
        refine NoPanic.normal ?_
        exact ⟨rfl, gX1, gX2, D1, d1, D2, d2, rfl, WW, XA, XB, XE, XC, X1, X2, O1, O2, BG, (by first | exact mX1XC | omega), (by first | exact mX1BG | omega), (by first | exact mX2XC | omega), (by first | exact mX2BG | omega), (by first | exact nX1X2 | omega)⟩
  rintro gX1 gX2 D1 d1 D2 d2 V54 ⟨WW, XA, XB, XE, XC, X1, X2, O1, O2, BG, mX1XC, mX1BG, mX2XC, mX2BG, nX1X2⟩
  have kXA := XA.cell
  have zXA := XA.lt
  have kXB := XB.cell
  have zXB := XB.lt
  have kXE := XE.cell
  have zXE := XE.lt
  have kXC := XC.cell
  have zXC := XC.lt
  have kX1 := X1.cell
  have zX1 := X1.lt
  have kX2 := X2.cell
  have zX2 := X2.lt
  have kBG := BG.cell0
  have zBG := BG.lt
  go_wp2_with fail
  have hbs : w.heap.size ≤ V54.heap.size := WW.size
  have hc := do_add (w.heap.size + 1 + 1 + 1) (V3.heap.size) A B' C' c d p a b m V54 XA.num XB.num XC.num hm ha_ hb_ XC.1 BG
  rw [← Hx3.out] at hc
  refine hc.mono ?_
  clear hc
  rintro e V55 ⟨v, rfl, hv, hb⟩
  clear kXA zXA kXB zXB kXE zXE kXC zXC kX1 zX1 kX2 zX2 kBG zBG
  replace XA := XA.below hb
  replace XB := XB.below hb
  replace XE := XE.below hb
  replace XC := XC.below hb
  replace X1 := X1.below hb
  replace X2 := X2.below hb
  replace O1 := O1.below hb (Nat.le_refl _)
  replace O2 := O2.below hb (Nat.le_refl _)
  replace BG := BG.below hb BG.lt
  replace WW := WW.trans (hb.mono WW.size)
  obtain ⟨D3, d3, rfl, ho⟩ := hv
  have O3 := ho.weak (b := w.heap.size) hbs
  clear ho
  have kXA := XA.cell
  have zXA := XA.lt
  have kXB := XB.cell
  have zXB := XB.lt
  have kXE := XE.cell
  have zXE := XE.lt
  have kXC := XC.cell
  have zXC := XC.lt
  have kX1 := X1.cell
  have zX1 := X1.lt
  have kX2 := X2.cell
  have zX2 := X2.lt
  have kBG := BG.cell0
  have zBG := BG.lt
  clear hb hbs
  go_wp2_with fail
  obtain ⟨b0, bw⟩ := boxes1 V55 (.slice D3 (nw x3) d3)
  have hbs := WW.size
  clear kXA zXA kXB zXB kXE zXE kXC zXC kX1 zX1 kX2 zX2 kBG zBG
  have qX156 := X1.lt
  have qX256 := X2.lt
  have qXC56 := XC.lt
  have qBG56 := BG.lt
  have X3 := VB.mk (B := w.heap.size) (a := x3) b0 (.inr O3) bw hbs (by omega)
  replace XA := XA.below bw
  replace XB := XB.below bw
  replace XE := XE.below bw
  replace XC := XC.below bw
  replace X1 := X1.below bw
  replace X2 := X2.below bw
  replace O1 := O1.below bw (Nat.le_refl _)
  replace O2 := O2.below bw (Nat.le_refl _)
  replace O3 := O3.below bw (Nat.le_refl _)
  replace BG := BG.below bw BG.lt
  replace WW := WW.trans (bw.mono WW.size)
  clear bw hbs b0
  generalize hV : (V55.alloc (.cells #[.slice D3 (nw x3) d3] 24)) = V56 at XA XB XE XC X1 X2 X3 O1 O2 O3 BG WW ⊢
  clear hV
  have kXA := XA.cell
  have zXA := XA.lt
  have kXB := XB.cell
  have zXB := XB.lt
  have kXE := XE.cell
  have zXE := XE.lt
  have kXC := XC.cell
  have zXC := XC.lt
  have kX1 := X1.cell
  have zX1 := X1.lt
  have kX2 := X2.cell
  have zX2 := X2.lt
  have kX3 := X3.cell
  have zX3 := X3.lt
  have kBG := BG.cell0
  have zBG := BG.lt
  try go_wp2_with fail
  have hbs : w.heap.size ≤ V56.heap.size := WW.size
  have hc := do_mul (w.heap.size + 1 + 1 + 1) (V3.heap.size) D1 E C' d1 f p x1 e m V56 X1.num XE.num XC.num hm lx1 he_ XC.1 BG
  rw [← Hx4.out] at hc
  refine hc.mono ?_
  clear hc
  rintro e V57 ⟨v, rfl, hv, hb⟩
  clear kXA zXA kXB zXB kXE zXE kXC zXC kX1 zX1 kX2 zX2 kX3 zX3 kBG zBG
  replace XA := XA.below hb
  replace XB := XB.below hb
  replace XE := XE.below hb
  replace XC := XC.below hb
  replace X1 := X1.below hb
  replace X2 := X2.below hb
  replace X3 := X3.below hb
  replace O1 := O1.below hb (Nat.le_refl _)
  replace O2 := O2.below hb (Nat.le_refl _)
  replace O3 := O3.below hb (Nat.le_refl _)
  replace BG := BG.below hb BG.lt
  replace WW := WW.trans (hb.mono WW.size)
  obtain ⟨D4, d4, rfl, ho⟩ := hv
  have O4 := ho.weak (b := w.heap.size) hbs
  clear ho
  have kXA := XA.cell
  have zXA := XA.lt
  have kXB := XB.cell
  have zXB := XB.lt
  have kXE := XE.cell
  have zXE := XE.lt
  have kXC := XC.cell
  have zXC := XC.lt
  have kX1 := X1.cell
  have zX1 := X1.lt
  have kX2 := X2.cell
  have zX2 := X2.lt
  have kX3 := X3.cell
  have zX3 := X3.lt
  have kBG := BG.cell0
  have zBG := BG.lt
  clear hb hbs
  go_wp2_with fail
  obtain ⟨b0, bw⟩ := boxes1 V57 (.slice D4 (nw x4) d4)
  have hbs := WW.size
  clear kXA zXA kXB zXB kXE zXE kXC zXC kX1 zX1 kX2 zX2 kX3 zX3 kBG zBG
  have qX158 := X1.lt
  have qX258 := X2.lt
  have qX358 := X3.lt
  have qXC58 := XC.lt
  have qBG58 := BG.lt
  have X4 := VB.mk (B := w.heap.size) (a := x4) b0 (.inr O4) bw hbs (by omega)
  replace XA := XA.below bw
  replace XB := XB.below bw
  replace XE := XE.below bw
  replace XC := XC.below bw
  replace X1 := X1.below bw
  replace X2 := X2.below bw
  replace X3 := X3.below bw
  replace O1 := O1.below bw (Nat.le_refl _)
  replace O2 := O2.below bw (Nat.le_refl _)
  replace O3 := O3.below bw (Nat.le_refl _)
  replace O4 := O4.below bw (Nat.le_refl _)
  replace BG := BG.below bw BG.lt
  replace WW := WW.trans (bw.mono WW.size)
  clear bw hbs b0
  generalize hV : (V57.alloc (.cells #[.slice D4 (nw x4) d4] 24)) = V58 at XA XB XE XC X1 X2 X3 X4 O1 O2 O3 O4 BG WW ⊢
  clear hV
  have kXA := XA.cell
  have zXA := XA.lt
  have kXB := XB.cell
  have zXB := XB.lt
  have kXE := XE.cell
  have zXE := XE.lt
  have kXC := XC.cell
  have zXC := XC.lt
  have kX1 := X1.cell
  have zX1 := X1.lt
  have kX2 := X2.cell
  have zX2 := X2.lt
  have kX3 := X3.cell
  have zX3 := X3.lt
  have kX4 := X4.cell
  have zX4 := X4.lt
  have kBG := BG.cell0
  have zBG := BG.lt
  have hbs : w.heap.size ≤ V58.heap.size := WW.size
  have hc := do_mul (w.heap.size + 1 + 1 + 1) (V3.heap.size) A D2 C' c d2 p a x2 m V58 XA.num X2.num XC.num hm ha_ lx2 XC.1 BG
  rw [H5.out] at hc
  refine hc.mono ?_
  clear hc
  rintro e V59 ⟨v, rfl, hv, hb⟩
  clear kXA zXA kXB zXB kXE zXE kXC zXC kX1 zX1 kX2 zX2 kX3 zX3 kX4 zX4 kBG zBG
  replace XA := XA.below hb
  replace XB := XB.below hb
  replace XE := XE.below hb
  replace XC := XC.below hb
  replace X1 := X1.below hb
  replace X2 := X2.below hb
  replace X3 := X3.below hb
  replace X4 := X4.below hb
  replace O1 := O1.below hb (Nat.le_refl _)
  replace O2 := O2.below hb (Nat.le_refl _)
  replace O3 := O3.below hb (Nat.le_refl _)
  replace O4 := O4.below hb (Nat.le_refl _)
  replace BG := BG.below hb BG.lt
  replace WW := WW.trans (hb.mono WW.size)
  obtain ⟨D5, d5, rfl, ho⟩ := hv
  have O5 := ho.weak (b := w.heap.size) hbs
  clear ho
  have kXA := XA.cell
  have zXA := XA.lt
  have kXB := XB.cell
  have zXB := XB.lt
  have kXE := XE.cell
  have zXE := XE.lt
  have kXC := XC.cell
  have zXC := XC.lt
  have kX1 := X1.cell
  have zX1 := X1.lt
  have kX2 := X2.cell
  have zX2 := X2.lt
  have kX3 := X3.cell
  have zX3 := X3.lt
  have kX4 := X4.cell
  have zX4 := X4.lt
  have kBG := BG.cell0
  have zBG := BG.lt
  clear hb hbs
  go_wp2_with fail
  obtain ⟨b0, bw⟩ := boxes1 V59 (.slice D5 (nw x4) d5)
  have hbs := WW.size
  clear kXA zXA kXB zXB kXE zXE kXC zXC kX1 zX1 kX2 zX2 kX3 zX3 kX4 zX4 kBG zBG
  have qX160 := X1.lt
  have qX260 := X2.lt
  have qX360 := X3.lt
  have qX460 := X4.lt
  have qXC60 := XC.lt
  have qBG60 := BG.lt
  have X5 := VB.mk (B := w.heap.size) (a := x4) b0 (.inr O5) bw hbs (by omega)
  replace XA := XA.below bw
  replace XB := XB.below bw
  replace XE := XE.below bw
  replace XC := XC.below bw
  replace X1 := X1.below bw
  replace X2 := X2.below bw
  replace X3 := X3.below bw
  replace X4 := X4.below bw
  replace O1 := O1.below bw (Nat.le_refl _)
  replace O2 := O2.below bw (Nat.le_refl _)
  replace O3 := O3.below bw (Nat.le_refl _)
  replace O4 := O4.below bw (Nat.le_refl _)
  replace O5 := O5.below bw (Nat.le_refl _)
  replace BG := BG.below bw BG.lt
  replace WW := WW.trans (bw.mono WW.size)
  clear bw hbs b0
  generalize hV : (V59.alloc (.cells #[.slice D5 (nw x4) d5] 24)) = V60 at XA XB XE XC X1 X2 X3 X4 X5 O1 O2 O3 O4 O5 BG WW ⊢
  clear hV
  have kXA := XA.cell
  have zXA := XA.lt
  have kXB := XB.cell
  have zXB := XB.lt
  have kXE := XE.cell
  have zXE := XE.lt
  have kXC := XC.cell
  have zXC := XC.lt
  have kX1 := X1.cell
  have zX1 := X1.lt
  have kX2 := X2.cell
  have zX2 := X2.lt
  have kX3 := X3.cell
  have zX3 := X3.lt
  have kX4 := X4.cell
  have zX4 := X4.lt
  have kX5 := X5.cell
  have zX5 := X5.lt
  have kBG := BG.cell0
  have zBG := BG.lt
  have hbs : w.heap.size ≤ V60.heap.size := WW.size
  have hc := do_mul (w.heap.size + 1 + 1 + 1) (V3.heap.size) D3 E C' d3 f p x3 e m V60 X3.num XE.num XC.num hm lx3 he_ XC.1 BG
  rw [← Hx6.out] at hc
  refine hc.mono ?_
  clear hc
  rintro e V61 ⟨v, rfl, hv, hb⟩
  clear kXA zXA kXB zXB kXE zXE kXC zXC kX1 zX1 kX2 zX2 kX3 zX3 kX4 zX4 kX5 zX5 kBG zBG
  replace XA := XA.below hb
  replace XB := XB.below hb
  replace XE := XE.below hb
  replace XC := XC.below hb
  replace X1 := X1.below hb
  replace X2 := X2.below hb
  replace X3 := X3.below hb
  replace X4 := X4.below hb
  replace X5 := X5.below hb
  replace O1 := O1.below hb (Nat.le_refl _)
  replace O2 := O2.below hb (Nat.le_refl _)
  replace O3 := O3.below hb (Nat.le_refl _)
  replace O4 := O4.below hb (Nat.le_refl _)
  replace O5 := O5.below hb (Nat.le_refl _)
  replace BG := BG.below hb BG.lt
  replace WW := WW.trans (hb.mono WW.size)
  obtain ⟨D6, d6, rfl, ho⟩ := hv
  have O6 := ho.weak (b := w.heap.size) hbs
  clear ho
  have kXA := XA.cell
  have zXA := XA.lt
  have kXB := XB.cell
  have zXB := XB.lt
  have kXE := XE.cell
  have zXE := XE.lt
  have kXC := XC.cell
  have zXC := XC.lt
  have kX1 := X1.cell
  have zX1 := X1.lt
  have kX2 := X2.cell
  have zX2 := X2.lt
  have kX3 := X3.cell
  have zX3 := X3.lt
  have kX4 := X4.cell
  have zX4 := X4.lt
  have kX5 := X5.cell
  have zX5 := X5.lt
  have kBG := BG.cell0
  have zBG := BG.lt
  clear hb hbs
  go_wp2_with fail
  obtain ⟨b0, bw⟩ := boxes1 V61 (.slice D6 (nw x6) d6)
  have hbs := WW.size
  clear kXA zXA kXB zXB kXE zXE kXC zXC kX1 zX1 kX2 zX2 kX3 zX3 kX4 zX4 kX5 zX5 kBG zBG
  have qX162 := X1.lt
  have qX262 := X2.lt
  have qX362 := X3.lt
  have qX462 := X4.lt
  have qX562 := X5.lt
  have qXC62 := XC.lt
  have qBG62 := BG.lt
  have X6 := VB.mk (B := w.heap.size) (a := x6) b0 (.inr O6) bw hbs (by omega)
  replace XA := XA.below bw
  replace XB := XB.below bw
  replace XE := XE.below bw
  replace XC := XC.below bw
  replace X1 := X1.below bw
  replace X2 := X2.below bw
  replace X3 := X3.below bw
  replace X4 := X4.below bw
  replace X5 := X5.below bw
  replace O1 := O1.below bw (Nat.le_refl _)
  replace O2 := O2.below bw (Nat.le_refl _)
  replace O3 := O3.below bw (Nat.le_refl _)
  replace O4 := O4.below bw (Nat.le_refl _)
  replace O5 := O5.below bw (Nat.le_refl _)
  replace O6 := O6.below bw (Nat.le_refl _)
  replace BG := BG.below bw BG.lt
  replace WW := WW.trans (bw.mono WW.size)
  clear bw hbs b0
  generalize hV : (V61.alloc (.cells #[.slice D6 (nw x6) d6] 24)) = V62 at XA XB XE XC X1 X2 X3 X4 X5 X6 O1 O2 O3 O4 O5 O6 BG WW ⊢
  clear hV
  have kXA := XA.cell
  have zXA := XA.lt
  have kXB := XB.cell
  have zXB := XB.lt
  have kXE := XE.cell
  have zXE := XE.lt
  have kXC := XC.cell
  have zXC := XC.lt
  have kX1 := X1.cell
  have zX1 := X1.lt
  have kX2 := X2.cell
  have zX2 := X2.lt
  have kX3 := X3.cell
  have zX3 := X3.lt
  have kX4 := X4.cell
  have zX4 := X4.lt
  have kX5 := X5.cell
  have zX5 := X5.lt
  have kX6 := X6.cell
  have zX6 := X6.lt
  have kBG := BG.cell0
  have zBG := BG.lt
  clear kXA zXA kXB zXB kXE zXE kXC zXC kX1 zX1 kX2 zX2 kX3 zX3 kX4 zX4 kX5 zX5 kX6 zX6 kBG zBG
  apply wp_landY (R := fun gX8 D7 d7 D8 d8 w1 => Below w.heap.size w w1 ∧ VB w.heap.size w1 (w.heap.size) A (nw a) c a ∧ VB w.heap.size w1 (w.heap.size + 1) B' (nw b) d b ∧ VB w.heap.size w1 (w.heap.size + 1 + 1) E (nw e) f e ∧ VB w.heap.size w1 (w.heap.size + 1 + 1 + 1) C' (nw m) p m ∧ VB w.heap.size w1 (gX1) D1 (nw x1) d1 x1 ∧ VB w.heap.size w1 (gX2) D2 (nw x2) d2 x2 ∧ VB w.heap.size w1 (V55.heap.size) D3 (nw x3) d3 x3 ∧ VB w.heap.size w1 (V57.heap.size) D4 (nw x4) d4 x4 ∧ VB w.heap.size w1 (V59.heap.size) D5 (nw x4) d5 x4 ∧ VB w.heap.size w1 (V61.heap.size) D6 (nw x6) d6 x6 ∧ VB w.heap.size w1 (gX8) D8 (nw x6) d8 x6 ∧ Own w1 w.heap.size D1 (nw x1) d1 x1 ∧ Own w1 w.heap.size D2 (nw x2) d2 x2 ∧ Own w1 w.heap.size D3 (nw x3) d3 x3 ∧ Own w1 w.heap.size D4 (nw x4) d4 x4 ∧ Own w1 w.heap.size D5 (nw x4) d5 x4 ∧ Own w1 w.heap.size D6 (nw x6) d6 x6 ∧ Own w1 w.heap.size D7 (nw x7) d7 x7 ∧ Own w1 w.heap.size D8 (nw x6) d8 x6 ∧ Blk w1 (V3.heap.size) 4 #[.bool true] ∧ gX1 < gX8 ∧ gX2 < gX8 ∧ V55.heap.size < gX8 ∧ V57.heap.size < gX8 ∧ V59.heap.size < gX8 ∧ V61.heap.size < gX8 ∧ w.heap.size + 1 + 1 + 1 < gX8 ∧ V3.heap.size < gX8)
  case hreg =>
    refine wp_region_noPanic ?_
    have WWd := WW.drew
    have XAd := XA.drew
    have XBd := XB.drew
    have XEd := XE.drew
    have XCd := XC.drew
    have X1d := X1.drew
    have X2d := X2.drew
    have X3d := X3.drew
    have X4d := X4.drew
    have X5d := X5.drew
    have X6d := X6.drew
    have O1d := O1.drew
    have O2d := O2.drew
    have O3d := O3.drew
    have O4d := O4.drew
    have O5d := O5.drew
    have O6d := O6.drew
    have BGd : Blk V62.drew (V3.heap.size) 4 #[.bool true] := BG
    have hst : (fun w' => w'.cell? ⟨w.heap.size, 0, none⟩ = some (.slice A (nw a) c) ∧ w'.cell? ⟨w.heap.size + 1 + 1, 0, none⟩ = some (.slice E (nw e) f) ∧ w'.cell? ⟨gX2, 0, none⟩ = some (.slice D2 (nw x2) d2)) V62.drew := ⟨XA.cell, XE.cell, X2.cell⟩
    have qq0 := X6d.lt
    refine region_L 16 (fun w' => w'.cell? ⟨w.heap.size, 0, none⟩ = some (.slice A (nw a) c) ∧ w'.cell? ⟨w.heap.size + 1 + 1, 0, none⟩ = some (.slice E (nw e) f) ∧ w'.cell? ⟨gX2, 0, none⟩ = some (.slice D2 (nw x2) d2)) (by kernel_rfl) hst (fun hHeld => ?_)
    clear hst
    generalize hV : V62.drew = U62x0 at hHeld WWd qq0 XAd XBd XEd XCd X1d X2d X3d X4d X5d X6d O1d O2d O3d O4d O5d O6d BGd ⊢
    clear hV
    have WW := WWd
    have XA := XAd
    have XB := XBd
    have XE := XEd
    have XC := XCd
    have X1 := X1d
    have X2 := X2d
    have X3 := X3d
    have X4 := X4d
    have X5 := X5d
    have X6 := X6d
    have O1 := O1d
    have O2 := O2d
    have O3 := O3d
    have O4 := O4d
    have O5 := O5d
    have O6 := O6d
    have BG := BGd
    clear WWd XAd XBd XEd XCd X1d X2d X3d X4d X5d X6d O1d O2d O3d O4d O5d O6d BGd
    refine AnyL_take (i := 0) (oi := oq7_12_0) (v := ?_) rfl (by kernel_rfl) (by kernel_rfl) (by kernel_rfl) (by kernel_rfl) (fun _ _ _ h => h) (Or.inl ⟨by rfl, ?_⟩) (by assumption) ?_
    rotate_left
    · (delta oq7_12_0; intro ws hSw; (try dsimp only at hSw); (try go_simp); (try with_reducible rfl))
    (try simp only [oq7_12_0, Act.put, List.setIfInBounds_toArray, List.set_cons_zero, List.set_cons_succ])
    refine AnyL_take (i := 1) (oi := oq7_12_1) (v := ?_) rfl (by kernel_rfl) (by kernel_rfl) (by kernel_rfl) (by kernel_rfl) (fun _ _ _ h => h) (Or.inl ⟨by rfl, ?_⟩) (by assumption) ?_
    rotate_left
    · (delta oq7_12_1; intro ws hSw; (try dsimp only at hSw); (try go_simp); (try with_reducible rfl))
    (try simp only [oq7_12_1, Act.put, List.setIfInBounds_toArray, List.set_cons_zero, List.set_cons_succ])
    refine AnyL_take (i := 2) (oi := oq7_12_2) (v := ?_) rfl (by kernel_rfl) (by kernel_rfl) (by kernel_rfl) (by kernel_rfl) (fun _ _ _ h => h) (Or.inl ⟨by rfl, ?_⟩) (by assumption) ?_
    rotate_left
    · (delta oq7_12_2; intro ws hSw; (try dsimp only at hSw); (try go_simp); (try with_reducible rfl))
    (try simp only [oq7_12_2, Act.put, List.setIfInBounds_toArray, List.set_cons_zero, List.set_cons_succ])
    refine AnyL_take (i := 3) (oi := oq7_12_3) (v := ?_) rfl (by kernel_rfl) (by kernel_rfl) (by kernel_rfl) (by kernel_rfl) (fun _ _ _ h => h) (Or.inl ⟨by rfl, ?_⟩) (by assumption) ?_
    rotate_left
    · (delta oq7_12_3; intro ws hSw; (try dsimp only at hSw); (try go_simp); (try with_reducible rfl))
    (try simp only [oq7_12_3, Act.put, List.setIfInBounds_toArray, List.set_cons_zero, List.set_cons_succ])
    refine AnyL_take (i := 5) (oi := oq7_12_5) (v := ?_) rfl (by kernel_rfl) (by kernel_rfl) (by kernel_rfl) (by kernel_rfl) (fun _ _ _ h => h) (Or.inl ⟨by rfl, ?_⟩) (by assumption) ?_
    rotate_left
    · (delta oq7_12_5; intro ws hSw; (try dsimp only at hSw); (try go_simp); (try with_reducible rfl))
    (try simp only [oq7_12_5, Act.put, List.setIfInBounds_toArray, List.set_cons_zero, List.set_cons_succ])
    refine AnyL_ready (rs := [4, 7]) (by kernel_rfl) (by simp) ?_
    refine ReadyL.cons (o := oq7_12_4) rfl (fun K hK => ?_) ?_
    · delta oq7_12_4
      go_simp
      have hbs : w.heap.size ≤ U62x0.heap.size := WW.size
      have hc := do_mul (w.heap.size + 1 + 1 + 1) (V3.heap.size) A E C' c f p a e m U62x0 XA.num XE.num XC.num hm ha_ he_ XC.1 BG
      rw [← Hx7.out] at hc
      refine hc.mono ?_
      clear hc
      rintro e V64 ⟨v, rfl, hv, hb⟩
      replace XA := XA.below hb
      replace XB := XB.below hb
      replace XE := XE.below hb
      replace XC := XC.below hb
      replace X1 := X1.below hb
      replace X2 := X2.below hb
      replace X3 := X3.below hb
      replace X4 := X4.below hb
      replace X5 := X5.below hb
      replace X6 := X6.below hb
      replace O1 := O1.below hb (Nat.le_refl _)
      replace O2 := O2.below hb (Nat.le_refl _)
      replace O3 := O3.below hb (Nat.le_refl _)
      replace O4 := O4.below hb (Nat.le_refl _)
      replace O5 := O5.below hb (Nat.le_refl _)
      replace O6 := O6.below hb (Nat.le_refl _)
      replace BG := BG.below hb BG.lt
      replace WW := WW.trans (hb.mono WW.size)
      have sz64 := hb.size
      obtain ⟨D7, d7, rfl, ho⟩ := hv
      have O7 := ho.weak (b := w.heap.size) hbs
      clear ho
      clear hb hbs
      refine hK.out _ _ (⟨XA.cell, XE.cell, X2.cell⟩) (fun hHeld2 => ?_)
      clear hK K hHeld
      have hHeld := hHeld2
      clear hHeld2
      (try simp only [oq7_12_4, Act.put, List.setIfInBounds_toArray, List.set_cons_zero, List.set_cons_succ])
      refine AnyL_ready (rs := [6, 7]) (by kernel_rfl) (by simp) ?_
      refine ReadyL.cons (o := oq7_12_6) rfl (fun K hK => ?_) ?_
      · delta oq7_12_6
        go_simp
        have hbs : w.heap.size ≤ V64.heap.size := WW.size
        have hc := do_add (w.heap.size + 1 + 1 + 1) (V3.heap.size) D7 D2 C' d7 d2 p x7 x2 m V64 O7.num X2.num XC.num hm lx7 lx2 XC.1 BG
        rw [H8.out] at hc
        refine hc.mono ?_
        clear hc
        rintro e V65 ⟨v, rfl, hv, hb⟩
        replace XA := XA.below hb
        replace XB := XB.below hb
        replace XE := XE.below hb
        replace XC := XC.below hb
        replace X1 := X1.below hb
        replace X2 := X2.below hb
        replace X3 := X3.below hb
        replace X4 := X4.below hb
        replace X5 := X5.below hb
        replace X6 := X6.below hb
        replace O1 := O1.below hb (Nat.le_refl _)
        replace O2 := O2.below hb (Nat.le_refl _)
        replace O3 := O3.below hb (Nat.le_refl _)
        replace O4 := O4.below hb (Nat.le_refl _)
        replace O5 := O5.below hb (Nat.le_refl _)
        replace O6 := O6.below hb (Nat.le_refl _)
        replace O7 := O7.below hb (Nat.le_refl _)
        replace BG := BG.below hb BG.lt
        replace WW := WW.trans (hb.mono WW.size)
        have sz65 := hb.size
        obtain ⟨D8, d8, rfl, ho⟩ := hv
        have O8 := ho.weak (b := w.heap.size) hbs
        clear ho
        clear hb hbs
        refine hK.out _ _ (⟨XA.cell, XE.cell, X2.cell⟩) (fun hHeld2 => ?_)
        clear hK K hHeld
        have hHeld := hHeld2
        clear hHeld2
        (try simp only [oq7_12_6, Act.put, List.setIfInBounds_toArray, List.set_cons_zero, List.set_cons_succ])
        refine AnyL_ready (rs := [7]) (by kernel_rfl) (by simp) ?_
        refine ReadyL.cons (o := oq7_12_7) rfl (fun K hK => ?_) ReadyL.nil
        delta oq7_12_7
        have lqX1 : gX1 < V65.heap.size := X1.lt
        have lqX2 : gX2 < V65.heap.size := X2.lt
        have lqX3 : V55.heap.size < V65.heap.size := X3.lt
        have lqX4 : V57.heap.size < V65.heap.size := X4.lt
        have lqX5 : V59.heap.size < V65.heap.size := X5.lt
        have lqX6 : V61.heap.size < V65.heap.size := X6.lt
        have lqXC : w.heap.size + 1 + 1 + 1 < V65.heap.size := XC.lt
        have lqBG : V3.heap.size < V65.heap.size := BG.lt
        go_simp
        have ba := (Below.refl V65.heap.size V65).alloc (Nat.le_refl _) (.cells #[.slice none 0 0] 24)
        have XAn := XA.below ba
        have XBn := XB.below ba
        have XEn := XE.below ba
        have XCn := XC.below ba
        have X1n := X1.below ba
        have X2n := X2.below ba
        have X3n := X3.below ba
        have X4n := X4.below ba
        have X5n := X5.below ba
        have X6n := X6.below ba
        have O1n := O1.below ba (Nat.le_refl _)
        have O2n := O2.below ba (Nat.le_refl _)
        have O3n := O3.below ba (Nat.le_refl _)
        have O4n := O4.below ba (Nat.le_refl _)
        have O5n := O5.below ba (Nat.le_refl _)
        have O6n := O6.below ba (Nat.le_refl _)
        have O7n := O7.below ba (Nat.le_refl _)
        have O8n := O8.below ba (Nat.le_refl _)
        have BGn := BG.below ba BG.lt
        have bn := Blk.new V65 24 #[.slice none 0 0]
        have X8n := VB.mk (B := w.heap.size) (a := 0) bn (.inr (Own.nil _ _ _ _ (Nat.zero_le _))) ba WW.size WW.size
        have WWn := WW.trans (ba.mono WW.size)
        have sn : V65.heap.size < (V65.alloc (.cells #[.slice none 0 0] 24)).heap.size := bn.lt
        refine hK.out _ _ (⟨XAn.cell, XEn.cell, X2n.cell⟩) (fun hHeld2 => ?_)
        clear hK K hHeld
        (try simp only [oq7_12_7, Act.put, List.setIfInBounds_toArray, List.set_cons_zero, List.set_cons_succ])
        generalize hV : V65.alloc (.cells #[.slice none 0 0] 24) = V66 at hHeld2 sn WWn XAn XBn XEn XCn X1n X2n X3n X4n X5n X6n X8n O1n O2n O3n O4n O5n O6n O7n O8n BGn ⊢
        clear hV ba bn WW XA XB XE XC X1 X2 X3 X4 X5 X6 O1 O2 O3 O4 O5 O6 O7 O8 BG
        have WW := WWn
        have XA := XAn
        have XB := XBn
        have XE := XEn
        have XC := XCn
        have X1 := X1n
        have X2 := X2n
        have X3 := X3n
        have X4 := X4n
        have X5 := X5n
        have X6 := X6n
        have X8 := X8n
        have O1 := O1n
        have O2 := O2n
        have O3 := O3n
        have O4 := O4n
        have O5 := O5n
        have O6 := O6n
        have O7 := O7n
        have O8 := O8n
        have BG := BGn
        have sz66 := sn
        have hHeld := hHeld2
        clear sn hHeld2 WWn XAn XBn XEn XCn X1n X2n X3n X4n X5n X6n X8n O1n O2n O3n O4n O5n O6n O7n O8n BGn
        obtain ⟨gX8, hg⟩ : ∃ x, x = V65.heap.size := ⟨_, rfl⟩
        have mX8X1 : gX1 < gX8 := by omega
        have mX8X2 : gX2 < gX8 := by omega
        have mX8X3 : V55.heap.size < gX8 := by omega
        have mX8X4 : V57.heap.size < gX8 := by omega
        have mX8X5 : V59.heap.size < gX8 := by omega
        have mX8X6 : V61.heap.size < gX8 := by omega
        have mX8XC : w.heap.size + 1 + 1 + 1 < gX8 := by omega
        have mX8BG : V3.heap.size < gX8 := by omega
        rw [← hg] at X8 sz66 ⊢
        clear hg lqX1 lqX2 lqX3 lqX4 lqX5 lqX6 lqXC lqBG
        refine AnyL_ready (rs := [8]) (by kernel_rfl) (by simp) ?_
        refine ReadyL.cons (o := oq7_12_8) rfl (fun K hK => ?_) ReadyL.nil
        delta oq7_12_8
        have fz := X8.1.frozen 0
        have cz := X8.cell
        have lz := X8.lt
        go_simp
        have XAn := XA.far (p := ⟨gX8, 0, none⟩) X8.1 X8.2.2 (by simp <;> omega) (.slice D8 (nw x6) d8)
        have XBn := XB.far (p := ⟨gX8, 0, none⟩) X8.1 X8.2.2 (by simp <;> omega) (.slice D8 (nw x6) d8)
        have XEn := XE.far (p := ⟨gX8, 0, none⟩) X8.1 X8.2.2 (by simp <;> omega) (.slice D8 (nw x6) d8)
        have XCn := XC.far (p := ⟨gX8, 0, none⟩) X8.1 X8.2.2 (by simp <;> omega) (.slice D8 (nw x6) d8)
        have X1n := X1.far (p := ⟨gX8, 0, none⟩) X8.1 X8.2.2 (by simp <;> omega) (.slice D8 (nw x6) d8)
        have X2n := X2.far (p := ⟨gX8, 0, none⟩) X8.1 X8.2.2 (by simp <;> omega) (.slice D8 (nw x6) d8)
        have X3n := X3.far (p := ⟨gX8, 0, none⟩) X8.1 X8.2.2 (by simp <;> omega) (.slice D8 (nw x6) d8)
        have X4n := X4.far (p := ⟨gX8, 0, none⟩) X8.1 X8.2.2 (by simp <;> omega) (.slice D8 (nw x6) d8)
        have X5n := X5.far (p := ⟨gX8, 0, none⟩) X8.1 X8.2.2 (by simp <;> omega) (.slice D8 (nw x6) d8)
        have X6n := X6.far (p := ⟨gX8, 0, none⟩) X8.1 X8.2.2 (by simp <;> omega) (.slice D8 (nw x6) d8)
        have X8n := X8.set_ (A' := D8) (n' := (nw x6)) (c' := d8) (a' := x6) (.inr O8)
        have O1n := O1.box (p := ⟨gX8, 0, none⟩) X8.1 (by decide) (.slice D8 (nw x6) d8)
        have O2n := O2.box (p := ⟨gX8, 0, none⟩) X8.1 (by decide) (.slice D8 (nw x6) d8)
        have O3n := O3.box (p := ⟨gX8, 0, none⟩) X8.1 (by decide) (.slice D8 (nw x6) d8)
        have O4n := O4.box (p := ⟨gX8, 0, none⟩) X8.1 (by decide) (.slice D8 (nw x6) d8)
        have O5n := O5.box (p := ⟨gX8, 0, none⟩) X8.1 (by decide) (.slice D8 (nw x6) d8)
        have O6n := O6.box (p := ⟨gX8, 0, none⟩) X8.1 (by decide) (.slice D8 (nw x6) d8)
        have O7n := O7.box (p := ⟨gX8, 0, none⟩) X8.1 (by decide) (.slice D8 (nw x6) d8)
        have O8n := O8.box (p := ⟨gX8, 0, none⟩) X8.1 (by decide) (.slice D8 (nw x6) d8)
        have BGn := BG.far (p := ⟨gX8, 0, none⟩) (by simp <;> omega) (.slice D8 (nw x6) d8)
        have WWn := WW.setCell (p := ⟨gX8, 0, none⟩) (by simp <;> omega) (.slice D8 (nw x6) d8)
        refine hK.out _ _ (⟨XAn.cell, XEn.cell, X2n.cell⟩) (fun hHeld2 => ?_)
        clear hK K hHeld
        (try simp only [oq7_12_8, Act.put, List.setIfInBounds_toArray, List.set_cons_zero, List.set_cons_succ])
        generalize hV : V66.setCell ⟨gX8, 0, none⟩ (.slice D8 (nw x6) d8) = V67 at hHeld2 WWn XAn XBn XEn XCn X1n X2n X3n X4n X5n X6n X8n O1n O2n O3n O4n O5n O6n O7n O8n BGn ⊢
        clear hV fz cz lz WW XA XB XE XC X1 X2 X3 X4 X5 X6 X8 O1 O2 O3 O4 O5 O6 O7 O8 BG
        have WW := WWn
        have XA := XAn
        have XB := XBn
        have XE := XEn
        have XC := XCn
        have X1 := X1n
        have X2 := X2n
        have X3 := X3n
        have X4 := X4n
        have X5 := X5n
        have X6 := X6n
        have X8 := X8n
        have O1 := O1n
        have O2 := O2n
        have O3 := O3n
        have O4 := O4n
        have O5 := O5n
        have O6 := O6n
        have O7 := O7n
        have O8 := O8n
        have BG := BGn
        have hHeld := hHeld2
        clear hHeld2
        clear WWn XAn XBn XEn XCn X1n X2n X3n X4n X5n X6n X8n O1n O2n O3n O4n O5n O6n O7n O8n BGn
        refine AnyL_done (by kernel_rfl) ?_ _
        clear hHeld
        refine NoPanic.normal ?_
        exact ⟨rfl, gX8, D7, d7, D8, d8, rfl, WW, XA, XB, XE, XC, X1, X2, X3, X4, X5, X6, X8, O1, O2, O3, O4, O5, O6, O7, O8, BG, (by first | exact mX8X1 | omega), (by first | exact mX8X2 | omega), (by first | exact mX8X3 | omega), (by first | exact mX8X4 | omega), (by first | exact mX8X5 | omega), (by first | exact mX8X6 | omega), (by first | exact mX8XC | omega), (by first | exact mX8BG | omega)⟩
      refine ReadyL.cons (o := oq7_12_7) rfl (fun K hK => ?_) ReadyL.nil
      · delta oq7_12_7
        have lqX1 : gX1 < V64.heap.size := X1.lt
        have lqX2 : gX2 < V64.heap.size := X2.lt
        have lqX3 : V55.heap.size < V64.heap.size := X3.lt
        have lqX4 : V57.heap.size < V64.heap.size := X4.lt
        have lqX5 : V59.heap.size < V64.heap.size := X5.lt
        have lqX6 : V61.heap.size < V64.heap.size := X6.lt
        have lqXC : w.heap.size + 1 + 1 + 1 < V64.heap.size := XC.lt
        have lqBG : V3.heap.size < V64.heap.size := BG.lt
        go_simp
        have ba := (Below.refl V64.heap.size V64).alloc (Nat.le_refl _) (.cells #[.slice none 0 0] 24)
        have XAn := XA.below ba
        have XBn := XB.below ba
        have XEn := XE.below ba
        have XCn := XC.below ba
        have X1n := X1.below ba
        have X2n := X2.below ba
        have X3n := X3.below ba
        have X4n := X4.below ba
        have X5n := X5.below ba
        have X6n := X6.below ba
        have O1n := O1.below ba (Nat.le_refl _)
        have O2n := O2.below ba (Nat.le_refl _)
        have O3n := O3.below ba (Nat.le_refl _)
        have O4n := O4.below ba (Nat.le_refl _)
        have O5n := O5.below ba (Nat.le_refl _)
        have O6n := O6.below ba (Nat.le_refl _)
        have O7n := O7.below ba (Nat.le_refl _)
        have BGn := BG.below ba BG.lt
        have bn := Blk.new V64 24 #[.slice none 0 0]
        have X8n := VB.mk (B := w.heap.size) (a := 0) bn (.inr (Own.nil _ _ _ _ (Nat.zero_le _))) ba WW.size WW.size
        have WWn := WW.trans (ba.mono WW.size)
        have sn : V64.heap.size < (V64.alloc (.cells #[.slice none 0 0] 24)).heap.size := bn.lt
        refine hK.out _ _ (⟨XAn.cell, XEn.cell, X2n.cell⟩) (fun hHeld2 => ?_)
        clear hK K hHeld
        (try simp only [oq7_12_7, Act.put, List.setIfInBounds_toArray, List.set_cons_zero, List.set_cons_succ])
        generalize hV : V64.alloc (.cells #[.slice none 0 0] 24) = V65 at hHeld2 sn WWn XAn XBn XEn XCn X1n X2n X3n X4n X5n X6n X8n O1n O2n O3n O4n O5n O6n O7n BGn ⊢
        clear hV ba bn WW XA XB XE XC X1 X2 X3 X4 X5 X6 O1 O2 O3 O4 O5 O6 O7 BG
        have WW := WWn
        have XA := XAn
        have XB := XBn
        have XE := XEn
        have XC := XCn
        have X1 := X1n
        have X2 := X2n
        have X3 := X3n
        have X4 := X4n
        have X5 := X5n
        have X6 := X6n
        have X8 := X8n
        have O1 := O1n
        have O2 := O2n
        have O3 := O3n
        have O4 := O4n
        have O5 := O5n
        have O6 := O6n
        have O7 := O7n
        have BG := BGn
        have sz65 := sn
        have hHeld := hHeld2
        clear sn hHeld2 WWn XAn XBn XEn XCn X1n X2n X3n X4n X5n X6n X8n O1n O2n O3n O4n O5n O6n O7n BGn
        obtain ⟨gX8, hg⟩ : ∃ x, x = V64.heap.size := ⟨_, rfl⟩
        have mX8X1 : gX1 < gX8 := by omega
        have mX8X2 : gX2 < gX8 := by omega
        have mX8X3 : V55.heap.size < gX8 := by omega
        have mX8X4 : V57.heap.size < gX8 := by omega
        have mX8X5 : V59.heap.size < gX8 := by omega
        have mX8X6 : V61.heap.size < gX8 := by omega
        have mX8XC : w.heap.size + 1 + 1 + 1 < gX8 := by omega
        have mX8BG : V3.heap.size < gX8 := by omega
        rw [← hg] at X8 sz65 ⊢
        clear hg lqX1 lqX2 lqX3 lqX4 lqX5 lqX6 lqXC lqBG
        refine AnyL_ready (rs := [6]) (by kernel_rfl) (by simp) ?_
        refine ReadyL.cons (o := oq7_12_6) rfl (fun K hK => ?_) ReadyL.nil
        delta oq7_12_6
        go_simp
        have hbs : w.heap.size ≤ V65.heap.size := WW.size
        have hc := do_add (w.heap.size + 1 + 1 + 1) (V3.heap.size) D7 D2 C' d7 d2 p x7 x2 m V65 O7.num X2.num XC.num hm lx7 lx2 XC.1 BG
        rw [H8.out] at hc
        refine hc.mono ?_
        clear hc
        rintro e V66 ⟨v, rfl, hv, hb⟩
        replace XA := XA.below hb
        replace XB := XB.below hb
        replace XE := XE.below hb
        replace XC := XC.below hb
        replace X1 := X1.below hb
        replace X2 := X2.below hb
        replace X3 := X3.below hb
        replace X4 := X4.below hb
        replace X5 := X5.below hb
        replace X6 := X6.below hb
        replace X8 := X8.below hb
        replace O1 := O1.below hb (Nat.le_refl _)
        replace O2 := O2.below hb (Nat.le_refl _)
        replace O3 := O3.below hb (Nat.le_refl _)
        replace O4 := O4.below hb (Nat.le_refl _)
        replace O5 := O5.below hb (Nat.le_refl _)
        replace O6 := O6.below hb (Nat.le_refl _)
        replace O7 := O7.below hb (Nat.le_refl _)
        replace BG := BG.below hb BG.lt
        replace WW := WW.trans (hb.mono WW.size)
        have sz66 := hb.size
        obtain ⟨D8, d8, rfl, ho⟩ := hv
        have O8 := ho.weak (b := w.heap.size) hbs
        clear ho
        clear hb hbs
        refine hK.out _ _ (⟨XA.cell, XE.cell, X2.cell⟩) (fun hHeld2 => ?_)
        clear hK K hHeld
        have hHeld := hHeld2
        clear hHeld2
        (try simp only [oq7_12_6, Act.put, List.setIfInBounds_toArray, List.set_cons_zero, List.set_cons_succ])
        refine AnyL_ready (rs := [8]) (by kernel_rfl) (by simp) ?_
        refine ReadyL.cons (o := oq7_12_8) rfl (fun K hK => ?_) ReadyL.nil
        delta oq7_12_8
        have fz := X8.1.frozen 0
        have cz := X8.cell
        have lz := X8.lt
        go_simp
        have XAn := XA.far (p := ⟨gX8, 0, none⟩) X8.1 X8.2.2 (by simp <;> omega) (.slice D8 (nw x6) d8)
        have XBn := XB.far (p := ⟨gX8, 0, none⟩) X8.1 X8.2.2 (by simp <;> omega) (.slice D8 (nw x6) d8)
        have XEn := XE.far (p := ⟨gX8, 0, none⟩) X8.1 X8.2.2 (by simp <;> omega) (.slice D8 (nw x6) d8)
        have XCn := XC.far (p := ⟨gX8, 0, none⟩) X8.1 X8.2.2 (by simp <;> omega) (.slice D8 (nw x6) d8)
        have X1n := X1.far (p := ⟨gX8, 0, none⟩) X8.1 X8.2.2 (by simp <;> omega) (.slice D8 (nw x6) d8)
        have X2n := X2.far (p := ⟨gX8, 0, none⟩) X8.1 X8.2.2 (by simp <;> omega) (.slice D8 (nw x6) d8)
        have X3n := X3.far (p := ⟨gX8, 0, none⟩) X8.1 X8.2.2 (by simp <;> omega) (.slice D8 (nw x6) d8)
        have X4n := X4.far (p := ⟨gX8, 0, none⟩) X8.1 X8.2.2 (by simp <;> omega) (.slice D8 (nw x6) d8)
        have X5n := X5.far (p := ⟨gX8, 0, none⟩) X8.1 X8.2.2 (by simp <;> omega) (.slice D8 (nw x6) d8)
        have X6n := X6.far (p := ⟨gX8, 0, none⟩) X8.1 X8.2.2 (by simp <;> omega) (.slice D8 (nw x6) d8)
        have X8n := X8.set_ (A' := D8) (n' := (nw x6)) (c' := d8) (a' := x6) (.inr O8)
        have O1n := O1.box (p := ⟨gX8, 0, none⟩) X8.1 (by decide) (.slice D8 (nw x6) d8)
        have O2n := O2.box (p := ⟨gX8, 0, none⟩) X8.1 (by decide) (.slice D8 (nw x6) d8)
        have O3n := O3.box (p := ⟨gX8, 0, none⟩) X8.1 (by decide) (.slice D8 (nw x6) d8)
        have O4n := O4.box (p := ⟨gX8, 0, none⟩) X8.1 (by decide) (.slice D8 (nw x6) d8)
        have O5n := O5.box (p := ⟨gX8, 0, none⟩) X8.1 (by decide) (.slice D8 (nw x6) d8)
        have O6n := O6.box (p := ⟨gX8, 0, none⟩) X8.1 (by decide) (.slice D8 (nw x6) d8)
        have O7n := O7.box (p := ⟨gX8, 0, none⟩) X8.1 (by decide) (.slice D8 (nw x6) d8)
        have O8n := O8.box (p := ⟨gX8, 0, none⟩) X8.1 (by decide) (.slice D8 (nw x6) d8)
        have BGn := BG.far (p := ⟨gX8, 0, none⟩) (by simp <;> omega) (.slice D8 (nw x6) d8)
        have WWn := WW.setCell (p := ⟨gX8, 0, none⟩) (by simp <;> omega) (.slice D8 (nw x6) d8)
        refine hK.out _ _ (⟨XAn.cell, XEn.cell, X2n.cell⟩) (fun hHeld2 => ?_)
        clear hK K hHeld
        (try simp only [oq7_12_8, Act.put, List.setIfInBounds_toArray, List.set_cons_zero, List.set_cons_succ])
        generalize hV : V66.setCell ⟨gX8, 0, none⟩ (.slice D8 (nw x6) d8) = V67 at hHeld2 WWn XAn XBn XEn XCn X1n X2n X3n X4n X5n X6n X8n O1n O2n O3n O4n O5n O6n O7n O8n BGn ⊢
        clear hV fz cz lz WW XA XB XE XC X1 X2 X3 X4 X5 X6 X8 O1 O2 O3 O4 O5 O6 O7 O8 BG
        have WW := WWn
        have XA := XAn
        have XB := XBn
        have XE := XEn
        have XC := XCn
        have X1 := X1n
        have X2 := X2n
        have X3 := X3n
        have X4 := X4n
        have X5 := X5n
        have X6 := X6n
        have X8 := X8n
        have O1 := O1n
        have O2 := O2n
        have O3 := O3n
        have O4 := O4n
        have O5 := O5n
        have O6 := O6n
        have O7 := O7n
        have O8 := O8n
        have BG := BGn
        have hHeld := hHeld2
        clear hHeld2
        clear WWn XAn XBn XEn XCn X1n X2n X3n X4n X5n X6n X8n O1n O2n O3n O4n O5n O6n O7n O8n BGn
        refine AnyL_done (by kernel_rfl) ?_ _
        clear hHeld
        refine NoPanic.normal ?_
        exact ⟨rfl, gX8, D7, d7, D8, d8, rfl, WW, XA, XB, XE, XC, X1, X2, X3, X4, X5, X6, X8, O1, O2, O3, O4, O5, O6, O7, O8, BG, (by first | exact mX8X1 | omega), (by first | exact mX8X2 | omega), (by first | exact mX8X3 | omega), (by first | exact mX8X4 | omega), (by first | exact mX8X5 | omega), (by first | exact mX8X6 | omega), (by first | exact mX8XC | omega), (by first | exact mX8BG | omega)⟩
    refine ReadyL.cons (o := oq7_12_7) rfl (fun K hK => ?_) ReadyL.nil
    · delta oq7_12_7
      have lqX1 : gX1 < U62x0.heap.size := X1.lt
      have lqX2 : gX2 < U62x0.heap.size := X2.lt
      have lqX3 : V55.heap.size < U62x0.heap.size := X3.lt
      have lqX4 : V57.heap.size < U62x0.heap.size := X4.lt
      have lqX5 : V59.heap.size < U62x0.heap.size := X5.lt
      have lqX6 : V61.heap.size < U62x0.heap.size := X6.lt
      have lqXC : w.heap.size + 1 + 1 + 1 < U62x0.heap.size := XC.lt
      have lqBG : V3.heap.size < U62x0.heap.size := BG.lt
      go_simp
      have ba := (Below.refl U62x0.heap.size U62x0).alloc (Nat.le_refl _) (.cells #[.slice none 0 0] 24)
      have XAn := XA.below ba
      have XBn := XB.below ba
      have XEn := XE.below ba
      have XCn := XC.below ba
      have X1n := X1.below ba
      have X2n := X2.below ba
      have X3n := X3.below ba
      have X4n := X4.below ba
      have X5n := X5.below ba
      have X6n := X6.below ba
      have O1n := O1.below ba (Nat.le_refl _)
      have O2n := O2.below ba (Nat.le_refl _)
      have O3n := O3.below ba (Nat.le_refl _)
      have O4n := O4.below ba (Nat.le_refl _)
      have O5n := O5.below ba (Nat.le_refl _)
      have O6n := O6.below ba (Nat.le_refl _)
      have BGn := BG.below ba BG.lt
      have bn := Blk.new U62x0 24 #[.slice none 0 0]
      have X8n := VB.mk (B := w.heap.size) (a := 0) bn (.inr (Own.nil _ _ _ _ (Nat.zero_le _))) ba WW.size WW.size
      have WWn := WW.trans (ba.mono WW.size)
      have sn : U62x0.heap.size < (U62x0.alloc (.cells #[.slice none 0 0] 24)).heap.size := bn.lt
      refine hK.out _ _ (⟨XAn.cell, XEn.cell, X2n.cell⟩) (fun hHeld2 => ?_)
      clear hK K hHeld
      (try simp only [oq7_12_7, Act.put, List.setIfInBounds_toArray, List.set_cons_zero, List.set_cons_succ])
      generalize hV : U62x0.alloc (.cells #[.slice none 0 0] 24) = V64 at hHeld2 sn WWn XAn XBn XEn XCn X1n X2n X3n X4n X5n X6n X8n O1n O2n O3n O4n O5n O6n BGn ⊢
      clear hV ba bn WW XA XB XE XC X1 X2 X3 X4 X5 X6 O1 O2 O3 O4 O5 O6 BG
      have WW := WWn
      have XA := XAn
      have XB := XBn
      have XE := XEn
      have XC := XCn
      have X1 := X1n
      have X2 := X2n
      have X3 := X3n
      have X4 := X4n
      have X5 := X5n
      have X6 := X6n
      have X8 := X8n
      have O1 := O1n
      have O2 := O2n
      have O3 := O3n
      have O4 := O4n
      have O5 := O5n
      have O6 := O6n
      have BG := BGn
      have sz64 := sn
      have hHeld := hHeld2
      clear sn hHeld2 WWn XAn XBn XEn XCn X1n X2n X3n X4n X5n X6n X8n O1n O2n O3n O4n O5n O6n BGn
      obtain ⟨gX8, hg⟩ : ∃ x, x = U62x0.heap.size := ⟨_, rfl⟩
      have mX8X1 : gX1 < gX8 := by omega
      have mX8X2 : gX2 < gX8 := by omega
      have mX8X3 : V55.heap.size < gX8 := by omega
      have mX8X4 : V57.heap.size < gX8 := by omega
      have mX8X5 : V59.heap.size < gX8 := by omega
      have mX8X6 : V61.heap.size < gX8 := by omega
      have mX8XC : w.heap.size + 1 + 1 + 1 < gX8 := by omega
      have mX8BG : V3.heap.size < gX8 := by omega
      rw [← hg] at X8 sz64 ⊢
      clear hg lqX1 lqX2 lqX3 lqX4 lqX5 lqX6 lqXC lqBG
      refine AnyL_ready (rs := [4]) (by kernel_rfl) (by simp) ?_
      refine ReadyL.cons (o := oq7_12_4) rfl (fun K hK => ?_) ReadyL.nil
      delta oq7_12_4
      go_simp
      have hbs : w.heap.size ≤ V64.heap.size := WW.size
      have hc := do_mul (w.heap.size + 1 + 1 + 1) (V3.heap.size) A E C' c f p a e m V64 XA.num XE.num XC.num hm ha_ he_ XC.1 BG
      rw [← Hx7.out] at hc
      refine hc.mono ?_
      clear hc
      rintro e V65 ⟨v, rfl, hv, hb⟩
      replace XA := XA.below hb
      replace XB := XB.below hb
      replace XE := XE.below hb
      replace XC := XC.below hb
      replace X1 := X1.below hb
      replace X2 := X2.below hb
      replace X3 := X3.below hb
      replace X4 := X4.below hb
      replace X5 := X5.below hb
      replace X6 := X6.below hb
      replace X8 := X8.below hb
      replace O1 := O1.below hb (Nat.le_refl _)
      replace O2 := O2.below hb (Nat.le_refl _)
      replace O3 := O3.below hb (Nat.le_refl _)
      replace O4 := O4.below hb (Nat.le_refl _)
      replace O5 := O5.below hb (Nat.le_refl _)
      replace O6 := O6.below hb (Nat.le_refl _)
      replace BG := BG.below hb BG.lt
      replace WW := WW.trans (hb.mono WW.size)
      have sz65 := hb.size
      obtain ⟨D7, d7, rfl, ho⟩ := hv
      have O7 := ho.weak (b := w.heap.size) hbs
      clear ho
      clear hb hbs
      refine hK.out _ _ (⟨XA.cell, XE.cell, X2.cell⟩) (fun hHeld2 => ?_)
      clear hK K hHeld
      have hHeld := hHeld2
      clear hHeld2
      (try simp only [oq7_12_4, Act.put, List.setIfInBounds_toArray, List.set_cons_zero, List.set_cons_succ])
      refine AnyL_ready (rs := [6]) (by kernel_rfl) (by simp) ?_
      refine ReadyL.cons (o := oq7_12_6) rfl (fun K hK => ?_) ReadyL.nil
      delta oq7_12_6
      go_simp
      have hbs : w.heap.size ≤ V65.heap.size := WW.size
      have hc := do_add (w.heap.size + 1 + 1 + 1) (V3.heap.size) D7 D2 C' d7 d2 p x7 x2 m V65 O7.num X2.num XC.num hm lx7 lx2 XC.1 BG
      rw [H8.out] at hc
      refine hc.mono ?_
      clear hc
      rintro e V66 ⟨v, rfl, hv, hb⟩
      replace XA := XA.below hb
      replace XB := XB.below hb
      replace XE := XE.below hb
      replace XC := XC.below hb
      replace X1 := X1.below hb
      replace X2 := X2.below hb
      replace X3 := X3.below hb
      replace X4 := X4.below hb
      replace X5 := X5.below hb
      replace X6 := X6.below hb
      replace X8 := X8.below hb
      replace O1 := O1.below hb (Nat.le_refl _)
      replace O2 := O2.below hb (Nat.le_refl _)
      replace O3 := O3.below hb (Nat.le_refl _)
      replace O4 := O4.below hb (Nat.le_refl _)
      replace O5 := O5.below hb (Nat.le_refl _)
      replace O6 := O6.below hb (Nat.le_refl _)
      replace O7 := O7.below hb (Nat.le_refl _)
      replace BG := BG.below hb BG.lt
      replace WW := WW.trans (hb.mono WW.size)
      have sz66 := hb.size
      obtain ⟨D8, d8, rfl, ho⟩ := hv
      have O8 := ho.weak (b := w.heap.size) hbs
      clear ho
      clear hb hbs
      refine hK.out _ _ (⟨XA.cell, XE.cell, X2.cell⟩) (fun hHeld2 => ?_)
      clear hK K hHeld
      have hHeld := hHeld2
      clear hHeld2
      (try simp only [oq7_12_6, Act.put, List.setIfInBounds_toArray, List.set_cons_zero, List.set_cons_succ])
      refine AnyL_ready (rs := [8]) (by kernel_rfl) (by simp) ?_
      refine ReadyL.cons (o := oq7_12_8) rfl (fun K hK => ?_) ReadyL.nil
      delta oq7_12_8
      have fz := X8.1.frozen 0
      have cz := X8.cell
      have lz := X8.lt
      go_simp
      have XAn := XA.far (p := ⟨gX8, 0, none⟩) X8.1 X8.2.2 (by simp <;> omega) (.slice D8 (nw x6) d8)
      have XBn := XB.far (p := ⟨gX8, 0, none⟩) X8.1 X8.2.2 (by simp <;> omega) (.slice D8 (nw x6) d8)
      have XEn := XE.far (p := ⟨gX8, 0, none⟩) X8.1 X8.2.2 (by simp <;> omega) (.slice D8 (nw x6) d8)
      have XCn := XC.far (p := ⟨gX8, 0, none⟩) X8.1 X8.2.2 (by simp <;> omega) (.slice D8 (nw x6) d8)
      have X1n := X1.far (p := ⟨gX8, 0, none⟩) X8.1 X8.2.2 (by simp <;> omega) (.slice D8 (nw x6) d8)
      have X2n := X2.far (p := ⟨gX8, 0, none⟩) X8.1 X8.2.2 (by simp <;> omega) (.slice D8 (nw x6) d8)
      have X3n := X3.far (p := ⟨gX8, 0, none⟩) X8.1 X8.2.2 (by simp <;> omega) (.slice D8 (nw x6) d8)
      have X4n := X4.far (p := ⟨gX8, 0, none⟩) X8.1 X8.2.2 (by simp <;> omega) (.slice D8 (nw x6) d8)
      have X5n := X5.far (p := ⟨gX8, 0, none⟩) X8.1 X8.2.2 (by simp <;> omega) (.slice D8 (nw x6) d8)
      have X6n := X6.far (p := ⟨gX8, 0, none⟩) X8.1 X8.2.2 (by simp <;> omega) (.slice D8 (nw x6) d8)
      have X8n := X8.set_ (A' := D8) (n' := (nw x6)) (c' := d8) (a' := x6) (.inr O8)
      have O1n := O1.box (p := ⟨gX8, 0, none⟩) X8.1 (by decide) (.slice D8 (nw x6) d8)
      have O2n := O2.box (p := ⟨gX8, 0, none⟩) X8.1 (by decide) (.slice D8 (nw x6) d8)
      have O3n := O3.box (p := ⟨gX8, 0, none⟩) X8.1 (by decide) (.slice D8 (nw x6) d8)
      have O4n := O4.box (p := ⟨gX8, 0, none⟩) X8.1 (by decide) (.slice D8 (nw x6) d8)
      have O5n := O5.box (p := ⟨gX8, 0, none⟩) X8.1 (by decide) (.slice D8 (nw x6) d8)
      have O6n := O6.box (p := ⟨gX8, 0, none⟩) X8.1 (by decide) (.slice D8 (nw x6) d8)
      have O7n := O7.box (p := ⟨gX8, 0, none⟩) X8.1 (by decide) (.slice D8 (nw x6) d8)
      have O8n := O8.box (p := ⟨gX8, 0, none⟩) X8.1 (by decide) (.slice D8 (nw x6) d8)
      have BGn := BG.far (p := ⟨gX8, 0, none⟩) (by simp <;> omega) (.slice D8 (nw x6) d8)
      have WWn := WW.setCell (p := ⟨gX8, 0, none⟩) (by simp <;> omega) (.slice D8 (nw x6) d8)
      refine hK.out _ _ (⟨XAn.cell, XEn.cell, X2n.cell⟩) (fun hHeld2 => ?_)
      clear hK K hHeld
      (try simp only [oq7_12_8, Act.put, List.setIfInBounds_toArray, List.set_cons_zero, List.set_cons_succ])
      generalize hV : V66.setCell ⟨gX8, 0, none⟩ (.slice D8 (nw x6) d8) = V67 at hHeld2 WWn XAn XBn XEn XCn X1n X2n X3n X4n X5n X6n X8n O1n O2n O3n O4n O5n O6n O7n O8n BGn ⊢
      clear hV fz cz lz WW XA XB XE XC X1 X2 X3 X4 X5 X6 X8 O1 O2 O3 O4 O5 O6 O7 O8 BG
      have WW := WWn
      have XA := XAn
      have XB := XBn
      have XE := XEn
      have XC := XCn
      have X1 := X1n
      have X2 := X2n
      have X3 := X3n
      have X4 := X4n
      have X5 := X5n
      have X6 := X6n
      have X8 := X8n
      have O1 := O1n
      have O2 := O2n
      have O3 := O3n
      have O4 := O4n
      have O5 := O5n
      have O6 := O6n
      have O7 := O7n
      have O8 := O8n
      have BG := BGn
      have hHeld := hHeld2
      clear hHeld2
      clear WWn XAn XBn XEn XCn X1n X2n X3n X4n X5n X6n X8n O1n O2n O3n O4n O5n O6n O7n O8n BGn
      refine AnyL_done (by kernel_rfl) ?_ _
      clear hHeld
      refine NoPanic.normal ?_
      exact ⟨rfl, gX8, D7, d7, D8, d8, rfl, WW, XA, XB, XE, XC, X1, X2, X3, X4, X5, X6, X8, O1, O2, O3, O4, O5, O6, O7, O8, BG, (by first | exact mX8X1 | omega), (by first | exact mX8X2 | omega), (by first | exact mX8X3 | omega), (by first | exact mX8X4 | omega), (by first | exact mX8X5 | omega), (by first | exact mX8X6 | omega), (by first | exact mX8XC | omega), (by first | exact mX8BG | omega)⟩
  rintro gX8 D7 d7 D8 d8 V112 ⟨WW, XA, XB, XE, XC, X1, X2, X3, X4, X5, X6, X8, O1, O2, O3, O4, O5, O6, O7, O8, BG, mX8X1, mX8X2, mX8X3, mX8X4, mX8X5, mX8X6, mX8XC, mX8BG⟩
  have kXA := XA.cell
  have zXA := XA.lt
  have kXB := XB.cell
  have zXB := XB.lt
  have kXE := XE.cell
  have zXE := XE.lt
  have kXC := XC.cell
  have zXC := XC.lt
  have kX1 := X1.cell
  have zX1 := X1.lt
  have kX2 := X2.cell
  have zX2 := X2.lt
  have kX3 := X3.cell
  have zX3 := X3.lt
  have kX4 := X4.cell
  have zX4 := X4.lt
  have kX5 := X5.cell
  have zX5 := X5.lt
  have kX6 := X6.cell
  have zX6 := X6.lt
  have kX8 := X8.cell
  have zX8 := X8.lt
  have kBG := BG.cell0
  have zBG := BG.lt
  go_wp2_with fail
  have hbs : w.heap.size ≤ V112.heap.size := WW.size
  have hc := do_sub (w.heap.size + 1 + 1 + 1) (V3.heap.size) D3 B' C' d3 d p x3 b m V112 X3.num XB.num XC.num hm lx3 hb_ XC.1 BG
  rw [H9.out] at hc
  refine hc.mono ?_
  clear hc
  rintro e V113 ⟨v, rfl, hv, hb⟩
  clear kXA zXA kXB zXB kXE zXE kXC zXC kX1 zX1 kX2 zX2 kX3 zX3 kX4 zX4 kX5 zX5 kX6 zX6 kX8 zX8 kBG zBG
  replace XA := XA.below hb
  replace XB := XB.below hb
  replace XE := XE.below hb
  replace XC := XC.below hb
  replace X1 := X1.below hb
  replace X2 := X2.below hb
  replace X3 := X3.below hb
  replace X4 := X4.below hb
  replace X5 := X5.below hb
  replace X6 := X6.below hb
  replace X8 := X8.below hb
  replace O1 := O1.below hb (Nat.le_refl _)
  replace O2 := O2.below hb (Nat.le_refl _)
  replace O3 := O3.below hb (Nat.le_refl _)
  replace O4 := O4.below hb (Nat.le_refl _)
  replace O5 := O5.below hb (Nat.le_refl _)
  replace O6 := O6.below hb (Nat.le_refl _)
  replace O7 := O7.below hb (Nat.le_refl _)
  replace O8 := O8.below hb (Nat.le_refl _)
  replace BG := BG.below hb BG.lt
  replace WW := WW.trans (hb.mono WW.size)
  obtain ⟨D9, d9, rfl, ho⟩ := hv
  have O9 := ho.weak (b := w.heap.size) hbs
  clear ho
  have kXA := XA.cell
  have zXA := XA.lt
  have kXB := XB.cell
  have zXB := XB.lt
  have kXE := XE.cell
  have zXE := XE.lt
  have kXC := XC.cell
  have zXC := XC.lt
  have kX1 := X1.cell
  have zX1 := X1.lt
  have kX2 := X2.cell
  have zX2 := X2.lt
  have kX3 := X3.cell
  have zX3 := X3.lt
  have kX4 := X4.cell
  have zX4 := X4.lt
  have kX5 := X5.cell
  have zX5 := X5.lt
  have kX6 := X6.cell
  have zX6 := X6.lt
  have kX8 := X8.cell
  have zX8 := X8.lt
  have kBG := BG.cell0
  have zBG := BG.lt
  clear hb hbs
  go_wp2_with fail
  obtain ⟨b0, bw⟩ := boxes1 V113 (.slice D9 (nw a) d9)
  have hbs := WW.size
  clear kXA zXA kXB zXB kXE zXE kXC zXC kX1 zX1 kX2 zX2 kX3 zX3 kX4 zX4 kX5 zX5 kX6 zX6 kX8 zX8 kBG zBG
  have qX1114 := X1.lt
  have qX2114 := X2.lt
  have qX3114 := X3.lt
  have qX4114 := X4.lt
  have qX5114 := X5.lt
  have qX6114 := X6.lt
  have qX8114 := X8.lt
  have qXC114 := XC.lt
  have qBG114 := BG.lt
  have X9 := VB.mk (B := w.heap.size) (a := a) b0 (.inr O9) bw hbs (by omega)
  replace XA := XA.below bw
  replace XB := XB.below bw
  replace XE := XE.below bw
  replace XC := XC.below bw
  replace X1 := X1.below bw
  replace X2 := X2.below bw
  replace X3 := X3.below bw
  replace X4 := X4.below bw
  replace X5 := X5.below bw
  replace X6 := X6.below bw
  replace X8 := X8.below bw
  replace O1 := O1.below bw (Nat.le_refl _)
  replace O2 := O2.below bw (Nat.le_refl _)
  replace O3 := O3.below bw (Nat.le_refl _)
  replace O4 := O4.below bw (Nat.le_refl _)
  replace O5 := O5.below bw (Nat.le_refl _)
  replace O6 := O6.below bw (Nat.le_refl _)
  replace O7 := O7.below bw (Nat.le_refl _)
  replace O8 := O8.below bw (Nat.le_refl _)
  replace O9 := O9.below bw (Nat.le_refl _)
  replace BG := BG.below bw BG.lt
  replace WW := WW.trans (bw.mono WW.size)
  clear bw hbs b0
  generalize hV : (V113.alloc (.cells #[.slice D9 (nw a) d9] 24)) = V114 at XA XB XE XC X1 X2 X3 X4 X5 X6 X8 X9 O1 O2 O3 O4 O5 O6 O7 O8 O9 BG WW ⊢
  clear hV
  have kXA := XA.cell
  have zXA := XA.lt
  have kXB := XB.cell
  have zXB := XB.lt
  have kXE := XE.cell
  have zXE := XE.lt
  have kXC := XC.cell
  have zXC := XC.lt
  have kX1 := X1.cell
  have zX1 := X1.lt
  have kX2 := X2.cell
  have zX2 := X2.lt
  have kX3 := X3.cell
  have zX3 := X3.lt
  have kX4 := X4.cell
  have zX4 := X4.lt
  have kX5 := X5.cell
  have zX5 := X5.lt
  have kX6 := X6.cell
  have zX6 := X6.lt
  have kX8 := X8.cell
  have zX8 := X8.lt
  have kX9 := X9.cell
  have zX9 := X9.lt
  have kBG := BG.cell0
  have zBG := BG.lt
  have hbs : w.heap.size ≤ V114.heap.size := WW.size
  have hc := do_sub (w.heap.size + 1 + 1 + 1) (V3.heap.size) A A C' c c p a a m V114 XA.num XA.num XC.num hm ha_ ha_ XC.1 BG
  rw [H10.out] at hc
  refine hc.mono ?_
  clear hc
  rintro e V115 ⟨v, rfl, hv, hb⟩
  clear kXA zXA kXB zXB kXE zXE kXC zXC kX1 zX1 kX2 zX2 kX3 zX3 kX4 zX4 kX5 zX5 kX6 zX6 kX8 zX8 kX9 zX9 kBG zBG
  replace XA := XA.below hb
  replace XB := XB.below hb
  replace XE := XE.below hb
  replace XC := XC.below hb
  replace X1 := X1.below hb
  replace X2 := X2.below hb
  replace X3 := X3.below hb
  replace X4 := X4.below hb
  replace X5 := X5.below hb
  replace X6 := X6.below hb
  replace X8 := X8.below hb
  replace X9 := X9.below hb
  replace O1 := O1.below hb (Nat.le_refl _)
  replace O2 := O2.below hb (Nat.le_refl _)
  replace O3 := O3.below hb (Nat.le_refl _)
  replace O4 := O4.below hb (Nat.le_refl _)
  replace O5 := O5.below hb (Nat.le_refl _)
  replace O6 := O6.below hb (Nat.le_refl _)
  replace O7 := O7.below hb (Nat.le_refl _)
  replace O8 := O8.below hb (Nat.le_refl _)
  replace O9 := O9.below hb (Nat.le_refl _)
  replace BG := BG.below hb BG.lt
  replace WW := WW.trans (hb.mono WW.size)
  obtain ⟨D10, d10, rfl, ho⟩ := hv
  have O10 := ho.weak (b := w.heap.size) hbs
  clear ho
  have kXA := XA.cell
  have zXA := XA.lt
  have kXB := XB.cell
  have zXB := XB.lt
  have kXE := XE.cell
  have zXE := XE.lt
  have kXC := XC.cell
  have zXC := XC.lt
  have kX1 := X1.cell
  have zX1 := X1.lt
  have kX2 := X2.cell
  have zX2 := X2.lt
  have kX3 := X3.cell
  have zX3 := X3.lt
  have kX4 := X4.cell
  have zX4 := X4.lt
  have kX5 := X5.cell
  have zX5 := X5.lt
  have kX6 := X6.cell
  have zX6 := X6.lt
  have kX8 := X8.cell
  have zX8 := X8.lt
  have kX9 := X9.cell
  have zX9 := X9.lt
  have kBG := BG.cell0
  have zBG := BG.lt
  clear hb hbs
  go_wp2_with fail
  obtain ⟨b0, bw⟩ := boxes1 V115 (.slice D10 (nw 0) d10)
  have hbs := WW.size
  clear kXA zXA kXB zXB kXE zXE kXC zXC kX1 zX1 kX2 zX2 kX3 zX3 kX4 zX4 kX5 zX5 kX6 zX6 kX8 zX8 kX9 zX9 kBG zBG
  have qX1116 := X1.lt
  have qX2116 := X2.lt
  have qX3116 := X3.lt
  have qX4116 := X4.lt
  have qX5116 := X5.lt
  have qX6116 := X6.lt
  have qX8116 := X8.lt
  have qX9116 := X9.lt
  have qXC116 := XC.lt
  have qBG116 := BG.lt
  have X10 := VB.mk (B := w.heap.size) (a := 0) b0 (.inr O10) bw hbs (by omega)
  replace XA := XA.below bw
  replace XB := XB.below bw
  replace XE := XE.below bw
  replace XC := XC.below bw
  replace X1 := X1.below bw
  replace X2 := X2.below bw
  replace X3 := X3.below bw
  replace X4 := X4.below bw
  replace X5 := X5.below bw
  replace X6 := X6.below bw
  replace X8 := X8.below bw
  replace X9 := X9.below bw
  replace O1 := O1.below bw (Nat.le_refl _)
  replace O2 := O2.below bw (Nat.le_refl _)
  replace O3 := O3.below bw (Nat.le_refl _)
  replace O4 := O4.below bw (Nat.le_refl _)
  replace O5 := O5.below bw (Nat.le_refl _)
  replace O6 := O6.below bw (Nat.le_refl _)
  replace O7 := O7.below bw (Nat.le_refl _)
  replace O8 := O8.below bw (Nat.le_refl _)
  replace O9 := O9.below bw (Nat.le_refl _)
  replace O10 := O10.below bw (Nat.le_refl _)
  replace BG := BG.below bw BG.lt
  replace WW := WW.trans (bw.mono WW.size)
  clear bw hbs b0
  generalize hV : (V115.alloc (.cells #[.slice D10 (nw 0) d10] 24)) = V116 at XA XB XE XC X1 X2 X3 X4 X5 X6 X8 X9 X10 O1 O2 O3 O4 O5 O6 O7 O8 O9 O10 BG WW ⊢
  clear hV
  have kXA := XA.cell
  have zXA := XA.lt
  have kXB := XB.cell
  have zXB := XB.lt
  have kXE := XE.cell
  have zXE := XE.lt
  have kXC := XC.cell
  have zXC := XC.lt
  have kX1 := X1.cell
  have zX1 := X1.lt
  have kX2 := X2.cell
  have zX2 := X2.lt
  have kX3 := X3.cell
  have zX3 := X3.lt
  have kX4 := X4.cell
  have zX4 := X4.lt
  have kX5 := X5.cell
  have zX5 := X5.lt
  have kX6 := X6.cell
  have zX6 := X6.lt
  have kX8 := X8.cell
  have zX8 := X8.lt
  have kX9 := X9.cell
  have zX9 := X9.lt
  have kX10 := X10.cell
  have zX10 := X10.lt
  have kBG := BG.cell0
  have zBG := BG.lt
  have WWd := WW.drew
  have XAd := XA.drew
  have XBd := XB.drew
  have XEd := XE.drew
  have XCd := XC.drew
  have X1d := X1.drew
  have X2d := X2.drew
  have X3d := X3.drew
  have X4d := X4.drew
  have X5d := X5.drew
  have X6d := X6.drew
  have X8d := X8.drew
  have X9d := X9.drew
  have X10d := X10.drew
  have O1d := O1.drew
  have O2d := O2.drew
  have O3d := O3.drew
  have O4d := O4.drew
  have O5d := O5.drew
  have O6d := O6.drew
  have O7d := O7.drew
  have O8d := O8.drew
  have O9d := O9.drew
  have O10d := O10.drew
  have BGd : Blk V116.drew (V3.heap.size) 4 #[.bool true] := BG
  have hst : (fun w' => w'.cell? ⟨V3.heap.size, 0, none⟩ = some (.bool true) ∧ w'.cell? ⟨w.heap.size, 0, none⟩ = some (.slice A (nw a) c) ∧ w'.cell? ⟨w.heap.size + 1, 0, none⟩ = some (.slice B' (nw b) d) ∧ w'.cell? ⟨gX1, 0, none⟩ = some (.slice D1 (nw x1) d1) ∧ w'.cell? ⟨V55.heap.size, 0, none⟩ = some (.slice D3 (nw x3) d3) ∧ w'.cell? ⟨V57.heap.size, 0, none⟩ = some (.slice D4 (nw x4) d4) ∧ w'.cell? ⟨V59.heap.size, 0, none⟩ = some (.slice D5 (nw x4) d5) ∧ w'.cell? ⟨V61.heap.size, 0, none⟩ = some (.slice D6 (nw x6) d6) ∧ w'.cell? ⟨gX8, 0, none⟩ = some (.slice D8 (nw x6) d8) ∧ w'.cell? ⟨V113.heap.size, 0, none⟩ = some (.slice D9 (nw a) d9) ∧ w'.cell? ⟨V115.heap.size, 0, none⟩ = some (.slice D10 (nw 0) d10)) V116.drew := ⟨BG.cell0, XA.cell, XB.cell, X1.cell, X3.cell, X4.cell, X5.cell, X6.cell, X8.cell, X9.cell, X10.cell⟩
  clear WW kXA zXA kXB zXB kXE zXE kXC zXC kX1 zX1 kX2 zX2 kX3 zX3 kX4 zX4 kX5 zX5 kX6 zX6 kX8 zX8 kX9 zX9 kX10 zX10 kBG zBG XA XB XE XC X1 X2 X3 X4 X5 X6 X8 X9 X10 O1 O2 O3 O4 O5 O6 O7 O8 O9 O10 BG
  have qq0 := X10d.lt
  refine region_L 49 (fun w' => w'.cell? ⟨V3.heap.size, 0, none⟩ = some (.bool true) ∧ w'.cell? ⟨w.heap.size, 0, none⟩ = some (.slice A (nw a) c) ∧ w'.cell? ⟨w.heap.size + 1, 0, none⟩ = some (.slice B' (nw b) d) ∧ w'.cell? ⟨gX1, 0, none⟩ = some (.slice D1 (nw x1) d1) ∧ w'.cell? ⟨V55.heap.size, 0, none⟩ = some (.slice D3 (nw x3) d3) ∧ w'.cell? ⟨V57.heap.size, 0, none⟩ = some (.slice D4 (nw x4) d4) ∧ w'.cell? ⟨V59.heap.size, 0, none⟩ = some (.slice D5 (nw x4) d5) ∧ w'.cell? ⟨V61.heap.size, 0, none⟩ = some (.slice D6 (nw x6) d6) ∧ w'.cell? ⟨gX8, 0, none⟩ = some (.slice D8 (nw x6) d8) ∧ w'.cell? ⟨V113.heap.size, 0, none⟩ = some (.slice D9 (nw a) d9) ∧ w'.cell? ⟨V115.heap.size, 0, none⟩ = some (.slice D10 (nw 0) d10)) (by kernel_rfl) hst (fun hHeld => ?_)
  clear hst
  generalize hV : V116.drew = U116x0 at hHeld WWd qq0 XAd XBd XEd XCd X1d X2d X3d X4d X5d X6d X8d X9d X10d O1d O2d O3d O4d O5d O6d O7d O8d O9d O10d BGd ⊢
  clear hV
  have WW := WWd
  have XA := XAd
  have XB := XBd
  have XE := XEd
  have XC := XCd
  have X1 := X1d
  have X2 := X2d
  have X3 := X3d
  have X4 := X4d
  have X5 := X5d
  have X6 := X6d
  have X8 := X8d
  have X9 := X9d
  have X10 := X10d
  have O1 := O1d
  have O2 := O2d
  have O3 := O3d
  have O4 := O4d
  have O5 := O5d
  have O6 := O6d
  have O7 := O7d
  have O8 := O8d
  have O9 := O9d
  have O10 := O10d
  have BG := BGd
  clear WWd XAd XBd XEd XCd X1d X2d X3d X4d X5d X6d X8d X9d X10d O1d O2d O3d O4d O5d O6d O7d O8d O9d O10d BGd
  refine AnyL_take (i := 0) (oi := oq7_15_0) (v := ?_) rfl (by kernel_rfl) (by kernel_rfl) (by kernel_rfl) (by kernel_rfl) (fun _ _ _ h => h) (Or.inl ⟨by rfl, ?_⟩) (by assumption) ?_
  rotate_left
  · (delta oq7_15_0; intro ws hSw; (try dsimp only at hSw); (try go_simp); (try with_reducible rfl))
  (try simp only [oq7_15_0, Act.put, List.setIfInBounds_toArray, List.set_cons_zero, List.set_cons_succ])
  refine AnyL_take (i := 1) (oi := oq7_15_1) (v := ?_) rfl (by kernel_rfl) (by kernel_rfl) (by kernel_rfl) (by kernel_rfl) (fun _ _ _ h => h) (Or.inl ⟨by rfl, ?_⟩) (by assumption) ?_
  rotate_left
  · (delta oq7_15_1; intro ws hSw; (try dsimp only at hSw); (try go_simp); (try with_reducible rfl))
  (try simp only [oq7_15_1, Act.put, List.setIfInBounds_toArray, List.set_cons_zero, List.set_cons_succ])
  refine AnyL_take (i := 2) (oi := oq7_15_2) (v := ?_) rfl (by kernel_rfl) (by kernel_rfl) (by kernel_rfl) (by kernel_rfl) (fun _ _ _ h => h) (Or.inl ⟨by rfl, ?_⟩) (by assumption) ?_
  rotate_left
  · (delta oq7_15_2; intro ws hSw; (try dsimp only at hSw); (try go_simp); (try with_reducible rfl))
  (try simp only [oq7_15_2, Act.put, List.setIfInBounds_toArray, List.set_cons_zero, List.set_cons_succ])
  refine AnyL_take (i := 3) (oi := oq7_15_3) (v := ?_) rfl (by kernel_rfl) (by kernel_rfl) (by kernel_rfl) (by kernel_rfl) (fun _ _ _ h => h) (Or.inl ⟨by rfl, ?_⟩) (by assumption) ?_
  rotate_left
  · (delta oq7_15_3; intro ws hSw; (try dsimp only at hSw); (try go_simp); (try with_reducible rfl))
  (try simp only [oq7_15_3, Act.put, List.setIfInBounds_toArray, List.set_cons_zero, List.set_cons_succ])
  refine AnyL_ready (rs := [4]) (by kernel_rfl) (by simp) ?_
  refine ReadyL.cons (o := oq7_15_4) rfl (fun K hK => ?_) ReadyL.nil
  delta oq7_15_4
  go_simp
  have hbs : w.heap.size ≤ U116x0.heap.size := WW.size
  have hc := same3_any D4 D5 _ _ d4 d5 x4 x4 U116x0 X4.num X5.num (by omega) (by omega)
  rw [sameB_yes] at hc
  refine hc.mono ?_
  clear hc
  rintro e V118 ⟨rfl, hb⟩
  replace XA := XA.below hb
  replace XB := XB.below hb
  replace XE := XE.below hb
  replace XC := XC.below hb
  replace X1 := X1.below hb
  replace X2 := X2.below hb
  replace X3 := X3.below hb
  replace X4 := X4.below hb
  replace X5 := X5.below hb
  replace X6 := X6.below hb
  replace X8 := X8.below hb
  replace X9 := X9.below hb
  replace X10 := X10.below hb
  replace O1 := O1.below hb (Nat.le_refl _)
  replace O2 := O2.below hb (Nat.le_refl _)
  replace O3 := O3.below hb (Nat.le_refl _)
  replace O4 := O4.below hb (Nat.le_refl _)
  replace O5 := O5.below hb (Nat.le_refl _)
  replace O6 := O6.below hb (Nat.le_refl _)
  replace O7 := O7.below hb (Nat.le_refl _)
  replace O8 := O8.below hb (Nat.le_refl _)
  replace O9 := O9.below hb (Nat.le_refl _)
  replace O10 := O10.below hb (Nat.le_refl _)
  replace BG := BG.below hb BG.lt
  replace WW := WW.trans (hb.mono WW.size)
  have sz118 := hb.size
  clear hb hbs
  refine hK.out _ _ (⟨BG.cell0, XA.cell, XB.cell, X1.cell, X3.cell, X4.cell, X5.cell, X6.cell, X8.cell, X9.cell, X10.cell⟩) (fun hHeld2 => ?_)
  clear hK K hHeld
  have hHeld := hHeld2
  clear hHeld2
  (try simp only [oq7_15_4, Act.put, List.setIfInBounds_toArray, List.set_cons_zero, List.set_cons_succ])
  refine AnyL_take (i := 5) (oi := oq7_15_5) (v := ?_) rfl (by kernel_rfl) (by kernel_rfl) (by kernel_rfl) (by kernel_rfl) (fun _ _ _ h => h) (Or.inl ⟨by rfl, ?_⟩) (by assumption) ?_
  rotate_left
  · (delta oq7_15_5; intro ws hSw; (try dsimp only at hSw); (try go_simp); (try with_reducible rfl))
  (try simp only [oq7_15_5, Act.put, List.setIfInBounds_toArray, List.set_cons_zero, List.set_cons_succ])
  refine AnyL_take (i := 6) (oi := oq7_15_6) (v := ?_) rfl (by kernel_rfl) (by kernel_rfl) (by kernel_rfl) (by kernel_rfl) (fun _ _ _ h => h) (Or.inl ⟨by rfl, ?_⟩) (by assumption) ?_
  rotate_left
  · (delta oq7_15_6; intro ws hSw; (try dsimp only at hSw); (try go_simp); (try with_reducible rfl))
  (try simp only [oq7_15_6, Act.put, List.setIfInBounds_toArray, List.set_cons_zero, List.set_cons_succ])
  refine AnyL_take (i := 7) (oi := oq7_15_7) (v := ?_) rfl (by kernel_rfl) (by kernel_rfl) (by kernel_rfl) (by kernel_rfl) (fun _ _ _ h => h) (Or.inl ⟨by rfl, ?_⟩) (by assumption) ?_
  rotate_left
  · (delta oq7_15_7; intro ws hSw; (try dsimp only at hSw); (try go_simp); (try with_reducible rfl))
  (try simp only [oq7_15_7, Act.put, List.setIfInBounds_toArray, List.set_cons_zero, List.set_cons_succ])
  refine AnyL_take (i := 8) (oi := oq7_15_8) (v := ?_) rfl (by kernel_rfl) (by kernel_rfl) (by kernel_rfl) (by kernel_rfl) (fun _ _ _ h => h) (Or.inl ⟨by rfl, ?_⟩) (by assumption) ?_
  rotate_left
  · (delta oq7_15_8; intro ws hSw; (try dsimp only at hSw); (try go_simp); (try with_reducible rfl))
  (try simp only [oq7_15_8, Act.put, List.setIfInBounds_toArray, List.set_cons_zero, List.set_cons_succ])
  refine AnyL_ready (rs := [9]) (by kernel_rfl) (by simp) ?_
  refine ReadyL.cons (o := oq7_15_9) rfl (fun K hK => ?_) ReadyL.nil
  delta oq7_15_9
  go_simp
  have hbs : w.heap.size ≤ V118.heap.size := WW.size
  have hc := same3_any D6 D8 _ _ d6 d8 x6 x6 V118 X6.num X8.num (by omega) (by omega)
  rw [sameB_yes] at hc
  refine hc.mono ?_
  clear hc
  rintro e V119 ⟨rfl, hb⟩
  replace XA := XA.below hb
  replace XB := XB.below hb
  replace XE := XE.below hb
  replace XC := XC.below hb
  replace X1 := X1.below hb
  replace X2 := X2.below hb
  replace X3 := X3.below hb
  replace X4 := X4.below hb
  replace X5 := X5.below hb
  replace X6 := X6.below hb
  replace X8 := X8.below hb
  replace X9 := X9.below hb
  replace X10 := X10.below hb
  replace O1 := O1.below hb (Nat.le_refl _)
  replace O2 := O2.below hb (Nat.le_refl _)
  replace O3 := O3.below hb (Nat.le_refl _)
  replace O4 := O4.below hb (Nat.le_refl _)
  replace O5 := O5.below hb (Nat.le_refl _)
  replace O6 := O6.below hb (Nat.le_refl _)
  replace O7 := O7.below hb (Nat.le_refl _)
  replace O8 := O8.below hb (Nat.le_refl _)
  replace O9 := O9.below hb (Nat.le_refl _)
  replace O10 := O10.below hb (Nat.le_refl _)
  replace BG := BG.below hb BG.lt
  replace WW := WW.trans (hb.mono WW.size)
  have sz119 := hb.size
  clear hb hbs
  refine hK.out _ _ (⟨BG.cell0, XA.cell, XB.cell, X1.cell, X3.cell, X4.cell, X5.cell, X6.cell, X8.cell, X9.cell, X10.cell⟩) (fun hHeld2 => ?_)
  clear hK K hHeld
  have hHeld := hHeld2
  clear hHeld2
  (try simp only [oq7_15_9, Act.put, List.setIfInBounds_toArray, List.set_cons_zero, List.set_cons_succ])
  refine AnyL_take (i := 10) (oi := oq7_15_10) (v := ?_) rfl (by kernel_rfl) (by kernel_rfl) (by kernel_rfl) (by kernel_rfl) (fun _ _ _ h => h) (Or.inl ⟨by rfl, ?_⟩) (by assumption) ?_
  rotate_left
  · (delta oq7_15_10; intro ws hSw; (try dsimp only at hSw); (try go_simp); (try with_reducible rfl))
  (try simp only [oq7_15_10, Act.put, List.setIfInBounds_toArray, List.set_cons_zero, List.set_cons_succ])
  refine AnyL_take (i := 11) (oi := oq7_15_11) (v := ?_) rfl (by kernel_rfl) (by kernel_rfl) (by kernel_rfl) (by kernel_rfl) (fun _ _ _ h => h) (Or.inl ⟨by rfl, ?_⟩) (by assumption) ?_
  rotate_left
  · (delta oq7_15_11; intro ws hSw; (try dsimp only at hSw); (try go_simp); (try with_reducible rfl))
  (try simp only [oq7_15_11, Act.put, List.setIfInBounds_toArray, List.set_cons_zero, List.set_cons_succ])
  refine AnyL_take (i := 12) (oi := oq7_15_12) (v := ?_) rfl (by kernel_rfl) (by kernel_rfl) (by kernel_rfl) (by kernel_rfl) (fun _ _ _ h => h) (Or.inl ⟨by rfl, ?_⟩) (by assumption) ?_
  rotate_left
  · (delta oq7_15_12; intro ws hSw; (try dsimp only at hSw); (try go_simp); (try with_reducible rfl))
  (try simp only [oq7_15_12, Act.put, List.setIfInBounds_toArray, List.set_cons_zero, List.set_cons_succ])
  refine AnyL_take (i := 13) (oi := oq7_15_13) (v := ?_) rfl (by kernel_rfl) (by kernel_rfl) (by kernel_rfl) (by kernel_rfl) (fun _ _ _ h => h) (Or.inl ⟨by rfl, ?_⟩) (by assumption) ?_
  rotate_left
  · (delta oq7_15_13; intro ws hSw; (try dsimp only at hSw); (try go_simp); (try with_reducible rfl))
  (try simp only [oq7_15_13, Act.put, List.setIfInBounds_toArray, List.set_cons_zero, List.set_cons_succ])
  refine AnyL_ready (rs := [14]) (by kernel_rfl) (by simp) ?_
  refine ReadyL.cons (o := oq7_15_14) rfl (fun K hK => ?_) ReadyL.nil
  delta oq7_15_14
  go_simp
  have hbs : w.heap.size ≤ V119.heap.size := WW.size
  have hc := same3_any D9 A _ _ d9 c a a V119 X9.num XA.num (by omega) (by omega)
  rw [sameB_yes] at hc
  refine hc.mono ?_
  clear hc
  rintro e V120 ⟨rfl, hb⟩
  replace XA := XA.below hb
  replace XB := XB.below hb
  replace XE := XE.below hb
  replace XC := XC.below hb
  replace X1 := X1.below hb
  replace X2 := X2.below hb
  replace X3 := X3.below hb
  replace X4 := X4.below hb
  replace X5 := X5.below hb
  replace X6 := X6.below hb
  replace X8 := X8.below hb
  replace X9 := X9.below hb
  replace X10 := X10.below hb
  replace O1 := O1.below hb (Nat.le_refl _)
  replace O2 := O2.below hb (Nat.le_refl _)
  replace O3 := O3.below hb (Nat.le_refl _)
  replace O4 := O4.below hb (Nat.le_refl _)
  replace O5 := O5.below hb (Nat.le_refl _)
  replace O6 := O6.below hb (Nat.le_refl _)
  replace O7 := O7.below hb (Nat.le_refl _)
  replace O8 := O8.below hb (Nat.le_refl _)
  replace O9 := O9.below hb (Nat.le_refl _)
  replace O10 := O10.below hb (Nat.le_refl _)
  replace BG := BG.below hb BG.lt
  replace WW := WW.trans (hb.mono WW.size)
  have sz120 := hb.size
  clear hb hbs
  refine hK.out _ _ (⟨BG.cell0, XA.cell, XB.cell, X1.cell, X3.cell, X4.cell, X5.cell, X6.cell, X8.cell, X9.cell, X10.cell⟩) (fun hHeld2 => ?_)
  clear hK K hHeld
  have hHeld := hHeld2
  clear hHeld2
  (try simp only [oq7_15_14, Act.put, List.setIfInBounds_toArray, List.set_cons_zero, List.set_cons_succ])
  refine AnyL_take (i := 15) (oi := oq7_15_15) (v := ?_) rfl (by kernel_rfl) (by kernel_rfl) (by kernel_rfl) (by kernel_rfl) (fun _ _ _ h => h) (Or.inl ⟨by rfl, ?_⟩) (by assumption) ?_
  rotate_left
  · (delta oq7_15_15; intro ws hSw; (try dsimp only at hSw); (try go_simp); (try with_reducible rfl))
  (try simp only [oq7_15_15, Act.put, List.setIfInBounds_toArray, List.set_cons_zero, List.set_cons_succ])
  refine AnyL_take (i := 16) (oi := oq7_15_16) (v := ?_) rfl (by kernel_rfl) (by kernel_rfl) (by kernel_rfl) (by kernel_rfl) (fun _ _ _ h => h) (Or.inl ⟨by rfl, ?_⟩) (by assumption) ?_
  rotate_left
  · (delta oq7_15_16; intro ws hSw; (try dsimp only at hSw); (try go_simp); (try with_reducible rfl))
  (try simp only [oq7_15_16, Act.put, List.setIfInBounds_toArray, List.set_cons_zero, List.set_cons_succ])
  refine AnyL_take (i := 17) (oi := oq7_15_17) (v := ?_) rfl (by kernel_rfl) (by kernel_rfl) (by kernel_rfl) (by kernel_rfl) (fun _ _ _ h => h) (Or.inl ⟨by rfl, ?_⟩) (by assumption) ?_
  rotate_left
  · (delta oq7_15_17; intro ws hSw; (try dsimp only at hSw); (try go_simp); (try with_reducible rfl))
  (try simp only [oq7_15_17, Act.put, List.setIfInBounds_toArray, List.set_cons_zero, List.set_cons_succ])
  refine AnyL_take (i := 18) (oi := oq7_15_18) (v := ?_) rfl (by kernel_rfl) (by kernel_rfl) (by kernel_rfl) (by kernel_rfl) (fun _ _ _ h => h) (Or.inl ⟨by rfl, ?_⟩) (by assumption) ?_
  rotate_left
  · (delta oq7_15_18; intro ws hSw; (try dsimp only at hSw); (try go_simp); (try with_reducible rfl))
  (try simp only [oq7_15_18, Act.put, List.setIfInBounds_toArray, List.set_cons_zero, List.set_cons_succ])
  refine AnyL_take (i := 19) (oi := oq7_15_19) (v := ?_) rfl (by kernel_rfl) (by kernel_rfl) (by kernel_rfl) (by kernel_rfl) (fun _ _ _ h => h) (Or.inl ⟨by rfl, ?_⟩) (by assumption) ?_
  rotate_left
  · (delta oq7_15_19; intro ws hSw; (try dsimp only at hSw); (try go_simp); (try with_reducible rfl))
  (try simp only [oq7_15_19, Act.put, List.setIfInBounds_toArray, List.set_cons_zero, List.set_cons_succ])
  refine AnyL_take (i := 20) (oi := oq7_15_20) (v := ?_) rfl (by kernel_rfl) (by kernel_rfl) (by kernel_rfl) (by kernel_rfl) (fun _ _ _ h => h) (Or.inl ⟨by rfl, ?_⟩) (by assumption) ?_
  rotate_left
  · (delta oq7_15_20; intro ws hSw; (try dsimp only at hSw); (try go_simp); (try with_reducible rfl))
  (try simp only [oq7_15_20, Act.put, List.setIfInBounds_toArray, List.set_cons_zero, List.set_cons_succ])
  refine AnyL_take (i := 21) (oi := oq7_15_21) (v := ?_) rfl (by kernel_rfl) (by kernel_rfl) (by kernel_rfl) (by kernel_rfl) (fun _ _ _ h => h) (Or.inl ⟨by rfl, ?_⟩) (by assumption) ?_
  rotate_left
  · (delta oq7_15_21; intro ws hSw; (try dsimp only at hSw); (try go_simp); (try with_reducible rfl))
  (try simp only [oq7_15_21, Act.put, List.setIfInBounds_toArray, List.set_cons_zero, List.set_cons_succ])
  refine AnyL_take (i := 22) (oi := oq7_15_22) (v := ?_) rfl (by kernel_rfl) (by kernel_rfl) (by kernel_rfl) (by kernel_rfl) (fun _ _ _ h => h) (Or.inl ⟨by rfl, ?_⟩) (by assumption) ?_
  rotate_left
  · (delta oq7_15_22; intro ws hSw; (try dsimp only at hSw); (try go_simp); (try with_reducible rfl))
  (try simp only [oq7_15_22, Act.put, List.setIfInBounds_toArray, List.set_cons_zero, List.set_cons_succ])
  refine AnyL_take (i := 23) (oi := oq7_15_23) (v := ?_) rfl (by kernel_rfl) (by kernel_rfl) (by kernel_rfl) (by kernel_rfl) (fun _ _ _ h => h) (Or.inl ⟨by rfl, ?_⟩) (by assumption) ?_
  rotate_left
  · (delta oq7_15_23; intro ws hSw; (try dsimp only at hSw); (try go_simp); (try with_reducible rfl))
  (try simp only [oq7_15_23, Act.put, List.setIfInBounds_toArray, List.set_cons_zero, List.set_cons_succ])
  refine AnyL_take (i := 24) (oi := oq7_15_24) (v := ?_) rfl (by kernel_rfl) (by kernel_rfl) (by kernel_rfl) (by kernel_rfl) (fun _ _ _ h => h) (Or.inl ⟨by rfl, ?_⟩) (by assumption) ?_
  rotate_left
  · (delta oq7_15_24; intro ws hSw; (try dsimp only at hSw); (try go_simp); (try with_reducible rfl))
  (try simp only [oq7_15_24, Act.put, List.setIfInBounds_toArray, List.set_cons_zero, List.set_cons_succ])
  refine AnyL_take (i := 25) (oi := oq7_15_25) (v := ?_) rfl (by kernel_rfl) (by kernel_rfl) (by kernel_rfl) (by kernel_rfl) (fun _ _ _ h => h) (Or.inl ⟨by rfl, ?_⟩) (by assumption) ?_
  rotate_left
  · (delta oq7_15_25; intro ws hSw; (try dsimp only at hSw); (try go_simp); (try with_reducible rfl))
  (try simp only [oq7_15_25, Act.put, List.setIfInBounds_toArray, List.set_cons_zero, List.set_cons_succ])
  refine AnyL_take (i := 26) (oi := oq7_15_26) (v := ?_) rfl (by kernel_rfl) (by kernel_rfl) (by kernel_rfl) (by kernel_rfl) (fun _ _ _ h => h) (Or.inl ⟨by rfl, ?_⟩) (by assumption) ?_
  rotate_left
  · (delta oq7_15_26; intro ws hSw; (try dsimp only at hSw); (try go_simp); (try with_reducible rfl))
  (try simp only [oq7_15_26, Act.put, List.setIfInBounds_toArray, List.set_cons_zero, List.set_cons_succ])
  refine AnyL_ready (rs := [27]) (by kernel_rfl) (by simp) ?_
  refine ReadyL.cons (o := oq7_15_27) rfl (fun K hK => ?_) ReadyL.nil
  delta oq7_15_27
  go_simp
  have hbs : w.heap.size ≤ V120.heap.size := WW.size
  have hc := do_mul (w.heap.size + 1 + 1 + 1) (V3.heap.size) B' A C' d c p b a m V120 XB.num XA.num XC.num hm hb_ ha_ XC.1 BG
  rw [H11.out] at hc
  refine hc.mono ?_
  clear hc
  rintro e V121 ⟨v, rfl, hv, hb⟩
  replace XA := XA.below hb
  replace XB := XB.below hb
  replace XE := XE.below hb
  replace XC := XC.below hb
  replace X1 := X1.below hb
  replace X2 := X2.below hb
  replace X3 := X3.below hb
  replace X4 := X4.below hb
  replace X5 := X5.below hb
  replace X6 := X6.below hb
  replace X8 := X8.below hb
  replace X9 := X9.below hb
  replace X10 := X10.below hb
  replace O1 := O1.below hb (Nat.le_refl _)
  replace O2 := O2.below hb (Nat.le_refl _)
  replace O3 := O3.below hb (Nat.le_refl _)
  replace O4 := O4.below hb (Nat.le_refl _)
  replace O5 := O5.below hb (Nat.le_refl _)
  replace O6 := O6.below hb (Nat.le_refl _)
  replace O7 := O7.below hb (Nat.le_refl _)
  replace O8 := O8.below hb (Nat.le_refl _)
  replace O9 := O9.below hb (Nat.le_refl _)
  replace O10 := O10.below hb (Nat.le_refl _)
  replace BG := BG.below hb BG.lt
  replace WW := WW.trans (hb.mono WW.size)
  have sz121 := hb.size
  obtain ⟨D11, d11, rfl, ho⟩ := hv
  have O11 := ho.weak (b := w.heap.size) hbs
  clear ho
  clear hb hbs
  refine hK.out _ _ (⟨BG.cell0, XA.cell, XB.cell, X1.cell, X3.cell, X4.cell, X5.cell, X6.cell, X8.cell, X9.cell, X10.cell⟩) (fun hHeld2 => ?_)
  clear hK K hHeld
  have hHeld := hHeld2
  clear hHeld2
  (try simp only [oq7_15_27, Act.put, List.setIfInBounds_toArray, List.set_cons_zero, List.set_cons_succ])
  refine AnyL_ready (rs := [28]) (by kernel_rfl) (by simp) ?_
  refine ReadyL.cons (o := oq7_15_28) rfl (fun K hK => ?_) ReadyL.nil
  delta oq7_15_28
  go_simp
  have hbs : w.heap.size ≤ V121.heap.size := WW.size
  have hc := same3_any D1 D11 _ _ d1 d11 x1 x1 V121 X1.num O11.num (by omega) (by omega)
  rw [sameB_yes] at hc
  refine hc.mono ?_
  clear hc
  rintro e V122 ⟨rfl, hb⟩
  replace XA := XA.below hb
  replace XB := XB.below hb
  replace XE := XE.below hb
  replace XC := XC.below hb
  replace X1 := X1.below hb
  replace X2 := X2.below hb
  replace X3 := X3.below hb
  replace X4 := X4.below hb
  replace X5 := X5.below hb
  replace X6 := X6.below hb
  replace X8 := X8.below hb
  replace X9 := X9.below hb
  replace X10 := X10.below hb
  replace O1 := O1.below hb (Nat.le_refl _)
  replace O2 := O2.below hb (Nat.le_refl _)
  replace O3 := O3.below hb (Nat.le_refl _)
  replace O4 := O4.below hb (Nat.le_refl _)
  replace O5 := O5.below hb (Nat.le_refl _)
  replace O6 := O6.below hb (Nat.le_refl _)
  replace O7 := O7.below hb (Nat.le_refl _)
  replace O8 := O8.below hb (Nat.le_refl _)
  replace O9 := O9.below hb (Nat.le_refl _)
  replace O10 := O10.below hb (Nat.le_refl _)
  replace O11 := O11.below hb (Nat.le_refl _)
  replace BG := BG.below hb BG.lt
  replace WW := WW.trans (hb.mono WW.size)
  have sz122 := hb.size
  clear hb hbs
  refine hK.out _ _ (⟨BG.cell0, XA.cell, XB.cell, X1.cell, X3.cell, X4.cell, X5.cell, X6.cell, X8.cell, X9.cell, X10.cell⟩) (fun hHeld2 => ?_)
  clear hK K hHeld
  have hHeld := hHeld2
  clear hHeld2
  (try simp only [oq7_15_28, Act.put, List.setIfInBounds_toArray, List.set_cons_zero, List.set_cons_succ])
  refine AnyL_take (i := 29) (oi := oq7_15_29) (v := ?_) rfl (by kernel_rfl) (by kernel_rfl) (by kernel_rfl) (by kernel_rfl) (fun _ _ _ h => h) (Or.inl ⟨by rfl, ?_⟩) (by assumption) ?_
  rotate_left
  · (delta oq7_15_29; intro ws hSw; (try dsimp only at hSw); (try go_simp); (try with_reducible rfl))
  (try simp only [oq7_15_29, Act.put, List.setIfInBounds_toArray, List.set_cons_zero, List.set_cons_succ])
  refine AnyL_take (i := 30) (oi := oq7_15_30) (v := ?_) rfl (by kernel_rfl) (by kernel_rfl) (by kernel_rfl) (by kernel_rfl) (fun _ _ _ h => h) (Or.inl ⟨by rfl, ?_⟩) (by assumption) ?_
  rotate_left
  · (delta oq7_15_30; intro ws hSw; (try dsimp only at hSw); (try go_simp); (try with_reducible rfl))
  (try simp only [oq7_15_30, Act.put, List.setIfInBounds_toArray, List.set_cons_zero, List.set_cons_succ])
  refine AnyL_take (i := 31) (oi := oq7_15_31) (v := ?_) rfl (by kernel_rfl) (by kernel_rfl) (by kernel_rfl) (by kernel_rfl) (fun _ _ _ h => h) (Or.inl ⟨by rfl, ?_⟩) (by assumption) ?_
  rotate_left
  · (delta oq7_15_31; intro ws hSw; (try dsimp only at hSw); (try go_simp); (try with_reducible rfl))
  (try simp only [oq7_15_31, Act.put, List.setIfInBounds_toArray, List.set_cons_zero, List.set_cons_succ])
  refine AnyL_take (i := 32) (oi := oq7_15_32) (v := ?_) rfl (by kernel_rfl) (by kernel_rfl) (by kernel_rfl) (by kernel_rfl) (fun _ _ _ h => h) (Or.inl ⟨by rfl, ?_⟩) (by assumption) ?_
  rotate_left
  · (delta oq7_15_32; intro ws hSw; (try dsimp only at hSw); (try go_simp); (try with_reducible rfl))
  (try simp only [oq7_15_32, Act.put, List.setIfInBounds_toArray, List.set_cons_zero, List.set_cons_succ])
  refine AnyL_take (i := 33) (oi := oq7_15_33) (v := ?_) rfl (by kernel_rfl) (by kernel_rfl) (by kernel_rfl) (by kernel_rfl) (fun _ _ _ h => h) (Or.inl ⟨by rfl, ?_⟩) (by assumption) ?_
  rotate_left
  · (delta oq7_15_33; intro ws hSw; (try dsimp only at hSw); (try go_simp); (try with_reducible rfl))
  (try simp only [oq7_15_33, Act.put, List.setIfInBounds_toArray, List.set_cons_zero, List.set_cons_succ])
  refine AnyL_take (i := 34) (oi := oq7_15_34) (v := ?_) rfl (by kernel_rfl) (by kernel_rfl) (by kernel_rfl) (by kernel_rfl) (fun _ _ _ h => h) (Or.inl ⟨by rfl, ?_⟩) (by assumption) ?_
  rotate_left
  · (delta oq7_15_34; intro ws hSw; (try dsimp only at hSw); (try go_simp); (try with_reducible rfl))
  (try simp only [oq7_15_34, Act.put, List.setIfInBounds_toArray, List.set_cons_zero, List.set_cons_succ])
  refine AnyL_ready (rs := [35]) (by kernel_rfl) (by simp) ?_
  refine ReadyL.cons (o := oq7_15_35) rfl (fun K hK => ?_) ReadyL.nil
  delta oq7_15_35
  go_simp
  have hbs : w.heap.size ≤ V122.heap.size := WW.size
  have hc := do_add (w.heap.size + 1 + 1 + 1) (V3.heap.size) B' A C' d c p b a m V122 XB.num XA.num XC.num hm hb_ ha_ XC.1 BG
  rw [H12.out] at hc
  refine hc.mono ?_
  clear hc
  rintro e V123 ⟨v, rfl, hv, hb⟩
  replace XA := XA.below hb
  replace XB := XB.below hb
  replace XE := XE.below hb
  replace XC := XC.below hb
  replace X1 := X1.below hb
  replace X2 := X2.below hb
  replace X3 := X3.below hb
  replace X4 := X4.below hb
  replace X5 := X5.below hb
  replace X6 := X6.below hb
  replace X8 := X8.below hb
  replace X9 := X9.below hb
  replace X10 := X10.below hb
  replace O1 := O1.below hb (Nat.le_refl _)
  replace O2 := O2.below hb (Nat.le_refl _)
  replace O3 := O3.below hb (Nat.le_refl _)
  replace O4 := O4.below hb (Nat.le_refl _)
  replace O5 := O5.below hb (Nat.le_refl _)
  replace O6 := O6.below hb (Nat.le_refl _)
  replace O7 := O7.below hb (Nat.le_refl _)
  replace O8 := O8.below hb (Nat.le_refl _)
  replace O9 := O9.below hb (Nat.le_refl _)
  replace O10 := O10.below hb (Nat.le_refl _)
  replace O11 := O11.below hb (Nat.le_refl _)
  replace BG := BG.below hb BG.lt
  replace WW := WW.trans (hb.mono WW.size)
  have sz123 := hb.size
  obtain ⟨D12, d12, rfl, ho⟩ := hv
  have O12 := ho.weak (b := w.heap.size) hbs
  clear ho
  clear hb hbs
  refine hK.out _ _ (⟨BG.cell0, XA.cell, XB.cell, X1.cell, X3.cell, X4.cell, X5.cell, X6.cell, X8.cell, X9.cell, X10.cell⟩) (fun hHeld2 => ?_)
  clear hK K hHeld
  have hHeld := hHeld2
  clear hHeld2
  (try simp only [oq7_15_35, Act.put, List.setIfInBounds_toArray, List.set_cons_zero, List.set_cons_succ])
  refine AnyL_ready (rs := [36]) (by kernel_rfl) (by simp) ?_
  refine ReadyL.cons (o := oq7_15_36) rfl (fun K hK => ?_) ReadyL.nil
  delta oq7_15_36
  go_simp
  have hbs : w.heap.size ≤ V123.heap.size := WW.size
  have hc := same3_any D3 D12 _ _ d3 d12 x3 x3 V123 X3.num O12.num (by omega) (by omega)
  rw [sameB_yes] at hc
  refine hc.mono ?_
  clear hc
  rintro e V124 ⟨rfl, hb⟩
  replace XA := XA.below hb
  replace XB := XB.below hb
  replace XE := XE.below hb
  replace XC := XC.below hb
  replace X1 := X1.below hb
  replace X2 := X2.below hb
  replace X3 := X3.below hb
  replace X4 := X4.below hb
  replace X5 := X5.below hb
  replace X6 := X6.below hb
  replace X8 := X8.below hb
  replace X9 := X9.below hb
  replace X10 := X10.below hb
  replace O1 := O1.below hb (Nat.le_refl _)
  replace O2 := O2.below hb (Nat.le_refl _)
  replace O3 := O3.below hb (Nat.le_refl _)
  replace O4 := O4.below hb (Nat.le_refl _)
  replace O5 := O5.below hb (Nat.le_refl _)
  replace O6 := O6.below hb (Nat.le_refl _)
  replace O7 := O7.below hb (Nat.le_refl _)
  replace O8 := O8.below hb (Nat.le_refl _)
  replace O9 := O9.below hb (Nat.le_refl _)
  replace O10 := O10.below hb (Nat.le_refl _)
  replace O11 := O11.below hb (Nat.le_refl _)
  replace O12 := O12.below hb (Nat.le_refl _)
  replace BG := BG.below hb BG.lt
  replace WW := WW.trans (hb.mono WW.size)
  have sz124 := hb.size
  clear hb hbs
  refine hK.out _ _ (⟨BG.cell0, XA.cell, XB.cell, X1.cell, X3.cell, X4.cell, X5.cell, X6.cell, X8.cell, X9.cell, X10.cell⟩) (fun hHeld2 => ?_)
  clear hK K hHeld
  have hHeld := hHeld2
  clear hHeld2
  (try simp only [oq7_15_36, Act.put, List.setIfInBounds_toArray, List.set_cons_zero, List.set_cons_succ])
  refine AnyL_take (i := 37) (oi := oq7_15_37) (v := ?_) rfl (by kernel_rfl) (by kernel_rfl) (by kernel_rfl) (by kernel_rfl) (fun _ _ _ h => h) (Or.inl ⟨by rfl, ?_⟩) (by assumption) ?_
  rotate_left
  · (delta oq7_15_37; intro ws hSw; (try dsimp only at hSw); (try go_simp); (try with_reducible rfl))
  (try simp only [oq7_15_37, Act.put, List.setIfInBounds_toArray, List.set_cons_zero, List.set_cons_succ])
  refine AnyL_take (i := 38) (oi := oq7_15_38) (v := ?_) rfl (by kernel_rfl) (by kernel_rfl) (by kernel_rfl) (by kernel_rfl) (fun _ _ _ h => h) (Or.inl ⟨by rfl, ?_⟩) (by assumption) ?_
  rotate_left
  · (delta oq7_15_38; intro ws hSw; (try dsimp only at hSw); (try go_simp); (try with_reducible rfl))
  (try simp only [oq7_15_38, Act.put, List.setIfInBounds_toArray, List.set_cons_zero, List.set_cons_succ])
  refine AnyL_take (i := 39) (oi := oq7_15_39) (v := ?_) rfl (by kernel_rfl) (by kernel_rfl) (by kernel_rfl) (by kernel_rfl) (fun _ _ _ h => h) (Or.inl ⟨by rfl, ?_⟩) (by assumption) ?_
  rotate_left
  · (delta oq7_15_39; intro ws hSw; (try dsimp only at hSw); (try go_simp); (try with_reducible rfl))
  (try simp only [oq7_15_39, Act.put, List.setIfInBounds_toArray, List.set_cons_zero, List.set_cons_succ])
  refine AnyL_take (i := 40) (oi := oq7_15_40) (v := ?_) rfl (by kernel_rfl) (by kernel_rfl) (by kernel_rfl) (by kernel_rfl) (fun _ _ _ h => h) (Or.inl ⟨by rfl, ?_⟩) (by assumption) ?_
  rotate_left
  · (delta oq7_15_40; intro ws hSw; (try dsimp only at hSw); (try go_simp); (try with_reducible rfl))
  (try simp only [oq7_15_40, Act.put, List.setIfInBounds_toArray, List.set_cons_zero, List.set_cons_succ])
  refine AnyL_take (i := 41) (oi := oq7_15_41) (v := ?_) rfl (by kernel_rfl) (by kernel_rfl) (by kernel_rfl) (by kernel_rfl) (fun _ _ _ h => h) (Or.inl ⟨by rfl, ?_⟩) (by assumption) ?_
  rotate_left
  · (delta oq7_15_41; intro ws hSw; (try dsimp only at hSw); (try go_simp); (try with_reducible rfl))
  (try simp only [oq7_15_41, Act.put, List.setIfInBounds_toArray, List.set_cons_zero, List.set_cons_succ])
  refine AnyL_done (by kernel_rfl) ?_ _
  clear hHeld
  have kXA := XA.cell
  have zXA := XA.lt
  have kXB := XB.cell
  have zXB := XB.lt
  have kXE := XE.cell
  have zXE := XE.lt
  have kXC := XC.cell
  have zXC := XC.lt
  have kX1 := X1.cell
  have zX1 := X1.lt
  have kX2 := X2.cell
  have zX2 := X2.lt
  have kX3 := X3.cell
  have zX3 := X3.lt
  have kX4 := X4.cell
  have zX4 := X4.lt
  have kX5 := X5.cell
  have zX5 := X5.lt
  have kX6 := X6.cell
  have zX6 := X6.lt
  have kX8 := X8.cell
  have zX8 := X8.lt
  have kX9 := X9.cell
  have zX9 := X9.lt
  have kX10 := X10.cell
  have zX10 := X10.lt
  have kBG := BG.cell0
  have zBG := BG.lt
  go_wp2_with fail
  go_ret
  exact ⟨rfl, WW⟩

theorem natmodRing_walk (A B' E C' : Option Addr) (n k l q c d f p a b e m : Nat) (w : World) (hA : Num w w.heap.size A n a) (hB : Num w w.heap.size B' k b) (hE : Num w w.heap.size E l e) (hC : Num w w.heap.size C' q m) (hn : n ≤ 9223372036854775807) (hk : k ≤ 9223372036854775807) (hl : l ≤ 9223372036854775807) (hq : q ≤ 9223372036854775807) :
    Calls Try.prog 7 #[.agg #[.slice A n c], .agg #[.slice B' k d], .agg #[.slice E l f], .agg #[.slice C' q p]] w (RetB (.bool true) w) := by
  by_cases hg : n ≤ 32 ∧ k ≤ 32 ∧ l ≤ 32 ∧ q ≤ 32
  · by_cases h0 : chk3 n a k b l e q m = 0
    · exact ringl_ok A B' E C' n k l q c d f p a b e m w hA hB hE hC hn hk hl hq hg h0
    · exact ringl_far2 A B' E C' n k l q c d f p a b e m w hA hB hE hC hn hk hl hq hg h0
  · exact ringl_far1 A B' E C' n k l q c d f p a b e m w hA hB hE hC hn hk hl hq hg

end Go.Proofs.Ytckajjapockonaa
