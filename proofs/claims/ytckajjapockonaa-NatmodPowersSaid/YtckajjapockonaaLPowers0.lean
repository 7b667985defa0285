/- NatmodPowers: what its walk needs; far away. -/
import Derived.Test.YtckajjapockonaaDo4
import Derived.Test.YtckajjapockonaaRf10
import Derived.Test.YtckajjapockonaaRf8
set_option linter.unusedVariables false
set_option linter.unusedSimpArgs false
namespace Go.Proofs.Ytckajjapockonaa
open Go.RowKit

def oq8_6_0 : Oper := { dst := some 57, op := Op.move (Operand.tmp 12), type := 37, pos := "law.go:166", after := #[], guard := none }
def oq8_6_1 : Oper := { dst := some 58, op := Op.load 24 (Operand.tmp 5), type := 24, pos := "law.go:166", after := #[], guard := none }
def oq8_6_2 : Oper := { dst := some 59, op := Op.load 24 (Operand.tmp 8), type := 24, pos := "law.go:166", after := #[], guard := none }
def oq8_6_3 : Oper := { dst := some 60, op := Op.call { callee := Callee.value (Operand.tmp 57), args := #[Operand.tmp 58, Operand.tmp 59], argTypes := #[24, 24] }, type := 24, pos := "law.go:166", after := #[{ on := 0, ground := Ground.data }, { on := 1, ground := Ground.data }, { on := 2, ground := Ground.data }], guard := none }
def oq8_6_4 : Oper := { dst := some 61, op := Op.move (Operand.tmp 12), type := 37, pos := "law.go:166", after := #[], guard := none }
def oq8_6_5 : Oper := { dst := some 62, op := Op.load 24 (Operand.tmp 5), type := 24, pos := "law.go:166", after := #[], guard := none }
def oq8_6_6 : Oper := { dst := some 63, op := Op.load 24 (Operand.tmp 9), type := 24, pos := "law.go:166", after := #[], guard := none }
def oq8_6_7 : Oper := { dst := some 64, op := Op.call { callee := Callee.value (Operand.tmp 61), args := #[Operand.tmp 62, Operand.tmp 63], argTypes := #[24, 24] }, type := 24, pos := "law.go:166", after := #[{ on := 4, ground := Ground.data }, { on := 5, ground := Ground.data }, { on := 6, ground := Ground.data }, { on := 3, ground := Ground.chain }], guard := none }
def oq8_6_8 : Oper := { dst := some 65, op := Op.move (Operand.tmp 12), type := 37, pos := "law.go:166", after := #[], guard := none }
def oq8_6_9 : Oper := { dst := some 66, op := Op.load 24 (Operand.tmp 6), type := 24, pos := "law.go:166", after := #[], guard := none }
def oq8_6_10 : Oper := { dst := some 67, op := Op.load 24 (Operand.tmp 8), type := 24, pos := "law.go:166", after := #[], guard := none }
def oq8_6_11 : Oper := { dst := some 68, op := Op.call { callee := Callee.value (Operand.tmp 65), args := #[Operand.tmp 66, Operand.tmp 67], argTypes := #[24, 24] }, type := 24, pos := "law.go:166", after := #[{ on := 8, ground := Ground.data }, { on := 9, ground := Ground.data }, { on := 10, ground := Ground.data }, { on := 7, ground := Ground.chain }], guard := none }
def oq8_6_12 : Oper := { dst := some 14, op := Op.alloc 24, type := 0, pos := "law.go:166", after := #[], guard := none }
def oq8_6_13 : Oper := { dst := some 15, op := Op.alloc 24, type := 0, pos := "law.go:166", after := #[], guard := none }
def oq8_6_14 : Oper := { dst := some 16, op := Op.alloc 24, type := 0, pos := "law.go:166", after := #[], guard := none }
def oq8_6_15 : Oper := { dst := none, op := Op.store 24 (Operand.tmp 14) (Operand.tmp 60), type := 0, pos := "law.go:166", after := #[{ on := 12, ground := Ground.data }, { on := 3, ground := Ground.data }, { on := 11, ground := Ground.chain }, { on := 0, ground := Ground.phase }, { on := 1, ground := Ground.phase }, { on := 2, ground := Ground.phase }, { on := 3, ground := Ground.phase }, { on := 4, ground := Ground.textOnly Departure.lateStores }, { on := 5, ground := Ground.textOnly Departure.lateStores }, { on := 6, ground := Ground.textOnly Departure.lateStores }, { on := 7, ground := Ground.textOnly Departure.lateStoresUnsure }, { on := 8, ground := Ground.textOnly Departure.lateStores }, { on := 9, ground := Ground.textOnly Departure.lateStores }, { on := 10, ground := Ground.textOnly Departure.lateStores }, { on := 11, ground := Ground.textOnly Departure.lateStoresUnsure }, { on := 12, ground := Ground.phase }, { on := 13, ground := Ground.phase }, { on := 14, ground := Ground.phase }], guard := none }
def oq8_6_16 : Oper := { dst := none, op := Op.store 24 (Operand.tmp 15) (Operand.tmp 64), type := 0, pos := "law.go:166", after := #[{ on := 13, ground := Ground.data }, { on := 7, ground := Ground.data }, { on := 15, ground := Ground.chain }, { on := 0, ground := Ground.phase }, { on := 1, ground := Ground.phase }, { on := 2, ground := Ground.phase }, { on := 3, ground := Ground.phase }, { on := 4, ground := Ground.phase }, { on := 5, ground := Ground.phase }, { on := 6, ground := Ground.phase }, { on := 7, ground := Ground.phase }, { on := 8, ground := Ground.textOnly Departure.lateStores }, { on := 9, ground := Ground.textOnly Departure.lateStores }, { on := 10, ground := Ground.textOnly Departure.lateStores }, { on := 11, ground := Ground.textOnly Departure.lateStoresUnsure }, { on := 12, ground := Ground.phase }, { on := 13, ground := Ground.phase }, { on := 14, ground := Ground.phase }, { on := 15, ground := Ground.phase }], guard := none }
def oq8_6_17 : Oper := { dst := none, op := Op.store 24 (Operand.tmp 16) (Operand.tmp 68), type := 0, pos := "law.go:166", after := #[{ on := 14, ground := Ground.data }, { on := 11, ground := Ground.data }, { on := 16, ground := Ground.chain }, { on := 0, ground := Ground.phase }, { on := 1, ground := Ground.phase }, { on := 2, ground := Ground.phase }, { on := 3, ground := Ground.phase }, { on := 4, ground := Ground.phase }, { on := 5, ground := Ground.phase }, { on := 6, ground := Ground.phase }, { on := 7, ground := Ground.phase }, { on := 8, ground := Ground.phase }, { on := 9, ground := Ground.phase }, { on := 10, ground := Ground.phase }, { on := 11, ground := Ground.phase }, { on := 12, ground := Ground.phase }, { on := 13, ground := Ground.phase }, { on := 14, ground := Ground.phase }, { on := 15, ground := Ground.phase }, { on := 16, ground := Ground.phase }], guard := none }
def oq8_7_0 : Oper := { dst := some 69, op := Op.load 24 (Operand.tmp 8), type := 24, pos := "law.go:167", after := #[], guard := none }
def oq8_7_1 : Oper := { dst := some 70, op := Op.load 24 (Operand.tmp 9), type := 24, pos := "law.go:167", after := #[], guard := none }
def oq8_7_2 : Oper := { dst := some 71, op := Op.call { callee := Callee.value (Operand.func 37), args := #[Operand.tmp 69, Operand.tmp 70], argTypes := #[24, 24] }, type := 24, pos := "law.go:167", after := #[{ on := 0, ground := Ground.data }, { on := 1, ground := Ground.data }], guard := none }
def oq8_7_3 : Oper := { dst := some 72, op := Op.load 24 (Operand.tmp 8), type := 24, pos := "law.go:167", after := #[], guard := none }
def oq8_7_4 : Oper := { dst := some 73, op := Op.load 24 (Operand.tmp 9), type := 24, pos := "law.go:167", after := #[], guard := none }
def oq8_7_5 : Oper := { dst := some 74, op := Op.call { callee := Callee.value (Operand.func 38), args := #[Operand.tmp 72, Operand.tmp 73], argTypes := #[24, 24] }, type := 24, pos := "law.go:167", after := #[{ on := 3, ground := Ground.data }, { on := 4, ground := Ground.data }, { on := 2, ground := Ground.chain }], guard := none }
def oq8_7_6 : Oper := { dst := some 17, op := Op.alloc 24, type := 0, pos := "law.go:167", after := #[], guard := none }
def oq8_7_7 : Oper := { dst := some 18, op := Op.alloc 24, type := 0, pos := "law.go:167", after := #[], guard := none }
def oq8_7_8 : Oper := { dst := none, op := Op.store 24 (Operand.tmp 17) (Operand.tmp 71), type := 0, pos := "law.go:167", after := #[{ on := 6, ground := Ground.data }, { on := 2, ground := Ground.data }, { on := 5, ground := Ground.chain }, { on := 0, ground := Ground.phase }, { on := 1, ground := Ground.phase }, { on := 2, ground := Ground.phase }, { on := 3, ground := Ground.textOnly Departure.lateStores }, { on := 4, ground := Ground.textOnly Departure.lateStores }, { on := 5, ground := Ground.textOnly Departure.lateStoresUnsure }, { on := 6, ground := Ground.phase }, { on := 7, ground := Ground.phase }], guard := none }
def oq8_7_9 : Oper := { dst := none, op := Op.store 24 (Operand.tmp 18) (Operand.tmp 74), type := 0, pos := "law.go:167", after := #[{ on := 7, ground := Ground.data }, { on := 5, ground := Ground.data }, { on := 8, ground := Ground.chain }, { on := 0, ground := Ground.phase }, { on := 1, ground := Ground.phase }, { on := 2, ground := Ground.phase }, { on := 3, ground := Ground.phase }, { on := 4, ground := Ground.phase }, { on := 5, ground := Ground.phase }, { on := 6, ground := Ground.phase }, { on := 7, ground := Ground.phase }, { on := 8, ground := Ground.phase }], guard := none }
def oq8_10_0 : Oper := { dst := some 77, op := Op.move (Operand.tmp 12), type := 37, pos := "law.go:171", after := #[], guard := none }
def oq8_10_1 : Oper := { dst := some 78, op := Op.load 24 (Operand.tmp 5), type := 24, pos := "law.go:171", after := #[], guard := none }
def oq8_10_2 : Oper := { dst := some 79, op := Op.load 24 (Operand.tmp 17), type := 24, pos := "law.go:171", after := #[], guard := none }
def oq8_10_3 : Oper := { dst := some 80, op := Op.call { callee := Callee.value (Operand.tmp 77), args := #[Operand.tmp 78, Operand.tmp 79], argTypes := #[24, 24] }, type := 24, pos := "law.go:171", after := #[{ on := 0, ground := Ground.data }, { on := 1, ground := Ground.data }, { on := 2, ground := Ground.data }], guard := none }
def oq8_10_4 : Oper := { dst := some 81, op := Op.move (Operand.tmp 13), type := 37, pos := "law.go:171", after := #[], guard := none }
def oq8_10_5 : Oper := { dst := some 82, op := Op.load 24 (Operand.tmp 14), type := 24, pos := "law.go:171", after := #[], guard := none }
def oq8_10_6 : Oper := { dst := some 83, op := Op.load 24 (Operand.tmp 15), type := 24, pos := "law.go:171", after := #[], guard := none }
def oq8_10_7 : Oper := { dst := some 84, op := Op.call { callee := Callee.value (Operand.tmp 81), args := #[Operand.tmp 82, Operand.tmp 83], argTypes := #[24, 24] }, type := 24, pos := "law.go:171", after := #[{ on := 4, ground := Ground.data }, { on := 5, ground := Ground.data }, { on := 6, ground := Ground.data }, { on := 3, ground := Ground.chain }], guard := none }
def oq8_10_8 : Oper := { dst := some 85, op := Op.call { callee := Callee.value (Operand.func 17), args := #[Operand.tmp 80, Operand.tmp 84], argTypes := #[24, 24] }, type := 4, pos := "law.go:171", after := #[{ on := 3, ground := Ground.data }, { on := 7, ground := Ground.data }, { on := 7, ground := Ground.chain }], guard := none }
def oq8_10_9 : Oper := { dst := some 86, op := Op.move (Operand.tmp 85), type := 4, pos := "law.go:171", after := #[{ on := 8, ground := Ground.data }, { on := 8, ground := Ground.chain }], guard := none }
def oq8_10_10 : Oper := { dst := some 87, op := Op.move (Operand.tmp 12), type := 37, pos := "law.go:171", after := #[{ on := 9, ground := Ground.guard }], guard := some (9, true) }
def oq8_10_11 : Oper := { dst := some 88, op := Op.load 24 (Operand.tmp 14), type := 24, pos := "law.go:171", after := #[{ on := 9, ground := Ground.guard }], guard := some (9, true) }
def oq8_10_12 : Oper := { dst := some 89, op := Op.load 24 (Operand.tmp 9), type := 24, pos := "law.go:171", after := #[{ on := 9, ground := Ground.guard }], guard := some (9, true) }
def oq8_10_13 : Oper := { dst := some 90, op := Op.call { callee := Callee.value (Operand.tmp 87), args := #[Operand.tmp 88, Operand.tmp 89], argTypes := #[24, 24] }, type := 24, pos := "law.go:171", after := #[{ on := 10, ground := Ground.data }, { on := 11, ground := Ground.data }, { on := 12, ground := Ground.data }, { on := 9, ground := Ground.chain }, { on := 9, ground := Ground.guard }], guard := some (9, true) }
def oq8_10_14 : Oper := { dst := some 91, op := Op.move (Operand.tmp 12), type := 37, pos := "law.go:171", after := #[{ on := 9, ground := Ground.guard }], guard := some (9, true) }
def oq8_10_15 : Oper := { dst := some 92, op := Op.load 24 (Operand.tmp 5), type := 24, pos := "law.go:171", after := #[{ on := 9, ground := Ground.guard }], guard := some (9, true) }
def oq8_10_16 : Oper := { dst := some 93, op := Op.load 24 (Operand.tmp 18), type := 24, pos := "law.go:171", after := #[{ on := 9, ground := Ground.guard }], guard := some (9, true) }
def oq8_10_17 : Oper := { dst := some 94, op := Op.call { callee := Callee.value (Operand.tmp 91), args := #[Operand.tmp 92, Operand.tmp 93], argTypes := #[24, 24] }, type := 24, pos := "law.go:171", after := #[{ on := 14, ground := Ground.data }, { on := 15, ground := Ground.data }, { on := 16, ground := Ground.data }, { on := 13, ground := Ground.chain }, { on := 9, ground := Ground.guard }], guard := some (9, true) }
def oq8_10_18 : Oper := { dst := some 95, op := Op.call { callee := Callee.value (Operand.func 17), args := #[Operand.tmp 90, Operand.tmp 94], argTypes := #[24, 24] }, type := 4, pos := "law.go:171", after := #[{ on := 13, ground := Ground.data }, { on := 17, ground := Ground.data }, { on := 17, ground := Ground.chain }, { on := 9, ground := Ground.guard }], guard := some (9, true) }
def oq8_10_19 : Oper := { dst := some 96, op := Op.pick (Operand.tmp 86) (Operand.tmp 95) (Operand.const (Value.bool false)), type := 4, pos := "law.go:171", after := #[{ on := 9, ground := Ground.data }, { on := 18, ground := Ground.data }], guard := none }
def oq8_10_20 : Oper := { dst := some 97, op := Op.move (Operand.tmp 96), type := 4, pos := "law.go:171", after := #[{ on := 19, ground := Ground.data }, { on := 18, ground := Ground.chain }], guard := none }
def oq8_10_21 : Oper := { dst := some 98, op := Op.move (Operand.tmp 12), type := 37, pos := "law.go:171", after := #[{ on := 20, ground := Ground.guard }], guard := some (20, true) }
def oq8_10_22 : Oper := { dst := some 99, op := Op.move (Operand.tmp 13), type := 37, pos := "law.go:171", after := #[{ on := 20, ground := Ground.guard }], guard := some (20, true) }
def oq8_10_23 : Oper := { dst := some 100, op := Op.load 24 (Operand.tmp 5), type := 24, pos := "law.go:171", after := #[{ on := 20, ground := Ground.guard }], guard := some (20, true) }
def oq8_10_24 : Oper := { dst := some 101, op := Op.load 24 (Operand.tmp 6), type := 24, pos := "law.go:171", after := #[{ on := 20, ground := Ground.guard }], guard := some (20, true) }
def oq8_10_25 : Oper := { dst := some 102, op := Op.call { callee := Callee.value (Operand.tmp 99), args := #[Operand.tmp 100, Operand.tmp 101], argTypes := #[24, 24] }, type := 24, pos := "law.go:171", after := #[{ on := 22, ground := Ground.data }, { on := 23, ground := Ground.data }, { on := 24, ground := Ground.data }, { on := 20, ground := Ground.chain }, { on := 20, ground := Ground.guard }], guard := some (20, true) }
def oq8_10_26 : Oper := { dst := some 103, op := Op.load 24 (Operand.tmp 8), type := 24, pos := "law.go:171", after := #[{ on := 20, ground := Ground.guard }], guard := some (20, true) }
def oq8_10_27 : Oper := { dst := some 104, op := Op.call { callee := Callee.value (Operand.tmp 98), args := #[Operand.tmp 102, Operand.tmp 103], argTypes := #[24, 24] }, type := 24, pos := "law.go:171", after := #[{ on := 21, ground := Ground.data }, { on := 25, ground := Ground.data }, { on := 26, ground := Ground.data }, { on := 25, ground := Ground.chain }, { on := 20, ground := Ground.guard }], guard := some (20, true) }
def oq8_10_28 : Oper := { dst := some 105, op := Op.move (Operand.tmp 13), type := 37, pos := "law.go:171", after := #[{ on := 20, ground := Ground.guard }], guard := some (20, true) }
def oq8_10_29 : Oper := { dst := some 106, op := Op.load 24 (Operand.tmp 14), type := 24, pos := "law.go:171", after := #[{ on := 20, ground := Ground.guard }], guard := some (20, true) }
def oq8_10_30 : Oper := { dst := some 107, op := Op.load 24 (Operand.tmp 16), type := 24, pos := "law.go:171", after := #[{ on := 20, ground := Ground.guard }], guard := some (20, true) }
def oq8_10_31 : Oper := { dst := some 108, op := Op.call { callee := Callee.value (Operand.tmp 105), args := #[Operand.tmp 106, Operand.tmp 107], argTypes := #[24, 24] }, type := 24, pos := "law.go:171", after := #[{ on := 28, ground := Ground.data }, { on := 29, ground := Ground.data }, { on := 30, ground := Ground.data }, { on := 27, ground := Ground.chain }, { on := 20, ground := Ground.guard }], guard := some (20, true) }
def oq8_10_32 : Oper := { dst := some 109, op := Op.call { callee := Callee.value (Operand.func 17), args := #[Operand.tmp 104, Operand.tmp 108], argTypes := #[24, 24] }, type := 4, pos := "law.go:171", after := #[{ on := 27, ground := Ground.data }, { on := 31, ground := Ground.data }, { on := 31, ground := Ground.chain }, { on := 20, ground := Ground.guard }], guard := some (20, true) }
def oq8_10_33 : Oper := { dst := some 110, op := Op.pick (Operand.tmp 97) (Operand.tmp 109) (Operand.const (Value.bool false)), type := 4, pos := "law.go:171", after := #[{ on := 20, ground := Ground.data }, { on := 32, ground := Ground.data }], guard := none }
def oq8_10_34 : Oper := { dst := some 111, op := Op.move (Operand.tmp 110), type := 4, pos := "law.go:171", after := #[{ on := 33, ground := Ground.data }, { on := 32, ground := Ground.chain }], guard := none }
def oq8_10_35 : Oper := { dst := some 112, op := Op.move (Operand.tmp 12), type := 37, pos := "law.go:171", after := #[{ on := 34, ground := Ground.guard }], guard := some (34, true) }
def oq8_10_36 : Oper := { dst := some 113, op := Op.load 24 (Operand.tmp 5), type := 24, pos := "law.go:171", after := #[{ on := 34, ground := Ground.guard }], guard := some (34, true) }
def oq8_10_37 : Oper := { dst := some 114, op := Op.call { callee := Callee.value (Operand.func 32), args := #[Operand.const (Value.int IntKind.u64 1)], argTypes := #[42] }, type := 24, pos := "law.go:171", after := #[{ on := 34, ground := Ground.chain }, { on := 34, ground := Ground.guard }], guard := some (34, true) }
def oq8_10_38 : Oper := { dst := some 115, op := Op.call { callee := Callee.value (Operand.tmp 112), args := #[Operand.tmp 113, Operand.tmp 114], argTypes := #[24, 24] }, type := 24, pos := "law.go:171", after := #[{ on := 35, ground := Ground.data }, { on := 36, ground := Ground.data }, { on := 37, ground := Ground.data }, { on := 37, ground := Ground.chain }, { on := 34, ground := Ground.guard }], guard := some (34, true) }
def oq8_10_39 : Oper := { dst := some 116, op := Op.load 24 (Operand.tmp 5), type := 24, pos := "law.go:171", after := #[{ on := 34, ground := Ground.guard }], guard := some (34, true) }
def oq8_10_40 : Oper := { dst := some 117, op := Op.call { callee := Callee.value (Operand.func 17), args := #[Operand.tmp 115, Operand.tmp 116], argTypes := #[24, 24] }, type := 4, pos := "law.go:171", after := #[{ on := 38, ground := Ground.data }, { on := 39, ground := Ground.data }, { on := 38, ground := Ground.chain }, { on := 34, ground := Ground.guard }], guard := some (34, true) }
def oq8_10_41 : Oper := { dst := some 118, op := Op.pick (Operand.tmp 111) (Operand.tmp 117) (Operand.const (Value.bool false)), type := 4, pos := "law.go:171", after := #[{ on := 34, ground := Ground.data }, { on := 40, ground := Ground.data }], guard := none }
def oq8_10_42 : Oper := { dst := some 119, op := Op.move (Operand.tmp 118), type := 4, pos := "law.go:171", after := #[{ on := 41, ground := Ground.data }, { on := 40, ground := Ground.chain }], guard := none }
def oq8_10_43 : Oper := { dst := some 120, op := Op.load 4 (Operand.tmp 11), type := 4, pos := "law.go:171", after := #[{ on := 42, ground := Ground.guard }], guard := some (42, true) }
def oq8_10_44 : Oper := { dst := some 121, op := Op.pick (Operand.tmp 119) (Operand.tmp 120) (Operand.const (Value.bool false)), type := 4, pos := "law.go:171", after := #[{ on := 42, ground := Ground.data }, { on := 43, ground := Ground.data }], guard := none }
def oq8_10_45 : Oper := { dst := some 10, op := Op.assign (Operand.tmp 121), type := 4, pos := "law.go:171", after := #[{ on := 44, ground := Ground.data }, { on := 42, ground := Ground.chain }, { on := 0, ground := Ground.phase }, { on := 1, ground := Ground.phase }, { on := 2, ground := Ground.phase }, { on := 3, ground := Ground.phase }, { on := 4, ground := Ground.phase }, { on := 5, ground := Ground.phase }, { on := 6, ground := Ground.phase }, { on := 7, ground := Ground.phase }, { on := 8, ground := Ground.phase }, { on := 9, ground := Ground.phase }, { on := 10, ground := Ground.phase }, { on := 11, ground := Ground.phase }, { on := 12, ground := Ground.phase }, { on := 13, ground := Ground.phase }, { on := 14, ground := Ground.phase }, { on := 15, ground := Ground.phase }, { on := 16, ground := Ground.phase }, { on := 17, ground := Ground.phase }, { on := 18, ground := Ground.phase }, { on := 19, ground := Ground.phase }, { on := 20, ground := Ground.phase }, { on := 21, ground := Ground.phase }, { on := 22, ground := Ground.phase }, { on := 23, ground := Ground.phase }, { on := 24, ground := Ground.phase }, { on := 25, ground := Ground.phase }, { on := 26, ground := Ground.phase }, { on := 27, ground := Ground.phase }, { on := 28, ground := Ground.phase }, { on := 29, ground := Ground.phase }, { on := 30, ground := Ground.phase }, { on := 31, ground := Ground.phase }, { on := 32, ground := Ground.phase }, { on := 33, ground := Ground.phase }, { on := 34, ground := Ground.phase }, { on := 35, ground := Ground.phase }, { on := 36, ground := Ground.phase }, { on := 37, ground := Ground.phase }, { on := 38, ground := Ground.phase }, { on := 39, ground := Ground.phase }, { on := 40, ground := Ground.phase }, { on := 41, ground := Ground.phase }, { on := 42, ground := Ground.phase }, { on := 43, ground := Ground.phase }, { on := 44, ground := Ground.phase }], guard := none }
theorem cut_nnnananan {P : Program} {md : Region.Mode} {ops : Array Oper} {Q : Exit → Act → World → Prop} {t : Nat} {S : World → Prop} {n n' : Nat} {l l' : Array Bool} {a : Act} {w : World} {F : Nat → Nat → Nat → Option Addr → Nat → Option Addr → Nat → Option Addr → Nat → Act} (R : Nat → Nat → Nat → Option Addr → Nat → Option Addr → Nat → Option Addr → Nat → World → Prop)
    (h1 : (∀ x0 x1 x2 x3 x4 x5 x6 x7 x8 W, R x0 x1 x2 x3 x4 x5 x6 x7 x8 W → AnyL P md ops Q t S n l (F x0 x1 x2 x3 x4 x5 x6 x7 x8) W) → AnyL P md ops Q t S n' l' a w) (h2 : ∀ x0 x1 x2 x3 x4 x5 x6 x7 x8 W, R x0 x1 x2 x3 x4 x5 x6 x7 x8 W → AnyL P md ops Q t S n l (F x0 x1 x2 x3 x4 x5 x6 x7 x8) W) : AnyL P md ops Q t S n' l' a w := h1 h2
theorem cut_nnnanan {P : Program} {md : Region.Mode} {ops : Array Oper} {Q : Exit → Act → World → Prop} {t : Nat} {S : World → Prop} {n n' : Nat} {l l' : Array Bool} {a : Act} {w : World} {F : Nat → Nat → Nat → Option Addr → Nat → Option Addr → Nat → Act} (R : Nat → Nat → Nat → Option Addr → Nat → Option Addr → Nat → World → Prop)
    (h1 : (∀ x0 x1 x2 x3 x4 x5 x6 W, R x0 x1 x2 x3 x4 x5 x6 W → AnyL P md ops Q t S n l (F x0 x1 x2 x3 x4 x5 x6) W) → AnyL P md ops Q t S n' l' a w) (h2 : ∀ x0 x1 x2 x3 x4 x5 x6 W, R x0 x1 x2 x3 x4 x5 x6 W → AnyL P md ops Q t S n l (F x0 x1 x2 x3 x4 x5 x6) W) : AnyL P md ops Q t S n' l' a w := h1 h2
theorem cut_nnananan {P : Program} {md : Region.Mode} {ops : Array Oper} {Q : Exit → Act → World → Prop} {t : Nat} {S : World → Prop} {n n' : Nat} {l l' : Array Bool} {a : Act} {w : World} {F : Nat → Nat → Option Addr → Nat → Option Addr → Nat → Option Addr → Nat → Act} (R : Nat → Nat → Option Addr → Nat → Option Addr → Nat → Option Addr → Nat → World → Prop)
    (h1 : (∀ x0 x1 x2 x3 x4 x5 x6 x7 W, R x0 x1 x2 x3 x4 x5 x6 x7 W → AnyL P md ops Q t S n l (F x0 x1 x2 x3 x4 x5 x6 x7) W) → AnyL P md ops Q t S n' l' a w) (h2 : ∀ x0 x1 x2 x3 x4 x5 x6 x7 W, R x0 x1 x2 x3 x4 x5 x6 x7 W → AnyL P md ops Q t S n l (F x0 x1 x2 x3 x4 x5 x6 x7) W) : AnyL P md ops Q t S n' l' a w := h1 h2
theorem cut_nnnan {P : Program} {md : Region.Mode} {ops : Array Oper} {Q : Exit → Act → World → Prop} {t : Nat} {S : World → Prop} {n n' : Nat} {l l' : Array Bool} {a : Act} {w : World} {F : Nat → Nat → Nat → Option Addr → Nat → Act} (R : Nat → Nat → Nat → Option Addr → Nat → World → Prop)
    (h1 : (∀ x0 x1 x2 x3 x4 W, R x0 x1 x2 x3 x4 W → AnyL P md ops Q t S n l (F x0 x1 x2 x3 x4) W) → AnyL P md ops Q t S n' l' a w) (h2 : ∀ x0 x1 x2 x3 x4 W, R x0 x1 x2 x3 x4 W → AnyL P md ops Q t S n l (F x0 x1 x2 x3 x4) W) : AnyL P md ops Q t S n' l' a w := h1 h2
theorem cut_nnanan {P : Program} {md : Region.Mode} {ops : Array Oper} {Q : Exit → Act → World → Prop} {t : Nat} {S : World → Prop} {n n' : Nat} {l l' : Array Bool} {a : Act} {w : World} {F : Nat → Nat → Option Addr → Nat → Option Addr → Nat → Act} (R : Nat → Nat → Option Addr → Nat → Option Addr → Nat → World → Prop)
    (h1 : (∀ x0 x1 x2 x3 x4 x5 W, R x0 x1 x2 x3 x4 x5 W → AnyL P md ops Q t S n l (F x0 x1 x2 x3 x4 x5) W) → AnyL P md ops Q t S n' l' a w) (h2 : ∀ x0 x1 x2 x3 x4 x5 W, R x0 x1 x2 x3 x4 x5 W → AnyL P md ops Q t S n l (F x0 x1 x2 x3 x4 x5) W) : AnyL P md ops Q t S n' l' a w := h1 h2
theorem cut_nananan {P : Program} {md : Region.Mode} {ops : Array Oper} {Q : Exit → Act → World → Prop} {t : Nat} {S : World → Prop} {n n' : Nat} {l l' : Array Bool} {a : Act} {w : World} {F : Nat → Option Addr → Nat → Option Addr → Nat → Option Addr → Nat → Act} (R : Nat → Option Addr → Nat → Option Addr → Nat → Option Addr → Nat → World → Prop)
    (h1 : (∀ x0 x1 x2 x3 x4 x5 x6 W, R x0 x1 x2 x3 x4 x5 x6 W → AnyL P md ops Q t S n l (F x0 x1 x2 x3 x4 x5 x6) W) → AnyL P md ops Q t S n' l' a w) (h2 : ∀ x0 x1 x2 x3 x4 x5 x6 W, R x0 x1 x2 x3 x4 x5 x6 W → AnyL P md ops Q t S n l (F x0 x1 x2 x3 x4 x5 x6) W) : AnyL P md ops Q t S n' l' a w := h1 h2
theorem cut_nnn {P : Program} {md : Region.Mode} {ops : Array Oper} {Q : Exit → Act → World → Prop} {t : Nat} {S : World → Prop} {n n' : Nat} {l l' : Array Bool} {a : Act} {w : World} {F : Nat → Nat → Nat → Act} (R : Nat → Nat → Nat → World → Prop)
    (h1 : (∀ x0 x1 x2 W, R x0 x1 x2 W → AnyL P md ops Q t S n l (F x0 x1 x2) W) → AnyL P md ops Q t S n' l' a w) (h2 : ∀ x0 x1 x2 W, R x0 x1 x2 W → AnyL P md ops Q t S n l (F x0 x1 x2) W) : AnyL P md ops Q t S n' l' a w := h1 h2
theorem cut_nnan {P : Program} {md : Region.Mode} {ops : Array Oper} {Q : Exit → Act → World → Prop} {t : Nat} {S : World → Prop} {n n' : Nat} {l l' : Array Bool} {a : Act} {w : World} {F : Nat → Nat → Option Addr → Nat → Act} (R : Nat → Nat → Option Addr → Nat → World → Prop)
    (h1 : (∀ x0 x1 x2 x3 W, R x0 x1 x2 x3 W → AnyL P md ops Q t S n l (F x0 x1 x2 x3) W) → AnyL P md ops Q t S n' l' a w) (h2 : ∀ x0 x1 x2 x3 W, R x0 x1 x2 x3 W → AnyL P md ops Q t S n l (F x0 x1 x2 x3) W) : AnyL P md ops Q t S n' l' a w := h1 h2
theorem cut_nanan {P : Program} {md : Region.Mode} {ops : Array Oper} {Q : Exit → Act → World → Prop} {t : Nat} {S : World → Prop} {n n' : Nat} {l l' : Array Bool} {a : Act} {w : World} {F : Nat → Option Addr → Nat → Option Addr → Nat → Act} (R : Nat → Option Addr → Nat → Option Addr → Nat → World → Prop)
    (h1 : (∀ x0 x1 x2 x3 x4 W, R x0 x1 x2 x3 x4 W → AnyL P md ops Q t S n l (F x0 x1 x2 x3 x4) W) → AnyL P md ops Q t S n' l' a w) (h2 : ∀ x0 x1 x2 x3 x4 W, R x0 x1 x2 x3 x4 W → AnyL P md ops Q t S n l (F x0 x1 x2 x3 x4) W) : AnyL P md ops Q t S n' l' a w := h1 h2
theorem cut_nn {P : Program} {md : Region.Mode} {ops : Array Oper} {Q : Exit → Act → World → Prop} {t : Nat} {S : World → Prop} {n n' : Nat} {l l' : Array Bool} {a : Act} {w : World} {F : Nat → Nat → Act} (R : Nat → Nat → World → Prop)
    (h1 : (∀ x0 x1 W, R x0 x1 W → AnyL P md ops Q t S n l (F x0 x1) W) → AnyL P md ops Q t S n' l' a w) (h2 : ∀ x0 x1 W, R x0 x1 W → AnyL P md ops Q t S n l (F x0 x1) W) : AnyL P md ops Q t S n' l' a w := h1 h2
theorem cut_nan {P : Program} {md : Region.Mode} {ops : Array Oper} {Q : Exit → Act → World → Prop} {t : Nat} {S : World → Prop} {n n' : Nat} {l l' : Array Bool} {a : Act} {w : World} {F : Nat → Option Addr → Nat → Act} (R : Nat → Option Addr → Nat → World → Prop)
    (h1 : (∀ x0 x1 x2 W, R x0 x1 x2 W → AnyL P md ops Q t S n l (F x0 x1 x2) W) → AnyL P md ops Q t S n' l' a w) (h2 : ∀ x0 x1 x2 W, R x0 x1 x2 W → AnyL P md ops Q t S n l (F x0 x1 x2) W) : AnyL P md ops Q t S n' l' a w := h1 h2
theorem pows_add (a e f m : Nat) : a ^ e % m * (a ^ f % m) % m = a ^ (e + f) % m := by rw [← Nat.mul_mod, Nat.pow_add]
theorem pows_mul (a e f m : Nat) : a ^ (e * f) % m = (a ^ e % m) ^ f % m := by rw [← Nat.pow_mod, Nat.pow_mul]
theorem pows_prod (a b e m : Nat) : a ^ e % m * (b ^ e % m) % m = (a * b % m) ^ e % m := by rw [← Nat.mul_mod, ← Nat.pow_mod, Nat.mul_pow]
theorem wp_landZ {P : Program} {c : Code} {Q : Exit → Act → World → Prop} {a : Act} {w : World} {F : Nat → Nat → Nat → Option Addr → Nat → Option Addr → Nat → Option Addr → Nat → Act} (R : Nat → Nat → Nat → Option Addr → Nat → Option Addr → Nat → Option Addr → Nat → World → Prop)
    (hreg : c.wp P (fun e a1 w1 => e = Exit.normal ∧ ∃ x0 x1 x2 x3 x4 x5 x6 x7 x8, a1 = F x0 x1 x2 x3 x4 x5 x6 x7 x8 ∧ R x0 x1 x2 x3 x4 x5 x6 x7 x8 w1) a w) (himp : ∀ x0 x1 x2 x3 x4 x5 x6 x7 x8 w1, R x0 x1 x2 x3 x4 x5 x6 x7 x8 w1 → Q Exit.normal (F x0 x1 x2 x3 x4 x5 x6 x7 x8) w1) : c.wp P Q a w :=
  Code.wp_mono (fun e a1 w1 h => by obtain ⟨rfl, x0, x1, x2, x3, x4, x5, x6, x7, x8, rfl, hR⟩ := h; exact himp _ _ _ _ _ _ _ _ _ w1 hR) hreg
theorem wp_landZ2 {P : Program} {c : Code} {Q : Exit → Act → World → Prop} {a : Act} {w : World} {F : Nat → Nat → Option Addr → Nat → Option Addr → Nat → Act} (R : Nat → Nat → Option Addr → Nat → Option Addr → Nat → World → Prop)
    (hreg : c.wp P (fun e a1 w1 => e = Exit.normal ∧ ∃ x0 x1 x2 x3 x4 x5, a1 = F x0 x1 x2 x3 x4 x5 ∧ R x0 x1 x2 x3 x4 x5 w1) a w) (himp : ∀ x0 x1 x2 x3 x4 x5 w1, R x0 x1 x2 x3 x4 x5 w1 → Q Exit.normal (F x0 x1 x2 x3 x4 x5) w1) : c.wp P Q a w :=
  Code.wp_mono (fun e a1 w1 h => by obtain ⟨rfl, x0, x1, x2, x3, x4, x5, rfl, hR⟩ := h; exact himp _ _ _ _ _ _ w1 hR) hreg
set_option maxHeartbeats 16000000 in
set_option maxRecDepth 100000 in
theorem powl_far1 (A B' C' E E2 : Option Addr) (n k q l s c d p f f2 a b m e e2 : Nat) (w : World) (hA : Num w w.heap.size A n a) (hB : Num w w.heap.size B' k b) (hC : Num w w.heap.size C' q m) (hE : Num w w.heap.size E l e) (hF : Num w w.heap.size E2 s e2) (hn : n ≤ 9223372036854775807) (hk : k ≤ 9223372036854775807) (hq : q ≤ 9223372036854775807) (hl : l ≤ 9223372036854775807) (hs : s ≤ 9223372036854775807) (hg : ¬ (n ≤ 8 ∧ k ≤ 8 ∧ q ≤ 8)) :
    Calls Try.prog 8 #[.agg #[.slice A n c], .agg #[.slice B' k d], .agg #[.slice C' q p], .agg #[.slice E l f], .agg #[.slice E2 s f2]] w (RetB (.bool true) w) := by
  have HG : Hid (decide (n ≤ 8 ∧ k ≤ 8 ∧ q ≤ 8) = false) := decide_eq_false hg
  clear hg
  obtain ⟨b0, b1, b2, b3, b4, bw⟩ := boxes5 w (.slice A n c) (.slice B' k d) (.slice C' q p) (.slice E l f) (.slice E2 s f2)
  have XA := VB.mk (B := w.heap.size) (a := a) b0 (.inl hA) bw (Nat.le_refl _) (by omega)
  have XB := VB.mk (B := w.heap.size) (a := b) b1 (.inl hB) bw (Nat.le_refl _) (by omega)
  have XC := VB.mk (B := w.heap.size) (a := m) b2 (.inl hC) bw (Nat.le_refl _) (by omega)
  have XE := VB.mk (B := w.heap.size) (a := e) b3 (.inl hE) bw (Nat.le_refl _) (by omega)
  have XF := VB.mk (B := w.heap.size) (a := e2) b4 (.inl hF) bw (Nat.le_refl _) (by omega)
  have WW := bw
  clear bw b0 b1 b2 b3 b4
  go_enter Try.func8, Try.ntmps8
  go_wp2_with fail
  generalize hV : (((((w.alloc (.cells #[.slice A n c] 24)).alloc (.cells #[.slice B' k d] 24)).alloc (.cells #[.slice C' q p] 24)).alloc (.cells #[.slice E l f] 24)).alloc (.cells #[.slice E2 s f2] 24)) = V0 at XA XB XC XE XF WW ⊢
  clear hV
  have hbs : w.heap.size ≤ V0.heap.size := WW.size
  have hc := awake_any V0
  refine hc.mono ?_
  clear hc
  rintro e V1 ⟨rfl, hb⟩
  replace XA := XA.below hb
  replace XB := XB.below hb
  replace XC := XC.below hb
  replace XE := XE.below hb
  replace XF := XF.below hb
  replace WW := WW.trans (hb.mono WW.size)
  have kXA := XA.cell
  have zXA := XA.lt
  have kXB := XB.cell
  have zXB := XB.lt
  have kXC := XC.cell
  have zXC := XC.lt
  have kXE := XE.cell
  have zXE := XE.lt
  have kXF := XF.cell
  have zXF := XF.lt
  clear hb hbs
  go_wp2_with fail
  have hbs : w.heap.size ≤ V1.heap.size := WW.size
  have hc := few_n3 8 (by omega) V1 A B' C' n k q c d p (by omega) (by omega) (by omega)
  rw [HG.out] at hc
  refine hc.mono ?_
  clear hc
  rintro e V2 ⟨rfl, hb⟩
  clear kXA zXA kXB zXB kXC zXC kXE zXE kXF zXF
  replace XA := XA.below hb
  replace XB := XB.below hb
  replace XC := XC.below hb
  replace XE := XE.below hb
  replace XF := XF.below hb
  replace WW := WW.trans (hb.mono WW.size)
  have kXA := XA.cell
  have zXA := XA.lt
  have kXB := XB.cell
  have zXB := XB.lt
  have kXC := XC.cell
  have zXC := XC.lt
  have kXE := XE.cell
  have zXE := XE.lt
  have kXF := XF.cell
  have zXF := XF.lt
  clear hb hbs
  go_wp2_with fail
  have hbs : w.heap.size ≤ V2.heap.size := WW.size
  have hc := awake_any V2
  refine hc.mono ?_
  clear hc
  rintro e V3 ⟨rfl, hb⟩
  clear kXA zXA kXB zXB kXC zXC kXE zXE kXF zXF
  replace XA := XA.below hb
  replace XB := XB.below hb
  replace XC := XC.below hb
  replace XE := XE.below hb
  replace XF := XF.below hb
  replace WW := WW.trans (hb.mono WW.size)
  have kXA := XA.cell
  have zXA := XA.lt
  have kXB := XB.cell
  have zXB := XB.lt
  have kXC := XC.cell
  have zXC := XC.lt
  have kXE := XE.cell
  have zXE := XE.lt
  have kXF := XF.cell
  have zXF := XF.lt
  clear hb hbs
  go_wp2_with fail
  go_ret
  exact ⟨rfl, WW⟩

set_option maxHeartbeats 16000000 in
set_option maxRecDepth 100000 in
theorem powl_far2 (A B' C' E E2 : Option Addr) (n k q l s c d p f f2 a b m e e2 : Nat) (w : World) (hA : Num w w.heap.size A n a) (hB : Num w w.heap.size B' k b) (hC : Num w w.heap.size C' q m) (hE : Num w w.heap.size E l e) (hF : Num w w.heap.size E2 s e2) (hn : n ≤ 9223372036854775807) (hk : k ≤ 9223372036854775807) (hq : q ≤ 9223372036854775807) (hl : l ≤ 9223372036854775807) (hs : s ≤ 9223372036854775807) (hg : n ≤ 8 ∧ k ≤ 8 ∧ q ≤ 8) (hg2 : ¬ (l ≤ 2 ∧ s ≤ 2)) :
    Calls Try.prog 8 #[.agg #[.slice A n c], .agg #[.slice B' k d], .agg #[.slice C' q p], .agg #[.slice E l f], .agg #[.slice E2 s f2]] w (RetB (.bool true) w) := by
  have HG : Hid (decide (n ≤ 8 ∧ k ≤ 8 ∧ q ≤ 8) = true) := decide_eq_true hg
  have HG2 : Hid (decide (l ≤ 2 ∧ s ≤ 2) = false) := decide_eq_false hg2
  clear hg hg2
  obtain ⟨b0, b1, b2, b3, b4, bw⟩ := boxes5 w (.slice A n c) (.slice B' k d) (.slice C' q p) (.slice E l f) (.slice E2 s f2)
  have XA := VB.mk (B := w.heap.size) (a := a) b0 (.inl hA) bw (Nat.le_refl _) (by omega)
  have XB := VB.mk (B := w.heap.size) (a := b) b1 (.inl hB) bw (Nat.le_refl _) (by omega)
  have XC := VB.mk (B := w.heap.size) (a := m) b2 (.inl hC) bw (Nat.le_refl _) (by omega)
  have XE := VB.mk (B := w.heap.size) (a := e) b3 (.inl hE) bw (Nat.le_refl _) (by omega)
  have XF := VB.mk (B := w.heap.size) (a := e2) b4 (.inl hF) bw (Nat.le_refl _) (by omega)
  have WW := bw
  clear bw b0 b1 b2 b3 b4
  go_enter Try.func8, Try.ntmps8
  go_wp2_with fail
  generalize hV : (((((w.alloc (.cells #[.slice A n c] 24)).alloc (.cells #[.slice B' k d] 24)).alloc (.cells #[.slice C' q p] 24)).alloc (.cells #[.slice E l f] 24)).alloc (.cells #[.slice E2 s f2] 24)) = V0 at XA XB XC XE XF WW ⊢
  clear hV
  have hbs : w.heap.size ≤ V0.heap.size := WW.size
  have hc := awake_any V0
  refine hc.mono ?_
  clear hc
  rintro e V1 ⟨rfl, hb⟩
  replace XA := XA.below hb
  replace XB := XB.below hb
  replace XC := XC.below hb
  replace XE := XE.below hb
  replace XF := XF.below hb
  replace WW := WW.trans (hb.mono WW.size)
  have kXA := XA.cell
  have zXA := XA.lt
  have kXB := XB.cell
  have zXB := XB.lt
  have kXC := XC.cell
  have zXC := XC.lt
  have kXE := XE.cell
  have zXE := XE.lt
  have kXF := XF.cell
  have zXF := XF.lt
  clear hb hbs
  go_wp2_with fail
  have hbs : w.heap.size ≤ V1.heap.size := WW.size
  have hc := few_n3 8 (by omega) V1 A B' C' n k q c d p (by omega) (by omega) (by omega)
  rw [HG.out] at hc
  refine hc.mono ?_
  clear hc
  rintro e V2 ⟨rfl, hb⟩
  clear kXA zXA kXB zXB kXC zXC kXE zXE kXF zXF
  replace XA := XA.below hb
  replace XB := XB.below hb
  replace XC := XC.below hb
  replace XE := XE.below hb
  replace XF := XF.below hb
  replace WW := WW.trans (hb.mono WW.size)
  have kXA := XA.cell
  have zXA := XA.lt
  have kXB := XB.cell
  have zXB := XB.lt
  have kXC := XC.cell
  have zXC := XC.lt
  have kXE := XE.cell
  have zXE := XE.lt
  have kXF := XF.cell
  have zXF := XF.lt
  clear hb hbs
  go_wp2_with fail
  have hbs : w.heap.size ≤ V2.heap.size := WW.size
  have hc := few_n2 2 (by omega) V2 E E2 l s f f2 (by omega) (by omega)
  rw [HG2.out] at hc
  refine hc.mono ?_
  clear hc
  rintro e V3 ⟨rfl, hb⟩
  clear kXA zXA kXB zXB kXC zXC kXE zXE kXF zXF
  replace XA := XA.below hb
  replace XB := XB.below hb
  replace XC := XC.below hb
  replace XE := XE.below hb
  replace XF := XF.below hb
  replace WW := WW.trans (hb.mono WW.size)
  have kXA := XA.cell
  have zXA := XA.lt
  have kXB := XB.cell
  have zXB := XB.lt
  have kXC := XC.cell
  have zXC := XC.lt
  have kXE := XE.cell
  have zXE := XE.lt
  have kXF := XF.cell
  have zXF := XF.lt
  clear hb hbs
  go_wp2_with fail
  have hbs : w.heap.size ≤ V3.heap.size := WW.size
  have hc := awake_any V3
  refine hc.mono ?_
  clear hc
  rintro e V4 ⟨rfl, hb⟩
  clear kXA zXA kXB zXB kXC zXC kXE zXE kXF zXF
  replace XA := XA.below hb
  replace XB := XB.below hb
  replace XC := XC.below hb
  replace XE := XE.below hb
  replace XF := XF.below hb
  replace WW := WW.trans (hb.mono WW.size)
  have kXA := XA.cell
  have zXA := XA.lt
  have kXB := XB.cell
  have zXB := XB.lt
  have kXC := XC.cell
  have zXC := XC.lt
  have kXE := XE.cell
  have zXE := XE.lt
  have kXF := XF.cell
  have zXF := XF.lt
  clear hb hbs
  go_wp2_with fail
  go_ret
  exact ⟨rfl, WW⟩

set_option maxHeartbeats 16000000 in
set_option maxRecDepth 100000 in
theorem powl_far3 (A B' C' E E2 : Option Addr) (n k q l s c d p f f2 a b m e e2 : Nat) (w : World) (hA : Num w w.heap.size A n a) (hB : Num w w.heap.size B' k b) (hC : Num w w.heap.size C' q m) (hE : Num w w.heap.size E l e) (hF : Num w w.heap.size E2 s e2) (hn : n ≤ 9223372036854775807) (hk : k ≤ 9223372036854775807) (hq : q ≤ 9223372036854775807) (hl : l ≤ 9223372036854775807) (hs : s ≤ 9223372036854775807) (hg : n ≤ 8 ∧ k ≤ 8 ∧ q ≤ 8) (hg2 : l ≤ 2 ∧ s ≤ 2) (h0 : ¬ chkS n a k b q m = 0) :
    Calls Try.prog 8 #[.agg #[.slice A n c], .agg #[.slice B' k d], .agg #[.slice C' q p], .agg #[.slice E l f], .agg #[.slice E2 s f2]] w (RetB (.bool true) w) := by
  have HG : Hid (decide (n ≤ 8 ∧ k ≤ 8 ∧ q ≤ 8) = true) := decide_eq_true hg
  have HG2 : Hid (decide (l ≤ 2 ∧ s ≤ 2) = true) := decide_eq_true hg2
  obtain ⟨e0, he0⟩ : ∃ x, chkS n a k b q m = x := ⟨_, rfl⟩
  have HC := hid he0
  rw [he0] at h0
  have z1 : (e0 != 0) = true := by simpa using h0
  clear he0 h0
  clear hg hg2
  obtain ⟨b0, b1, b2, b3, b4, bw⟩ := boxes5 w (.slice A n c) (.slice B' k d) (.slice C' q p) (.slice E l f) (.slice E2 s f2)
  have XA := VB.mk (B := w.heap.size) (a := a) b0 (.inl hA) bw (Nat.le_refl _) (by omega)
  have XB := VB.mk (B := w.heap.size) (a := b) b1 (.inl hB) bw (Nat.le_refl _) (by omega)
  have XC := VB.mk (B := w.heap.size) (a := m) b2 (.inl hC) bw (Nat.le_refl _) (by omega)
  have XE := VB.mk (B := w.heap.size) (a := e) b3 (.inl hE) bw (Nat.le_refl _) (by omega)
  have XF := VB.mk (B := w.heap.size) (a := e2) b4 (.inl hF) bw (Nat.le_refl _) (by omega)
  have WW := bw
  clear bw b0 b1 b2 b3 b4
  go_enter Try.func8, Try.ntmps8
  go_wp2_with fail
  generalize hV : (((((w.alloc (.cells #[.slice A n c] 24)).alloc (.cells #[.slice B' k d] 24)).alloc (.cells #[.slice C' q p] 24)).alloc (.cells #[.slice E l f] 24)).alloc (.cells #[.slice E2 s f2] 24)) = V0 at XA XB XC XE XF WW ⊢
  clear hV
  have hbs : w.heap.size ≤ V0.heap.size := WW.size
  have hc := awake_any V0
  refine hc.mono ?_
  clear hc
  rintro e V1 ⟨rfl, hb⟩
  replace XA := XA.below hb
  replace XB := XB.below hb
  replace XC := XC.below hb
  replace XE := XE.below hb
  replace XF := XF.below hb
  replace WW := WW.trans (hb.mono WW.size)
  have kXA := XA.cell
  have zXA := XA.lt
  have kXB := XB.cell
  have zXB := XB.lt
  have kXC := XC.cell
  have zXC := XC.lt
  have kXE := XE.cell
  have zXE := XE.lt
  have kXF := XF.cell
  have zXF := XF.lt
  clear hb hbs
  go_wp2_with fail
  have hbs : w.heap.size ≤ V1.heap.size := WW.size
  have hc := few_n3 8 (by omega) V1 A B' C' n k q c d p (by omega) (by omega) (by omega)
  rw [HG.out] at hc
  refine hc.mono ?_
  clear hc
  rintro e V2 ⟨rfl, hb⟩
  clear kXA zXA kXB zXB kXC zXC kXE zXE kXF zXF
  replace XA := XA.below hb
  replace XB := XB.below hb
  replace XC := XC.below hb
  replace XE := XE.below hb
  replace XF := XF.below hb
  replace WW := WW.trans (hb.mono WW.size)
  have kXA := XA.cell
  have zXA := XA.lt
  have kXB := XB.cell
  have zXB := XB.lt
  have kXC := XC.cell
  have zXC := XC.lt
  have kXE := XE.cell
  have zXE := XE.lt
  have kXF := XF.cell
  have zXF := XF.lt
  clear hb hbs
  go_wp2_with fail
  have hbs : w.heap.size ≤ V2.heap.size := WW.size
  have hc := few_n2 2 (by omega) V2 E E2 l s f f2 (by omega) (by omega)
  rw [HG2.out] at hc
  refine hc.mono ?_
  clear hc
  rintro e V3 ⟨rfl, hb⟩
  clear kXA zXA kXB zXB kXC zXC kXE zXE kXF zXF
  replace XA := XA.below hb
  replace XB := XB.below hb
  replace XC := XC.below hb
  replace XE := XE.below hb
  replace XF := XF.below hb
  replace WW := WW.trans (hb.mono WW.size)
  have kXA := XA.cell
  have zXA := XA.lt
  have kXB := XB.cell
  have zXB := XB.lt
  have kXC := XC.cell
  have zXC := XC.lt
  have kXE := XE.cell
  have zXE := XE.lt
  have kXF := XF.cell
  have zXF := XF.lt
  clear hb hbs
  go_wp2_with fail
  have hbs : w.heap.size ≤ V3.heap.size := WW.size
  have hc := first_args V3 A B' _ _ c d a b _ m p C' XA.num XB.num XC.num (by omega) (by omega) (by omega)
  rw [HC.out] at hc
  refine hc.mono ?_
  clear hc
  rintro e V4 ⟨rfl, hb⟩
  clear kXA zXA kXB zXB kXC zXC kXE zXE kXF zXF
  replace XA := XA.below hb
  replace XB := XB.below hb
  replace XC := XC.below hb
  replace XE := XE.below hb
  replace XF := XF.below hb
  replace WW := WW.trans (hb.mono WW.size)
  have kXA := XA.cell
  have zXA := XA.lt
  have kXB := XB.cell
  have zXB := XB.lt
  have kXC := XC.cell
  have zXC := XC.lt
  have kXE := XE.cell
  have zXE := XE.lt
  have kXF := XF.cell
  have zXF := XF.lt
  clear hb hbs
  go_wp2_with fail
  have hbs : w.heap.size ≤ V4.heap.size := WW.size
  have hc := awake_any V4
  refine hc.mono ?_
  clear hc
  rintro e V5 ⟨rfl, hb⟩
  clear kXA zXA kXB zXB kXC zXC kXE zXE kXF zXF
  replace XA := XA.below hb
  replace XB := XB.below hb
  replace XC := XC.below hb
  replace XE := XE.below hb
  replace XF := XF.below hb
  replace WW := WW.trans (hb.mono WW.size)
  have kXA := XA.cell
  have zXA := XA.lt
  have kXB := XB.cell
  have zXB := XB.lt
  have kXC := XC.cell
  have zXC := XC.lt
  have kXE := XE.cell
  have zXE := XE.lt
  have kXF := XF.cell
  have zXF := XF.lt
  clear hb hbs
  go_wp2_with fail
  go_ret
  exact ⟨rfl, WW⟩

set_option maxHeartbeats 16000000 in
set_option maxRecDepth 100000 in
theorem powl_far4 (A B' C' E E2 : Option Addr) (n k q l s c d p f f2 a b m e e2 : Nat) (w : World) (hA : Num w w.heap.size A n a) (hB : Num w w.heap.size B' k b) (hC : Num w w.heap.size C' q m) (hE : Num w w.heap.size E l e) (hF : Num w w.heap.size E2 s e2) (hn : n ≤ 9223372036854775807) (hk : k ≤ 9223372036854775807) (hq : q ≤ 9223372036854775807) (hl : l ≤ 9223372036854775807) (hs : s ≤ 9223372036854775807) (hg : n ≤ 8 ∧ k ≤ 8 ∧ q ≤ 8) (hg2 : l ≤ 2 ∧ s ≤ 2) (h0 : chkS n a k b q m = 0) (h1 : okB l e = false) :
    Calls Try.prog 8 #[.agg #[.slice A n c], .agg #[.slice B' k d], .agg #[.slice C' q p], .agg #[.slice E l f], .agg #[.slice E2 s f2]] w (RetB (.bool true) w) := by
  have HG : Hid (decide (n ≤ 8 ∧ k ≤ 8 ∧ q ≤ 8) = true) := decide_eq_true hg
  have HG2 : Hid (decide (l ≤ 2 ∧ s ≤ 2) = true) := decide_eq_true hg2
  have HC := hid h0
  have K1 := hid h1
  clear h0 h1
  clear hg hg2
  obtain ⟨b0, b1, b2, b3, b4, bw⟩ := boxes5 w (.slice A n c) (.slice B' k d) (.slice C' q p) (.slice E l f) (.slice E2 s f2)
  have XA := VB.mk (B := w.heap.size) (a := a) b0 (.inl hA) bw (Nat.le_refl _) (by omega)
  have XB := VB.mk (B := w.heap.size) (a := b) b1 (.inl hB) bw (Nat.le_refl _) (by omega)
  have XC := VB.mk (B := w.heap.size) (a := m) b2 (.inl hC) bw (Nat.le_refl _) (by omega)
  have XE := VB.mk (B := w.heap.size) (a := e) b3 (.inl hE) bw (Nat.le_refl _) (by omega)
  have XF := VB.mk (B := w.heap.size) (a := e2) b4 (.inl hF) bw (Nat.le_refl _) (by omega)
  have WW := bw
  clear bw b0 b1 b2 b3 b4
  go_enter Try.func8, Try.ntmps8
  go_wp2_with fail
  generalize hV : (((((w.alloc (.cells #[.slice A n c] 24)).alloc (.cells #[.slice B' k d] 24)).alloc (.cells #[.slice C' q p] 24)).alloc (.cells #[.slice E l f] 24)).alloc (.cells #[.slice E2 s f2] 24)) = V0 at XA XB XC XE XF WW ⊢
  clear hV
  have hbs : w.heap.size ≤ V0.heap.size := WW.size
  have hc := awake_any V0
  refine hc.mono ?_
  clear hc
  rintro e V1 ⟨rfl, hb⟩
  replace XA := XA.below hb
  replace XB := XB.below hb
  replace XC := XC.below hb
  replace XE := XE.below hb
  replace XF := XF.below hb
  replace WW := WW.trans (hb.mono WW.size)
  have kXA := XA.cell
  have zXA := XA.lt
  have kXB := XB.cell
  have zXB := XB.lt
  have kXC := XC.cell
  have zXC := XC.lt
  have kXE := XE.cell
  have zXE := XE.lt
  have kXF := XF.cell
  have zXF := XF.lt
  clear hb hbs
  go_wp2_with fail
  have hbs : w.heap.size ≤ V1.heap.size := WW.size
  have hc := few_n3 8 (by omega) V1 A B' C' n k q c d p (by omega) (by omega) (by omega)
  rw [HG.out] at hc
  refine hc.mono ?_
  clear hc
  rintro e V2 ⟨rfl, hb⟩
  clear kXA zXA kXB zXB kXC zXC kXE zXE kXF zXF
  replace XA := XA.below hb
  replace XB := XB.below hb
  replace XC := XC.below hb
  replace XE := XE.below hb
  replace XF := XF.below hb
  replace WW := WW.trans (hb.mono WW.size)
  have kXA := XA.cell
  have zXA := XA.lt
  have kXB := XB.cell
  have zXB := XB.lt
  have kXC := XC.cell
  have zXC := XC.lt
  have kXE := XE.cell
  have zXE := XE.lt
  have kXF := XF.cell
  have zXF := XF.lt
  clear hb hbs
  go_wp2_with fail
  have hbs : w.heap.size ≤ V2.heap.size := WW.size
  have hc := few_n2 2 (by omega) V2 E E2 l s f f2 (by omega) (by omega)
  rw [HG2.out] at hc
  refine hc.mono ?_
  clear hc
  rintro e V3 ⟨rfl, hb⟩
  clear kXA zXA kXB zXB kXC zXC kXE zXE kXF zXF
  replace XA := XA.below hb
  replace XB := XB.below hb
  replace XC := XC.below hb
  replace XE := XE.below hb
  replace XF := XF.below hb
  replace WW := WW.trans (hb.mono WW.size)
  have kXA := XA.cell
  have zXA := XA.lt
  have kXB := XB.cell
  have zXB := XB.lt
  have kXC := XC.cell
  have zXC := XC.lt
  have kXE := XE.cell
  have zXE := XE.lt
  have kXF := XF.cell
  have zXF := XF.lt
  clear hb hbs
  go_wp2_with fail
  have hbs : w.heap.size ≤ V3.heap.size := WW.size
  have hc := first_args V3 A B' _ _ c d a b _ m p C' XA.num XB.num XC.num (by omega) (by omega) (by omega)
  rw [HC.out] at hc
  refine hc.mono ?_
  clear hc
  rintro e V4 ⟨rfl, hb⟩
  clear kXA zXA kXB zXB kXC zXC kXE zXE kXF zXF
  replace XA := XA.below hb
  replace XB := XB.below hb
  replace XC := XC.below hb
  replace XE := XE.below hb
  replace XF := XF.below hb
  replace WW := WW.trans (hb.mono WW.size)
  have kXA := XA.cell
  have zXA := XA.lt
  have kXB := XB.cell
  have zXB := XB.lt
  have kXC := XC.cell
  have zXC := XC.lt
  have kXE := XE.cell
  have zXE := XE.lt
  have kXF := XF.cell
  have zXF := XF.lt
  clear hb hbs
  go_wp2_with fail
  have hbs : w.heap.size ≤ V4.heap.size := WW.size
  have hc := rvalid_any E _ f e _ V4 XE.num (Nat.le_refl _) (by omega)
  rw [K1.out] at hc
  refine hc.mono ?_
  clear hc
  rintro e V5 ⟨rfl, hb⟩
  clear kXA zXA kXB zXB kXC zXC kXE zXE kXF zXF
  replace XA := XA.below hb
  replace XB := XB.below hb
  replace XC := XC.below hb
  replace XE := XE.below hb
  replace XF := XF.below hb
  replace WW := WW.trans (hb.mono WW.size)
  have kXA := XA.cell
  have zXA := XA.lt
  have kXB := XB.cell
  have zXB := XB.lt
  have kXC := XC.cell
  have zXC := XC.lt
  have kXE := XE.cell
  have zXE := XE.lt
  have kXF := XF.cell
  have zXF := XF.lt
  clear hb hbs
  go_wp2_with fail
  have hbs : w.heap.size ≤ V5.heap.size := WW.size
  have hc := awake_any V5
  refine hc.mono ?_
  clear hc
  rintro e V6 ⟨rfl, hb⟩
  clear kXA zXA kXB zXB kXC zXC kXE zXE kXF zXF
  replace XA := XA.below hb
  replace XB := XB.below hb
  replace XC := XC.below hb
  replace XE := XE.below hb
  replace XF := XF.below hb
  replace WW := WW.trans (hb.mono WW.size)
  have kXA := XA.cell
  have zXA := XA.lt
  have kXB := XB.cell
  have zXB := XB.lt
  have kXC := XC.cell
  have zXC := XC.lt
  have kXE := XE.cell
  have zXE := XE.lt
  have kXF := XF.cell
  have zXF := XF.lt
  clear hb hbs
  go_wp2_with fail
  go_ret
  exact ⟨rfl, WW⟩

set_option maxHeartbeats 16000000 in
set_option maxRecDepth 100000 in
theorem powl_far5 (A B' C' E E2 : Option Addr) (n k q l s c d p f f2 a b m e e2 : Nat) (w : World) (hA : Num w w.heap.size A n a) (hB : Num w w.heap.size B' k b) (hC : Num w w.heap.size C' q m) (hE : Num w w.heap.size E l e) (hF : Num w w.heap.size E2 s e2) (hn : n ≤ 9223372036854775807) (hk : k ≤ 9223372036854775807) (hq : q ≤ 9223372036854775807) (hl : l ≤ 9223372036854775807) (hs : s ≤ 9223372036854775807) (hg : n ≤ 8 ∧ k ≤ 8 ∧ q ≤ 8) (hg2 : l ≤ 2 ∧ s ≤ 2) (h0 : chkS n a k b q m = 0) (h1 : okB l e = true) (h2 : okB s e2 = false) :
    Calls Try.prog 8 #[.agg #[.slice A n c], .agg #[.slice B' k d], .agg #[.slice C' q p], .agg #[.slice E l f], .agg #[.slice E2 s f2]] w (RetB (.bool true) w) := by
  have HG : Hid (decide (n ≤ 8 ∧ k ≤ 8 ∧ q ≤ 8) = true) := decide_eq_true hg
  have HG2 : Hid (decide (l ≤ 2 ∧ s ≤ 2) = true) := decide_eq_true hg2
  have HC := hid h0
  have K1 := hid h1
  have K2 := hid h2
  clear h0 h1 h2
  clear hg hg2
  obtain ⟨b0, b1, b2, b3, b4, bw⟩ := boxes5 w (.slice A n c) (.slice B' k d) (.slice C' q p) (.slice E l f) (.slice E2 s f2)
  have XA := VB.mk (B := w.heap.size) (a := a) b0 (.inl hA) bw (Nat.le_refl _) (by omega)
  have XB := VB.mk (B := w.heap.size) (a := b) b1 (.inl hB) bw (Nat.le_refl _) (by omega)
  have XC := VB.mk (B := w.heap.size) (a := m) b2 (.inl hC) bw (Nat.le_refl _) (by omega)
  have XE := VB.mk (B := w.heap.size) (a := e) b3 (.inl hE) bw (Nat.le_refl _) (by omega)
  have XF := VB.mk (B := w.heap.size) (a := e2) b4 (.inl hF) bw (Nat.le_refl _) (by omega)
  have WW := bw
  clear bw b0 b1 b2 b3 b4
  go_enter Try.func8, Try.ntmps8
  go_wp2_with fail
  generalize hV : (((((w.alloc (.cells #[.slice A n c] 24)).alloc (.cells #[.slice B' k d] 24)).alloc (.cells #[.slice C' q p] 24)).alloc (.cells #[.slice E l f] 24)).alloc (.cells #[.slice E2 s f2] 24)) = V0 at XA XB XC XE XF WW ⊢
  clear hV
  have hbs : w.heap.size ≤ V0.heap.size := WW.size
  have hc := awake_any V0
  refine hc.mono ?_
  clear hc
  rintro e V1 ⟨rfl, hb⟩
  replace XA := XA.below hb
  replace XB := XB.below hb
  replace XC := XC.below hb
  replace XE := XE.below hb
  replace XF := XF.below hb
  replace WW := WW.trans (hb.mono WW.size)
  have kXA := XA.cell
  have zXA := XA.lt
  have kXB := XB.cell
  have zXB := XB.lt
  have kXC := XC.cell
  have zXC := XC.lt
  have kXE := XE.cell
  have zXE := XE.lt
  have kXF := XF.cell
  have zXF := XF.lt
  clear hb hbs
  go_wp2_with fail
  have hbs : w.heap.size ≤ V1.heap.size := WW.size
  have hc := few_n3 8 (by omega) V1 A B' C' n k q c d p (by omega) (by omega) (by omega)
  rw [HG.out] at hc
  refine hc.mono ?_
  clear hc
  rintro e V2 ⟨rfl, hb⟩
  clear kXA zXA kXB zXB kXC zXC kXE zXE kXF zXF
  replace XA := XA.below hb
  replace XB := XB.below hb
  replace XC := XC.below hb
  replace XE := XE.below hb
  replace XF := XF.below hb
  replace WW := WW.trans (hb.mono WW.size)
  have kXA := XA.cell
  have zXA := XA.lt
  have kXB := XB.cell
  have zXB := XB.lt
  have kXC := XC.cell
  have zXC := XC.lt
  have kXE := XE.cell
  have zXE := XE.lt
  have kXF := XF.cell
  have zXF := XF.lt
  clear hb hbs
  go_wp2_with fail
  have hbs : w.heap.size ≤ V2.heap.size := WW.size
  have hc := few_n2 2 (by omega) V2 E E2 l s f f2 (by omega) (by omega)
  rw [HG2.out] at hc
  refine hc.mono ?_
  clear hc
  rintro e V3 ⟨rfl, hb⟩
  clear kXA zXA kXB zXB kXC zXC kXE zXE kXF zXF
  replace XA := XA.below hb
  replace XB := XB.below hb
  replace XC := XC.below hb
  replace XE := XE.below hb
  replace XF := XF.below hb
  replace WW := WW.trans (hb.mono WW.size)
  have kXA := XA.cell
  have zXA := XA.lt
  have kXB := XB.cell
  have zXB := XB.lt
  have kXC := XC.cell
  have zXC := XC.lt
  have kXE := XE.cell
  have zXE := XE.lt
  have kXF := XF.cell
  have zXF := XF.lt
  clear hb hbs
  go_wp2_with fail
  have hbs : w.heap.size ≤ V3.heap.size := WW.size
  have hc := first_args V3 A B' _ _ c d a b _ m p C' XA.num XB.num XC.num (by omega) (by omega) (by omega)
  rw [HC.out] at hc
  refine hc.mono ?_
  clear hc
  rintro e V4 ⟨rfl, hb⟩
  clear kXA zXA kXB zXB kXC zXC kXE zXE kXF zXF
  replace XA := XA.below hb
  replace XB := XB.below hb
  replace XC := XC.below hb
  replace XE := XE.below hb
  replace XF := XF.below hb
  replace WW := WW.trans (hb.mono WW.size)
  have kXA := XA.cell
  have zXA := XA.lt
  have kXB := XB.cell
  have zXB := XB.lt
  have kXC := XC.cell
  have zXC := XC.lt
  have kXE := XE.cell
  have zXE := XE.lt
  have kXF := XF.cell
  have zXF := XF.lt
  clear hb hbs
  go_wp2_with fail
  have hbs : w.heap.size ≤ V4.heap.size := WW.size
  have hc := rvalid_any E _ f e _ V4 XE.num (Nat.le_refl _) (by omega)
  rw [K1.out] at hc
  refine hc.mono ?_
  clear hc
  rintro e V5 ⟨rfl, hb⟩
  clear kXA zXA kXB zXB kXC zXC kXE zXE kXF zXF
  replace XA := XA.below hb
  replace XB := XB.below hb
  replace XC := XC.below hb
  replace XE := XE.below hb
  replace XF := XF.below hb
  replace WW := WW.trans (hb.mono WW.size)
  have kXA := XA.cell
  have zXA := XA.lt
  have kXB := XB.cell
  have zXB := XB.lt
  have kXC := XC.cell
  have zXC := XC.lt
  have kXE := XE.cell
  have zXE := XE.lt
  have kXF := XF.cell
  have zXF := XF.lt
  clear hb hbs
  go_wp2_with fail
  have hbs : w.heap.size ≤ V5.heap.size := WW.size
  have hc := rvalid_any E2 _ f2 e2 _ V5 XF.num (Nat.le_refl _) (by omega)
  rw [K2.out] at hc
  refine hc.mono ?_
  clear hc
  rintro e V6 ⟨rfl, hb⟩
  clear kXA zXA kXB zXB kXC zXC kXE zXE kXF zXF
  replace XA := XA.below hb
  replace XB := XB.below hb
  replace XC := XC.below hb
  replace XE := XE.below hb
  replace XF := XF.below hb
  replace WW := WW.trans (hb.mono WW.size)
  have kXA := XA.cell
  have zXA := XA.lt
  have kXB := XB.cell
  have zXB := XB.lt
  have kXC := XC.cell
  have zXC := XC.lt
  have kXE := XE.cell
  have zXE := XE.lt
  have kXF := XF.cell
  have zXF := XF.lt
  clear hb hbs
  go_wp2_with fail
  have hbs : w.heap.size ≤ V6.heap.size := WW.size
  have hc := awake_any V6
  refine hc.mono ?_
  clear hc
  rintro e V7 ⟨rfl, hb⟩
  clear kXA zXA kXB zXB kXC zXC kXE zXE kXF zXF
  replace XA := XA.below hb
  replace XB := XB.below hb
  replace XC := XC.below hb
  replace XE := XE.below hb
  replace XF := XF.below hb
  replace WW := WW.trans (hb.mono WW.size)
  have kXA := XA.cell
  have zXA := XA.lt
  have kXB := XB.cell
  have zXB := XB.lt
  have kXC := XC.cell
  have zXC := XC.lt
  have kXE := XE.cell
  have zXE := XE.lt
  have kXF := XF.cell
  have zXF := XF.lt
  clear hb hbs
  go_wp2_with fail
  go_ret
  exact ⟨rfl, WW⟩

end Go.Proofs.Ytckajjapockonaa
