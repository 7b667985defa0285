/- DigestTexts: the walk. -/
import Derived.Test.YtenmdfhdiepfcaaDoorLTx5
set_option linter.unusedVariables false
set_option linter.unusedSimpArgs false
namespace Go.Proofs.YtenmdfhdiepfcaaDoor
open Go Go.RowKit
def oq7_5_0 : Oper := { dst := some 19, op := Op.load 25 (Operand.tmp 3), type := 25, pos := "law.go:85", after := #[], guard := none }
def oq7_5_1 : Oper := { dst := some 20, op := Op.call { callee := Callee.value (Operand.func 23), args := #[Operand.tmp 19], argTypes := #[25] }, type := 9, pos := "law.go:85", after := #[{ on := 0, ground := Ground.data }], guard := none }
def oq7_5_2 : Oper := { dst := some 7, op := Op.assign (Operand.tmp 20), type := 9, pos := "law.go:85", after := #[{ on := 1, ground := Ground.data }, { on := 1, ground := Ground.chain }, { on := 0, ground := Ground.phase }, { on := 1, ground := Ground.phase }], guard := none }
def oq7_6_0 : Oper := { dst := some 22, op := Op.move (Operand.tmp 7), type := 9, pos := "law.go:86", after := #[], guard := none }
def oq7_6_1 : Oper := { dst := some 23, op := Op.call { callee := Callee.value (Operand.func 24), args := #[Operand.tmp 22], argTypes := #[9] }, type := 29, pos := "law.go:86", after := #[{ on := 0, ground := Ground.data }], guard := none }
def oq7_6_2 : Oper := { dst := some 21, op := Op.move (Operand.tmp 23), type := 29, pos := "law.go:86", after := #[{ on := 1, ground := Ground.data }], guard := none }
def oq7_6_3 : Oper := { dst := some 24, op := Op.extract (Operand.tmp 21) 0, type := 25, pos := "law.go:86", after := #[{ on := 2, ground := Ground.data }], guard := none }
def oq7_6_4 : Oper := { dst := some 25, op := Op.extract (Operand.tmp 21) 1, type := 28, pos := "law.go:86", after := #[{ on := 2, ground := Ground.data }, { on := 6, ground := Ground.gcOnly Departure.lateStores }], guard := none }
def oq7_6_5 : Oper := { dst := some 8, op := Op.alloc 25, type := 0, pos := "law.go:86", after := #[], guard := none }
def oq7_6_6 : Oper := { dst := none, op := Op.store 25 (Operand.tmp 8) (Operand.tmp 24), type := 0, pos := "law.go:86", after := #[{ on := 5, ground := Ground.data }, { on := 3, ground := Ground.data }, { on := 1, ground := Ground.chain }, { on := 0, ground := Ground.phase }, { on := 1, ground := Ground.phase }, { on := 2, ground := Ground.phase }, { on := 3, ground := Ground.phase }, { on := 4, ground := Ground.textOnly Departure.lateStores }, { on := 5, ground := Ground.phase }], guard := none }
def oq7_6_7 : Oper := { dst := some 9, op := Op.assign (Operand.tmp 25), type := 28, pos := "law.go:86", after := #[{ on := 4, ground := Ground.data }, { on := 6, ground := Ground.chain }, { on := 0, ground := Ground.phase }, { on := 1, ground := Ground.phase }, { on := 2, ground := Ground.phase }, { on := 3, ground := Ground.phase }, { on := 4, ground := Ground.phase }, { on := 5, ground := Ground.phase }, { on := 6, ground := Ground.phase }], guard := none }
def oq7_7_0 : Oper := { dst := some 26, op := Op.move (Operand.tmp 7), type := 9, pos := "law.go:87", after := #[], guard := none }
def oq7_7_1 : Oper := { dst := some 27, op := Op.load 25 (Operand.tmp 3), type := 25, pos := "law.go:87", after := #[], guard := none }
def oq7_7_2 : Oper := { dst := some 28, op := Op.call { callee := Callee.value (Operand.func 25), args := #[Operand.tmp 27], argTypes := #[25] }, type := 9, pos := "law.go:87", after := #[{ on := 1, ground := Ground.data }], guard := none }
def oq7_7_3 : Oper := { dst := some 29, op := Op.binOp BinOp.neq 9 (Operand.tmp 26) (Operand.tmp 28) 9, type := 4, pos := "law.go:87", after := #[{ on := 0, ground := Ground.data }, { on := 2, ground := Ground.data }], guard := none }
def oq7_7_4 : Oper := { dst := some 30, op := Op.move (Operand.tmp 29), type := 4, pos := "law.go:87", after := #[{ on := 3, ground := Ground.data }, { on := 2, ground := Ground.chain }], guard := none }
def oq7_7_5 : Oper := { dst := some 31, op := Op.move (Operand.tmp 9), type := 28, pos := "law.go:87", after := #[{ on := 4, ground := Ground.guard }], guard := some (4, false) }
def oq7_7_6 : Oper := { dst := some 32, op := Op.binOp BinOp.neq 28 (Operand.tmp 31) (Operand.const (Value.int IntKind.i64 0)) 28, type := 4, pos := "law.go:87", after := #[{ on := 5, ground := Ground.data }, { on := 4, ground := Ground.guard }], guard := some (4, false) }
def oq7_7_7 : Oper := { dst := some 33, op := Op.pick (Operand.tmp 30) (Operand.const (Value.bool true)) (Operand.tmp 32), type := 4, pos := "law.go:87", after := #[{ on := 4, ground := Ground.data }, { on := 6, ground := Ground.data }], guard := none }
def oq7_7_8 : Oper := { dst := some 34, op := Op.move (Operand.tmp 33), type := 4, pos := "law.go:87", after := #[{ on := 7, ground := Ground.data }, { on := 4, ground := Ground.chain }], guard := none }
def oq7_7_9 : Oper := { dst := some 35, op := Op.load 25 (Operand.tmp 8), type := 25, pos := "law.go:87", after := #[{ on := 8, ground := Ground.guard }], guard := some (8, false) }
def oq7_7_10 : Oper := { dst := some 36, op := Op.load 25 (Operand.tmp 3), type := 25, pos := "law.go:87", after := #[{ on := 8, ground := Ground.guard }], guard := some (8, false) }
def oq7_7_11 : Oper := { dst := some 37, op := Op.binOp BinOp.neq 25 (Operand.tmp 35) (Operand.tmp 36) 25, type := 4, pos := "law.go:87", after := #[{ on := 9, ground := Ground.data }, { on := 10, ground := Ground.data }, { on := 8, ground := Ground.guard }], guard := some (8, false) }
def oq7_7_12 : Oper := { dst := some 38, op := Op.pick (Operand.tmp 34) (Operand.const (Value.bool true)) (Operand.tmp 37), type := 4, pos := "law.go:87", after := #[{ on := 8, ground := Ground.data }, { on := 11, ground := Ground.data }], guard := none }
def oq7_7_13 : Oper := { dst := some 39, op := Op.move (Operand.tmp 38), type := 4, pos := "law.go:87", after := #[{ on := 12, ground := Ground.data }, { on := 8, ground := Ground.chain }], guard := none }
def oq7_7_14 : Oper := { dst := some 40, op := Op.load 25 (Operand.tmp 3), type := 25, pos := "law.go:87", after := #[{ on := 13, ground := Ground.guard }], guard := some (13, false) }
def oq7_7_15 : Oper := { dst := some 41, op := Op.load 25 (Operand.tmp 4), type := 25, pos := "law.go:87", after := #[{ on := 13, ground := Ground.guard }], guard := some (13, false) }
def oq7_7_16 : Oper := { dst := some 42, op := Op.call { callee := Callee.value (Operand.func 26), args := #[Operand.tmp 40, Operand.tmp 41], argTypes := #[25, 25] }, type := 3, pos := "law.go:87", after := #[{ on := 14, ground := Ground.data }, { on := 15, ground := Ground.data }, { on := 13, ground := Ground.chain }, { on := 13, ground := Ground.guard }], guard := some (13, false) }
def oq7_7_17 : Oper := { dst := some 43, op := Op.load 25 (Operand.tmp 3), type := 25, pos := "law.go:87", after := #[{ on := 13, ground := Ground.guard }], guard := some (13, false) }
def oq7_7_18 : Oper := { dst := some 44, op := Op.load 25 (Operand.tmp 4), type := 25, pos := "law.go:87", after := #[{ on := 13, ground := Ground.guard }], guard := some (13, false) }
def oq7_7_19 : Oper := { dst := some 45, op := Op.call { callee := Callee.value (Operand.func 27), args := #[Operand.tmp 43, Operand.tmp 44], argTypes := #[25, 25] }, type := 3, pos := "law.go:87", after := #[{ on := 17, ground := Ground.data }, { on := 18, ground := Ground.data }, { on := 16, ground := Ground.chain }, { on := 13, ground := Ground.guard }], guard := some (13, false) }
def oq7_7_20 : Oper := { dst := some 46, op := Op.binOp BinOp.neq 3 (Operand.tmp 42) (Operand.tmp 45) 3, type := 4, pos := "law.go:87", after := #[{ on := 16, ground := Ground.data }, { on := 19, ground := Ground.data }, { on := 13, ground := Ground.guard }], guard := some (13, false) }
def oq7_7_21 : Oper := { dst := some 47, op := Op.pick (Operand.tmp 39) (Operand.const (Value.bool true)) (Operand.tmp 46), type := 4, pos := "law.go:87", after := #[{ on := 13, ground := Ground.data }, { on := 20, ground := Ground.data }], guard := none }
def oq7_9_0 : Oper := { dst := some 49, op := Op.move (Operand.tmp 2), type := 9, pos := "law.go:90", after := #[], guard := none }
def oq7_9_1 : Oper := { dst := some 50, op := Op.call { callee := Callee.value (Operand.func 24), args := #[Operand.tmp 49], argTypes := #[9] }, type := 29, pos := "law.go:90", after := #[{ on := 0, ground := Ground.data }], guard := none }
def oq7_9_2 : Oper := { dst := some 48, op := Op.move (Operand.tmp 50), type := 29, pos := "law.go:90", after := #[{ on := 1, ground := Ground.data }], guard := none }
def oq7_9_3 : Oper := { dst := some 51, op := Op.extract (Operand.tmp 48) 0, type := 25, pos := "law.go:90", after := #[{ on := 2, ground := Ground.data }], guard := none }
def oq7_9_4 : Oper := { dst := some 52, op := Op.extract (Operand.tmp 48) 1, type := 28, pos := "law.go:90", after := #[{ on := 2, ground := Ground.data }, { on := 6, ground := Ground.gcOnly Departure.lateStores }], guard := none }
def oq7_9_5 : Oper := { dst := some 10, op := Op.alloc 25, type := 0, pos := "law.go:90", after := #[], guard := none }
def oq7_9_6 : Oper := { dst := none, op := Op.store 25 (Operand.tmp 10) (Operand.tmp 51), type := 0, pos := "law.go:90", after := #[{ on := 5, ground := Ground.data }, { on := 3, ground := Ground.data }, { on := 1, ground := Ground.chain }, { on := 0, ground := Ground.phase }, { on := 1, ground := Ground.phase }, { on := 2, ground := Ground.phase }, { on := 3, ground := Ground.phase }, { on := 4, ground := Ground.textOnly Departure.lateStores }, { on := 5, ground := Ground.phase }], guard := none }
def oq7_9_7 : Oper := { dst := some 11, op := Op.assign (Operand.tmp 52), type := 28, pos := "law.go:90", after := #[{ on := 4, ground := Ground.data }, { on := 6, ground := Ground.chain }, { on := 0, ground := Ground.phase }, { on := 1, ground := Ground.phase }, { on := 2, ground := Ground.phase }, { on := 3, ground := Ground.phase }, { on := 4, ground := Ground.phase }, { on := 5, ground := Ground.phase }, { on := 6, ground := Ground.phase }], guard := none }
def oq7_10_0 : Oper := { dst := some 54, op := Op.move (Operand.tmp 2), type := 9, pos := "law.go:91", after := #[], guard := none }
def oq7_10_1 : Oper := { dst := some 55, op := Op.call { callee := Callee.value (Operand.func 28), args := #[Operand.tmp 54], argTypes := #[9] }, type := 48, pos := "law.go:91", after := #[{ on := 0, ground := Ground.data }], guard := none }
def oq7_10_2 : Oper := { dst := some 53, op := Op.move (Operand.tmp 55), type := 48, pos := "law.go:91", after := #[{ on := 1, ground := Ground.data }], guard := none }
def oq7_10_3 : Oper := { dst := some 56, op := Op.extract (Operand.tmp 53) 0, type := 25, pos := "law.go:91", after := #[{ on := 2, ground := Ground.data }], guard := none }
def oq7_10_4 : Oper := { dst := some 57, op := Op.extract (Operand.tmp 53) 1, type := 4, pos := "law.go:91", after := #[{ on := 2, ground := Ground.data }, { on := 6, ground := Ground.gcOnly Departure.lateStores }], guard := none }
def oq7_10_5 : Oper := { dst := some 12, op := Op.alloc 25, type := 0, pos := "law.go:91", after := #[], guard := none }
def oq7_10_6 : Oper := { dst := none, op := Op.store 25 (Operand.tmp 12) (Operand.tmp 56), type := 0, pos := "law.go:91", after := #[{ on := 5, ground := Ground.data }, { on := 3, ground := Ground.data }, { on := 1, ground := Ground.chain }, { on := 0, ground := Ground.phase }, { on := 1, ground := Ground.phase }, { on := 2, ground := Ground.phase }, { on := 3, ground := Ground.phase }, { on := 4, ground := Ground.textOnly Departure.lateStores }, { on := 5, ground := Ground.phase }], guard := none }
def oq7_10_7 : Oper := { dst := some 13, op := Op.assign (Operand.tmp 57), type := 4, pos := "law.go:91", after := #[{ on := 4, ground := Ground.data }, { on := 6, ground := Ground.chain }, { on := 0, ground := Ground.phase }, { on := 1, ground := Ground.phase }, { on := 2, ground := Ground.phase }, { on := 3, ground := Ground.phase }, { on := 4, ground := Ground.phase }, { on := 5, ground := Ground.phase }, { on := 6, ground := Ground.phase }], guard := none }
def oq7_12_0 : Oper := { dst := some 60, op := Op.move (Operand.tmp 11), type := 28, pos := "law.go:93", after := #[], guard := none }
def oq7_12_1 : Oper := { dst := some 61, op := Op.binOp BinOp.eql 28 (Operand.tmp 60) (Operand.const (Value.int IntKind.i64 3)) 28, type := 4, pos := "law.go:93", after := #[{ on := 0, ground := Ground.data }], guard := none }
def oq7_12_2 : Oper := { dst := some 62, op := Op.move (Operand.tmp 61), type := 4, pos := "law.go:93", after := #[{ on := 1, ground := Ground.data }], guard := none }
def oq7_12_3 : Oper := { dst := some 63, op := Op.load 25 (Operand.tmp 10), type := 25, pos := "law.go:93", after := #[{ on := 2, ground := Ground.guard }], guard := some (2, true) }
def oq7_12_4 : Oper := { dst := some 64, op := Op.build 25 #[], type := 25, pos := "law.go:93", after := #[{ on := 2, ground := Ground.guard }], guard := some (2, true) }
def oq7_12_5 : Oper := { dst := some 65, op := Op.binOp BinOp.eql 25 (Operand.tmp 63) (Operand.tmp 64) 25, type := 4, pos := "law.go:93", after := #[{ on := 3, ground := Ground.data }, { on := 4, ground := Ground.data }, { on := 2, ground := Ground.guard }], guard := some (2, true) }
def oq7_12_6 : Oper := { dst := some 66, op := Op.pick (Operand.tmp 62) (Operand.tmp 65) (Operand.const (Value.bool false)), type := 4, pos := "law.go:93", after := #[{ on := 2, ground := Ground.data }, { on := 5, ground := Ground.data }], guard := none }
def oq7_12_7 : Oper := { dst := some 6, op := Op.assign (Operand.tmp 66), type := 4, pos := "law.go:93", after := #[{ on := 6, ground := Ground.data }, { on := 2, ground := Ground.chain }, { on := 0, ground := Ground.phase }, { on := 1, ground := Ground.phase }, { on := 2, ground := Ground.phase }, { on := 3, ground := Ground.phase }, { on := 4, ground := Ground.phase }, { on := 5, ground := Ground.phase }, { on := 6, ground := Ground.phase }], guard := none }
def oq7_13_0 : Oper := { dst := some 67, op := Op.move (Operand.tmp 11), type := 28, pos := "law.go:95", after := #[], guard := none }
def oq7_13_1 : Oper := { dst := some 68, op := Op.binOp BinOp.eql 28 (Operand.tmp 67) (Operand.const (Value.int IntKind.i64 0)) 28, type := 4, pos := "law.go:95", after := #[{ on := 0, ground := Ground.data }], guard := none }
def oq7_13_2 : Oper := { dst := some 69, op := Op.move (Operand.tmp 68), type := 4, pos := "law.go:95", after := #[{ on := 1, ground := Ground.data }], guard := none }
def oq7_13_3 : Oper := { dst := some 70, op := Op.load 25 (Operand.tmp 10), type := 25, pos := "law.go:95", after := #[{ on := 2, ground := Ground.guard }], guard := some (2, true) }
def oq7_13_4 : Oper := { dst := some 71, op := Op.load 25 (Operand.tmp 12), type := 25, pos := "law.go:95", after := #[{ on := 2, ground := Ground.guard }], guard := some (2, true) }
def oq7_13_5 : Oper := { dst := some 72, op := Op.binOp BinOp.eql 25 (Operand.tmp 70) (Operand.tmp 71) 25, type := 4, pos := "law.go:95", after := #[{ on := 3, ground := Ground.data }, { on := 4, ground := Ground.data }, { on := 2, ground := Ground.guard }], guard := some (2, true) }
def oq7_13_6 : Oper := { dst := some 73, op := Op.pick (Operand.tmp 69) (Operand.tmp 72) (Operand.const (Value.bool false)), type := 4, pos := "law.go:95", after := #[{ on := 2, ground := Ground.data }, { on := 5, ground := Ground.data }], guard := none }
def oq7_13_7 : Oper := { dst := some 74, op := Op.move (Operand.tmp 73), type := 4, pos := "law.go:95", after := #[{ on := 6, ground := Ground.data }, { on := 2, ground := Ground.chain }], guard := none }
def oq7_13_8 : Oper := { dst := some 75, op := Op.load 25 (Operand.tmp 10), type := 25, pos := "law.go:95", after := #[{ on := 7, ground := Ground.guard }], guard := some (7, true) }
def oq7_13_9 : Oper := { dst := some 76, op := Op.call { callee := Callee.value (Operand.func 23), args := #[Operand.tmp 75], argTypes := #[25] }, type := 9, pos := "law.go:95", after := #[{ on := 8, ground := Ground.data }, { on := 7, ground := Ground.chain }, { on := 7, ground := Ground.guard }], guard := some (7, true) }
def oq7_13_10 : Oper := { dst := some 77, op := Op.move (Operand.tmp 2), type := 9, pos := "law.go:95", after := #[{ on := 7, ground := Ground.guard }], guard := some (7, true) }
def oq7_13_11 : Oper := { dst := some 78, op := Op.binOp BinOp.eql 9 (Operand.tmp 76) (Operand.tmp 77) 9, type := 4, pos := "law.go:95", after := #[{ on := 9, ground := Ground.data }, { on := 10, ground := Ground.data }, { on := 7, ground := Ground.guard }], guard := some (7, true) }
def oq7_13_12 : Oper := { dst := some 79, op := Op.pick (Operand.tmp 74) (Operand.tmp 78) (Operand.const (Value.bool false)), type := 4, pos := "law.go:95", after := #[{ on := 7, ground := Ground.data }, { on := 11, ground := Ground.data }], guard := none }
def oq7_13_13 : Oper := { dst := some 6, op := Op.assign (Operand.tmp 79), type := 4, pos := "law.go:95", after := #[{ on := 12, ground := Ground.data }, { on := 9, ground := Ground.chain }, { on := 0, ground := Ground.phase }, { on := 1, ground := Ground.phase }, { on := 2, ground := Ground.phase }, { on := 3, ground := Ground.phase }, { on := 4, ground := Ground.phase }, { on := 5, ground := Ground.phase }, { on := 6, ground := Ground.phase }, { on := 7, ground := Ground.phase }, { on := 8, ground := Ground.phase }, { on := 9, ground := Ground.phase }, { on := 10, ground := Ground.phase }, { on := 11, ground := Ground.phase }, { on := 12, ground := Ground.phase }], guard := none }

set_option maxRecDepth 100000 in
set_option maxHeartbeats 8000000 in
theorem texts_walk (a b : List Nat) (s : ByteArray) (w : World) (hT : Tabs w) (ha : a.length = 32) (hb : b.length = 32) (ha8 : ∀ x ∈ a, x < 256) (hb8 : ∀ x ∈ b, x < 256) (hs : s.size < 9223372036854775808) :
    Calls Tryd.prog 7 #[hv a, hv b, .string s] w (fun e w' => e = .returned (.bool true) ∧ Below w.heap.size w w') := by
  obtain ⟨ca, hca⟩ : ∃ cs, cs = brow a := ⟨_, rfl⟩
  obtain ⟨cb, hcb⟩ : ∃ cs, cs = brow b := ⟨_, rfl⟩
  have e1 : hv a = .agg ca := by rw [hca]; rfl
  have e2 : hv b = .agg cb := by rw [hcb]; rfl
  have za : ca.size = 32 := by rw [hca, brow_size, ha]
  have zb : cb.size = 32 := by rw [hcb, brow_size, hb]
  have zA : ca.all (·.oneCell') = true := by rw [hca]; exact brow_one a
  obtain ⟨x, hx⟩ : ∃ x, x = cmpN a b := ⟨_, rfl⟩
  have lt_get : ∀ (l : List Nat), (∀ x ∈ l, x < 256) → ∀ i, l.getD i 0 < 256 := fun l h i => by
    rw [List.getD_eq_getElem?_getD]
    cases e : l[i]? with
    | none => simp
    | some v => exact h v (List.mem_of_getElem? e)
  have HAB : Hid (∀ V, Calls Tryd.prog 26 #[.agg ca, .agg cb] V (fun e w' => e = .returned (.int .i64 x) ∧ Below V.heap.size V w')) := (show ∀ V, _ from fun V => by rw [← e1, ← e2, hx]; exact compare_any a b V ha hb ha8 hb8)
  have HRC : Hid (∀ V, Calls Tryd.prog 27 #[.agg ca, .agg cb] V (fun e w' => e = .returned (.int .i64 x) ∧ Below V.heap.size V w')) := (show ∀ V, _ from fun V => by rw [← e1, ← e2, hx]; exact ref_compare a b V ha hb ha8 hb8)
  obtain ⟨Sa, hSa⟩ : ∃ s, s = strN (hexL a) := ⟨_, rfl⟩
  have HXA : Hid (∀ V, Calls Tryd.prog 23 #[.agg ca] V (fun e w' => e = .returned (.string Sa) ∧ Below V.heap.size V w')) := (show ∀ V, _ from fun V => by rw [← e1, hSa]; exact hex_any a V ha (lt_get a ha8))
  have HRX : Hid (∀ V, Calls Tryd.prog 25 #[.agg ca] V (fun e w' => e = .returned (.string Sa) ∧ Below V.heap.size V w')) := (show ∀ V, _ from fun V => by rw [← e1, hSa]; exact ref_hex a V ha (lt_get a ha8))
  have HPA : Hid (∀ V, Calls Tryd.prog 24 #[.string Sa] V (fun e w' => e = .returned (.tuple #[.agg ca, .int .i64 0]) ∧ Below V.heap.size V w')) := (show ∀ V, _ from fun V => by
    have h := hex_ok a ha ha8
    rw [← e1, hSa]
    exact parse_any (strN (hexL a)) V a 0 (fun _ => ⟨h.2.symm, rfl⟩) (fun hn => absurd h.1 hn))
  have hqa : ∀ V : World, (Op.equalIn 10000 25 (.agg ca) (.agg ca)).run Tryd.prog V = .ok true V := fun V => by
    rw [hca, eq25 a a V ha ha]; simp
  obtain ⟨r, hr⟩ : ∃ r, (okT s → r = pk s 64) ∧ (¬ okT s → r = zl) := by
    by_cases h : okT s
    · exact ⟨_, fun _ => rfl, fun n => absurd h n⟩
    · exact ⟨_, fun n => absurd n h, fun _ => rfl⟩
  have hrl : r.length = 32 := by
    by_cases h : okT s
    · rw [hr.1 h, pk_len]
    · rw [hr.2 h]; rfl
  have hr8 : ∀ x ∈ r, x < 256 := by
    by_cases h : okT s
    · rw [hr.1 h]; exact pk_lt s 64
    · rw [hr.2 h]; intro x hx; have := List.eq_of_mem_replicate hx; omega
  obtain ⟨cr, hcr⟩ : ∃ cs, cs = brow r := ⟨_, rfl⟩
  have zr : cr.size = 32 := by rw [hcr, brow_size, hrl]
  have zR : cr.all (·.oneCell') = true := by rw [hcr]; exact brow_one r
  have hqr : ∀ V : World, (Op.equalIn 10000 25 (.agg cr) (.agg cr)).run Tryd.prog V = .ok true V := fun V => by
    rw [hcr, eq25 r r V hrl hrl]; simp
  obtain ⟨be, bo, hbe⟩ : ∃ (be : Int) (bo : Bool), (okT s → be = 0 ∧ bo = true) ∧ (¬ okT s → be = 3 ∧ bo = false) := by
    by_cases h : okT s
    · exact ⟨0, true, fun _ => ⟨rfl, rfl⟩, fun n => absurd h n⟩
    · exact ⟨3, false, fun n => absurd n h, fun _ => ⟨rfl, rfl⟩⟩
  have HBE := hid hbe
  have ecr : hv r = .agg cr := by rw [hcr]; rfl
  have HPS : Hid (∀ V, Calls Tryd.prog 24 #[.string s] V (fun e w' => e = .returned (.tuple #[.agg cr, .int .i64 be]) ∧ Below V.heap.size V w')) := (show ∀ V, _ from fun V => by
    rw [← ecr]
    exact parse_any s V r be (fun h => ⟨hr.1 h, (hbe.1 h).1⟩) (fun h => ⟨hr.2 h, (hbe.2 h).1⟩))
  have HPR : Hid (∀ V, Calls Tryd.prog 28 #[.string s] V (fun e w' => e = .returned (.tuple #[.agg cr, .bool bo]) ∧ Below V.heap.size V w')) := (show ∀ V, _ from fun V => by
    rw [← ecr]
    exact ref_parse s V r bo (fun h => ⟨hr.1 h, (hbe.1 h).2⟩) (fun h => ⟨hr.2 h, (hbe.2 h).2⟩))
  clear hbe ecr
  have HT := hid hT
  have WW := ((Below.refl w.heap.size w).alloc (Nat.le_refl _) (.cells ca 25)).alloc (by simp) (.cells cb 25)
  have b1 := (Blk.new w 25 ca).alloc (.cells cb 25)
  have b2 := Blk.new (w.alloc (.cells ca 25)) 25 cb
  simp only [World.size_alloc] at b2
  have hz := (zero_of_info info25).1
  rw [brow_zero] at hz
  replace hz : ∀ w, (zeroValue 25).run Tryd.prog w = .ok (.agg b32) w := hz
  rw [e1, e2]
  by_cases h200 : 200 < s.size
  · clear hca hcb e1 e2 ha hb ha8 hb8 hx hSa hT lt_get hr hrl hr8 hcr hs
    have hs2 : 200 < ((s.size : Nat) : Int) := by omega
    clear h200
    go_enter Tryd.func7, Tryd.ntmps7
    refine wp_seq_k (fun K1 hK1 => ?_)
    have HK1 := hid hK1
    clear hK1
    go_wp2_with fail
    refine HK1.out _ _ ?_
    clear HK1
    generalize hV : (w.alloc (.cells ca 25)).alloc (.cells cb 25) = V0 at b1 b2 WW ⊢
    clear hV
    go_wp2_with fail
    refine (awake_any V0 (HT.out.below' HT.out.big WW)).mono ?_
    rintro e V00 ⟨rfl, hb⟩
    replace WW := WW.trans (hb.mono WW.size)
    clear hb
    go_wp2_with fail
    go_ret
    exact ⟨rfl, WW⟩
  have HCR := hid hcr
  have HR := hid hr
  have HRL := hid hrl
  have HR8 := hid hr8
  have HLG := hid lt_get
  clear hca hcb e1 e2 ha hb ha8 hb8 hx hSa hT lt_get hr hrl hr8 hcr hs
  have hs2 : ¬ (200 < ((s.size : Nat) : Int)) := by omega
  clear h200
  go_enter Tryd.func7, Tryd.ntmps7
  refine wp_seq_k (fun K1 hK1 => ?_)
  have HK1 := hid hK1
  clear hK1
  go_wp2_with fail
  refine HK1.out _ _ ?_
  clear HK1
  generalize hV : (w.alloc (.cells ca 25)).alloc (.cells cb 25) = V0 at b1 b2 WW ⊢
  clear hV
  refine wp_seq_k (fun K2 hK2 => ?_)
  have HK2 := hid hK2
  clear hK2
  go_wp2_with fail
  refine (awake_any V0 (HT.out.below' HT.out.big WW)).mono ?_
  rintro e V00 ⟨rfl, hb⟩
  replace b1 := b1.below hb b1.lt
  replace b2 := b2.below hb b2.lt
  replace WW := WW.trans (hb.mono WW.size)
  clear hb
  go_wp2_with fail
  refine HK2.out _ _ ?_
  clear HK2
  refine wp_seq_k (fun K3 hK3 => ?_)
  have HK3 := hid hK3
  clear hK3
  go_wp2_with fail
  refine HK3.out _ _ ?_
  clear HK3
  refine wp_seq_k (fun K5 hK5 => ?_)
  have HK5 := hid hK5
  clear hK5
  have hHeld : (fun V => Blk V w.heap.size 25 ca ∧ Blk V (w.heap.size + 1) 25 cb) V00 := ⟨b1, b2⟩
  clear b1 b2
  refine wp_region_lit ?_
  refine list_take (o := oq7_5_0) (v := .agg ca) (S := (fun V => Blk V w.heap.size 25 ca ∧ Blk V (w.heap.size + 1) 25 cb)) (yields_hash w.heap.size ca (by rfl) (.tmp 3) rfl rfl (fun _ h => h.1) za) hHeld ?_
  (try simp only [oq7_5_0, Act.put, List.setIfInBounds_toArray, List.set_cons_zero, List.set_cons_succ])
  refine list_step (o := oq7_5_1) (S := (fun V => Blk V w.heap.size 25 ca ∧ Blk V (w.heap.size + 1) 25 cb)) (by rfl) (fun K hK => ?_)
  delta oq7_5_1
  go_simp
  refine (HXA.out _).mono ?_
  rintro e V1 ⟨rfl, hb⟩
  have hSV : (fun V => Blk V w.heap.size 25 ca ∧ Blk V (w.heap.size + 1) 25 cb) V1 := ⟨hHeld.1.below hb hHeld.1.lt, hHeld.2.below hb hHeld.2.lt⟩
  replace WW := WW.trans (hb.mono WW.size)
  refine hK.out _ _ hSV (fun hHeld2 => ?_)
  clear hK K hHeld hSV hb
  have hHeld := hHeld2
  clear hHeld2
  (try simp only [oq7_5_1, Act.put, List.setIfInBounds_toArray, List.set_cons_zero, List.set_cons_succ])
  refine list_take (o := oq7_5_2) (v := ?_) (S := (fun V => Blk V w.heap.size 25 ca ∧ Blk V (w.heap.size + 1) 25 cb)) (Or.inl ⟨by rfl, ?_⟩) hHeld ?_
  rotate_left
  · (delta oq7_5_2; intro ws hSw; (try dsimp only at hSw); (try go_simp); (try with_reducible rfl))
  (try simp only [oq7_5_2, Act.put, List.setIfInBounds_toArray, List.set_cons_zero, List.set_cons_succ])
  refine HK5.out _ _ ?_
  clear HK5
  refine wp_seq_k (fun K6 hK6 => ?_)
  have HK6 := hid hK6
  clear hK6
  refine wp_region_lit ?_
  refine list_take (o := oq7_6_0) (v := ?_) (S := (fun V => Blk V w.heap.size 25 ca ∧ Blk V (w.heap.size + 1) 25 cb)) (Or.inl ⟨by rfl, ?_⟩) hHeld ?_
  rotate_left
  · (delta oq7_6_0; intro ws hSw; (try dsimp only at hSw); (try go_simp); (try with_reducible rfl))
  (try simp only [oq7_6_0, Act.put, List.setIfInBounds_toArray, List.set_cons_zero, List.set_cons_succ])
  refine list_step (o := oq7_6_1) (S := (fun V => Blk V w.heap.size 25 ca ∧ Blk V (w.heap.size + 1) 25 cb)) (by rfl) (fun K hK => ?_)
  delta oq7_6_1
  go_simp
  refine (HPA.out _).mono ?_
  rintro e V2 ⟨rfl, hb⟩
  have hSV : (fun V => Blk V w.heap.size 25 ca ∧ Blk V (w.heap.size + 1) 25 cb) V2 := ⟨hHeld.1.below hb hHeld.1.lt, hHeld.2.below hb hHeld.2.lt⟩
  replace WW := WW.trans (hb.mono WW.size)
  refine hK.out _ _ hSV (fun hHeld2 => ?_)
  clear hK K hHeld hSV hb
  have hHeld := hHeld2
  clear hHeld2
  (try simp only [oq7_6_1, Act.put, List.setIfInBounds_toArray, List.set_cons_zero, List.set_cons_succ])
  refine list_take (o := oq7_6_2) (v := ?_) (S := (fun V => Blk V w.heap.size 25 ca ∧ Blk V (w.heap.size + 1) 25 cb)) (Or.inl ⟨by rfl, ?_⟩) hHeld ?_
  rotate_left
  · (delta oq7_6_2; intro ws hSw; (try dsimp only at hSw); (try go_simp); (try with_reducible rfl))
  (try simp only [oq7_6_2, Act.put, List.setIfInBounds_toArray, List.set_cons_zero, List.set_cons_succ])
  refine list_take (o := oq7_6_3) (v := ?_) (S := (fun V => Blk V w.heap.size 25 ca ∧ Blk V (w.heap.size + 1) 25 cb)) (Or.inl ⟨by rfl, ?_⟩) hHeld ?_
  rotate_left
  · (delta oq7_6_3; intro ws hSw; (try dsimp only at hSw); (try go_simp); (try with_reducible rfl))
  (try simp only [oq7_6_3, Act.put, List.setIfInBounds_toArray, List.set_cons_zero, List.set_cons_succ])
  refine list_take (o := oq7_6_4) (v := ?_) (S := (fun V => Blk V w.heap.size 25 ca ∧ Blk V (w.heap.size + 1) 25 cb)) (Or.inl ⟨by rfl, ?_⟩) hHeld ?_
  rotate_left
  · (delta oq7_6_4; intro ws hSw; (try dsimp only at hSw); (try go_simp); (try with_reducible rfl))
  (try simp only [oq7_6_4, Act.put, List.setIfInBounds_toArray, List.set_cons_zero, List.set_cons_succ])
  refine list_step (o := oq7_6_5) (S := fun _ => True) (by rfl) (fun K hK => ?_)
  delta oq7_6_5
  go_simp
  refine hK.out _ _ trivial (fun _ => ?_)
  clear hK K
  (try simp only [oq7_6_5, Act.put, List.setIfInBounds_toArray, List.set_cons_zero, List.set_cons_succ])
  have bz := Blk.new V2 25 b32
  have hsz := WW.size
  refine wpList_store_row rfl 25 (.tmp 8) (.tmp 24) rfl V2.heap.size ca rfl rfl 25 _ bz (by rw [za]; kernel_rfl) (by rw [za, b32_size]) zA ?_
  have ba := bz.setRow_ ca
  have b1 := (hHeld.1.alloc (.cells b32 25)).setRow_far (Nat.ne_of_lt hHeld.1.lt) ca
  have b2 := (hHeld.2.alloc (.cells b32 25)).setRow_far (Nat.ne_of_lt hHeld.2.lt) ca
  have WW2 := below_setRow_ (WW.alloc WW.size (.cells b32 25)) WW.size ca
  clear WW bz hHeld
  obtain ⟨ga, hg⟩ : ∃ g, g = V2.heap.size := ⟨_, rfl⟩
  rw [← hg] at ba b1 b2 WW2 ⊢
  generalize hV : (V2.alloc (.cells b32 25)).setRow ga ca = Wga at ba b1 b2 WW2 ⊢
  clear hV hg hsz
  have WW := WW2
  clear WW2
  go_wp2_with fail
  refine HK6.out _ _ ?_
  clear HK6
  refine wp_seq_k (fun K7 hK7 => ?_)
  have HK7 := hid hK7
  clear hK7
  refine wp_seq_k (fun K8 hK8 => ?_)
  have HK8 := hid hK8
  clear hK8
  replace WW := WW.drew
  have hst : (fun V => Blk V w.heap.size 25 ca ∧ Blk V (w.heap.size + 1) 25 cb ∧ Blk V ga 25 ca) Wga.drew := ⟨b1, b2, ba⟩
  clear b1 b2 ba
  refine region_L 29 (fun V => Blk V w.heap.size 25 ca ∧ Blk V (w.heap.size + 1) 25 cb ∧ Blk V ga 25 ca) (by kernel_rfl) hst (fun hHeld => ?_)
  clear hst
  generalize hV : Wga.drew = V70 at hHeld WW ⊢
  clear hV
  refine AnyL_take (i := 0) (oi := oq7_7_0) (v := ?_) rfl (by kernel_rfl) (by kernel_rfl) (by kernel_rfl) (by kernel_rfl) (fun _ _ _ h => h) (Or.inl ⟨by rfl, ?_⟩) (by assumption) ?_
  rotate_left
  · (delta oq7_7_0; intro ws hSw; (try dsimp only at hSw); (try go_simp); (try with_reducible rfl))
  (try simp only [oq7_7_0, Act.put, List.setIfInBounds_toArray, List.set_cons_zero, List.set_cons_succ])
  refine AnyL_take (i := 1) (oi := oq7_7_1) (v := .agg ca) rfl (by kernel_rfl) (by kernel_rfl) (by kernel_rfl) (by kernel_rfl) (fun _ _ _ h => h) (yields_hash w.heap.size ca (by rfl) (.tmp 3) rfl rfl (fun _ h => h.1) za) (by assumption) ?_
  (try simp only [oq7_7_1, Act.put, List.setIfInBounds_toArray, List.set_cons_zero, List.set_cons_succ])
  refine AnyL_ready (rs := [2]) (by kernel_rfl) (by simp) ?_
  refine ReadyL.cons (o := oq7_7_2) rfl (fun K hK => ?_) ReadyL.nil
  delta oq7_7_2
  go_simp
  refine (HRX.out _).mono ?_
  rintro e V3 ⟨rfl, hb⟩
  have hSV : (fun V => Blk V w.heap.size 25 ca ∧ Blk V (w.heap.size + 1) 25 cb ∧ Blk V ga 25 ca) V3 := ⟨hHeld.1.below hb hHeld.1.lt, hHeld.2.1.below hb hHeld.2.1.lt, hHeld.2.2.below hb hHeld.2.2.lt⟩
  replace WW := WW.trans (hb.mono WW.size)
  refine hK.out _ _ hSV (fun hHeld2 => ?_)
  clear hK K hHeld hSV hb
  have hHeld := hHeld2
  clear hHeld2
  (try simp only [oq7_7_2, Act.put, List.setIfInBounds_toArray, List.set_cons_zero, List.set_cons_succ])
  refine AnyL_take (i := 3) (oi := oq7_7_3) (v := ?_) rfl (by kernel_rfl) (by kernel_rfl) (by kernel_rfl) (by kernel_rfl) (fun _ _ _ h => h) (Or.inl ⟨by rfl, ?_⟩) (by assumption) ?_
  rotate_left
  · (delta oq7_7_3; intro ws hSw; (try dsimp only at hSw); (try go_simp); (try with_reducible rfl))
  (try simp only [oq7_7_3, Act.put, List.setIfInBounds_toArray, List.set_cons_zero, List.set_cons_succ])
  refine AnyL_take (i := 4) (oi := oq7_7_4) (v := ?_) rfl (by kernel_rfl) (by kernel_rfl) (by kernel_rfl) (by kernel_rfl) (fun _ _ _ h => h) (Or.inl ⟨by rfl, ?_⟩) (by assumption) ?_
  rotate_left
  · (delta oq7_7_4; intro ws hSw; (try dsimp only at hSw); (try go_simp); (try with_reducible rfl))
  (try simp only [oq7_7_4, Act.put, List.setIfInBounds_toArray, List.set_cons_zero, List.set_cons_succ])
  refine AnyL_take (i := 5) (oi := oq7_7_5) (v := ?_) rfl (by kernel_rfl) (by kernel_rfl) (by kernel_rfl) (by kernel_rfl) (fun _ _ _ h => h) (Or.inl ⟨by rfl, ?_⟩) (by assumption) ?_
  rotate_left
  · (delta oq7_7_5; intro ws hSw; (try dsimp only at hSw); (try go_simp); (try with_reducible rfl))
  (try simp only [oq7_7_5, Act.put, List.setIfInBounds_toArray, List.set_cons_zero, List.set_cons_succ])
  refine AnyL_take (i := 6) (oi := oq7_7_6) (v := ?_) rfl (by kernel_rfl) (by kernel_rfl) (by kernel_rfl) (by kernel_rfl) (fun _ _ _ h => h) (Or.inl ⟨by rfl, ?_⟩) (by assumption) ?_
  rotate_left
  · (delta oq7_7_6; intro ws hSw; (try dsimp only at hSw); (try go_simp); (try with_reducible rfl))
  (try simp only [oq7_7_6, Act.put, List.setIfInBounds_toArray, List.set_cons_zero, List.set_cons_succ])
  refine AnyL_take (i := 7) (oi := oq7_7_7) (v := ?_) rfl (by kernel_rfl) (by kernel_rfl) (by kernel_rfl) (by kernel_rfl) (fun _ _ _ h => h) (Or.inl ⟨by rfl, ?_⟩) (by assumption) ?_
  rotate_left
  · (delta oq7_7_7; intro ws hSw; (try dsimp only at hSw); (try go_simp); (try with_reducible rfl))
  (try simp only [oq7_7_7, Act.put, List.setIfInBounds_toArray, List.set_cons_zero, List.set_cons_succ])
  refine AnyL_take (i := 8) (oi := oq7_7_8) (v := ?_) rfl (by kernel_rfl) (by kernel_rfl) (by kernel_rfl) (by kernel_rfl) (fun _ _ _ h => h) (Or.inl ⟨by rfl, ?_⟩) (by assumption) ?_
  rotate_left
  · (delta oq7_7_8; intro ws hSw; (try dsimp only at hSw); (try go_simp); (try with_reducible rfl))
  (try simp only [oq7_7_8, Act.put, List.setIfInBounds_toArray, List.set_cons_zero, List.set_cons_succ])
  refine AnyL_take (i := 9) (oi := oq7_7_9) (v := .agg ca) rfl (by kernel_rfl) (by kernel_rfl) (by kernel_rfl) (by kernel_rfl) (fun _ _ _ h => h) (yields_hash ga ca (by rfl) (.tmp 8) rfl rfl (fun _ h => h.2.2) za) (by assumption) ?_
  (try simp only [oq7_7_9, Act.put, List.setIfInBounds_toArray, List.set_cons_zero, List.set_cons_succ])
  refine AnyL_take (i := 10) (oi := oq7_7_10) (v := .agg ca) rfl (by kernel_rfl) (by kernel_rfl) (by kernel_rfl) (by kernel_rfl) (fun _ _ _ h => h) (yields_hash w.heap.size ca (by rfl) (.tmp 3) rfl rfl (fun _ h => h.1) za) (by assumption) ?_
  (try simp only [oq7_7_10, Act.put, List.setIfInBounds_toArray, List.set_cons_zero, List.set_cons_succ])
  refine AnyL_take (i := 11) (oi := oq7_7_11) (v := ?_) rfl (by kernel_rfl) (by kernel_rfl) (by kernel_rfl) (by kernel_rfl) (fun _ _ _ h => h) (Or.inl ⟨by rfl, ?_⟩) (by assumption) ?_
  rotate_left
  · (delta oq7_7_11; intro ws hSw; (try dsimp only at hSw); (try go_simp); (try with_reducible rfl))
  (try simp only [oq7_7_11, Act.put, List.setIfInBounds_toArray, List.set_cons_zero, List.set_cons_succ])
  refine AnyL_take (i := 12) (oi := oq7_7_12) (v := ?_) rfl (by kernel_rfl) (by kernel_rfl) (by kernel_rfl) (by kernel_rfl) (fun _ _ _ h => h) (Or.inl ⟨by rfl, ?_⟩) (by assumption) ?_
  rotate_left
  · (delta oq7_7_12; intro ws hSw; (try dsimp only at hSw); (try go_simp); (try with_reducible rfl))
  (try simp only [oq7_7_12, Act.put, List.setIfInBounds_toArray, List.set_cons_zero, List.set_cons_succ])
  refine AnyL_take (i := 13) (oi := oq7_7_13) (v := ?_) rfl (by kernel_rfl) (by kernel_rfl) (by kernel_rfl) (by kernel_rfl) (fun _ _ _ h => h) (Or.inl ⟨by rfl, ?_⟩) (by assumption) ?_
  rotate_left
  · (delta oq7_7_13; intro ws hSw; (try dsimp only at hSw); (try go_simp); (try with_reducible rfl))
  (try simp only [oq7_7_13, Act.put, List.setIfInBounds_toArray, List.set_cons_zero, List.set_cons_succ])
  refine AnyL_take (i := 14) (oi := oq7_7_14) (v := .agg ca) rfl (by kernel_rfl) (by kernel_rfl) (by kernel_rfl) (by kernel_rfl) (fun _ _ _ h => h) (yields_hash w.heap.size ca (by rfl) (.tmp 3) rfl rfl (fun _ h => h.1) za) (by assumption) ?_
  (try simp only [oq7_7_14, Act.put, List.setIfInBounds_toArray, List.set_cons_zero, List.set_cons_succ])
  refine AnyL_take (i := 15) (oi := oq7_7_15) (v := .agg cb) rfl (by kernel_rfl) (by kernel_rfl) (by kernel_rfl) (by kernel_rfl) (fun _ _ _ h => h) (yields_hash (w.heap.size + 1) cb (by rfl) (.tmp 4) rfl rfl (fun _ h => h.2.1) zb) (by assumption) ?_
  (try simp only [oq7_7_15, Act.put, List.setIfInBounds_toArray, List.set_cons_zero, List.set_cons_succ])
  refine AnyL_take (i := 17) (oi := oq7_7_17) (v := .agg ca) rfl (by kernel_rfl) (by kernel_rfl) (by kernel_rfl) (by kernel_rfl) (fun _ _ _ h => h) (yields_hash w.heap.size ca (by rfl) (.tmp 3) rfl rfl (fun _ h => h.1) za) (by assumption) ?_
  (try simp only [oq7_7_17, Act.put, List.setIfInBounds_toArray, List.set_cons_zero, List.set_cons_succ])
  refine AnyL_take (i := 18) (oi := oq7_7_18) (v := .agg cb) rfl (by kernel_rfl) (by kernel_rfl) (by kernel_rfl) (by kernel_rfl) (fun _ _ _ h => h) (yields_hash (w.heap.size + 1) cb (by rfl) (.tmp 4) rfl rfl (fun _ h => h.2.1) zb) (by assumption) ?_
  (try simp only [oq7_7_18, Act.put, List.setIfInBounds_toArray, List.set_cons_zero, List.set_cons_succ])
  refine AnyL_ready (rs := [16]) (by kernel_rfl) (by simp) ?_
  refine ReadyL.cons (o := oq7_7_16) rfl (fun K hK => ?_) ReadyL.nil
  delta oq7_7_16
  go_simp
  refine (HAB.out _).mono ?_
  rintro e V4 ⟨rfl, hb⟩
  have hSV : (fun V => Blk V w.heap.size 25 ca ∧ Blk V (w.heap.size + 1) 25 cb ∧ Blk V ga 25 ca) V4 := ⟨hHeld.1.below hb hHeld.1.lt, hHeld.2.1.below hb hHeld.2.1.lt, hHeld.2.2.below hb hHeld.2.2.lt⟩
  replace WW := WW.trans (hb.mono WW.size)
  refine hK.out _ _ hSV (fun hHeld2 => ?_)
  clear hK K hHeld hSV hb
  have hHeld := hHeld2
  clear hHeld2
  (try simp only [oq7_7_16, Act.put, List.setIfInBounds_toArray, List.set_cons_zero, List.set_cons_succ])
  refine AnyL_ready (rs := [19]) (by kernel_rfl) (by simp) ?_
  refine ReadyL.cons (o := oq7_7_19) rfl (fun K hK => ?_) ReadyL.nil
  delta oq7_7_19
  go_simp
  refine (HRC.out _).mono ?_
  rintro e V5 ⟨rfl, hb⟩
  have hSV : (fun V => Blk V w.heap.size 25 ca ∧ Blk V (w.heap.size + 1) 25 cb ∧ Blk V ga 25 ca) V5 := ⟨hHeld.1.below hb hHeld.1.lt, hHeld.2.1.below hb hHeld.2.1.lt, hHeld.2.2.below hb hHeld.2.2.lt⟩
  replace WW := WW.trans (hb.mono WW.size)
  refine hK.out _ _ hSV (fun hHeld2 => ?_)
  clear hK K hHeld hSV hb
  have hHeld := hHeld2
  clear hHeld2
  (try simp only [oq7_7_19, Act.put, List.setIfInBounds_toArray, List.set_cons_zero, List.set_cons_succ])
  refine AnyL_take (i := 20) (oi := oq7_7_20) (v := ?_) rfl (by kernel_rfl) (by kernel_rfl) (by kernel_rfl) (by kernel_rfl) (fun _ _ _ h => h) (Or.inl ⟨by rfl, ?_⟩) (by assumption) ?_
  rotate_left
  · (delta oq7_7_20; intro ws hSw; (try dsimp only at hSw); (try go_simp); (try with_reducible rfl))
  (try simp only [oq7_7_20, Act.put, List.setIfInBounds_toArray, List.set_cons_zero, List.set_cons_succ])
  refine AnyL_take (i := 21) (oi := oq7_7_21) (v := ?_) rfl (by kernel_rfl) (by kernel_rfl) (by kernel_rfl) (by kernel_rfl) (fun _ _ _ h => h) (Or.inl ⟨by rfl, ?_⟩) (by assumption) ?_
  rotate_left
  · (delta oq7_7_21; intro ws hSw; (try dsimp only at hSw); (try go_simp); (try with_reducible rfl))
  (try simp only [oq7_7_21, Act.put, List.setIfInBounds_toArray, List.set_cons_zero, List.set_cons_succ])
  refine AnyL_done (by kernel_rfl) ?_ _
  refine HK8.out _ _ ?_
  clear HK8
  go_wp2_with fail
  refine HK7.out _ _ ?_
  clear HK7
  refine wp_seq_k (fun K9 hK9 => ?_)
  have HK9 := hid hK9
  clear hK9
  clear hHeld
  have hHeld : True := trivial
  refine wp_region_lit ?_
  refine list_take (o := oq7_9_0) (v := ?_) (S := (fun _ => True)) (Or.inl ⟨by rfl, ?_⟩) hHeld ?_
  rotate_left
  · (delta oq7_9_0; intro ws hSw; (try dsimp only at hSw); (try go_simp); (try with_reducible rfl))
  (try simp only [oq7_9_0, Act.put, List.setIfInBounds_toArray, List.set_cons_zero, List.set_cons_succ])
  refine list_step (o := oq7_9_1) (S := (fun _ => True)) (by rfl) (fun K hK => ?_)
  delta oq7_9_1
  go_simp
  refine (HPS.out _).mono ?_
  rintro e V6 ⟨rfl, hb⟩
  replace WW := WW.trans (hb.mono WW.size)
  refine hK.out _ _ trivial (fun hHeld2 => ?_)
  clear hK K hb
  clear hHeld
  have hHeld := hHeld2
  clear hHeld2
  (try simp only [oq7_9_1, Act.put, List.setIfInBounds_toArray, List.set_cons_zero, List.set_cons_succ])
  refine list_take (o := oq7_9_2) (v := ?_) (S := (fun _ => True)) (Or.inl ⟨by rfl, ?_⟩) hHeld ?_
  rotate_left
  · (delta oq7_9_2; intro ws hSw; (try dsimp only at hSw); (try go_simp); (try with_reducible rfl))
  (try simp only [oq7_9_2, Act.put, List.setIfInBounds_toArray, List.set_cons_zero, List.set_cons_succ])
  refine list_take (o := oq7_9_3) (v := ?_) (S := (fun _ => True)) (Or.inl ⟨by rfl, ?_⟩) hHeld ?_
  rotate_left
  · (delta oq7_9_3; intro ws hSw; (try dsimp only at hSw); (try go_simp); (try with_reducible rfl))
  (try simp only [oq7_9_3, Act.put, List.setIfInBounds_toArray, List.set_cons_zero, List.set_cons_succ])
  refine list_take (o := oq7_9_4) (v := ?_) (S := (fun _ => True)) (Or.inl ⟨by rfl, ?_⟩) hHeld ?_
  rotate_left
  · (delta oq7_9_4; intro ws hSw; (try dsimp only at hSw); (try go_simp); (try with_reducible rfl))
  (try simp only [oq7_9_4, Act.put, List.setIfInBounds_toArray, List.set_cons_zero, List.set_cons_succ])
  refine list_step (o := oq7_9_5) (S := fun _ => True) (by rfl) (fun K hK => ?_)
  delta oq7_9_5
  go_simp
  refine hK.out _ _ trivial (fun _ => ?_)
  clear hK K
  (try simp only [oq7_9_5, Act.put, List.setIfInBounds_toArray, List.set_cons_zero, List.set_cons_succ])
  have bz := Blk.new V6 25 b32
  have hsz := WW.size
  refine wpList_store_row rfl 25 (.tmp 10) (.tmp 51) rfl V6.heap.size cr rfl rfl 25 _ bz (by rw [zr]; kernel_rfl) (by rw [zr, b32_size]) zR ?_
  have br := bz.setRow_ cr
  have WW2 := below_setRow_ (WW.alloc WW.size (.cells b32 25)) WW.size cr
  clear WW bz hHeld
  obtain ⟨gr, hg⟩ : ∃ g, g = V6.heap.size := ⟨_, rfl⟩
  rw [← hg] at br  WW2 ⊢
  generalize hV : (V6.alloc (.cells b32 25)).setRow gr cr = Wgr at br  WW2 ⊢
  clear hV hg hsz
  have WW := WW2
  clear WW2
  go_wp2_with fail
  refine HK9.out _ _ ?_
  clear HK9
  refine wp_seq_k (fun K10 hK10 => ?_)
  have HK10 := hid hK10
  clear hK10
  have hHeld : (fun V => Blk V gr 25 cr) Wgr := br
  clear br
  refine wp_region_lit ?_
  refine list_take (o := oq7_10_0) (v := ?_) (S := (fun V => Blk V gr 25 cr)) (Or.inl ⟨by rfl, ?_⟩) hHeld ?_
  rotate_left
  · (delta oq7_10_0; intro ws hSw; (try dsimp only at hSw); (try go_simp); (try with_reducible rfl))
  (try simp only [oq7_10_0, Act.put, List.setIfInBounds_toArray, List.set_cons_zero, List.set_cons_succ])
  refine list_step (o := oq7_10_1) (S := (fun V => Blk V gr 25 cr)) (by rfl) (fun K hK => ?_)
  delta oq7_10_1
  go_simp
  refine (HPR.out _).mono ?_
  rintro e V7 ⟨rfl, hb⟩
  have hSV : (fun V => Blk V gr 25 cr) V7 := hHeld.below hb hHeld.lt
  replace WW := WW.trans (hb.mono WW.size)
  refine hK.out _ _ hSV (fun hHeld2 => ?_)
  clear hK K hHeld hSV hb
  have hHeld := hHeld2
  clear hHeld2
  (try simp only [oq7_10_1, Act.put, List.setIfInBounds_toArray, List.set_cons_zero, List.set_cons_succ])
  refine list_take (o := oq7_10_2) (v := ?_) (S := (fun V => Blk V gr 25 cr)) (Or.inl ⟨by rfl, ?_⟩) hHeld ?_
  rotate_left
  · (delta oq7_10_2; intro ws hSw; (try dsimp only at hSw); (try go_simp); (try with_reducible rfl))
  (try simp only [oq7_10_2, Act.put, List.setIfInBounds_toArray, List.set_cons_zero, List.set_cons_succ])
  refine list_take (o := oq7_10_3) (v := ?_) (S := (fun V => Blk V gr 25 cr)) (Or.inl ⟨by rfl, ?_⟩) hHeld ?_
  rotate_left
  · (delta oq7_10_3; intro ws hSw; (try dsimp only at hSw); (try go_simp); (try with_reducible rfl))
  (try simp only [oq7_10_3, Act.put, List.setIfInBounds_toArray, List.set_cons_zero, List.set_cons_succ])
  refine list_take (o := oq7_10_4) (v := ?_) (S := (fun V => Blk V gr 25 cr)) (Or.inl ⟨by rfl, ?_⟩) hHeld ?_
  rotate_left
  · (delta oq7_10_4; intro ws hSw; (try dsimp only at hSw); (try go_simp); (try with_reducible rfl))
  (try simp only [oq7_10_4, Act.put, List.setIfInBounds_toArray, List.set_cons_zero, List.set_cons_succ])
  refine list_step (o := oq7_10_5) (S := fun _ => True) (by rfl) (fun K hK => ?_)
  delta oq7_10_5
  go_simp
  refine hK.out _ _ trivial (fun _ => ?_)
  clear hK K
  (try simp only [oq7_10_5, Act.put, List.setIfInBounds_toArray, List.set_cons_zero, List.set_cons_succ])
  have bz := Blk.new V7 25 b32
  have hsz := WW.size
  refine wpList_store_row rfl 25 (.tmp 12) (.tmp 56) rfl V7.heap.size cr rfl rfl 25 _ bz (by rw [zr]; kernel_rfl) (by rw [zr, b32_size]) zR ?_
  have bq := bz.setRow_ cr
  have br := (hHeld.alloc (.cells b32 25)).setRow_far (Nat.ne_of_lt hHeld.lt) cr
  have WW2 := below_setRow_ (WW.alloc WW.size (.cells b32 25)) WW.size cr
  clear WW bz hHeld
  obtain ⟨gq, hg⟩ : ∃ g, g = V7.heap.size := ⟨_, rfl⟩
  rw [← hg] at bq br WW2 ⊢
  generalize hV : (V7.alloc (.cells b32 25)).setRow gq cr = Wgq at bq br WW2 ⊢
  clear hV hg hsz
  have WW := WW2
  clear WW2
  go_wp2_with fail
  refine HK10.out _ _ ?_
  clear HK10
  have hHeld : (fun V => Blk V gr 25 cr ∧ Blk V gq 25 cr) Wgq := ⟨br, bq⟩
  clear br bq
  refine wp_seq_k (fun K11 hK11 => ?_)
  have HK11 := hid hK11
  clear hK11
  refine wp_seq_k (fun K12 hK12 => ?_)
  have HK12 := hid hK12
  clear hK12
  by_cases hok : okT s
  · obtain ⟨rfl, rfl⟩ := HBE.out.1 hok
    go_wp2_with fail
    refine HK12.out _ _ ?_
    clear HK12
    refine wp_cond_false rfl ?_
    go_wp2_with fail
    refine HK11.out _ _ ?_
    clear HK11
    have HXR : Hid (∀ V, Calls Tryd.prog 23 #[.agg cr] V (fun e w' => e = .returned (.string s) ∧ Below V.heap.size V w')) := (show ∀ V, _ from fun V => by
      have h := hex_any r V HRL.out (HLG.out r HR8.out)
      rw [HR.out.1 hok, hex_back s hok, ← HR.out.1 hok, show hv r = .agg cr by rw [HCR.out]; rfl] at h
      exact h)
    refine wp_seq_k (fun K13 hK13 => ?_)
    refine wp_region_lit ?_
    refine list_take (o := oq7_13_0) (v := ?_) (S := (fun V => Blk V gr 25 cr ∧ Blk V gq 25 cr)) (Or.inl ⟨by rfl, ?_⟩) hHeld ?_
    rotate_left
    · (delta oq7_13_0; intro ws hSw; (try dsimp only at hSw); (try go_simp); (try with_reducible rfl))
    (try simp only [oq7_13_0, Act.put, List.setIfInBounds_toArray, List.set_cons_zero, List.set_cons_succ])
    refine list_take (o := oq7_13_1) (v := ?_) (S := (fun V => Blk V gr 25 cr ∧ Blk V gq 25 cr)) (Or.inl ⟨by rfl, ?_⟩) hHeld ?_
    rotate_left
    · (delta oq7_13_1; intro ws hSw; (try dsimp only at hSw); (try go_simp); (try with_reducible rfl))
    (try simp only [oq7_13_1, Act.put, List.setIfInBounds_toArray, List.set_cons_zero, List.set_cons_succ])
    refine list_take (o := oq7_13_2) (v := ?_) (S := (fun V => Blk V gr 25 cr ∧ Blk V gq 25 cr)) (Or.inl ⟨by rfl, ?_⟩) hHeld ?_
    rotate_left
    · (delta oq7_13_2; intro ws hSw; (try dsimp only at hSw); (try go_simp); (try with_reducible rfl))
    (try simp only [oq7_13_2, Act.put, List.setIfInBounds_toArray, List.set_cons_zero, List.set_cons_succ])
    refine list_take (o := oq7_13_3) (v := .agg cr) (S := (fun V => Blk V gr 25 cr ∧ Blk V gq 25 cr)) (yields_hash gr cr (by rfl) (.tmp 10) rfl rfl (fun _ h => h.1) zr) hHeld ?_
    (try simp only [oq7_13_3, Act.put, List.setIfInBounds_toArray, List.set_cons_zero, List.set_cons_succ])
    refine list_take (o := oq7_13_4) (v := .agg cr) (S := (fun V => Blk V gr 25 cr ∧ Blk V gq 25 cr)) (yields_hash gq cr (by rfl) (.tmp 12) rfl rfl (fun _ h => h.2) zr) hHeld ?_
    (try simp only [oq7_13_4, Act.put, List.setIfInBounds_toArray, List.set_cons_zero, List.set_cons_succ])
    refine list_take (o := oq7_13_5) (v := ?_) (S := (fun V => Blk V gr 25 cr ∧ Blk V gq 25 cr)) (Or.inl ⟨by rfl, ?_⟩) hHeld ?_
    rotate_left
    · (delta oq7_13_5; intro ws hSw; (try dsimp only at hSw); (try go_simp); (try with_reducible rfl))
    (try simp only [oq7_13_5, Act.put, List.setIfInBounds_toArray, List.set_cons_zero, List.set_cons_succ])
    refine list_take (o := oq7_13_6) (v := ?_) (S := (fun V => Blk V gr 25 cr ∧ Blk V gq 25 cr)) (Or.inl ⟨by rfl, ?_⟩) hHeld ?_
    rotate_left
    · (delta oq7_13_6; intro ws hSw; (try dsimp only at hSw); (try go_simp); (try with_reducible rfl))
    (try simp only [oq7_13_6, Act.put, List.setIfInBounds_toArray, List.set_cons_zero, List.set_cons_succ])
    refine list_take (o := oq7_13_7) (v := ?_) (S := (fun V => Blk V gr 25 cr ∧ Blk V gq 25 cr)) (Or.inl ⟨by rfl, ?_⟩) hHeld ?_
    rotate_left
    · (delta oq7_13_7; intro ws hSw; (try dsimp only at hSw); (try go_simp); (try with_reducible rfl))
    (try simp only [oq7_13_7, Act.put, List.setIfInBounds_toArray, List.set_cons_zero, List.set_cons_succ])
    refine list_take (o := oq7_13_8) (v := .agg cr) (S := (fun V => Blk V gr 25 cr ∧ Blk V gq 25 cr)) (yields_hash gr cr (by rfl) (.tmp 10) rfl rfl (fun _ h => h.1) zr) hHeld ?_
    (try simp only [oq7_13_8, Act.put, List.setIfInBounds_toArray, List.set_cons_zero, List.set_cons_succ])
    refine list_step (o := oq7_13_9) (S := (fun V => Blk V gr 25 cr ∧ Blk V gq 25 cr)) (by rfl) (fun K hK => ?_)
    delta oq7_13_9
    go_simp
    refine (HXR.out _).mono ?_
    rintro e V8 ⟨rfl, hb⟩
    have hSV : (fun V => Blk V gr 25 cr ∧ Blk V gq 25 cr) V8 := ⟨hHeld.1.below hb hHeld.1.lt, hHeld.2.below hb hHeld.2.lt⟩
    replace WW := WW.trans (hb.mono WW.size)
    refine hK.out _ _ hSV (fun hHeld2 => ?_)
    clear hK K hHeld hSV hb
    have hHeld := hHeld2
    clear hHeld2
    (try simp only [oq7_13_9, Act.put, List.setIfInBounds_toArray, List.set_cons_zero, List.set_cons_succ])
    refine list_take (o := oq7_13_10) (v := ?_) (S := (fun V => Blk V gr 25 cr ∧ Blk V gq 25 cr)) (Or.inl ⟨by rfl, ?_⟩) hHeld ?_
    rotate_left
    · (delta oq7_13_10; intro ws hSw; (try dsimp only at hSw); (try go_simp); (try with_reducible rfl))
    (try simp only [oq7_13_10, Act.put, List.setIfInBounds_toArray, List.set_cons_zero, List.set_cons_succ])
    refine list_take (o := oq7_13_11) (v := ?_) (S := (fun V => Blk V gr 25 cr ∧ Blk V gq 25 cr)) (Or.inl ⟨by rfl, ?_⟩) hHeld ?_
    rotate_left
    · (delta oq7_13_11; intro ws hSw; (try dsimp only at hSw); (try go_simp); (try with_reducible rfl))
    (try simp only [oq7_13_11, Act.put, List.setIfInBounds_toArray, List.set_cons_zero, List.set_cons_succ])
    refine list_take (o := oq7_13_12) (v := ?_) (S := (fun V => Blk V gr 25 cr ∧ Blk V gq 25 cr)) (Or.inl ⟨by rfl, ?_⟩) hHeld ?_
    rotate_left
    · (delta oq7_13_12; intro ws hSw; (try dsimp only at hSw); (try go_simp); (try with_reducible rfl))
    (try simp only [oq7_13_12, Act.put, List.setIfInBounds_toArray, List.set_cons_zero, List.set_cons_succ])
    refine list_take (o := oq7_13_13) (v := ?_) (S := (fun V => Blk V gr 25 cr ∧ Blk V gq 25 cr)) (Or.inl ⟨by rfl, ?_⟩) hHeld ?_
    rotate_left
    · (delta oq7_13_13; intro ws hSw; (try dsimp only at hSw); (try go_simp); (try with_reducible rfl))
    (try simp only [oq7_13_13, Act.put, List.setIfInBounds_toArray, List.set_cons_zero, List.set_cons_succ])
    go_wp2_with fail
    go_ret
    exact ⟨rfl, WW⟩
  · obtain ⟨rfl, rfl⟩ := HBE.out.2 hok
    have hcz : cr = b32 := by rw [HCR.out, HR.out.2 hok]; rfl
    subst hcz
    go_wp2_with fail
    refine HK12.out _ _ ?_
    clear HK12
    refine wp_cond_true rfl ?_
    refine wp_seq_k (fun K13 hK13 => ?_)
    refine wp_region_lit ?_
    refine list_take (o := oq7_12_0) (v := ?_) (S := (fun V => Blk V gr 25 b32 ∧ Blk V gq 25 b32)) (Or.inl ⟨by rfl, ?_⟩) hHeld ?_
    rotate_left
    · (delta oq7_12_0; intro ws hSw; (try dsimp only at hSw); (try go_simp); (try with_reducible rfl))
    (try simp only [oq7_12_0, Act.put, List.setIfInBounds_toArray, List.set_cons_zero, List.set_cons_succ])
    refine list_take (o := oq7_12_1) (v := ?_) (S := (fun V => Blk V gr 25 b32 ∧ Blk V gq 25 b32)) (Or.inl ⟨by rfl, ?_⟩) hHeld ?_
    rotate_left
    · (delta oq7_12_1; intro ws hSw; (try dsimp only at hSw); (try go_simp); (try with_reducible rfl))
    (try simp only [oq7_12_1, Act.put, List.setIfInBounds_toArray, List.set_cons_zero, List.set_cons_succ])
    refine list_take (o := oq7_12_2) (v := ?_) (S := (fun V => Blk V gr 25 b32 ∧ Blk V gq 25 b32)) (Or.inl ⟨by rfl, ?_⟩) hHeld ?_
    rotate_left
    · (delta oq7_12_2; intro ws hSw; (try dsimp only at hSw); (try go_simp); (try with_reducible rfl))
    (try simp only [oq7_12_2, Act.put, List.setIfInBounds_toArray, List.set_cons_zero, List.set_cons_succ])
    refine list_take (o := oq7_12_3) (v := .agg b32) (S := (fun V => Blk V gr 25 b32 ∧ Blk V gq 25 b32)) (yields_hash gr b32 (by rfl) (.tmp 10) rfl rfl (fun _ h => h.1) b32_size) hHeld ?_
    (try simp only [oq7_12_3, Act.put, List.setIfInBounds_toArray, List.set_cons_zero, List.set_cons_succ])
    refine list_take (o := oq7_12_4) (v := .agg b32) (S := (fun V => Blk V gr 25 b32 ∧ Blk V gq 25 b32)) (Or.inl ⟨by rfl, fun ws h => by delta oq7_12_4; go_simp⟩) hHeld ?_
    (try simp only [oq7_12_4, Act.put, List.setIfInBounds_toArray, List.set_cons_zero, List.set_cons_succ])
    refine list_take (o := oq7_12_5) (v := ?_) (S := (fun V => Blk V gr 25 b32 ∧ Blk V gq 25 b32)) (Or.inl ⟨by rfl, ?_⟩) hHeld ?_
    rotate_left
    · (delta oq7_12_5; intro ws hSw; (try dsimp only at hSw); (try go_simp); (try with_reducible rfl))
    (try simp only [oq7_12_5, Act.put, List.setIfInBounds_toArray, List.set_cons_zero, List.set_cons_succ])
    refine list_take (o := oq7_12_6) (v := ?_) (S := (fun V => Blk V gr 25 b32 ∧ Blk V gq 25 b32)) (Or.inl ⟨by rfl, ?_⟩) hHeld ?_
    rotate_left
    · (delta oq7_12_6; intro ws hSw; (try dsimp only at hSw); (try go_simp); (try with_reducible rfl))
    (try simp only [oq7_12_6, Act.put, List.setIfInBounds_toArray, List.set_cons_zero, List.set_cons_succ])
    refine list_take (o := oq7_12_7) (v := ?_) (S := (fun V => Blk V gr 25 b32 ∧ Blk V gq 25 b32)) (Or.inl ⟨by rfl, ?_⟩) hHeld ?_
    rotate_left
    · (delta oq7_12_7; intro ws hSw; (try dsimp only at hSw); (try go_simp); (try with_reducible rfl))
    (try simp only [oq7_12_7, Act.put, List.setIfInBounds_toArray, List.set_cons_zero, List.set_cons_succ])
    go_wp2_with fail
    go_ret
    exact ⟨rfl, WW⟩
end Go.Proofs.YtenmdfhdiepfcaaDoor
