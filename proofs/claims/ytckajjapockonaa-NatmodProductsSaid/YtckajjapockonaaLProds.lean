/- NatmodProducts: the walk. -/
import Derived.Test.YtckajjapockonaaLaw3b
import Derived.Test.YtckajjapockonaaRf9
import Derived.Test.YtckajjapockonaaNpow
import Derived.Test.YtckajjapockonaaAwake
set_option linter.unusedVariables false
set_option linter.unusedSimpArgs false
namespace Go.Proofs.Ytckajjapockonaa
open Go.RowKit

def oq4_9_0 : Oper := { dst := some 62, op := Op.load 24 (Operand.tmp 9), type := 24, pos := "law.go:66", after := #[], guard := none }
def oq4_9_1 : Oper := { dst := some 63, op := Op.load 24 (Operand.tmp 4), type := 24, pos := "law.go:66", after := #[], guard := none }
def oq4_9_2 : Oper := { dst := some 64, op := Op.load 24 (Operand.tmp 5), type := 24, pos := "law.go:66", after := #[], guard := none }
def oq4_9_3 : Oper := { dst := some 65, op := Op.load 24 (Operand.tmp 7), type := 24, pos := "law.go:66", after := #[], guard := none }
def oq4_9_4 : Oper := { dst := some 66, op := Op.call { callee := Callee.value (Operand.func 22), args := #[Operand.tmp 63, Operand.tmp 64, Operand.tmp 65], argTypes := #[24, 24, 24] }, type := 24, pos := "law.go:66", after := #[{ on := 1, ground := Ground.data }, { on := 2, ground := Ground.data }, { on := 3, ground := Ground.data }], guard := none }
def oq4_9_5 : Oper := { dst := some 67, op := Op.call { callee := Callee.value (Operand.func 17), args := #[Operand.tmp 62, Operand.tmp 66], argTypes := #[24, 24] }, type := 4, pos := "law.go:66", after := #[{ on := 0, ground := Ground.data }, { on := 4, ground := Ground.data }, { on := 4, ground := Ground.chain }], guard := none }
def oq4_9_6 : Oper := { dst := some 68, op := Op.unOp UnOp.not 4 (Operand.tmp 67), type := 4, pos := "law.go:66", after := #[{ on := 5, ground := Ground.data }], guard := none }
def oq4_9_7 : Oper := { dst := some 69, op := Op.move (Operand.tmp 68), type := 4, pos := "law.go:66", after := #[{ on := 6, ground := Ground.data }, { on := 5, ground := Ground.chain }], guard := none }
def oq4_9_8 : Oper := { dst := some 70, op := Op.move (Operand.tmp 10), type := 27, pos := "law.go:66", after := #[{ on := 7, ground := Ground.guard }], guard := some (7, false) }
def oq4_9_9 : Oper := { dst := some 71, op := Op.binOp BinOp.neq 27 (Operand.tmp 70) (Operand.const (Value.int IntKind.i64 0)) 27, type := 4, pos := "law.go:66", after := #[{ on := 8, ground := Ground.data }, { on := 7, ground := Ground.guard }], guard := some (7, false) }
def oq4_9_10 : Oper := { dst := some 72, op := Op.pick (Operand.tmp 69) (Operand.const (Value.bool true)) (Operand.tmp 71), type := 4, pos := "law.go:66", after := #[{ on := 7, ground := Ground.data }, { on := 9, ground := Ground.data }], guard := none }
def oq4_16_0 : Oper := { dst := some 91, op := Op.load 24 (Operand.tmp 11), type := 24, pos := "law.go:76", after := #[], guard := none }
def oq4_16_1 : Oper := { dst := some 92, op := Op.load 24 (Operand.tmp 4), type := 24, pos := "law.go:76", after := #[], guard := none }
def oq4_16_2 : Oper := { dst := some 93, op := Op.load 24 (Operand.tmp 6), type := 24, pos := "law.go:76", after := #[], guard := none }
def oq4_16_3 : Oper := { dst := some 94, op := Op.load 24 (Operand.tmp 7), type := 24, pos := "law.go:76", after := #[], guard := none }
def oq4_16_4 : Oper := { dst := some 95, op := Op.call { callee := Callee.value (Operand.func 24), args := #[Operand.tmp 92, Operand.tmp 93, Operand.tmp 94], argTypes := #[24, 24, 24] }, type := 24, pos := "law.go:76", after := #[{ on := 1, ground := Ground.data }, { on := 2, ground := Ground.data }, { on := 3, ground := Ground.data }], guard := none }
def oq4_16_5 : Oper := { dst := some 96, op := Op.call { callee := Callee.value (Operand.func 17), args := #[Operand.tmp 91, Operand.tmp 95], argTypes := #[24, 24] }, type := 4, pos := "law.go:76", after := #[{ on := 0, ground := Ground.data }, { on := 4, ground := Ground.data }, { on := 4, ground := Ground.chain }], guard := none }
def oq4_16_6 : Oper := { dst := some 97, op := Op.move (Operand.tmp 96), type := 4, pos := "law.go:76", after := #[{ on := 5, ground := Ground.data }, { on := 5, ground := Ground.chain }], guard := none }
def oq4_16_7 : Oper := { dst := some 98, op := Op.move (Operand.tmp 12), type := 27, pos := "law.go:76", after := #[{ on := 6, ground := Ground.guard }], guard := some (6, true) }
def oq4_16_8 : Oper := { dst := some 99, op := Op.binOp BinOp.eql 27 (Operand.tmp 98) (Operand.const (Value.int IntKind.i64 0)) 27, type := 4, pos := "law.go:76", after := #[{ on := 7, ground := Ground.data }, { on := 6, ground := Ground.guard }], guard := some (6, true) }
def oq4_16_9 : Oper := { dst := some 100, op := Op.pick (Operand.tmp 97) (Operand.tmp 99) (Operand.const (Value.bool false)), type := 4, pos := "law.go:76", after := #[{ on := 6, ground := Ground.data }, { on := 8, ground := Ground.data }], guard := none }
def oq4_16_10 : Oper := { dst := some 8, op := Op.assign (Operand.tmp 100), type := 4, pos := "law.go:76", after := #[{ on := 9, ground := Ground.data }, { on := 6, ground := Ground.chain }, { on := 0, ground := Ground.phase }, { on := 1, ground := Ground.phase }, { on := 2, ground := Ground.phase }, { on := 3, ground := Ground.phase }, { on := 4, ground := Ground.phase }, { on := 5, ground := Ground.phase }, { on := 6, ground := Ground.phase }, { on := 7, ground := Ground.phase }, { on := 8, ground := Ground.phase }, { on := 9, ground := Ground.phase }], guard := none }
set_option maxHeartbeats 16000000 in
set_option maxRecDepth 100000 in
theorem prods_far1 (A B' E C' : Option Addr) (n k l q c d f p a b e m : Nat) (w : World) (hA : Num w w.heap.size A n a) (hB : Num w w.heap.size B' k b) (hE : Num w w.heap.size E l e) (hC : Num w w.heap.size C' q m) (hn : n ≤ 9223372036854775807) (hk : k ≤ 9223372036854775807) (hl : l ≤ 9223372036854775807) (hq : q ≤ 9223372036854775807) (hg : ¬ (n ≤ 8 ∧ k ≤ 8 ∧ q ≤ 8)) :
    Calls Try.prog 4 #[.agg #[.slice A n c], .agg #[.slice B' k d], .agg #[.slice E l f], .agg #[.slice C' q p]] w (RetB (.bool true) w) := by
  have HG : Hid (decide (n ≤ 8 ∧ k ≤ 8 ∧ q ≤ 8) = false) := decide_eq_false hg
  clear hg
  obtain ⟨b0, b1, b2, b3, bw⟩ := boxes4 w (.slice A n c) (.slice B' k d) (.slice E l f) (.slice C' q p)
  have XA := VB.mk (B := w.heap.size) (a := a) b0 (.inl hA) bw (Nat.le_refl _) (by omega)
  have XB := VB.mk (B := w.heap.size) (a := b) b1 (.inl hB) bw (Nat.le_refl _) (by omega)
  have XE := VB.mk (B := w.heap.size) (a := e) b2 (.inl hE) bw (Nat.le_refl _) (by omega)
  have XC := VB.mk (B := w.heap.size) (a := m) b3 (.inl hC) bw (Nat.le_refl _) (by omega)
  have WW := bw
  clear bw b0 b1 b2 b3
  go_enter Try.func4, Try.ntmps4
  go_wp2_with fail
  generalize hV : ((((w.alloc (.cells #[.slice A n c] 24)).alloc (.cells #[.slice B' k d] 24)).alloc (.cells #[.slice E l f] 24)).alloc (.cells #[.slice C' q p] 24)) = V0 at XA XB XE XC WW ⊢
  clear hV
  have hbs : w.heap.size ≤ V0.heap.size := WW.size
  have hc := awake_any V0
  refine hc.mono ?_
  clear hc
  rintro e V1 ⟨rfl, hb⟩
  replace XA := XA.below hb
  replace XB := XB.below hb
  replace XE := XE.below hb
  replace XC := XC.below hb
  replace WW := WW.trans (hb.mono WW.size)
  have kXA := XA.cell
  have zXA := XA.lt
  have kXB := XB.cell
  have zXB := XB.lt
  have kXE := XE.cell
  have zXE := XE.lt
  have kXC := XC.cell
  have zXC := XC.lt
  clear hb hbs
  go_wp2_with fail
  have hbs : w.heap.size ≤ V1.heap.size := WW.size
  have hc := few_n3 8 (by omega) V1 A B' C' n k q c d p (by omega) (by omega) (by omega)
  rw [HG.out] at hc
  refine hc.mono ?_
  clear hc
  rintro e V2 ⟨rfl, hb⟩
  clear kXA zXA kXB zXB kXE zXE kXC zXC
  replace XA := XA.below hb
  replace XB := XB.below hb
  replace XE := XE.below hb
  replace XC := XC.below hb
  replace WW := WW.trans (hb.mono WW.size)
  have kXA := XA.cell
  have zXA := XA.lt
  have kXB := XB.cell
  have zXB := XB.lt
  have kXE := XE.cell
  have zXE := XE.lt
  have kXC := XC.cell
  have zXC := XC.lt
  clear hb hbs
  go_wp2_with fail
  have hbs : w.heap.size ≤ V2.heap.size := WW.size
  have hc := awake_any V2
  refine hc.mono ?_
  clear hc
  rintro e V3 ⟨rfl, hb⟩
  clear kXA zXA kXB zXB kXE zXE kXC zXC
  replace XA := XA.below hb
  replace XB := XB.below hb
  replace XE := XE.below hb
  replace XC := XC.below hb
  replace WW := WW.trans (hb.mono WW.size)
  have kXA := XA.cell
  have zXA := XA.lt
  have kXB := XB.cell
  have zXB := XB.lt
  have kXE := XE.cell
  have zXE := XE.lt
  have kXC := XC.cell
  have zXC := XC.lt
  clear hb hbs
  go_wp2_with fail
  go_ret
  exact ⟨rfl, WW⟩

set_option maxHeartbeats 16000000 in
set_option maxRecDepth 100000 in
theorem prods_far2 (A B' E C' : Option Addr) (n k l q c d f p a b e m : Nat) (w : World) (hA : Num w w.heap.size A n a) (hB : Num w w.heap.size B' k b) (hE : Num w w.heap.size E l e) (hC : Num w w.heap.size C' q m) (hn : n ≤ 9223372036854775807) (hk : k ≤ 9223372036854775807) (hl : l ≤ 9223372036854775807) (hq : q ≤ 9223372036854775807) (hg : n ≤ 8 ∧ k ≤ 8 ∧ q ≤ 8) (hg2 : ¬ l ≤ 2) :
    Calls Try.prog 4 #[.agg #[.slice A n c], .agg #[.slice B' k d], .agg #[.slice E l f], .agg #[.slice C' q p]] w (RetB (.bool true) w) := by
  have HG : Hid (decide (n ≤ 8 ∧ k ≤ 8 ∧ q ≤ 8) = true) := decide_eq_true hg
  have HG2 : Hid (decide (l ≤ 2) = false) := decide_eq_false hg2
  clear hg2
  clear hg
  obtain ⟨b0, b1, b2, b3, bw⟩ := boxes4 w (.slice A n c) (.slice B' k d) (.slice E l f) (.slice C' q p)
  have XA := VB.mk (B := w.heap.size) (a := a) b0 (.inl hA) bw (Nat.le_refl _) (by omega)
  have XB := VB.mk (B := w.heap.size) (a := b) b1 (.inl hB) bw (Nat.le_refl _) (by omega)
  have XE := VB.mk (B := w.heap.size) (a := e) b2 (.inl hE) bw (Nat.le_refl _) (by omega)
  have XC := VB.mk (B := w.heap.size) (a := m) b3 (.inl hC) bw (Nat.le_refl _) (by omega)
  have WW := bw
  clear bw b0 b1 b2 b3
  go_enter Try.func4, Try.ntmps4
  go_wp2_with fail
  generalize hV : ((((w.alloc (.cells #[.slice A n c] 24)).alloc (.cells #[.slice B' k d] 24)).alloc (.cells #[.slice E l f] 24)).alloc (.cells #[.slice C' q p] 24)) = V0 at XA XB XE XC WW ⊢
  clear hV
  have hbs : w.heap.size ≤ V0.heap.size := WW.size
  have hc := awake_any V0
  refine hc.mono ?_
  clear hc
  rintro e V1 ⟨rfl, hb⟩
  replace XA := XA.below hb
  replace XB := XB.below hb
  replace XE := XE.below hb
  replace XC := XC.below hb
  replace WW := WW.trans (hb.mono WW.size)
  have kXA := XA.cell
  have zXA := XA.lt
  have kXB := XB.cell
  have zXB := XB.lt
  have kXE := XE.cell
  have zXE := XE.lt
  have kXC := XC.cell
  have zXC := XC.lt
  clear hb hbs
  go_wp2_with fail
  have hbs : w.heap.size ≤ V1.heap.size := WW.size
  have hc := few_n3 8 (by omega) V1 A B' C' n k q c d p (by omega) (by omega) (by omega)
  rw [HG.out] at hc
  refine hc.mono ?_
  clear hc
  rintro e V2 ⟨rfl, hb⟩
  clear kXA zXA kXB zXB kXE zXE kXC zXC
  replace XA := XA.below hb
  replace XB := XB.below hb
  replace XE := XE.below hb
  replace XC := XC.below hb
  replace WW := WW.trans (hb.mono WW.size)
  have kXA := XA.cell
  have zXA := XA.lt
  have kXB := XB.cell
  have zXB := XB.lt
  have kXE := XE.cell
  have zXE := XE.lt
  have kXC := XC.cell
  have zXC := XC.lt
  clear hb hbs
  go_wp2_with fail
  have hbs : w.heap.size ≤ V2.heap.size := WW.size
  have hc := few_n1 2 (by omega) V2 E l f (by omega)
  rw [HG2.out] at hc
  refine hc.mono ?_
  clear hc
  rintro e V3 ⟨rfl, hb⟩
  clear kXA zXA kXB zXB kXE zXE kXC zXC
  replace XA := XA.below hb
  replace XB := XB.below hb
  replace XE := XE.below hb
  replace XC := XC.below hb
  replace WW := WW.trans (hb.mono WW.size)
  have kXA := XA.cell
  have zXA := XA.lt
  have kXB := XB.cell
  have zXB := XB.lt
  have kXE := XE.cell
  have zXE := XE.lt
  have kXC := XC.cell
  have zXC := XC.lt
  clear hb hbs
  go_wp2_with fail
  have hbs : w.heap.size ≤ V3.heap.size := WW.size
  have hc := awake_any V3
  refine hc.mono ?_
  clear hc
  rintro e V4 ⟨rfl, hb⟩
  clear kXA zXA kXB zXB kXE zXE kXC zXC
  replace XA := XA.below hb
  replace XB := XB.below hb
  replace XE := XE.below hb
  replace XC := XC.below hb
  replace WW := WW.trans (hb.mono WW.size)
  have kXA := XA.cell
  have zXA := XA.lt
  have kXB := XB.cell
  have zXB := XB.lt
  have kXE := XE.cell
  have zXE := XE.lt
  have kXC := XC.cell
  have zXC := XC.lt
  clear hb hbs
  go_wp2_with fail
  go_ret
  exact ⟨rfl, WW⟩

set_option maxHeartbeats 16000000 in
set_option maxRecDepth 100000 in
theorem prods_1 (A B' E C' : Option Addr) (n k l q c d f p a b e m : Nat) (w : World) (hA : Num w w.heap.size A n a) (hB : Num w w.heap.size B' k b) (hE : Num w w.heap.size E l e) (hC : Num w w.heap.size C' q m) (hn : n ≤ 9223372036854775807) (hk : k ≤ 9223372036854775807) (hl : l ≤ 9223372036854775807) (hq : q ≤ 9223372036854775807) (hg : n ≤ 8 ∧ k ≤ 8 ∧ q ≤ 8) (hg2 : l ≤ 2) (h0 : ¬ chkS n a k b q m = 0) (h1 : okB l e = false) :
    Calls Try.prog 4 #[.agg #[.slice A n c], .agg #[.slice B' k d], .agg #[.slice E l f], .agg #[.slice C' q p]] w (RetB (.bool true) w) := by
  have HG : Hid (decide (n ≤ 8 ∧ k ≤ 8 ∧ q ≤ 8) = true) := decide_eq_true hg
  have HG2 : Hid (decide (l ≤ 2) = true) := decide_eq_true hg2
  have G1 := hid h1
  have z0 : (((nw 0 : Nat) : Int) == 0) = true := rfl
  have z00 : (((nw 0 : Nat) : Int) != 0) = false := rfl
  obtain ⟨e0, he0⟩ : ∃ x, chkS n a k b q m = x := ⟨_, rfl⟩
  have HC := hid he0
  rw [he0] at h0
  have M1 := hid (modS_no h0 (a * b % m))
  have hbd := chk_bd n a k b q m
  rw [he0] at hbd
  have z1 : (e0 != 0) = true := by simpa using h0
  have z2 : (e0 == e0) = true := by simp
  have z3 : (e0 != e0) = false := by simp
  clear he0 h0
  obtain ⟨e1, he1⟩ : ∃ x, chkS n a 0 0 q m = x := ⟨_, rfl⟩
  have HD := hid he1
  clear he1
  have HPW : Hid (powV n a l e q m = (0, 1)) := powV_no h1
  clear h1 hg
  obtain ⟨b0, b1, b2, b3, bw⟩ := boxes4 w (.slice A n c) (.slice B' k d) (.slice E l f) (.slice C' q p)
  have XA := VB.mk (B := w.heap.size) (a := a) b0 (.inl hA) bw (Nat.le_refl _) (by omega)
  have XB := VB.mk (B := w.heap.size) (a := b) b1 (.inl hB) bw (Nat.le_refl _) (by omega)
  have XE := VB.mk (B := w.heap.size) (a := e) b2 (.inl hE) bw (Nat.le_refl _) (by omega)
  have XC := VB.mk (B := w.heap.size) (a := m) b3 (.inl hC) bw (Nat.le_refl _) (by omega)
  have WW := bw
  clear bw b0 b1 b2 b3
  go_enter Try.func4, Try.ntmps4
  go_wp2_with fail
  generalize hV : ((((w.alloc (.cells #[.slice A n c] 24)).alloc (.cells #[.slice B' k d] 24)).alloc (.cells #[.slice E l f] 24)).alloc (.cells #[.slice C' q p] 24)) = V0 at XA XB XE XC WW ⊢
  clear hV
  have hbs : w.heap.size ≤ V0.heap.size := WW.size
  have hc := awake_any V0
  refine hc.mono ?_
  clear hc
  rintro e V1 ⟨rfl, hb⟩
  replace XA := XA.below hb
  replace XB := XB.below hb
  replace XE := XE.below hb
  replace XC := XC.below hb
  replace WW := WW.trans (hb.mono WW.size)
  have kXA := XA.cell
  have zXA := XA.lt
  have kXB := XB.cell
  have zXB := XB.lt
  have kXE := XE.cell
  have zXE := XE.lt
  have kXC := XC.cell
  have zXC := XC.lt
  clear hb hbs
  go_wp2_with fail
  have hbs : w.heap.size ≤ V1.heap.size := WW.size
  have hc := few_n3 8 (by omega) V1 A B' C' n k q c d p (by omega) (by omega) (by omega)
  rw [HG.out] at hc
  refine hc.mono ?_
  clear hc
  rintro e V2 ⟨rfl, hb⟩
  clear kXA zXA kXB zXB kXE zXE kXC zXC
  replace XA := XA.below hb
  replace XB := XB.below hb
  replace XE := XE.below hb
  replace XC := XC.below hb
  replace WW := WW.trans (hb.mono WW.size)
  have kXA := XA.cell
  have zXA := XA.lt
  have kXB := XB.cell
  have zXB := XB.lt
  have kXE := XE.cell
  have zXE := XE.lt
  have kXC := XC.cell
  have zXC := XC.lt
  clear hb hbs
  go_wp2_with fail
  have hbs : w.heap.size ≤ V2.heap.size := WW.size
  have hc := few_n1 2 (by omega) V2 E l f (by omega)
  rw [HG2.out] at hc
  refine hc.mono ?_
  clear hc
  rintro e V3 ⟨rfl, hb⟩
  clear kXA zXA kXB zXB kXE zXE kXC zXC
  replace XA := XA.below hb
  replace XB := XB.below hb
  replace XE := XE.below hb
  replace XC := XC.below hb
  replace WW := WW.trans (hb.mono WW.size)
  have kXA := XA.cell
  have zXA := XA.lt
  have kXB := XB.cell
  have zXB := XB.lt
  have kXE := XE.cell
  have zXE := XE.lt
  have kXC := XC.cell
  have zXC := XC.lt
  clear hb hbs
  go_wp2_with fail
  have hbs : w.heap.size ≤ V3.heap.size := WW.size
  have hc := nmul_any A B' C' _ _ _ c d p a b m V3 XA.num XB.num XC.num (by omega) (by omega) (by omega)
  rw [HC.out] at hc
  rw [M1.out] at hc
  refine hc.mono ?_
  clear hc
  rintro e V4 ⟨v, rfl, hv, hb⟩
  clear kXA zXA kXB zXB kXE zXE kXC zXC
  replace XA := XA.below hb
  replace XB := XB.below hb
  replace XE := XE.below hb
  replace XC := XC.below hb
  replace WW := WW.trans (hb.mono WW.size)
  obtain ⟨D1, d1, rfl, ho⟩ := hv
  have O1 := ho.weak (b := w.heap.size) hbs
  clear ho
  have kXA := XA.cell
  have zXA := XA.lt
  have kXB := XB.cell
  have zXB := XB.lt
  have kXE := XE.cell
  have zXE := XE.lt
  have kXC := XC.cell
  have zXC := XC.lt
  clear hb hbs
  go_wp2_with fail
  obtain ⟨b0, bw⟩ := boxes1 V4 (.slice D1 (nw 0) d1)
  have hbs := WW.size
  clear kXA zXA kXB zXB kXE zXE kXC zXC
  have qXC5 := XC.lt
  have X1 := VB.mk (B := w.heap.size) (a := 0) b0 (.inr O1) bw hbs (by omega)
  replace XA := XA.below bw
  replace XB := XB.below bw
  replace XE := XE.below bw
  replace XC := XC.below bw
  replace O1 := O1.below bw (Nat.le_refl _)
  replace WW := WW.trans (bw.mono WW.size)
  clear bw hbs b0
  generalize hV : (V4.alloc (.cells #[.slice D1 (nw 0) d1] 24)) = V5 at XA XB XE XC X1 O1 WW ⊢
  clear hV
  have kXA := XA.cell
  have zXA := XA.lt
  have kXB := XB.cell
  have zXB := XB.lt
  have kXE := XE.cell
  have zXE := XE.lt
  have kXC := XC.cell
  have zXC := XC.lt
  have kX1 := X1.cell
  have zX1 := X1.lt
  have hbs : w.heap.size ≤ V5.heap.size := WW.size
  have hc := npow_any A E C' _ _ _ c f p a e m V5 XA.num XE.num XC.num (by omega) (by omega) (by omega)
  rw [HPW.out] at hc
  refine hc.mono ?_
  clear hc
  rintro e V6 ⟨v, rfl, hv, hb⟩
  clear kXA zXA kXB zXB kXE zXE kXC zXC kX1 zX1
  replace XA := XA.below hb
  replace XB := XB.below hb
  replace XE := XE.below hb
  replace XC := XC.below hb
  replace X1 := X1.below hb
  replace O1 := O1.below hb (Nat.le_refl _)
  replace WW := WW.trans (hb.mono WW.size)
  obtain ⟨D2, d2, rfl, ho⟩ := hv
  have O2 := ho.weak (b := w.heap.size) hbs
  clear ho
  have kXA := XA.cell
  have zXA := XA.lt
  have kXB := XB.cell
  have zXB := XB.lt
  have kXE := XE.cell
  have zXE := XE.lt
  have kXC := XC.cell
  have zXC := XC.lt
  have kX1 := X1.cell
  have zX1 := X1.lt
  clear hb hbs
  go_wp2_with fail
  obtain ⟨b0, bw⟩ := boxes1 V6 (.slice D2 (nw 0) d2)
  have hbs := WW.size
  clear kXA zXA kXB zXB kXE zXE kXC zXC kX1 zX1
  have qX17 := X1.lt
  have qXC7 := XC.lt
  have X2 := VB.mk (B := w.heap.size) (a := 0) b0 (.inr O2) bw hbs (by omega)
  replace XA := XA.below bw
  replace XB := XB.below bw
  replace XE := XE.below bw
  replace XC := XC.below bw
  replace X1 := X1.below bw
  replace O1 := O1.below bw (Nat.le_refl _)
  replace O2 := O2.below bw (Nat.le_refl _)
  replace WW := WW.trans (bw.mono WW.size)
  clear bw hbs b0
  have hVS : ((V6.alloc (.cells #[.slice D2 (nw 0) d2] 24))).heap.size = V6.heap.size + 1 := by simp
  generalize hV : (V6.alloc (.cells #[.slice D2 (nw 0) d2] 24)) = V7 at XA XB XE XC X1 X2 O1 O2 WW hVS ⊢
  clear hV
  have kXA := XA.cell
  have zXA := XA.lt
  have kXB := XB.cell
  have zXB := XB.lt
  have kXE := XE.cell
  have zXE := XE.lt
  have kXC := XC.cell
  have zXC := XC.lt
  have kX1 := X1.cell
  have zX1 := X1.lt
  have kX2 := X2.cell
  have zX2 := X2.lt
  have HVS := hid hVS
  clear hVS
  have hbs : w.heap.size ≤ V7.heap.size := WW.size
  have hc := first_args V7 A B' _ _ c d a b _ m p C' XA.num XB.num XC.num (by omega) (by omega) (by omega)
  rw [HC.out] at hc
  rw [HVS.out] at hc
  refine hc.mono ?_
  clear hc
  rintro e V8 ⟨rfl, hb'⟩
  have hb := hb'
  rw [← HVS.out] at hb
  clear hb'
  clear kXA zXA kXB zXB kXE zXE kXC zXC kX1 zX1 kX2 zX2
  replace XA := XA.below hb
  replace XB := XB.below hb
  replace XE := XE.below hb
  replace XC := XC.below hb
  replace X1 := X1.below hb
  replace X2 := X2.below hb
  replace O1 := O1.below hb (Nat.le_refl _)
  replace O2 := O2.below hb (Nat.le_refl _)
  replace WW := WW.trans (hb.mono WW.size)
  have kXA := XA.cell
  have zXA := XA.lt
  have kXB := XB.cell
  have zXB := XB.lt
  have kXE := XE.cell
  have zXE := XE.lt
  have kXC := XC.cell
  have zXC := XC.lt
  have kX1 := X1.cell
  have zX1 := X1.lt
  have kX2 := X2.cell
  have zX2 := X2.lt
  clear hb hbs
  go_wp2_with fail
  have hbs : w.heap.size ≤ V8.heap.size := WW.size
  have hc := first_a1 V8 A _ c a _ m p C' XA.num XC.num (by omega) (by omega)
  rw [HD.out] at hc
  refine hc.mono ?_
  clear hc
  rintro e V9 ⟨rfl, hb⟩
  clear kXA zXA kXB zXB kXE zXE kXC zXC kX1 zX1 kX2 zX2
  replace XA := XA.below hb
  replace XB := XB.below hb
  replace XE := XE.below hb
  replace XC := XC.below hb
  replace X1 := X1.below hb
  replace X2 := X2.below hb
  replace O1 := O1.below hb (Nat.le_refl _)
  replace O2 := O2.below hb (Nat.le_refl _)
  replace WW := WW.trans (hb.mono WW.size)
  have kXA := XA.cell
  have zXA := XA.lt
  have kXB := XB.cell
  have zXB := XB.lt
  have kXE := XE.cell
  have zXE := XE.lt
  have kXC := XC.cell
  have zXC := XC.lt
  have kX1 := X1.cell
  have zX1 := X1.lt
  have kX2 := X2.cell
  have zX2 := X2.lt
  clear hb hbs
  go_wp2_with fail
  have hbs : w.heap.size ≤ V9.heap.size := WW.size
  have hc := rvalid_any E _ f e _ V9 XE.num (Nat.le_refl _) (by omega)
  rw [G1.out] at hc
  refine hc.mono ?_
  clear hc
  rintro e V10 ⟨rfl, hb⟩
  clear kXA zXA kXB zXB kXE zXE kXC zXC kX1 zX1 kX2 zX2
  replace XA := XA.below hb
  replace XB := XB.below hb
  replace XE := XE.below hb
  replace XC := XC.below hb
  replace X1 := X1.below hb
  replace X2 := X2.below hb
  replace O1 := O1.below hb (Nat.le_refl _)
  replace O2 := O2.below hb (Nat.le_refl _)
  replace WW := WW.trans (hb.mono WW.size)
  have kXA := XA.cell
  have zXA := XA.lt
  have kXB := XB.cell
  have zXB := XB.lt
  have kXE := XE.cell
  have zXE := XE.lt
  have kXC := XC.cell
  have zXC := XC.lt
  have kX1 := X1.cell
  have zX1 := X1.lt
  have kX2 := X2.cell
  have zX2 := X2.lt
  clear hb hbs
  go_wp2_with fail
  go_ret
  exact ⟨rfl, WW⟩

set_option maxHeartbeats 16000000 in
set_option maxRecDepth 100000 in
theorem prods_2 (A B' E C' : Option Addr) (n k l q c d f p a b e m : Nat) (w : World) (hA : Num w w.heap.size A n a) (hB : Num w w.heap.size B' k b) (hE : Num w w.heap.size E l e) (hC : Num w w.heap.size C' q m) (hn : n ≤ 9223372036854775807) (hk : k ≤ 9223372036854775807) (hl : l ≤ 9223372036854775807) (hq : q ≤ 9223372036854775807) (hg : n ≤ 8 ∧ k ≤ 8 ∧ q ≤ 8) (hg2 : l ≤ 2) (h0 : ¬ chkS n a k b q m = 0) (h1 : okB l e = true) (h2 : ¬ chkS n a 0 0 q m = 0) :
    Calls Try.prog 4 #[.agg #[.slice A n c], .agg #[.slice B' k d], .agg #[.slice E l f], .agg #[.slice C' q p]] w (RetB (.bool true) w) := by
  have HG : Hid (decide (n ≤ 8 ∧ k ≤ 8 ∧ q ≤ 8) = true) := decide_eq_true hg
  have HG2 : Hid (decide (l ≤ 2) = true) := decide_eq_true hg2
  have G1 := hid h1
  have z0 : (((nw 0 : Nat) : Int) == 0) = true := rfl
  have z00 : (((nw 0 : Nat) : Int) != 0) = false := rfl
  obtain ⟨e0, he0⟩ : ∃ x, chkS n a k b q m = x := ⟨_, rfl⟩
  have HC := hid he0
  rw [he0] at h0
  have M1 := hid (modS_no h0 (a * b % m))
  have hbd := chk_bd n a k b q m
  rw [he0] at hbd
  have z1 : (e0 != 0) = true := by simpa using h0
  have z2 : (e0 == e0) = true := by simp
  have z3 : (e0 != e0) = false := by simp
  clear he0 h0
  obtain ⟨e1, he1⟩ : ∃ x, chkS n a 0 0 q m = x := ⟨_, rfl⟩
  have HD := hid he1
  rw [he1] at h2
  have hbd1 := chk_bd n a 0 0 q m
  rw [he1] at hbd1
  have y1 : (e1 != 0) = true := by simpa using h2
  have y2 : (e1 == e1) = true := by simp
  have HPW : Hid (powV n a l e q m = (0, e1)) := (show powV n a l e q m = (0, e1) by rw [powV_yes h1, he1, modS_no h2])
  clear he1 h2
  clear h1 hg
  obtain ⟨b0, b1, b2, b3, bw⟩ := boxes4 w (.slice A n c) (.slice B' k d) (.slice E l f) (.slice C' q p)
  have XA := VB.mk (B := w.heap.size) (a := a) b0 (.inl hA) bw (Nat.le_refl _) (by omega)
  have XB := VB.mk (B := w.heap.size) (a := b) b1 (.inl hB) bw (Nat.le_refl _) (by omega)
  have XE := VB.mk (B := w.heap.size) (a := e) b2 (.inl hE) bw (Nat.le_refl _) (by omega)
  have XC := VB.mk (B := w.heap.size) (a := m) b3 (.inl hC) bw (Nat.le_refl _) (by omega)
  have WW := bw
  clear bw b0 b1 b2 b3
  go_enter Try.func4, Try.ntmps4
  go_wp2_with fail
  generalize hV : ((((w.alloc (.cells #[.slice A n c] 24)).alloc (.cells #[.slice B' k d] 24)).alloc (.cells #[.slice E l f] 24)).alloc (.cells #[.slice C' q p] 24)) = V0 at XA XB XE XC WW ⊢
  clear hV
  have hbs : w.heap.size ≤ V0.heap.size := WW.size
  have hc := awake_any V0
  refine hc.mono ?_
  clear hc
  rintro e V1 ⟨rfl, hb⟩
  replace XA := XA.below hb
  replace XB := XB.below hb
  replace XE := XE.below hb
  replace XC := XC.below hb
  replace WW := WW.trans (hb.mono WW.size)
  have kXA := XA.cell
  have zXA := XA.lt
  have kXB := XB.cell
  have zXB := XB.lt
  have kXE := XE.cell
  have zXE := XE.lt
  have kXC := XC.cell
  have zXC := XC.lt
  clear hb hbs
  go_wp2_with fail
  have hbs : w.heap.size ≤ V1.heap.size := WW.size
  have hc := few_n3 8 (by omega) V1 A B' C' n k q c d p (by omega) (by omega) (by omega)
  rw [HG.out] at hc
  refine hc.mono ?_
  clear hc
  rintro e V2 ⟨rfl, hb⟩
  clear kXA zXA kXB zXB kXE zXE kXC zXC
  replace XA := XA.below hb
  replace XB := XB.below hb
  replace XE := XE.below hb
  replace XC := XC.below hb
  replace WW := WW.trans (hb.mono WW.size)
  have kXA := XA.cell
  have zXA := XA.lt
  have kXB := XB.cell
  have zXB := XB.lt
  have kXE := XE.cell
  have zXE := XE.lt
  have kXC := XC.cell
  have zXC := XC.lt
  clear hb hbs
  go_wp2_with fail
  have hbs : w.heap.size ≤ V2.heap.size := WW.size
  have hc := few_n1 2 (by omega) V2 E l f (by omega)
  rw [HG2.out] at hc
  refine hc.mono ?_
  clear hc
  rintro e V3 ⟨rfl, hb⟩
  clear kXA zXA kXB zXB kXE zXE kXC zXC
  replace XA := XA.below hb
  replace XB := XB.below hb
  replace XE := XE.below hb
  replace XC := XC.below hb
  replace WW := WW.trans (hb.mono WW.size)
  have kXA := XA.cell
  have zXA := XA.lt
  have kXB := XB.cell
  have zXB := XB.lt
  have kXE := XE.cell
  have zXE := XE.lt
  have kXC := XC.cell
  have zXC := XC.lt
  clear hb hbs
  go_wp2_with fail
  have hbs : w.heap.size ≤ V3.heap.size := WW.size
  have hc := nmul_any A B' C' _ _ _ c d p a b m V3 XA.num XB.num XC.num (by omega) (by omega) (by omega)
  rw [HC.out] at hc
  rw [M1.out] at hc
  refine hc.mono ?_
  clear hc
  rintro e V4 ⟨v, rfl, hv, hb⟩
  clear kXA zXA kXB zXB kXE zXE kXC zXC
  replace XA := XA.below hb
  replace XB := XB.below hb
  replace XE := XE.below hb
  replace XC := XC.below hb
  replace WW := WW.trans (hb.mono WW.size)
  obtain ⟨D1, d1, rfl, ho⟩ := hv
  have O1 := ho.weak (b := w.heap.size) hbs
  clear ho
  have kXA := XA.cell
  have zXA := XA.lt
  have kXB := XB.cell
  have zXB := XB.lt
  have kXE := XE.cell
  have zXE := XE.lt
  have kXC := XC.cell
  have zXC := XC.lt
  clear hb hbs
  go_wp2_with fail
  obtain ⟨b0, bw⟩ := boxes1 V4 (.slice D1 (nw 0) d1)
  have hbs := WW.size
  clear kXA zXA kXB zXB kXE zXE kXC zXC
  have qXC5 := XC.lt
  have X1 := VB.mk (B := w.heap.size) (a := 0) b0 (.inr O1) bw hbs (by omega)
  replace XA := XA.below bw
  replace XB := XB.below bw
  replace XE := XE.below bw
  replace XC := XC.below bw
  replace O1 := O1.below bw (Nat.le_refl _)
  replace WW := WW.trans (bw.mono WW.size)
  clear bw hbs b0
  generalize hV : (V4.alloc (.cells #[.slice D1 (nw 0) d1] 24)) = V5 at XA XB XE XC X1 O1 WW ⊢
  clear hV
  have kXA := XA.cell
  have zXA := XA.lt
  have kXB := XB.cell
  have zXB := XB.lt
  have kXE := XE.cell
  have zXE := XE.lt
  have kXC := XC.cell
  have zXC := XC.lt
  have kX1 := X1.cell
  have zX1 := X1.lt
  have hbs : w.heap.size ≤ V5.heap.size := WW.size
  have hc := npow_any A E C' _ _ _ c f p a e m V5 XA.num XE.num XC.num (by omega) (by omega) (by omega)
  rw [HPW.out] at hc
  refine hc.mono ?_
  clear hc
  rintro e V6 ⟨v, rfl, hv, hb⟩
  clear kXA zXA kXB zXB kXE zXE kXC zXC kX1 zX1
  replace XA := XA.below hb
  replace XB := XB.below hb
  replace XE := XE.below hb
  replace XC := XC.below hb
  replace X1 := X1.below hb
  replace O1 := O1.below hb (Nat.le_refl _)
  replace WW := WW.trans (hb.mono WW.size)
  obtain ⟨D2, d2, rfl, ho⟩ := hv
  have O2 := ho.weak (b := w.heap.size) hbs
  clear ho
  have kXA := XA.cell
  have zXA := XA.lt
  have kXB := XB.cell
  have zXB := XB.lt
  have kXE := XE.cell
  have zXE := XE.lt
  have kXC := XC.cell
  have zXC := XC.lt
  have kX1 := X1.cell
  have zX1 := X1.lt
  clear hb hbs
  go_wp2_with fail
  obtain ⟨b0, bw⟩ := boxes1 V6 (.slice D2 (nw 0) d2)
  have hbs := WW.size
  clear kXA zXA kXB zXB kXE zXE kXC zXC kX1 zX1
  have qX17 := X1.lt
  have qXC7 := XC.lt
  have X2 := VB.mk (B := w.heap.size) (a := 0) b0 (.inr O2) bw hbs (by omega)
  replace XA := XA.below bw
  replace XB := XB.below bw
  replace XE := XE.below bw
  replace XC := XC.below bw
  replace X1 := X1.below bw
  replace O1 := O1.below bw (Nat.le_refl _)
  replace O2 := O2.below bw (Nat.le_refl _)
  replace WW := WW.trans (bw.mono WW.size)
  clear bw hbs b0
  have hVS : ((V6.alloc (.cells #[.slice D2 (nw 0) d2] 24))).heap.size = V6.heap.size + 1 := by simp
  generalize hV : (V6.alloc (.cells #[.slice D2 (nw 0) d2] 24)) = V7 at XA XB XE XC X1 X2 O1 O2 WW hVS ⊢
  clear hV
  have kXA := XA.cell
  have zXA := XA.lt
  have kXB := XB.cell
  have zXB := XB.lt
  have kXE := XE.cell
  have zXE := XE.lt
  have kXC := XC.cell
  have zXC := XC.lt
  have kX1 := X1.cell
  have zX1 := X1.lt
  have kX2 := X2.cell
  have zX2 := X2.lt
  have HVS := hid hVS
  clear hVS
  have hbs : w.heap.size ≤ V7.heap.size := WW.size
  have hc := first_args V7 A B' _ _ c d a b _ m p C' XA.num XB.num XC.num (by omega) (by omega) (by omega)
  rw [HC.out] at hc
  rw [HVS.out] at hc
  refine hc.mono ?_
  clear hc
  rintro e V8 ⟨rfl, hb'⟩
  have hb := hb'
  rw [← HVS.out] at hb
  clear hb'
  clear kXA zXA kXB zXB kXE zXE kXC zXC kX1 zX1 kX2 zX2
  replace XA := XA.below hb
  replace XB := XB.below hb
  replace XE := XE.below hb
  replace XC := XC.below hb
  replace X1 := X1.below hb
  replace X2 := X2.below hb
  replace O1 := O1.below hb (Nat.le_refl _)
  replace O2 := O2.below hb (Nat.le_refl _)
  replace WW := WW.trans (hb.mono WW.size)
  have kXA := XA.cell
  have zXA := XA.lt
  have kXB := XB.cell
  have zXB := XB.lt
  have kXE := XE.cell
  have zXE := XE.lt
  have kXC := XC.cell
  have zXC := XC.lt
  have kX1 := X1.cell
  have zX1 := X1.lt
  have kX2 := X2.cell
  have zX2 := X2.lt
  clear hb hbs
  go_wp2_with fail
  have hbs : w.heap.size ≤ V8.heap.size := WW.size
  have hc := first_a1 V8 A _ c a _ m p C' XA.num XC.num (by omega) (by omega)
  rw [HD.out] at hc
  refine hc.mono ?_
  clear hc
  rintro e V9 ⟨rfl, hb⟩
  clear kXA zXA kXB zXB kXE zXE kXC zXC kX1 zX1 kX2 zX2
  replace XA := XA.below hb
  replace XB := XB.below hb
  replace XE := XE.below hb
  replace XC := XC.below hb
  replace X1 := X1.below hb
  replace X2 := X2.below hb
  replace O1 := O1.below hb (Nat.le_refl _)
  replace O2 := O2.below hb (Nat.le_refl _)
  replace WW := WW.trans (hb.mono WW.size)
  have kXA := XA.cell
  have zXA := XA.lt
  have kXB := XB.cell
  have zXB := XB.lt
  have kXE := XE.cell
  have zXE := XE.lt
  have kXC := XC.cell
  have zXC := XC.lt
  have kX1 := X1.cell
  have zX1 := X1.lt
  have kX2 := X2.cell
  have zX2 := X2.lt
  clear hb hbs
  go_wp2_with fail
  have hbs : w.heap.size ≤ V9.heap.size := WW.size
  have hc := rvalid_any E _ f e _ V9 XE.num (Nat.le_refl _) (by omega)
  rw [G1.out] at hc
  refine hc.mono ?_
  clear hc
  rintro e V10 ⟨rfl, hb⟩
  clear kXA zXA kXB zXB kXE zXE kXC zXC kX1 zX1 kX2 zX2
  replace XA := XA.below hb
  replace XB := XB.below hb
  replace XE := XE.below hb
  replace XC := XC.below hb
  replace X1 := X1.below hb
  replace X2 := X2.below hb
  replace O1 := O1.below hb (Nat.le_refl _)
  replace O2 := O2.below hb (Nat.le_refl _)
  replace WW := WW.trans (hb.mono WW.size)
  have kXA := XA.cell
  have zXA := XA.lt
  have kXB := XB.cell
  have zXB := XB.lt
  have kXE := XE.cell
  have zXE := XE.lt
  have kXC := XC.cell
  have zXC := XC.lt
  have kX1 := X1.cell
  have zX1 := X1.lt
  have kX2 := X2.cell
  have zX2 := X2.lt
  clear hb hbs
  go_wp2_with fail
  go_ret
  exact ⟨rfl, WW⟩

set_option maxHeartbeats 16000000 in
set_option maxRecDepth 100000 in
theorem prods_3 (A B' E C' : Option Addr) (n k l q c d f p a b e m : Nat) (w : World) (hA : Num w w.heap.size A n a) (hB : Num w w.heap.size B' k b) (hE : Num w w.heap.size E l e) (hC : Num w w.heap.size C' q m) (hn : n ≤ 9223372036854775807) (hk : k ≤ 9223372036854775807) (hl : l ≤ 9223372036854775807) (hq : q ≤ 9223372036854775807) (hg : n ≤ 8 ∧ k ≤ 8 ∧ q ≤ 8) (hg2 : l ≤ 2) (h0 : ¬ chkS n a k b q m = 0) (h1 : okB l e = true) (h2 : chkS n a 0 0 q m = 0) :
    Calls Try.prog 4 #[.agg #[.slice A n c], .agg #[.slice B' k d], .agg #[.slice E l f], .agg #[.slice C' q p]] w (RetB (.bool true) w) := by
  have HG : Hid (decide (n ≤ 8 ∧ k ≤ 8 ∧ q ≤ 8) = true) := decide_eq_true hg
  have HG2 : Hid (decide (l ≤ 2) = true) := decide_eq_true hg2
  have G1 := hid h1
  have z0 : (((nw 0 : Nat) : Int) == 0) = true := rfl
  have z00 : (((nw 0 : Nat) : Int) != 0) = false := rfl
  obtain ⟨e0, he0⟩ : ∃ x, chkS n a k b q m = x := ⟨_, rfl⟩
  have HC := hid he0
  rw [he0] at h0
  have M1 := hid (modS_no h0 (a * b % m))
  have hbd := chk_bd n a k b q m
  rw [he0] at hbd
  have z1 : (e0 != 0) = true := by simpa using h0
  have z2 : (e0 == e0) = true := by simp
  have z3 : (e0 != e0) = false := by simp
  clear he0 h0
  obtain ⟨hna, -, hqm, hm1, hm0, ha, -⟩ := chk0 h2
  subst hna hqm
  have HD := hid h2
  have hle := okB_yes.1 h1
  have hel := hle.1
  subst hel
  obtain ⟨y, hy⟩ : ∃ z, z = a ^ e % m := ⟨_, rfl⟩
  have HY := hid hy
  have HPW : Hid (powV (nw a) a (nw e) e (nw m) m = (y, 0)) := (show powV (nw a) a (nw e) e (nw m) m = (y, 0) by rw [powV_yes h1, h2, modS_ok, hy])
  have ny : nw y ≤ 32 := Nat.le_trans (nw_mono (by rw [hy]; exact Nat.le_of_lt (Nat.mod_lt _ hm0))) hm1
  clear hy h2 hle
  have HAM := hid ha
  have na : nw a ≤ 32 := Nat.le_trans (nw_mono (Nat.le_of_lt ha)) hm1
  clear ha
  clear h1 hg
  obtain ⟨b0, b1, b2, b3, bw⟩ := boxes4 w (.slice A (nw a) c) (.slice B' k d) (.slice E (nw e) f) (.slice C' (nw m) p)
  have XA := VB.mk (B := w.heap.size) (a := a) b0 (.inl hA) bw (Nat.le_refl _) (by omega)
  have XB := VB.mk (B := w.heap.size) (a := b) b1 (.inl hB) bw (Nat.le_refl _) (by omega)
  have XE := VB.mk (B := w.heap.size) (a := e) b2 (.inl hE) bw (Nat.le_refl _) (by omega)
  have XC := VB.mk (B := w.heap.size) (a := m) b3 (.inl hC) bw (Nat.le_refl _) (by omega)
  have WW := bw
  clear bw b0 b1 b2 b3
  go_enter Try.func4, Try.ntmps4
  go_wp2_with fail
  generalize hV : ((((w.alloc (.cells #[.slice A (nw a) c] 24)).alloc (.cells #[.slice B' k d] 24)).alloc (.cells #[.slice E (nw e) f] 24)).alloc (.cells #[.slice C' (nw m) p] 24)) = V0 at XA XB XE XC WW ⊢
  clear hV
  have hbs : w.heap.size ≤ V0.heap.size := WW.size
  have hc := awake_any V0
  refine hc.mono ?_
  clear hc
  rintro e V1 ⟨rfl, hb⟩
  replace XA := XA.below hb
  replace XB := XB.below hb
  replace XE := XE.below hb
  replace XC := XC.below hb
  replace WW := WW.trans (hb.mono WW.size)
  have kXA := XA.cell
  have zXA := XA.lt
  have kXB := XB.cell
  have zXB := XB.lt
  have kXE := XE.cell
  have zXE := XE.lt
  have kXC := XC.cell
  have zXC := XC.lt
  clear hb hbs
  go_wp2_with fail
  have hbs : w.heap.size ≤ V1.heap.size := WW.size
  have hc := few_n3 8 (by omega) V1 A B' C' (nw a) k (nw m) c d p (by omega) (by omega) (by omega)
  rw [HG.out] at hc
  refine hc.mono ?_
  clear hc
  rintro e V2 ⟨rfl, hb⟩
  clear kXA zXA kXB zXB kXE zXE kXC zXC
  replace XA := XA.below hb
  replace XB := XB.below hb
  replace XE := XE.below hb
  replace XC := XC.below hb
  replace WW := WW.trans (hb.mono WW.size)
  have kXA := XA.cell
  have zXA := XA.lt
  have kXB := XB.cell
  have zXB := XB.lt
  have kXE := XE.cell
  have zXE := XE.lt
  have kXC := XC.cell
  have zXC := XC.lt
  clear hb hbs
  go_wp2_with fail
  have hbs : w.heap.size ≤ V2.heap.size := WW.size
  have hc := few_n1 2 (by omega) V2 E (nw e) f (by omega)
  rw [HG2.out] at hc
  refine hc.mono ?_
  clear hc
  rintro e V3 ⟨rfl, hb⟩
  clear kXA zXA kXB zXB kXE zXE kXC zXC
  replace XA := XA.below hb
  replace XB := XB.below hb
  replace XE := XE.below hb
  replace XC := XC.below hb
  replace WW := WW.trans (hb.mono WW.size)
  have kXA := XA.cell
  have zXA := XA.lt
  have kXB := XB.cell
  have zXB := XB.lt
  have kXE := XE.cell
  have zXE := XE.lt
  have kXC := XC.cell
  have zXC := XC.lt
  clear hb hbs
  go_wp2_with fail
  have hbs : w.heap.size ≤ V3.heap.size := WW.size
  have hc := nmul_any A B' C' _ _ _ c d p a b m V3 XA.num XB.num XC.num (by omega) (by omega) (by omega)
  rw [HC.out] at hc
  rw [M1.out] at hc
  refine hc.mono ?_
  clear hc
  rintro e V4 ⟨v, rfl, hv, hb⟩
  clear kXA zXA kXB zXB kXE zXE kXC zXC
  replace XA := XA.below hb
  replace XB := XB.below hb
  replace XE := XE.below hb
  replace XC := XC.below hb
  replace WW := WW.trans (hb.mono WW.size)
  obtain ⟨D1, d1, rfl, ho⟩ := hv
  have O1 := ho.weak (b := w.heap.size) hbs
  clear ho
  have kXA := XA.cell
  have zXA := XA.lt
  have kXB := XB.cell
  have zXB := XB.lt
  have kXE := XE.cell
  have zXE := XE.lt
  have kXC := XC.cell
  have zXC := XC.lt
  clear hb hbs
  go_wp2_with fail
  obtain ⟨b0, bw⟩ := boxes1 V4 (.slice D1 (nw 0) d1)
  have hbs := WW.size
  clear kXA zXA kXB zXB kXE zXE kXC zXC
  have qXC5 := XC.lt
  have X1 := VB.mk (B := w.heap.size) (a := 0) b0 (.inr O1) bw hbs (by omega)
  replace XA := XA.below bw
  replace XB := XB.below bw
  replace XE := XE.below bw
  replace XC := XC.below bw
  replace O1 := O1.below bw (Nat.le_refl _)
  replace WW := WW.trans (bw.mono WW.size)
  clear bw hbs b0
  generalize hV : (V4.alloc (.cells #[.slice D1 (nw 0) d1] 24)) = V5 at XA XB XE XC X1 O1 WW ⊢
  clear hV
  have kXA := XA.cell
  have zXA := XA.lt
  have kXB := XB.cell
  have zXB := XB.lt
  have kXE := XE.cell
  have zXE := XE.lt
  have kXC := XC.cell
  have zXC := XC.lt
  have kX1 := X1.cell
  have zX1 := X1.lt
  have hbs : w.heap.size ≤ V5.heap.size := WW.size
  have hc := npow_any A E C' _ _ _ c f p a e m V5 XA.num XE.num XC.num (by omega) (by omega) (by omega)
  rw [HPW.out] at hc
  refine hc.mono ?_
  clear hc
  rintro e V6 ⟨v, rfl, hv, hb⟩
  clear kXA zXA kXB zXB kXE zXE kXC zXC kX1 zX1
  replace XA := XA.below hb
  replace XB := XB.below hb
  replace XE := XE.below hb
  replace XC := XC.below hb
  replace X1 := X1.below hb
  replace O1 := O1.below hb (Nat.le_refl _)
  replace WW := WW.trans (hb.mono WW.size)
  obtain ⟨D2, d2, rfl, ho⟩ := hv
  have O2 := ho.weak (b := w.heap.size) hbs
  clear ho
  have kXA := XA.cell
  have zXA := XA.lt
  have kXB := XB.cell
  have zXB := XB.lt
  have kXE := XE.cell
  have zXE := XE.lt
  have kXC := XC.cell
  have zXC := XC.lt
  have kX1 := X1.cell
  have zX1 := X1.lt
  clear hb hbs
  go_wp2_with fail
  obtain ⟨b0, bw⟩ := boxes1 V6 (.slice D2 (nw y) d2)
  have hbs := WW.size
  clear kXA zXA kXB zXB kXE zXE kXC zXC kX1 zX1
  have qX17 := X1.lt
  have qXC7 := XC.lt
  have X2 := VB.mk (B := w.heap.size) (a := y) b0 (.inr O2) bw hbs (by omega)
  replace XA := XA.below bw
  replace XB := XB.below bw
  replace XE := XE.below bw
  replace XC := XC.below bw
  replace X1 := X1.below bw
  replace O1 := O1.below bw (Nat.le_refl _)
  replace O2 := O2.below bw (Nat.le_refl _)
  replace WW := WW.trans (bw.mono WW.size)
  clear bw hbs b0
  have hVS : ((V6.alloc (.cells #[.slice D2 (nw y) d2] 24))).heap.size = V6.heap.size + 1 := by simp
  generalize hV : (V6.alloc (.cells #[.slice D2 (nw y) d2] 24)) = V7 at XA XB XE XC X1 X2 O1 O2 WW hVS ⊢
  clear hV
  have kXA := XA.cell
  have zXA := XA.lt
  have kXB := XB.cell
  have zXB := XB.lt
  have kXE := XE.cell
  have zXE := XE.lt
  have kXC := XC.cell
  have zXC := XC.lt
  have kX1 := X1.cell
  have zX1 := X1.lt
  have kX2 := X2.cell
  have zX2 := X2.lt
  have HVS := hid hVS
  clear hVS
  have hbs : w.heap.size ≤ V7.heap.size := WW.size
  have hc := first_args V7 A B' _ _ c d a b _ m p C' XA.num XB.num XC.num (by omega) (by omega) (by omega)
  rw [HC.out] at hc
  rw [HVS.out] at hc
  refine hc.mono ?_
  clear hc
  rintro e V8 ⟨rfl, hb'⟩
  have hb := hb'
  rw [← HVS.out] at hb
  clear hb'
  clear kXA zXA kXB zXB kXE zXE kXC zXC kX1 zX1 kX2 zX2
  replace XA := XA.below hb
  replace XB := XB.below hb
  replace XE := XE.below hb
  replace XC := XC.below hb
  replace X1 := X1.below hb
  replace X2 := X2.below hb
  replace O1 := O1.below hb (Nat.le_refl _)
  replace O2 := O2.below hb (Nat.le_refl _)
  replace WW := WW.trans (hb.mono WW.size)
  have kXA := XA.cell
  have zXA := XA.lt
  have kXB := XB.cell
  have zXB := XB.lt
  have kXE := XE.cell
  have zXE := XE.lt
  have kXC := XC.cell
  have zXC := XC.lt
  have kX1 := X1.cell
  have zX1 := X1.lt
  have kX2 := X2.cell
  have zX2 := X2.lt
  clear hb hbs
  go_wp2_with fail
  have hbs : w.heap.size ≤ V8.heap.size := WW.size
  have hc := first_a1 V8 A _ c a _ m p C' XA.num XC.num (by omega) (by omega)
  rw [HD.out] at hc
  refine hc.mono ?_
  clear hc
  rintro e V9 ⟨rfl, hb⟩
  clear kXA zXA kXB zXB kXE zXE kXC zXC kX1 zX1 kX2 zX2
  replace XA := XA.below hb
  replace XB := XB.below hb
  replace XE := XE.below hb
  replace XC := XC.below hb
  replace X1 := X1.below hb
  replace X2 := X2.below hb
  replace O1 := O1.below hb (Nat.le_refl _)
  replace O2 := O2.below hb (Nat.le_refl _)
  replace WW := WW.trans (hb.mono WW.size)
  have kXA := XA.cell
  have zXA := XA.lt
  have kXB := XB.cell
  have zXB := XB.lt
  have kXE := XE.cell
  have zXE := XE.lt
  have kXC := XC.cell
  have zXC := XC.lt
  have kX1 := X1.cell
  have zX1 := X1.lt
  have kX2 := X2.cell
  have zX2 := X2.lt
  clear hb hbs
  go_wp2_with fail
  have hbs : w.heap.size ≤ V9.heap.size := WW.size
  have hc := rvalid_any E _ f e _ V9 XE.num (Nat.le_refl _) (by omega)
  rw [G1.out] at hc
  refine hc.mono ?_
  clear hc
  rintro e V10 ⟨rfl, hb⟩
  clear kXA zXA kXB zXB kXE zXE kXC zXC kX1 zX1 kX2 zX2
  replace XA := XA.below hb
  replace XB := XB.below hb
  replace XE := XE.below hb
  replace XC := XC.below hb
  replace X1 := X1.below hb
  replace X2 := X2.below hb
  replace O1 := O1.below hb (Nat.le_refl _)
  replace O2 := O2.below hb (Nat.le_refl _)
  replace WW := WW.trans (hb.mono WW.size)
  have kXA := XA.cell
  have zXA := XA.lt
  have kXB := XB.cell
  have zXB := XB.lt
  have kXE := XE.cell
  have zXE := XE.lt
  have kXC := XC.cell
  have zXC := XC.lt
  have kX1 := X1.cell
  have zX1 := X1.lt
  have kX2 := X2.cell
  have zX2 := X2.lt
  clear hb hbs
  go_wp2_with fail
  have WWd := WW.drew
  have XAd := XA.drew
  have XBd := XB.drew
  have XEd := XE.drew
  have XCd := XC.drew
  have X1d := X1.drew
  have X2d := X2.drew
  have O1d := O1.drew
  have O2d := O2.drew
  have hst : (fun w' => w'.cell? ⟨w.heap.size, 0, none⟩ = some (.slice A (nw a) c) ∧ w'.cell? ⟨w.heap.size + 1 + 1, 0, none⟩ = some (.slice E (nw e) f) ∧ w'.cell? ⟨w.heap.size + 1 + 1 + 1, 0, none⟩ = some (.slice C' (nw m) p) ∧ w'.cell? ⟨V6.heap.size, 0, none⟩ = some (.slice D2 (nw y) d2)) V10.drew := ⟨XA.cell, XE.cell, XC.cell, X2.cell⟩
  clear WW kXA zXA kXB zXB kXE zXE kXC zXC kX1 zX1 kX2 zX2 XA XB XE XC X1 X2 O1 O2
  have qq0 := X2d.lt
  refine region_L 18 (fun w' => w'.cell? ⟨w.heap.size, 0, none⟩ = some (.slice A (nw a) c) ∧ w'.cell? ⟨w.heap.size + 1 + 1, 0, none⟩ = some (.slice E (nw e) f) ∧ w'.cell? ⟨w.heap.size + 1 + 1 + 1, 0, none⟩ = some (.slice C' (nw m) p) ∧ w'.cell? ⟨V6.heap.size, 0, none⟩ = some (.slice D2 (nw y) d2)) (by kernel_rfl) hst (fun hHeld => ?_)
  clear hst
  refine AnyL_name (fun W' => Below w.heap.size w W' ∧ VB w.heap.size W' (w.heap.size) A (nw a) c a ∧ VB w.heap.size W' (w.heap.size + 1) B' k d b ∧ VB w.heap.size W' (w.heap.size + 1 + 1) E (nw e) f e ∧ VB w.heap.size W' (w.heap.size + 1 + 1 + 1) C' (nw m) p m ∧ VB w.heap.size W' (V4.heap.size) D1 (nw 0) d1 0 ∧ VB w.heap.size W' (V6.heap.size) D2 (nw y) d2 y ∧ Own W' w.heap.size D1 (nw 0) d1 0 ∧ Own W' w.heap.size D2 (nw y) d2 y ∧ V10.drew.heap.size ≤ W'.heap.size ∧ (fun w' => w'.cell? ⟨w.heap.size, 0, none⟩ = some (.slice A (nw a) c) ∧ w'.cell? ⟨w.heap.size + 1 + 1, 0, none⟩ = some (.slice E (nw e) f) ∧ w'.cell? ⟨w.heap.size + 1 + 1 + 1, 0, none⟩ = some (.slice C' (nw m) p) ∧ w'.cell? ⟨V6.heap.size, 0, none⟩ = some (.slice D2 (nw y) d2)) W') ⟨WWd, XAd, XBd, XEd, XCd, X1d, X2d, O1d, O2d, Nat.le_refl _, hHeld⟩ ?_
  clear hHeld WWd XAd XBd XEd XCd X1d X2d O1d O2d
  rintro U10x0 ⟨WW, XA, XB, XE, XC, X1, X2, O1, O2, sz0, hHeld⟩
  refine AnyL_take (i := 0) (oi := oq4_16_0) (v := ?_) rfl (by kernel_rfl) (by kernel_rfl) (by kernel_rfl) (by kernel_rfl) (fun _ _ _ h => h) (Or.inl ⟨by rfl, ?_⟩) (by assumption) ?_
  rotate_left
  · (delta oq4_16_0; intro ws hSw; (try dsimp only at hSw); (try go_simp); (try with_reducible rfl))
  (try simp only [oq4_16_0, Act.put, List.setIfInBounds_toArray, List.set_cons_zero, List.set_cons_succ])
  refine AnyL_take (i := 1) (oi := oq4_16_1) (v := ?_) rfl (by kernel_rfl) (by kernel_rfl) (by kernel_rfl) (by kernel_rfl) (fun _ _ _ h => h) (Or.inl ⟨by rfl, ?_⟩) (by assumption) ?_
  rotate_left
  · (delta oq4_16_1; intro ws hSw; (try dsimp only at hSw); (try go_simp); (try with_reducible rfl))
  (try simp only [oq4_16_1, Act.put, List.setIfInBounds_toArray, List.set_cons_zero, List.set_cons_succ])
  refine AnyL_take (i := 2) (oi := oq4_16_2) (v := ?_) rfl (by kernel_rfl) (by kernel_rfl) (by kernel_rfl) (by kernel_rfl) (fun _ _ _ h => h) (Or.inl ⟨by rfl, ?_⟩) (by assumption) ?_
  rotate_left
  · (delta oq4_16_2; intro ws hSw; (try dsimp only at hSw); (try go_simp); (try with_reducible rfl))
  (try simp only [oq4_16_2, Act.put, List.setIfInBounds_toArray, List.set_cons_zero, List.set_cons_succ])
  refine AnyL_take (i := 3) (oi := oq4_16_3) (v := ?_) rfl (by kernel_rfl) (by kernel_rfl) (by kernel_rfl) (by kernel_rfl) (fun _ _ _ h => h) (Or.inl ⟨by rfl, ?_⟩) (by assumption) ?_
  rotate_left
  · (delta oq4_16_3; intro ws hSw; (try dsimp only at hSw); (try go_simp); (try with_reducible rfl))
  (try simp only [oq4_16_3, Act.put, List.setIfInBounds_toArray, List.set_cons_zero, List.set_cons_succ])
  refine AnyL_ready (rs := [4]) (by kernel_rfl) (by simp) ?_
  refine ReadyL.cons (o := oq4_16_4) rfl (fun K hK => ?_) ReadyL.nil
  delta oq4_16_4
  go_simp
  have hbs : w.heap.size ≤ U10x0.heap.size := WW.size
  have hc := rpow3_any A E C' c f p a e m U10x0 XA.num XE.num XC.num (by omega) (by omega) (by omega) HAM.out
  rw [← HY.out] at hc
  refine hc.mono ?_
  clear hc
  rintro e V12 ⟨v, rfl, hv, hb⟩
  replace XA := XA.below hb
  replace XB := XB.below hb
  replace XE := XE.below hb
  replace XC := XC.below hb
  replace X1 := X1.below hb
  replace X2 := X2.below hb
  replace O1 := O1.below hb (Nat.le_refl _)
  replace O2 := O2.below hb (Nat.le_refl _)
  replace WW := WW.trans (hb.mono WW.size)
  have sz12 := hb.size
  obtain ⟨D6, d6, rfl, ho⟩ := hv
  have O6 := ho.weak (b := w.heap.size) hbs
  clear ho
  clear hb hbs
  refine hK.out _ _ (⟨XA.cell, XE.cell, XC.cell, X2.cell⟩) (fun hHeld2 => ?_)
  clear hK K hHeld
  have hHeld := hHeld2
  clear hHeld2
  (try simp only [oq4_16_4, Act.put, List.setIfInBounds_toArray, List.set_cons_zero, List.set_cons_succ])
  refine AnyL_ready (rs := [5]) (by kernel_rfl) (by simp) ?_
  refine ReadyL.cons (o := oq4_16_5) rfl (fun K hK => ?_) ReadyL.nil
  delta oq4_16_5
  go_simp
  have hbs : w.heap.size ≤ V12.heap.size := WW.size
  have hc := same3_any D2 D6 _ _ d2 d6 y y V12 X2.num O6.num (by omega) (by omega)
  rw [sameB_yes] at hc
  refine hc.mono ?_
  clear hc
  rintro e V13 ⟨rfl, hb⟩
  replace XA := XA.below hb
  replace XB := XB.below hb
  replace XE := XE.below hb
  replace XC := XC.below hb
  replace X1 := X1.below hb
  replace X2 := X2.below hb
  replace O1 := O1.below hb (Nat.le_refl _)
  replace O2 := O2.below hb (Nat.le_refl _)
  replace O6 := O6.below hb (Nat.le_refl _)
  replace WW := WW.trans (hb.mono WW.size)
  have sz13 := hb.size
  clear hb hbs
  refine hK.out _ _ (⟨XA.cell, XE.cell, XC.cell, X2.cell⟩) (fun hHeld2 => ?_)
  clear hK K hHeld
  have hHeld := hHeld2
  clear hHeld2
  (try simp only [oq4_16_5, Act.put, List.setIfInBounds_toArray, List.set_cons_zero, List.set_cons_succ])
  refine AnyL_take (i := 6) (oi := oq4_16_6) (v := ?_) rfl (by kernel_rfl) (by kernel_rfl) (by kernel_rfl) (by kernel_rfl) (fun _ _ _ h => h) (Or.inl ⟨by rfl, ?_⟩) (by assumption) ?_
  rotate_left
  · (delta oq4_16_6; intro ws hSw; (try dsimp only at hSw); (try go_simp); (try with_reducible rfl))
  (try simp only [oq4_16_6, Act.put, List.setIfInBounds_toArray, List.set_cons_zero, List.set_cons_succ])
  refine AnyL_take (i := 7) (oi := oq4_16_7) (v := ?_) rfl (by kernel_rfl) (by kernel_rfl) (by kernel_rfl) (by kernel_rfl) (fun _ _ _ h => h) (Or.inl ⟨by rfl, ?_⟩) (by assumption) ?_
  rotate_left
  · (delta oq4_16_7; intro ws hSw; (try dsimp only at hSw); (try go_simp); (try with_reducible rfl))
  (try simp only [oq4_16_7, Act.put, List.setIfInBounds_toArray, List.set_cons_zero, List.set_cons_succ])
  refine AnyL_take (i := 8) (oi := oq4_16_8) (v := ?_) rfl (by kernel_rfl) (by kernel_rfl) (by kernel_rfl) (by kernel_rfl) (fun _ _ _ h => h) (Or.inl ⟨by rfl, ?_⟩) (by assumption) ?_
  rotate_left
  · (delta oq4_16_8; intro ws hSw; (try dsimp only at hSw); (try go_simp); (try with_reducible rfl))
  (try simp only [oq4_16_8, Act.put, List.setIfInBounds_toArray, List.set_cons_zero, List.set_cons_succ])
  refine AnyL_take (i := 9) (oi := oq4_16_9) (v := ?_) rfl (by kernel_rfl) (by kernel_rfl) (by kernel_rfl) (by kernel_rfl) (fun _ _ _ h => h) (Or.inl ⟨by rfl, ?_⟩) (by assumption) ?_
  rotate_left
  · (delta oq4_16_9; intro ws hSw; (try dsimp only at hSw); (try go_simp); (try with_reducible rfl))
  (try simp only [oq4_16_9, Act.put, List.setIfInBounds_toArray, List.set_cons_zero, List.set_cons_succ])
  refine AnyL_take (i := 10) (oi := oq4_16_10) (v := ?_) rfl (by kernel_rfl) (by kernel_rfl) (by kernel_rfl) (by kernel_rfl) (fun _ _ _ h => h) (Or.inl ⟨by rfl, ?_⟩) (by assumption) ?_
  rotate_left
  · (delta oq4_16_10; intro ws hSw; (try dsimp only at hSw); (try go_simp); (try with_reducible rfl))
  (try simp only [oq4_16_10, Act.put, List.setIfInBounds_toArray, List.set_cons_zero, List.set_cons_succ])
  refine AnyL_done (by kernel_rfl) ?_ _
  clear hHeld
  have kXA := XA.cell
  have zXA := XA.lt
  have kXB := XB.cell
  have zXB := XB.lt
  have kXE := XE.cell
  have zXE := XE.lt
  have kXC := XC.cell
  have zXC := XC.lt
  have kX1 := X1.cell
  have zX1 := X1.lt
  have kX2 := X2.cell
  have zX2 := X2.lt
  go_wp2_with fail
  go_ret
  exact ⟨rfl, WW⟩

set_option maxHeartbeats 16000000 in
set_option maxRecDepth 100000 in
theorem prods_4 (A B' E C' : Option Addr) (n k l q c d f p a b e m : Nat) (w : World) (hA : Num w w.heap.size A n a) (hB : Num w w.heap.size B' k b) (hE : Num w w.heap.size E l e) (hC : Num w w.heap.size C' q m) (hn : n ≤ 9223372036854775807) (hk : k ≤ 9223372036854775807) (hl : l ≤ 9223372036854775807) (hq : q ≤ 9223372036854775807) (hg : n ≤ 8 ∧ k ≤ 8 ∧ q ≤ 8) (hg2 : l ≤ 2) (h0 : chkS n a k b q m = 0) (h1 : okB l e = false) (h2 : chkS n a 0 0 q m = 0) :
    Calls Try.prog 4 #[.agg #[.slice A n c], .agg #[.slice B' k d], .agg #[.slice E l f], .agg #[.slice C' q p]] w (RetB (.bool true) w) := by
  have HG : Hid (decide (n ≤ 8 ∧ k ≤ 8 ∧ q ≤ 8) = true) := decide_eq_true hg
  have HG2 : Hid (decide (l ≤ 2) = true) := decide_eq_true hg2
  have G1 := hid h1
  have z0 : (((nw 0 : Nat) : Int) == 0) = true := rfl
  have z00 : (((nw 0 : Nat) : Int) != 0) = false := rfl
  have HC := hid h0
  obtain ⟨hna, hkb, hqm, hm1, hm0, ha, hb⟩ := chk0 h0
  subst hna hkb hqm
  clear h0
  have HD := hid h2
  clear h2
  have HPW : Hid (powV (nw a) a l e (nw m) m = (0, 1)) := powV_no h1
  obtain ⟨x, hx⟩ : ∃ z, z = a * b % m := ⟨_, rfl⟩
  have HX := hid hx
  have M1 := hid (modS_ok x)
  have nx : nw x ≤ 32 := Nat.le_trans (nw_mono (by rw [hx]; exact Nat.le_of_lt (Nat.mod_lt _ hm0))) hm1
  have HAM := hid ha
  have HBM := hid hb
  have na : nw a ≤ 32 := Nat.le_trans (nw_mono (Nat.le_of_lt ha)) hm1
  have nb : nw b ≤ 32 := Nat.le_trans (nw_mono (Nat.le_of_lt hb)) hm1
  clear hx ha hb
  clear h1 hg
  obtain ⟨b0, b1, b2, b3, bw⟩ := boxes4 w (.slice A (nw a) c) (.slice B' (nw b) d) (.slice E l f) (.slice C' (nw m) p)
  have XA := VB.mk (B := w.heap.size) (a := a) b0 (.inl hA) bw (Nat.le_refl _) (by omega)
  have XB := VB.mk (B := w.heap.size) (a := b) b1 (.inl hB) bw (Nat.le_refl _) (by omega)
  have XE := VB.mk (B := w.heap.size) (a := e) b2 (.inl hE) bw (Nat.le_refl _) (by omega)
  have XC := VB.mk (B := w.heap.size) (a := m) b3 (.inl hC) bw (Nat.le_refl _) (by omega)
  have WW := bw
  clear bw b0 b1 b2 b3
  go_enter Try.func4, Try.ntmps4
  go_wp2_with fail
  generalize hV : ((((w.alloc (.cells #[.slice A (nw a) c] 24)).alloc (.cells #[.slice B' (nw b) d] 24)).alloc (.cells #[.slice E l f] 24)).alloc (.cells #[.slice C' (nw m) p] 24)) = V0 at XA XB XE XC WW ⊢
  clear hV
  have hbs : w.heap.size ≤ V0.heap.size := WW.size
  have hc := awake_any V0
  refine hc.mono ?_
  clear hc
  rintro e V1 ⟨rfl, hb⟩
  replace XA := XA.below hb
  replace XB := XB.below hb
  replace XE := XE.below hb
  replace XC := XC.below hb
  replace WW := WW.trans (hb.mono WW.size)
  have kXA := XA.cell
  have zXA := XA.lt
  have kXB := XB.cell
  have zXB := XB.lt
  have kXE := XE.cell
  have zXE := XE.lt
  have kXC := XC.cell
  have zXC := XC.lt
  clear hb hbs
  go_wp2_with fail
  have hbs : w.heap.size ≤ V1.heap.size := WW.size
  have hc := few_n3 8 (by omega) V1 A B' C' (nw a) (nw b) (nw m) c d p (by omega) (by omega) (by omega)
  rw [HG.out] at hc
  refine hc.mono ?_
  clear hc
  rintro e V2 ⟨rfl, hb⟩
  clear kXA zXA kXB zXB kXE zXE kXC zXC
  replace XA := XA.below hb
  replace XB := XB.below hb
  replace XE := XE.below hb
  replace XC := XC.below hb
  replace WW := WW.trans (hb.mono WW.size)
  have kXA := XA.cell
  have zXA := XA.lt
  have kXB := XB.cell
  have zXB := XB.lt
  have kXE := XE.cell
  have zXE := XE.lt
  have kXC := XC.cell
  have zXC := XC.lt
  clear hb hbs
  go_wp2_with fail
  have hbs : w.heap.size ≤ V2.heap.size := WW.size
  have hc := few_n1 2 (by omega) V2 E l f (by omega)
  rw [HG2.out] at hc
  refine hc.mono ?_
  clear hc
  rintro e V3 ⟨rfl, hb⟩
  clear kXA zXA kXB zXB kXE zXE kXC zXC
  replace XA := XA.below hb
  replace XB := XB.below hb
  replace XE := XE.below hb
  replace XC := XC.below hb
  replace WW := WW.trans (hb.mono WW.size)
  have kXA := XA.cell
  have zXA := XA.lt
  have kXB := XB.cell
  have zXB := XB.lt
  have kXE := XE.cell
  have zXE := XE.lt
  have kXC := XC.cell
  have zXC := XC.lt
  clear hb hbs
  go_wp2_with fail
  have hbs : w.heap.size ≤ V3.heap.size := WW.size
  have hc := nmul_any A B' C' _ _ _ c d p a b m V3 XA.num XB.num XC.num (by omega) (by omega) (by omega)
  rw [HC.out] at hc
  rw [← HX.out] at hc
  rw [M1.out] at hc
  refine hc.mono ?_
  clear hc
  rintro e V4 ⟨v, rfl, hv, hb⟩
  clear kXA zXA kXB zXB kXE zXE kXC zXC
  replace XA := XA.below hb
  replace XB := XB.below hb
  replace XE := XE.below hb
  replace XC := XC.below hb
  replace WW := WW.trans (hb.mono WW.size)
  obtain ⟨D1, d1, rfl, ho⟩ := hv
  have O1 := ho.weak (b := w.heap.size) hbs
  clear ho
  have kXA := XA.cell
  have zXA := XA.lt
  have kXB := XB.cell
  have zXB := XB.lt
  have kXE := XE.cell
  have zXE := XE.lt
  have kXC := XC.cell
  have zXC := XC.lt
  clear hb hbs
  go_wp2_with fail
  obtain ⟨b0, bw⟩ := boxes1 V4 (.slice D1 (nw x) d1)
  have hbs := WW.size
  clear kXA zXA kXB zXB kXE zXE kXC zXC
  have qXC5 := XC.lt
  have X1 := VB.mk (B := w.heap.size) (a := x) b0 (.inr O1) bw hbs (by omega)
  replace XA := XA.below bw
  replace XB := XB.below bw
  replace XE := XE.below bw
  replace XC := XC.below bw
  replace O1 := O1.below bw (Nat.le_refl _)
  replace WW := WW.trans (bw.mono WW.size)
  clear bw hbs b0
  generalize hV : (V4.alloc (.cells #[.slice D1 (nw x) d1] 24)) = V5 at XA XB XE XC X1 O1 WW ⊢
  clear hV
  have kXA := XA.cell
  have zXA := XA.lt
  have kXB := XB.cell
  have zXB := XB.lt
  have kXE := XE.cell
  have zXE := XE.lt
  have kXC := XC.cell
  have zXC := XC.lt
  have kX1 := X1.cell
  have zX1 := X1.lt
  have hbs : w.heap.size ≤ V5.heap.size := WW.size
  have hc := npow_any A E C' _ _ _ c f p a e m V5 XA.num XE.num XC.num (by omega) (by omega) (by omega)
  rw [HPW.out] at hc
  refine hc.mono ?_
  clear hc
  rintro e V6 ⟨v, rfl, hv, hb⟩
  clear kXA zXA kXB zXB kXE zXE kXC zXC kX1 zX1
  replace XA := XA.below hb
  replace XB := XB.below hb
  replace XE := XE.below hb
  replace XC := XC.below hb
  replace X1 := X1.below hb
  replace O1 := O1.below hb (Nat.le_refl _)
  replace WW := WW.trans (hb.mono WW.size)
  obtain ⟨D2, d2, rfl, ho⟩ := hv
  have O2 := ho.weak (b := w.heap.size) hbs
  clear ho
  have kXA := XA.cell
  have zXA := XA.lt
  have kXB := XB.cell
  have zXB := XB.lt
  have kXE := XE.cell
  have zXE := XE.lt
  have kXC := XC.cell
  have zXC := XC.lt
  have kX1 := X1.cell
  have zX1 := X1.lt
  clear hb hbs
  go_wp2_with fail
  obtain ⟨b0, bw⟩ := boxes1 V6 (.slice D2 (nw 0) d2)
  have hbs := WW.size
  clear kXA zXA kXB zXB kXE zXE kXC zXC kX1 zX1
  have qX17 := X1.lt
  have qXC7 := XC.lt
  have X2 := VB.mk (B := w.heap.size) (a := 0) b0 (.inr O2) bw hbs (by omega)
  replace XA := XA.below bw
  replace XB := XB.below bw
  replace XE := XE.below bw
  replace XC := XC.below bw
  replace X1 := X1.below bw
  replace O1 := O1.below bw (Nat.le_refl _)
  replace O2 := O2.below bw (Nat.le_refl _)
  replace WW := WW.trans (bw.mono WW.size)
  clear bw hbs b0
  have hVS : ((V6.alloc (.cells #[.slice D2 (nw 0) d2] 24))).heap.size = V6.heap.size + 1 := by simp
  generalize hV : (V6.alloc (.cells #[.slice D2 (nw 0) d2] 24)) = V7 at XA XB XE XC X1 X2 O1 O2 WW hVS ⊢
  clear hV
  have kXA := XA.cell
  have zXA := XA.lt
  have kXB := XB.cell
  have zXB := XB.lt
  have kXE := XE.cell
  have zXE := XE.lt
  have kXC := XC.cell
  have zXC := XC.lt
  have kX1 := X1.cell
  have zX1 := X1.lt
  have kX2 := X2.cell
  have zX2 := X2.lt
  have HVS := hid hVS
  clear hVS
  have hbs : w.heap.size ≤ V7.heap.size := WW.size
  have hc := first_args V7 A B' _ _ c d a b _ m p C' XA.num XB.num XC.num (by omega) (by omega) (by omega)
  rw [HC.out] at hc
  rw [HVS.out] at hc
  refine hc.mono ?_
  clear hc
  rintro e V8 ⟨rfl, hb'⟩
  have hb := hb'
  rw [← HVS.out] at hb
  clear hb'
  clear kXA zXA kXB zXB kXE zXE kXC zXC kX1 zX1 kX2 zX2
  replace XA := XA.below hb
  replace XB := XB.below hb
  replace XE := XE.below hb
  replace XC := XC.below hb
  replace X1 := X1.below hb
  replace X2 := X2.below hb
  replace O1 := O1.below hb (Nat.le_refl _)
  replace O2 := O2.below hb (Nat.le_refl _)
  replace WW := WW.trans (hb.mono WW.size)
  have kXA := XA.cell
  have zXA := XA.lt
  have kXB := XB.cell
  have zXB := XB.lt
  have kXE := XE.cell
  have zXE := XE.lt
  have kXC := XC.cell
  have zXC := XC.lt
  have kX1 := X1.cell
  have zX1 := X1.lt
  have kX2 := X2.cell
  have zX2 := X2.lt
  clear hb hbs
  go_wp2_with fail
  have WWd := WW.drew
  have XAd := XA.drew
  have XBd := XB.drew
  have XEd := XE.drew
  have XCd := XC.drew
  have X1d := X1.drew
  have X2d := X2.drew
  have O1d := O1.drew
  have O2d := O2.drew
  have hst : (fun w' => w'.cell? ⟨w.heap.size, 0, none⟩ = some (.slice A (nw a) c) ∧ w'.cell? ⟨w.heap.size + 1, 0, none⟩ = some (.slice B' (nw b) d) ∧ w'.cell? ⟨w.heap.size + 1 + 1 + 1, 0, none⟩ = some (.slice C' (nw m) p) ∧ w'.cell? ⟨V4.heap.size, 0, none⟩ = some (.slice D1 (nw x) d1)) V8.drew := ⟨XA.cell, XB.cell, XC.cell, X1.cell⟩
  clear WW kXA zXA kXB zXB kXE zXE kXC zXC kX1 zX1 kX2 zX2 XA XB XE XC X1 X2 O1 O2
  have qq0 := X2d.lt
  refine region_L 18 (fun w' => w'.cell? ⟨w.heap.size, 0, none⟩ = some (.slice A (nw a) c) ∧ w'.cell? ⟨w.heap.size + 1, 0, none⟩ = some (.slice B' (nw b) d) ∧ w'.cell? ⟨w.heap.size + 1 + 1 + 1, 0, none⟩ = some (.slice C' (nw m) p) ∧ w'.cell? ⟨V4.heap.size, 0, none⟩ = some (.slice D1 (nw x) d1)) (by kernel_rfl) hst (fun hHeld => ?_)
  clear hst
  refine AnyL_name (fun W' => Below w.heap.size w W' ∧ VB w.heap.size W' (w.heap.size) A (nw a) c a ∧ VB w.heap.size W' (w.heap.size + 1) B' (nw b) d b ∧ VB w.heap.size W' (w.heap.size + 1 + 1) E l f e ∧ VB w.heap.size W' (w.heap.size + 1 + 1 + 1) C' (nw m) p m ∧ VB w.heap.size W' (V4.heap.size) D1 (nw x) d1 x ∧ VB w.heap.size W' (V6.heap.size) D2 (nw 0) d2 0 ∧ Own W' w.heap.size D1 (nw x) d1 x ∧ Own W' w.heap.size D2 (nw 0) d2 0 ∧ V8.drew.heap.size ≤ W'.heap.size ∧ (fun w' => w'.cell? ⟨w.heap.size, 0, none⟩ = some (.slice A (nw a) c) ∧ w'.cell? ⟨w.heap.size + 1, 0, none⟩ = some (.slice B' (nw b) d) ∧ w'.cell? ⟨w.heap.size + 1 + 1 + 1, 0, none⟩ = some (.slice C' (nw m) p) ∧ w'.cell? ⟨V4.heap.size, 0, none⟩ = some (.slice D1 (nw x) d1)) W') ⟨WWd, XAd, XBd, XEd, XCd, X1d, X2d, O1d, O2d, Nat.le_refl _, hHeld⟩ ?_
  clear hHeld WWd XAd XBd XEd XCd X1d X2d O1d O2d
  rintro U8x0 ⟨WW, XA, XB, XE, XC, X1, X2, O1, O2, sz0, hHeld⟩
  refine AnyL_take (i := 0) (oi := oq4_9_0) (v := ?_) rfl (by kernel_rfl) (by kernel_rfl) (by kernel_rfl) (by kernel_rfl) (fun _ _ _ h => h) (Or.inl ⟨by rfl, ?_⟩) (by assumption) ?_
  rotate_left
  · (delta oq4_9_0; intro ws hSw; (try dsimp only at hSw); (try go_simp); (try with_reducible rfl))
  (try simp only [oq4_9_0, Act.put, List.setIfInBounds_toArray, List.set_cons_zero, List.set_cons_succ])
  refine AnyL_take (i := 1) (oi := oq4_9_1) (v := ?_) rfl (by kernel_rfl) (by kernel_rfl) (by kernel_rfl) (by kernel_rfl) (fun _ _ _ h => h) (Or.inl ⟨by rfl, ?_⟩) (by assumption) ?_
  rotate_left
  · (delta oq4_9_1; intro ws hSw; (try dsimp only at hSw); (try go_simp); (try with_reducible rfl))
  (try simp only [oq4_9_1, Act.put, List.setIfInBounds_toArray, List.set_cons_zero, List.set_cons_succ])
  refine AnyL_take (i := 2) (oi := oq4_9_2) (v := ?_) rfl (by kernel_rfl) (by kernel_rfl) (by kernel_rfl) (by kernel_rfl) (fun _ _ _ h => h) (Or.inl ⟨by rfl, ?_⟩) (by assumption) ?_
  rotate_left
  · (delta oq4_9_2; intro ws hSw; (try dsimp only at hSw); (try go_simp); (try with_reducible rfl))
  (try simp only [oq4_9_2, Act.put, List.setIfInBounds_toArray, List.set_cons_zero, List.set_cons_succ])
  refine AnyL_take (i := 3) (oi := oq4_9_3) (v := ?_) rfl (by kernel_rfl) (by kernel_rfl) (by kernel_rfl) (by kernel_rfl) (fun _ _ _ h => h) (Or.inl ⟨by rfl, ?_⟩) (by assumption) ?_
  rotate_left
  · (delta oq4_9_3; intro ws hSw; (try dsimp only at hSw); (try go_simp); (try with_reducible rfl))
  (try simp only [oq4_9_3, Act.put, List.setIfInBounds_toArray, List.set_cons_zero, List.set_cons_succ])
  refine AnyL_ready (rs := [4]) (by kernel_rfl) (by simp) ?_
  refine ReadyL.cons (o := oq4_9_4) rfl (fun K hK => ?_) ReadyL.nil
  delta oq4_9_4
  go_simp
  have hbs : w.heap.size ≤ U8x0.heap.size := WW.size
  have hc := rmul3_any A B' C' c d p a b m U8x0 XA.num XB.num XC.num (by omega) (by omega) (by omega) HAM.out
  rw [← HX.out] at hc
  refine hc.mono ?_
  clear hc
  rintro e V10 ⟨v, rfl, hv, hb⟩
  replace XA := XA.below hb
  replace XB := XB.below hb
  replace XE := XE.below hb
  replace XC := XC.below hb
  replace X1 := X1.below hb
  replace X2 := X2.below hb
  replace O1 := O1.below hb (Nat.le_refl _)
  replace O2 := O2.below hb (Nat.le_refl _)
  replace WW := WW.trans (hb.mono WW.size)
  have sz10 := hb.size
  obtain ⟨D5, d5, rfl, ho⟩ := hv
  have O5 := ho.weak (b := w.heap.size) hbs
  clear ho
  clear hb hbs
  refine hK.out _ _ (⟨XA.cell, XB.cell, XC.cell, X1.cell⟩) (fun hHeld2 => ?_)
  clear hK K hHeld
  have hHeld := hHeld2
  clear hHeld2
  (try simp only [oq4_9_4, Act.put, List.setIfInBounds_toArray, List.set_cons_zero, List.set_cons_succ])
  refine AnyL_ready (rs := [5]) (by kernel_rfl) (by simp) ?_
  refine ReadyL.cons (o := oq4_9_5) rfl (fun K hK => ?_) ReadyL.nil
  delta oq4_9_5
  go_simp
  have hbs : w.heap.size ≤ V10.heap.size := WW.size
  have hc := same3_any D1 D5 _ _ d1 d5 x x V10 X1.num O5.num (by omega) (by omega)
  rw [sameB_yes] at hc
  refine hc.mono ?_
  clear hc
  rintro e V11 ⟨rfl, hb⟩
  replace XA := XA.below hb
  replace XB := XB.below hb
  replace XE := XE.below hb
  replace XC := XC.below hb
  replace X1 := X1.below hb
  replace X2 := X2.below hb
  replace O1 := O1.below hb (Nat.le_refl _)
  replace O2 := O2.below hb (Nat.le_refl _)
  replace O5 := O5.below hb (Nat.le_refl _)
  replace WW := WW.trans (hb.mono WW.size)
  have sz11 := hb.size
  clear hb hbs
  refine hK.out _ _ (⟨XA.cell, XB.cell, XC.cell, X1.cell⟩) (fun hHeld2 => ?_)
  clear hK K hHeld
  have hHeld := hHeld2
  clear hHeld2
  (try simp only [oq4_9_5, Act.put, List.setIfInBounds_toArray, List.set_cons_zero, List.set_cons_succ])
  refine AnyL_take (i := 6) (oi := oq4_9_6) (v := ?_) rfl (by kernel_rfl) (by kernel_rfl) (by kernel_rfl) (by kernel_rfl) (fun _ _ _ h => h) (Or.inl ⟨by rfl, ?_⟩) (by assumption) ?_
  rotate_left
  · (delta oq4_9_6; intro ws hSw; (try dsimp only at hSw); (try go_simp); (try with_reducible rfl))
  (try simp only [oq4_9_6, Act.put, List.setIfInBounds_toArray, List.set_cons_zero, List.set_cons_succ])
  refine AnyL_take (i := 7) (oi := oq4_9_7) (v := ?_) rfl (by kernel_rfl) (by kernel_rfl) (by kernel_rfl) (by kernel_rfl) (fun _ _ _ h => h) (Or.inl ⟨by rfl, ?_⟩) (by assumption) ?_
  rotate_left
  · (delta oq4_9_7; intro ws hSw; (try dsimp only at hSw); (try go_simp); (try with_reducible rfl))
  (try simp only [oq4_9_7, Act.put, List.setIfInBounds_toArray, List.set_cons_zero, List.set_cons_succ])
  refine AnyL_take (i := 8) (oi := oq4_9_8) (v := ?_) rfl (by kernel_rfl) (by kernel_rfl) (by kernel_rfl) (by kernel_rfl) (fun _ _ _ h => h) (Or.inl ⟨by rfl, ?_⟩) (by assumption) ?_
  rotate_left
  · (delta oq4_9_8; intro ws hSw; (try dsimp only at hSw); (try go_simp); (try with_reducible rfl))
  (try simp only [oq4_9_8, Act.put, List.setIfInBounds_toArray, List.set_cons_zero, List.set_cons_succ])
  refine AnyL_take (i := 9) (oi := oq4_9_9) (v := ?_) rfl (by kernel_rfl) (by kernel_rfl) (by kernel_rfl) (by kernel_rfl) (fun _ _ _ h => h) (Or.inl ⟨by rfl, ?_⟩) (by assumption) ?_
  rotate_left
  · (delta oq4_9_9; intro ws hSw; (try dsimp only at hSw); (try go_simp); (try with_reducible rfl))
  (try simp only [oq4_9_9, Act.put, List.setIfInBounds_toArray, List.set_cons_zero, List.set_cons_succ])
  refine AnyL_take (i := 10) (oi := oq4_9_10) (v := ?_) rfl (by kernel_rfl) (by kernel_rfl) (by kernel_rfl) (by kernel_rfl) (fun _ _ _ h => h) (Or.inl ⟨by rfl, ?_⟩) (by assumption) ?_
  rotate_left
  · (delta oq4_9_10; intro ws hSw; (try dsimp only at hSw); (try go_simp); (try with_reducible rfl))
  (try simp only [oq4_9_10, Act.put, List.setIfInBounds_toArray, List.set_cons_zero, List.set_cons_succ])
  refine AnyL_done (by kernel_rfl) ?_ _
  clear hHeld
  have kXA := XA.cell
  have zXA := XA.lt
  have kXB := XB.cell
  have zXB := XB.lt
  have kXE := XE.cell
  have zXE := XE.lt
  have kXC := XC.cell
  have zXC := XC.lt
  have kX1 := X1.cell
  have zX1 := X1.lt
  have kX2 := X2.cell
  have zX2 := X2.lt
  go_wp2_with fail
  have hbs : w.heap.size ≤ V11.heap.size := WW.size
  have hc := first_a1 V11 A _ c a _ m p C' XA.num XC.num (by omega) (by omega)
  rw [HD.out] at hc
  refine hc.mono ?_
  clear hc
  rintro e V12 ⟨rfl, hb⟩
  clear kXA zXA kXB zXB kXE zXE kXC zXC kX1 zX1 kX2 zX2
  replace XA := XA.below hb
  replace XB := XB.below hb
  replace XE := XE.below hb
  replace XC := XC.below hb
  replace X1 := X1.below hb
  replace X2 := X2.below hb
  replace O1 := O1.below hb (Nat.le_refl _)
  replace O2 := O2.below hb (Nat.le_refl _)
  replace O5 := O5.below hb (Nat.le_refl _)
  replace WW := WW.trans (hb.mono WW.size)
  have kXA := XA.cell
  have zXA := XA.lt
  have kXB := XB.cell
  have zXB := XB.lt
  have kXE := XE.cell
  have zXE := XE.lt
  have kXC := XC.cell
  have zXC := XC.lt
  have kX1 := X1.cell
  have zX1 := X1.lt
  have kX2 := X2.cell
  have zX2 := X2.lt
  clear hb hbs
  go_wp2_with fail
  have hbs : w.heap.size ≤ V12.heap.size := WW.size
  have hc := rvalid_any E _ f e _ V12 XE.num (Nat.le_refl _) (by omega)
  rw [G1.out] at hc
  refine hc.mono ?_
  clear hc
  rintro e V13 ⟨rfl, hb⟩
  clear kXA zXA kXB zXB kXE zXE kXC zXC kX1 zX1 kX2 zX2
  replace XA := XA.below hb
  replace XB := XB.below hb
  replace XE := XE.below hb
  replace XC := XC.below hb
  replace X1 := X1.below hb
  replace X2 := X2.below hb
  replace O1 := O1.below hb (Nat.le_refl _)
  replace O2 := O2.below hb (Nat.le_refl _)
  replace O5 := O5.below hb (Nat.le_refl _)
  replace WW := WW.trans (hb.mono WW.size)
  have kXA := XA.cell
  have zXA := XA.lt
  have kXB := XB.cell
  have zXB := XB.lt
  have kXE := XE.cell
  have zXE := XE.lt
  have kXC := XC.cell
  have zXC := XC.lt
  have kX1 := X1.cell
  have zX1 := X1.lt
  have kX2 := X2.cell
  have zX2 := X2.lt
  clear hb hbs
  go_wp2_with fail
  go_ret
  exact ⟨rfl, WW⟩

set_option maxHeartbeats 16000000 in
set_option maxRecDepth 100000 in
theorem prods_5 (A B' E C' : Option Addr) (n k l q c d f p a b e m : Nat) (w : World) (hA : Num w w.heap.size A n a) (hB : Num w w.heap.size B' k b) (hE : Num w w.heap.size E l e) (hC : Num w w.heap.size C' q m) (hn : n ≤ 9223372036854775807) (hk : k ≤ 9223372036854775807) (hl : l ≤ 9223372036854775807) (hq : q ≤ 9223372036854775807) (hg : n ≤ 8 ∧ k ≤ 8 ∧ q ≤ 8) (hg2 : l ≤ 2) (h0 : chkS n a k b q m = 0) (h1 : okB l e = true) (h2 : chkS n a 0 0 q m = 0) :
    Calls Try.prog 4 #[.agg #[.slice A n c], .agg #[.slice B' k d], .agg #[.slice E l f], .agg #[.slice C' q p]] w (RetB (.bool true) w) := by
  have HG : Hid (decide (n ≤ 8 ∧ k ≤ 8 ∧ q ≤ 8) = true) := decide_eq_true hg
  have HG2 : Hid (decide (l ≤ 2) = true) := decide_eq_true hg2
  have G1 := hid h1
  have z0 : (((nw 0 : Nat) : Int) == 0) = true := rfl
  have z00 : (((nw 0 : Nat) : Int) != 0) = false := rfl
  have HC := hid h0
  obtain ⟨hna, hkb, hqm, hm1, hm0, ha, hb⟩ := chk0 h0
  subst hna hkb hqm
  clear h0
  have HD := hid h2
  have hle := okB_yes.1 h1
  have hel := hle.1
  subst hel
  obtain ⟨y, hy⟩ : ∃ z, z = a ^ e % m := ⟨_, rfl⟩
  have HY := hid hy
  have HPW : Hid (powV (nw a) a (nw e) e (nw m) m = (y, 0)) := (show powV (nw a) a (nw e) e (nw m) m = (y, 0) by rw [powV_yes h1, h2, modS_ok, hy])
  have ny : nw y ≤ 32 := Nat.le_trans (nw_mono (by rw [hy]; exact Nat.le_of_lt (Nat.mod_lt _ hm0))) hm1
  clear hy h2 hle
  obtain ⟨x, hx⟩ : ∃ z, z = a * b % m := ⟨_, rfl⟩
  have HX := hid hx
  have M1 := hid (modS_ok x)
  have nx : nw x ≤ 32 := Nat.le_trans (nw_mono (by rw [hx]; exact Nat.le_of_lt (Nat.mod_lt _ hm0))) hm1
  have HAM := hid ha
  have HBM := hid hb
  have na : nw a ≤ 32 := Nat.le_trans (nw_mono (Nat.le_of_lt ha)) hm1
  have nb : nw b ≤ 32 := Nat.le_trans (nw_mono (Nat.le_of_lt hb)) hm1
  clear hx ha hb
  clear h1 hg
  obtain ⟨b0, b1, b2, b3, bw⟩ := boxes4 w (.slice A (nw a) c) (.slice B' (nw b) d) (.slice E (nw e) f) (.slice C' (nw m) p)
  have XA := VB.mk (B := w.heap.size) (a := a) b0 (.inl hA) bw (Nat.le_refl _) (by omega)
  have XB := VB.mk (B := w.heap.size) (a := b) b1 (.inl hB) bw (Nat.le_refl _) (by omega)
  have XE := VB.mk (B := w.heap.size) (a := e) b2 (.inl hE) bw (Nat.le_refl _) (by omega)
  have XC := VB.mk (B := w.heap.size) (a := m) b3 (.inl hC) bw (Nat.le_refl _) (by omega)
  have WW := bw
  clear bw b0 b1 b2 b3
  go_enter Try.func4, Try.ntmps4
  go_wp2_with fail
  generalize hV : ((((w.alloc (.cells #[.slice A (nw a) c] 24)).alloc (.cells #[.slice B' (nw b) d] 24)).alloc (.cells #[.slice E (nw e) f] 24)).alloc (.cells #[.slice C' (nw m) p] 24)) = V0 at XA XB XE XC WW ⊢
  clear hV
  have hbs : w.heap.size ≤ V0.heap.size := WW.size
  have hc := awake_any V0
  refine hc.mono ?_
  clear hc
  rintro e V1 ⟨rfl, hb⟩
  replace XA := XA.below hb
  replace XB := XB.below hb
  replace XE := XE.below hb
  replace XC := XC.below hb
  replace WW := WW.trans (hb.mono WW.size)
  have kXA := XA.cell
  have zXA := XA.lt
  have kXB := XB.cell
  have zXB := XB.lt
  have kXE := XE.cell
  have zXE := XE.lt
  have kXC := XC.cell
  have zXC := XC.lt
  clear hb hbs
  go_wp2_with fail
  have hbs : w.heap.size ≤ V1.heap.size := WW.size
  have hc := few_n3 8 (by omega) V1 A B' C' (nw a) (nw b) (nw m) c d p (by omega) (by omega) (by omega)
  rw [HG.out] at hc
  refine hc.mono ?_
  clear hc
  rintro e V2 ⟨rfl, hb⟩
  clear kXA zXA kXB zXB kXE zXE kXC zXC
  replace XA := XA.below hb
  replace XB := XB.below hb
  replace XE := XE.below hb
  replace XC := XC.below hb
  replace WW := WW.trans (hb.mono WW.size)
  have kXA := XA.cell
  have zXA := XA.lt
  have kXB := XB.cell
  have zXB := XB.lt
  have kXE := XE.cell
  have zXE := XE.lt
  have kXC := XC.cell
  have zXC := XC.lt
  clear hb hbs
  go_wp2_with fail
  have hbs : w.heap.size ≤ V2.heap.size := WW.size
  have hc := few_n1 2 (by omega) V2 E (nw e) f (by omega)
  rw [HG2.out] at hc
  refine hc.mono ?_
  clear hc
  rintro e V3 ⟨rfl, hb⟩
  clear kXA zXA kXB zXB kXE zXE kXC zXC
  replace XA := XA.below hb
  replace XB := XB.below hb
  replace XE := XE.below hb
  replace XC := XC.below hb
  replace WW := WW.trans (hb.mono WW.size)
  have kXA := XA.cell
  have zXA := XA.lt
  have kXB := XB.cell
  have zXB := XB.lt
  have kXE := XE.cell
  have zXE := XE.lt
  have kXC := XC.cell
  have zXC := XC.lt
  clear hb hbs
  go_wp2_with fail
  have hbs : w.heap.size ≤ V3.heap.size := WW.size
  have hc := nmul_any A B' C' _ _ _ c d p a b m V3 XA.num XB.num XC.num (by omega) (by omega) (by omega)
  rw [HC.out] at hc
  rw [← HX.out] at hc
  rw [M1.out] at hc
  refine hc.mono ?_
  clear hc
  rintro e V4 ⟨v, rfl, hv, hb⟩
  clear kXA zXA kXB zXB kXE zXE kXC zXC
  replace XA := XA.below hb
  replace XB := XB.below hb
  replace XE := XE.below hb
  replace XC := XC.below hb
  replace WW := WW.trans (hb.mono WW.size)
  obtain ⟨D1, d1, rfl, ho⟩ := hv
  have O1 := ho.weak (b := w.heap.size) hbs
  clear ho
  have kXA := XA.cell
  have zXA := XA.lt
  have kXB := XB.cell
  have zXB := XB.lt
  have kXE := XE.cell
  have zXE := XE.lt
  have kXC := XC.cell
  have zXC := XC.lt
  clear hb hbs
  go_wp2_with fail
  obtain ⟨b0, bw⟩ := boxes1 V4 (.slice D1 (nw x) d1)
  have hbs := WW.size
  clear kXA zXA kXB zXB kXE zXE kXC zXC
  have qXC5 := XC.lt
  have X1 := VB.mk (B := w.heap.size) (a := x) b0 (.inr O1) bw hbs (by omega)
  replace XA := XA.below bw
  replace XB := XB.below bw
  replace XE := XE.below bw
  replace XC := XC.below bw
  replace O1 := O1.below bw (Nat.le_refl _)
  replace WW := WW.trans (bw.mono WW.size)
  clear bw hbs b0
  generalize hV : (V4.alloc (.cells #[.slice D1 (nw x) d1] 24)) = V5 at XA XB XE XC X1 O1 WW ⊢
  clear hV
  have kXA := XA.cell
  have zXA := XA.lt
  have kXB := XB.cell
  have zXB := XB.lt
  have kXE := XE.cell
  have zXE := XE.lt
  have kXC := XC.cell
  have zXC := XC.lt
  have kX1 := X1.cell
  have zX1 := X1.lt
  have hbs : w.heap.size ≤ V5.heap.size := WW.size
  have hc := npow_any A E C' _ _ _ c f p a e m V5 XA.num XE.num XC.num (by omega) (by omega) (by omega)
  rw [HPW.out] at hc
  refine hc.mono ?_
  clear hc
  rintro e V6 ⟨v, rfl, hv, hb⟩
  clear kXA zXA kXB zXB kXE zXE kXC zXC kX1 zX1
  replace XA := XA.below hb
  replace XB := XB.below hb
  replace XE := XE.below hb
  replace XC := XC.below hb
  replace X1 := X1.below hb
  replace O1 := O1.below hb (Nat.le_refl _)
  replace WW := WW.trans (hb.mono WW.size)
  obtain ⟨D2, d2, rfl, ho⟩ := hv
  have O2 := ho.weak (b := w.heap.size) hbs
  clear ho
  have kXA := XA.cell
  have zXA := XA.lt
  have kXB := XB.cell
  have zXB := XB.lt
  have kXE := XE.cell
  have zXE := XE.lt
  have kXC := XC.cell
  have zXC := XC.lt
  have kX1 := X1.cell
  have zX1 := X1.lt
  clear hb hbs
  go_wp2_with fail
  obtain ⟨b0, bw⟩ := boxes1 V6 (.slice D2 (nw y) d2)
  have hbs := WW.size
  clear kXA zXA kXB zXB kXE zXE kXC zXC kX1 zX1
  have qX17 := X1.lt
  have qXC7 := XC.lt
  have X2 := VB.mk (B := w.heap.size) (a := y) b0 (.inr O2) bw hbs (by omega)
  replace XA := XA.below bw
  replace XB := XB.below bw
  replace XE := XE.below bw
  replace XC := XC.below bw
  replace X1 := X1.below bw
  replace O1 := O1.below bw (Nat.le_refl _)
  replace O2 := O2.below bw (Nat.le_refl _)
  replace WW := WW.trans (bw.mono WW.size)
  clear bw hbs b0
  have hVS : ((V6.alloc (.cells #[.slice D2 (nw y) d2] 24))).heap.size = V6.heap.size + 1 := by simp
  generalize hV : (V6.alloc (.cells #[.slice D2 (nw y) d2] 24)) = V7 at XA XB XE XC X1 X2 O1 O2 WW hVS ⊢
  clear hV
  have kXA := XA.cell
  have zXA := XA.lt
  have kXB := XB.cell
  have zXB := XB.lt
  have kXE := XE.cell
  have zXE := XE.lt
  have kXC := XC.cell
  have zXC := XC.lt
  have kX1 := X1.cell
  have zX1 := X1.lt
  have kX2 := X2.cell
  have zX2 := X2.lt
  have HVS := hid hVS
  clear hVS
  have hbs : w.heap.size ≤ V7.heap.size := WW.size
  have hc := first_args V7 A B' _ _ c d a b _ m p C' XA.num XB.num XC.num (by omega) (by omega) (by omega)
  rw [HC.out] at hc
  rw [HVS.out] at hc
  refine hc.mono ?_
  clear hc
  rintro e V8 ⟨rfl, hb'⟩
  have hb := hb'
  rw [← HVS.out] at hb
  clear hb'
  clear kXA zXA kXB zXB kXE zXE kXC zXC kX1 zX1 kX2 zX2
  replace XA := XA.below hb
  replace XB := XB.below hb
  replace XE := XE.below hb
  replace XC := XC.below hb
  replace X1 := X1.below hb
  replace X2 := X2.below hb
  replace O1 := O1.below hb (Nat.le_refl _)
  replace O2 := O2.below hb (Nat.le_refl _)
  replace WW := WW.trans (hb.mono WW.size)
  have kXA := XA.cell
  have zXA := XA.lt
  have kXB := XB.cell
  have zXB := XB.lt
  have kXE := XE.cell
  have zXE := XE.lt
  have kXC := XC.cell
  have zXC := XC.lt
  have kX1 := X1.cell
  have zX1 := X1.lt
  have kX2 := X2.cell
  have zX2 := X2.lt
  clear hb hbs
  go_wp2_with fail
  have WWd := WW.drew
  have XAd := XA.drew
  have XBd := XB.drew
  have XEd := XE.drew
  have XCd := XC.drew
  have X1d := X1.drew
  have X2d := X2.drew
  have O1d := O1.drew
  have O2d := O2.drew
  have hst : (fun w' => w'.cell? ⟨w.heap.size, 0, none⟩ = some (.slice A (nw a) c) ∧ w'.cell? ⟨w.heap.size + 1, 0, none⟩ = some (.slice B' (nw b) d) ∧ w'.cell? ⟨w.heap.size + 1 + 1 + 1, 0, none⟩ = some (.slice C' (nw m) p) ∧ w'.cell? ⟨V4.heap.size, 0, none⟩ = some (.slice D1 (nw x) d1)) V8.drew := ⟨XA.cell, XB.cell, XC.cell, X1.cell⟩
  clear WW kXA zXA kXB zXB kXE zXE kXC zXC kX1 zX1 kX2 zX2 XA XB XE XC X1 X2 O1 O2
  have qq0 := X2d.lt
  refine region_L 18 (fun w' => w'.cell? ⟨w.heap.size, 0, none⟩ = some (.slice A (nw a) c) ∧ w'.cell? ⟨w.heap.size + 1, 0, none⟩ = some (.slice B' (nw b) d) ∧ w'.cell? ⟨w.heap.size + 1 + 1 + 1, 0, none⟩ = some (.slice C' (nw m) p) ∧ w'.cell? ⟨V4.heap.size, 0, none⟩ = some (.slice D1 (nw x) d1)) (by kernel_rfl) hst (fun hHeld => ?_)
  clear hst
  refine AnyL_name (fun W' => Below w.heap.size w W' ∧ VB w.heap.size W' (w.heap.size) A (nw a) c a ∧ VB w.heap.size W' (w.heap.size + 1) B' (nw b) d b ∧ VB w.heap.size W' (w.heap.size + 1 + 1) E (nw e) f e ∧ VB w.heap.size W' (w.heap.size + 1 + 1 + 1) C' (nw m) p m ∧ VB w.heap.size W' (V4.heap.size) D1 (nw x) d1 x ∧ VB w.heap.size W' (V6.heap.size) D2 (nw y) d2 y ∧ Own W' w.heap.size D1 (nw x) d1 x ∧ Own W' w.heap.size D2 (nw y) d2 y ∧ V8.drew.heap.size ≤ W'.heap.size ∧ (fun w' => w'.cell? ⟨w.heap.size, 0, none⟩ = some (.slice A (nw a) c) ∧ w'.cell? ⟨w.heap.size + 1, 0, none⟩ = some (.slice B' (nw b) d) ∧ w'.cell? ⟨w.heap.size + 1 + 1 + 1, 0, none⟩ = some (.slice C' (nw m) p) ∧ w'.cell? ⟨V4.heap.size, 0, none⟩ = some (.slice D1 (nw x) d1)) W') ⟨WWd, XAd, XBd, XEd, XCd, X1d, X2d, O1d, O2d, Nat.le_refl _, hHeld⟩ ?_
  clear hHeld WWd XAd XBd XEd XCd X1d X2d O1d O2d
  rintro U8x0 ⟨WW, XA, XB, XE, XC, X1, X2, O1, O2, sz0, hHeld⟩
  refine AnyL_take (i := 0) (oi := oq4_9_0) (v := ?_) rfl (by kernel_rfl) (by kernel_rfl) (by kernel_rfl) (by kernel_rfl) (fun _ _ _ h => h) (Or.inl ⟨by rfl, ?_⟩) (by assumption) ?_
  rotate_left
  · (delta oq4_9_0; intro ws hSw; (try dsimp only at hSw); (try go_simp); (try with_reducible rfl))
  (try simp only [oq4_9_0, Act.put, List.setIfInBounds_toArray, List.set_cons_zero, List.set_cons_succ])
  refine AnyL_take (i := 1) (oi := oq4_9_1) (v := ?_) rfl (by kernel_rfl) (by kernel_rfl) (by kernel_rfl) (by kernel_rfl) (fun _ _ _ h => h) (Or.inl ⟨by rfl, ?_⟩) (by assumption) ?_
  rotate_left
  · (delta oq4_9_1; intro ws hSw; (try dsimp only at hSw); (try go_simp); (try with_reducible rfl))
  (try simp only [oq4_9_1, Act.put, List.setIfInBounds_toArray, List.set_cons_zero, List.set_cons_succ])
  refine AnyL_take (i := 2) (oi := oq4_9_2) (v := ?_) rfl (by kernel_rfl) (by kernel_rfl) (by kernel_rfl) (by kernel_rfl) (fun _ _ _ h => h) (Or.inl ⟨by rfl, ?_⟩) (by assumption) ?_
  rotate_left
  · (delta oq4_9_2; intro ws hSw; (try dsimp only at hSw); (try go_simp); (try with_reducible rfl))
  (try simp only [oq4_9_2, Act.put, List.setIfInBounds_toArray, List.set_cons_zero, List.set_cons_succ])
  refine AnyL_take (i := 3) (oi := oq4_9_3) (v := ?_) rfl (by kernel_rfl) (by kernel_rfl) (by kernel_rfl) (by kernel_rfl) (fun _ _ _ h => h) (Or.inl ⟨by rfl, ?_⟩) (by assumption) ?_
  rotate_left
  · (delta oq4_9_3; intro ws hSw; (try dsimp only at hSw); (try go_simp); (try with_reducible rfl))
  (try simp only [oq4_9_3, Act.put, List.setIfInBounds_toArray, List.set_cons_zero, List.set_cons_succ])
  refine AnyL_ready (rs := [4]) (by kernel_rfl) (by simp) ?_
  refine ReadyL.cons (o := oq4_9_4) rfl (fun K hK => ?_) ReadyL.nil
  delta oq4_9_4
  go_simp
  have hbs : w.heap.size ≤ U8x0.heap.size := WW.size
  have hc := rmul3_any A B' C' c d p a b m U8x0 XA.num XB.num XC.num (by omega) (by omega) (by omega) HAM.out
  rw [← HX.out] at hc
  refine hc.mono ?_
  clear hc
  rintro e V10 ⟨v, rfl, hv, hb⟩
  replace XA := XA.below hb
  replace XB := XB.below hb
  replace XE := XE.below hb
  replace XC := XC.below hb
  replace X1 := X1.below hb
  replace X2 := X2.below hb
  replace O1 := O1.below hb (Nat.le_refl _)
  replace O2 := O2.below hb (Nat.le_refl _)
  replace WW := WW.trans (hb.mono WW.size)
  have sz10 := hb.size
  obtain ⟨D5, d5, rfl, ho⟩ := hv
  have O5 := ho.weak (b := w.heap.size) hbs
  clear ho
  clear hb hbs
  refine hK.out _ _ (⟨XA.cell, XB.cell, XC.cell, X1.cell⟩) (fun hHeld2 => ?_)
  clear hK K hHeld
  have hHeld := hHeld2
  clear hHeld2
  (try simp only [oq4_9_4, Act.put, List.setIfInBounds_toArray, List.set_cons_zero, List.set_cons_succ])
  refine AnyL_ready (rs := [5]) (by kernel_rfl) (by simp) ?_
  refine ReadyL.cons (o := oq4_9_5) rfl (fun K hK => ?_) ReadyL.nil
  delta oq4_9_5
  go_simp
  have hbs : w.heap.size ≤ V10.heap.size := WW.size
  have hc := same3_any D1 D5 _ _ d1 d5 x x V10 X1.num O5.num (by omega) (by omega)
  rw [sameB_yes] at hc
  refine hc.mono ?_
  clear hc
  rintro e V11 ⟨rfl, hb⟩
  replace XA := XA.below hb
  replace XB := XB.below hb
  replace XE := XE.below hb
  replace XC := XC.below hb
  replace X1 := X1.below hb
  replace X2 := X2.below hb
  replace O1 := O1.below hb (Nat.le_refl _)
  replace O2 := O2.below hb (Nat.le_refl _)
  replace O5 := O5.below hb (Nat.le_refl _)
  replace WW := WW.trans (hb.mono WW.size)
  have sz11 := hb.size
  clear hb hbs
  refine hK.out _ _ (⟨XA.cell, XB.cell, XC.cell, X1.cell⟩) (fun hHeld2 => ?_)
  clear hK K hHeld
  have hHeld := hHeld2
  clear hHeld2
  (try simp only [oq4_9_5, Act.put, List.setIfInBounds_toArray, List.set_cons_zero, List.set_cons_succ])
  refine AnyL_take (i := 6) (oi := oq4_9_6) (v := ?_) rfl (by kernel_rfl) (by kernel_rfl) (by kernel_rfl) (by kernel_rfl) (fun _ _ _ h => h) (Or.inl ⟨by rfl, ?_⟩) (by assumption) ?_
  rotate_left
  · (delta oq4_9_6; intro ws hSw; (try dsimp only at hSw); (try go_simp); (try with_reducible rfl))
  (try simp only [oq4_9_6, Act.put, List.setIfInBounds_toArray, List.set_cons_zero, List.set_cons_succ])
  refine AnyL_take (i := 7) (oi := oq4_9_7) (v := ?_) rfl (by kernel_rfl) (by kernel_rfl) (by kernel_rfl) (by kernel_rfl) (fun _ _ _ h => h) (Or.inl ⟨by rfl, ?_⟩) (by assumption) ?_
  rotate_left
  · (delta oq4_9_7; intro ws hSw; (try dsimp only at hSw); (try go_simp); (try with_reducible rfl))
  (try simp only [oq4_9_7, Act.put, List.setIfInBounds_toArray, List.set_cons_zero, List.set_cons_succ])
  refine AnyL_take (i := 8) (oi := oq4_9_8) (v := ?_) rfl (by kernel_rfl) (by kernel_rfl) (by kernel_rfl) (by kernel_rfl) (fun _ _ _ h => h) (Or.inl ⟨by rfl, ?_⟩) (by assumption) ?_
  rotate_left
  · (delta oq4_9_8; intro ws hSw; (try dsimp only at hSw); (try go_simp); (try with_reducible rfl))
  (try simp only [oq4_9_8, Act.put, List.setIfInBounds_toArray, List.set_cons_zero, List.set_cons_succ])
  refine AnyL_take (i := 9) (oi := oq4_9_9) (v := ?_) rfl (by kernel_rfl) (by kernel_rfl) (by kernel_rfl) (by kernel_rfl) (fun _ _ _ h => h) (Or.inl ⟨by rfl, ?_⟩) (by assumption) ?_
  rotate_left
  · (delta oq4_9_9; intro ws hSw; (try dsimp only at hSw); (try go_simp); (try with_reducible rfl))
  (try simp only [oq4_9_9, Act.put, List.setIfInBounds_toArray, List.set_cons_zero, List.set_cons_succ])
  refine AnyL_take (i := 10) (oi := oq4_9_10) (v := ?_) rfl (by kernel_rfl) (by kernel_rfl) (by kernel_rfl) (by kernel_rfl) (fun _ _ _ h => h) (Or.inl ⟨by rfl, ?_⟩) (by assumption) ?_
  rotate_left
  · (delta oq4_9_10; intro ws hSw; (try dsimp only at hSw); (try go_simp); (try with_reducible rfl))
  (try simp only [oq4_9_10, Act.put, List.setIfInBounds_toArray, List.set_cons_zero, List.set_cons_succ])
  refine AnyL_done (by kernel_rfl) ?_ _
  clear hHeld
  have kXA := XA.cell
  have zXA := XA.lt
  have kXB := XB.cell
  have zXB := XB.lt
  have kXE := XE.cell
  have zXE := XE.lt
  have kXC := XC.cell
  have zXC := XC.lt
  have kX1 := X1.cell
  have zX1 := X1.lt
  have kX2 := X2.cell
  have zX2 := X2.lt
  go_wp2_with fail
  have hbs : w.heap.size ≤ V11.heap.size := WW.size
  have hc := first_a1 V11 A _ c a _ m p C' XA.num XC.num (by omega) (by omega)
  rw [HD.out] at hc
  refine hc.mono ?_
  clear hc
  rintro e V12 ⟨rfl, hb⟩
  clear kXA zXA kXB zXB kXE zXE kXC zXC kX1 zX1 kX2 zX2
  replace XA := XA.below hb
  replace XB := XB.below hb
  replace XE := XE.below hb
  replace XC := XC.below hb
  replace X1 := X1.below hb
  replace X2 := X2.below hb
  replace O1 := O1.below hb (Nat.le_refl _)
  replace O2 := O2.below hb (Nat.le_refl _)
  replace O5 := O5.below hb (Nat.le_refl _)
  replace WW := WW.trans (hb.mono WW.size)
  have kXA := XA.cell
  have zXA := XA.lt
  have kXB := XB.cell
  have zXB := XB.lt
  have kXE := XE.cell
  have zXE := XE.lt
  have kXC := XC.cell
  have zXC := XC.lt
  have kX1 := X1.cell
  have zX1 := X1.lt
  have kX2 := X2.cell
  have zX2 := X2.lt
  clear hb hbs
  go_wp2_with fail
  have hbs : w.heap.size ≤ V12.heap.size := WW.size
  have hc := rvalid_any E _ f e _ V12 XE.num (Nat.le_refl _) (by omega)
  rw [G1.out] at hc
  refine hc.mono ?_
  clear hc
  rintro e V13 ⟨rfl, hb⟩
  clear kXA zXA kXB zXB kXE zXE kXC zXC kX1 zX1 kX2 zX2
  replace XA := XA.below hb
  replace XB := XB.below hb
  replace XE := XE.below hb
  replace XC := XC.below hb
  replace X1 := X1.below hb
  replace X2 := X2.below hb
  replace O1 := O1.below hb (Nat.le_refl _)
  replace O2 := O2.below hb (Nat.le_refl _)
  replace O5 := O5.below hb (Nat.le_refl _)
  replace WW := WW.trans (hb.mono WW.size)
  have kXA := XA.cell
  have zXA := XA.lt
  have kXB := XB.cell
  have zXB := XB.lt
  have kXE := XE.cell
  have zXE := XE.lt
  have kXC := XC.cell
  have zXC := XC.lt
  have kX1 := X1.cell
  have zX1 := X1.lt
  have kX2 := X2.cell
  have zX2 := X2.lt
  clear hb hbs
  go_wp2_with fail
  have WWd := WW.drew
  have XAd := XA.drew
  have XBd := XB.drew
  have XEd := XE.drew
  have XCd := XC.drew
  have X1d := X1.drew
  have X2d := X2.drew
  have O1d := O1.drew
  have O2d := O2.drew
  have O5d := O5.drew
  have hst : (fun w' => w'.cell? ⟨w.heap.size, 0, none⟩ = some (.slice A (nw a) c) ∧ w'.cell? ⟨w.heap.size + 1 + 1, 0, none⟩ = some (.slice E (nw e) f) ∧ w'.cell? ⟨w.heap.size + 1 + 1 + 1, 0, none⟩ = some (.slice C' (nw m) p) ∧ w'.cell? ⟨V6.heap.size, 0, none⟩ = some (.slice D2 (nw y) d2)) V13.drew := ⟨XA.cell, XE.cell, XC.cell, X2.cell⟩
  clear WW kXA zXA kXB zXB kXE zXE kXC zXC kX1 zX1 kX2 zX2 XA XB XE XC X1 X2 O1 O2 O5
  have qq0 := X2d.lt
  refine region_L 18 (fun w' => w'.cell? ⟨w.heap.size, 0, none⟩ = some (.slice A (nw a) c) ∧ w'.cell? ⟨w.heap.size + 1 + 1, 0, none⟩ = some (.slice E (nw e) f) ∧ w'.cell? ⟨w.heap.size + 1 + 1 + 1, 0, none⟩ = some (.slice C' (nw m) p) ∧ w'.cell? ⟨V6.heap.size, 0, none⟩ = some (.slice D2 (nw y) d2)) (by kernel_rfl) hst (fun hHeld => ?_)
  clear hst
  refine AnyL_name (fun W' => Below w.heap.size w W' ∧ VB w.heap.size W' (w.heap.size) A (nw a) c a ∧ VB w.heap.size W' (w.heap.size + 1) B' (nw b) d b ∧ VB w.heap.size W' (w.heap.size + 1 + 1) E (nw e) f e ∧ VB w.heap.size W' (w.heap.size + 1 + 1 + 1) C' (nw m) p m ∧ VB w.heap.size W' (V4.heap.size) D1 (nw x) d1 x ∧ VB w.heap.size W' (V6.heap.size) D2 (nw y) d2 y ∧ Own W' w.heap.size D1 (nw x) d1 x ∧ Own W' w.heap.size D2 (nw y) d2 y ∧ Own W' w.heap.size D5 (nw x) d5 x ∧ V13.drew.heap.size ≤ W'.heap.size ∧ (fun w' => w'.cell? ⟨w.heap.size, 0, none⟩ = some (.slice A (nw a) c) ∧ w'.cell? ⟨w.heap.size + 1 + 1, 0, none⟩ = some (.slice E (nw e) f) ∧ w'.cell? ⟨w.heap.size + 1 + 1 + 1, 0, none⟩ = some (.slice C' (nw m) p) ∧ w'.cell? ⟨V6.heap.size, 0, none⟩ = some (.slice D2 (nw y) d2)) W') ⟨WWd, XAd, XBd, XEd, XCd, X1d, X2d, O1d, O2d, O5d, Nat.le_refl _, hHeld⟩ ?_
  clear hHeld WWd XAd XBd XEd XCd X1d X2d O1d O2d O5d
  rintro U13x0 ⟨WW, XA, XB, XE, XC, X1, X2, O1, O2, O5, sz0, hHeld⟩
  refine AnyL_take (i := 0) (oi := oq4_16_0) (v := ?_) rfl (by kernel_rfl) (by kernel_rfl) (by kernel_rfl) (by kernel_rfl) (fun _ _ _ h => h) (Or.inl ⟨by rfl, ?_⟩) (by assumption) ?_
  rotate_left
  · (delta oq4_16_0; intro ws hSw; (try dsimp only at hSw); (try go_simp); (try with_reducible rfl))
  (try simp only [oq4_16_0, Act.put, List.setIfInBounds_toArray, List.set_cons_zero, List.set_cons_succ])
  refine AnyL_take (i := 1) (oi := oq4_16_1) (v := ?_) rfl (by kernel_rfl) (by kernel_rfl) (by kernel_rfl) (by kernel_rfl) (fun _ _ _ h => h) (Or.inl ⟨by rfl, ?_⟩) (by assumption) ?_
  rotate_left
  · (delta oq4_16_1; intro ws hSw; (try dsimp only at hSw); (try go_simp); (try with_reducible rfl))
  (try simp only [oq4_16_1, Act.put, List.setIfInBounds_toArray, List.set_cons_zero, List.set_cons_succ])
  refine AnyL_take (i := 2) (oi := oq4_16_2) (v := ?_) rfl (by kernel_rfl) (by kernel_rfl) (by kernel_rfl) (by kernel_rfl) (fun _ _ _ h => h) (Or.inl ⟨by rfl, ?_⟩) (by assumption) ?_
  rotate_left
  · (delta oq4_16_2; intro ws hSw; (try dsimp only at hSw); (try go_simp); (try with_reducible rfl))
  (try simp only [oq4_16_2, Act.put, List.setIfInBounds_toArray, List.set_cons_zero, List.set_cons_succ])
  refine AnyL_take (i := 3) (oi := oq4_16_3) (v := ?_) rfl (by kernel_rfl) (by kernel_rfl) (by kernel_rfl) (by kernel_rfl) (fun _ _ _ h => h) (Or.inl ⟨by rfl, ?_⟩) (by assumption) ?_
  rotate_left
  · (delta oq4_16_3; intro ws hSw; (try dsimp only at hSw); (try go_simp); (try with_reducible rfl))
  (try simp only [oq4_16_3, Act.put, List.setIfInBounds_toArray, List.set_cons_zero, List.set_cons_succ])
  refine AnyL_ready (rs := [4]) (by kernel_rfl) (by simp) ?_
  refine ReadyL.cons (o := oq4_16_4) rfl (fun K hK => ?_) ReadyL.nil
  delta oq4_16_4
  go_simp
  have hbs : w.heap.size ≤ U13x0.heap.size := WW.size
  have hc := rpow3_any A E C' c f p a e m U13x0 XA.num XE.num XC.num (by omega) (by omega) (by omega) HAM.out
  rw [← HY.out] at hc
  refine hc.mono ?_
  clear hc
  rintro e V15 ⟨v, rfl, hv, hb⟩
  replace XA := XA.below hb
  replace XB := XB.below hb
  replace XE := XE.below hb
  replace XC := XC.below hb
  replace X1 := X1.below hb
  replace X2 := X2.below hb
  replace O1 := O1.below hb (Nat.le_refl _)
  replace O2 := O2.below hb (Nat.le_refl _)
  replace O5 := O5.below hb (Nat.le_refl _)
  replace WW := WW.trans (hb.mono WW.size)
  have sz15 := hb.size
  obtain ⟨D6, d6, rfl, ho⟩ := hv
  have O6 := ho.weak (b := w.heap.size) hbs
  clear ho
  clear hb hbs
  refine hK.out _ _ (⟨XA.cell, XE.cell, XC.cell, X2.cell⟩) (fun hHeld2 => ?_)
  clear hK K hHeld
  have hHeld := hHeld2
  clear hHeld2
  (try simp only [oq4_16_4, Act.put, List.setIfInBounds_toArray, List.set_cons_zero, List.set_cons_succ])
  refine AnyL_ready (rs := [5]) (by kernel_rfl) (by simp) ?_
  refine ReadyL.cons (o := oq4_16_5) rfl (fun K hK => ?_) ReadyL.nil
  delta oq4_16_5
  go_simp
  have hbs : w.heap.size ≤ V15.heap.size := WW.size
  have hc := same3_any D2 D6 _ _ d2 d6 y y V15 X2.num O6.num (by omega) (by omega)
  rw [sameB_yes] at hc
  refine hc.mono ?_
  clear hc
  rintro e V16 ⟨rfl, hb⟩
  replace XA := XA.below hb
  replace XB := XB.below hb
  replace XE := XE.below hb
  replace XC := XC.below hb
  replace X1 := X1.below hb
  replace X2 := X2.below hb
  replace O1 := O1.below hb (Nat.le_refl _)
  replace O2 := O2.below hb (Nat.le_refl _)
  replace O5 := O5.below hb (Nat.le_refl _)
  replace O6 := O6.below hb (Nat.le_refl _)
  replace WW := WW.trans (hb.mono WW.size)
  have sz16 := hb.size
  clear hb hbs
  refine hK.out _ _ (⟨XA.cell, XE.cell, XC.cell, X2.cell⟩) (fun hHeld2 => ?_)
  clear hK K hHeld
  have hHeld := hHeld2
  clear hHeld2
  (try simp only [oq4_16_5, Act.put, List.setIfInBounds_toArray, List.set_cons_zero, List.set_cons_succ])
  refine AnyL_take (i := 6) (oi := oq4_16_6) (v := ?_) rfl (by kernel_rfl) (by kernel_rfl) (by kernel_rfl) (by kernel_rfl) (fun _ _ _ h => h) (Or.inl ⟨by rfl, ?_⟩) (by assumption) ?_
  rotate_left
  · (delta oq4_16_6; intro ws hSw; (try dsimp only at hSw); (try go_simp); (try with_reducible rfl))
  (try simp only [oq4_16_6, Act.put, List.setIfInBounds_toArray, List.set_cons_zero, List.set_cons_succ])
  refine AnyL_take (i := 7) (oi := oq4_16_7) (v := ?_) rfl (by kernel_rfl) (by kernel_rfl) (by kernel_rfl) (by kernel_rfl) (fun _ _ _ h => h) (Or.inl ⟨by rfl, ?_⟩) (by assumption) ?_
  rotate_left
  · (delta oq4_16_7; intro ws hSw; (try dsimp only at hSw); (try go_simp); (try with_reducible rfl))
  (try simp only [oq4_16_7, Act.put, List.setIfInBounds_toArray, List.set_cons_zero, List.set_cons_succ])
  refine AnyL_take (i := 8) (oi := oq4_16_8) (v := ?_) rfl (by kernel_rfl) (by kernel_rfl) (by kernel_rfl) (by kernel_rfl) (fun _ _ _ h => h) (Or.inl ⟨by rfl, ?_⟩) (by assumption) ?_
  rotate_left
  · (delta oq4_16_8; intro ws hSw; (try dsimp only at hSw); (try go_simp); (try with_reducible rfl))
  (try simp only [oq4_16_8, Act.put, List.setIfInBounds_toArray, List.set_cons_zero, List.set_cons_succ])
  refine AnyL_take (i := 9) (oi := oq4_16_9) (v := ?_) rfl (by kernel_rfl) (by kernel_rfl) (by kernel_rfl) (by kernel_rfl) (fun _ _ _ h => h) (Or.inl ⟨by rfl, ?_⟩) (by assumption) ?_
  rotate_left
  · (delta oq4_16_9; intro ws hSw; (try dsimp only at hSw); (try go_simp); (try with_reducible rfl))
  (try simp only [oq4_16_9, Act.put, List.setIfInBounds_toArray, List.set_cons_zero, List.set_cons_succ])
  refine AnyL_take (i := 10) (oi := oq4_16_10) (v := ?_) rfl (by kernel_rfl) (by kernel_rfl) (by kernel_rfl) (by kernel_rfl) (fun _ _ _ h => h) (Or.inl ⟨by rfl, ?_⟩) (by assumption) ?_
  rotate_left
  · (delta oq4_16_10; intro ws hSw; (try dsimp only at hSw); (try go_simp); (try with_reducible rfl))
  (try simp only [oq4_16_10, Act.put, List.setIfInBounds_toArray, List.set_cons_zero, List.set_cons_succ])
  refine AnyL_done (by kernel_rfl) ?_ _
  clear hHeld
  have kXA := XA.cell
  have zXA := XA.lt
  have kXB := XB.cell
  have zXB := XB.lt
  have kXE := XE.cell
  have zXE := XE.lt
  have kXC := XC.cell
  have zXC := XC.lt
  have kX1 := X1.cell
  have zX1 := X1.lt
  have kX2 := X2.cell
  have zX2 := X2.lt
  go_wp2_with fail
  go_ret
  exact ⟨rfl, WW⟩

theorem natmodProducts_walk (A B' E C' : Option Addr) (n k l q c d f p a b e m : Nat) (w : World) (hA : Num w w.heap.size A n a) (hB : Num w w.heap.size B' k b) (hE : Num w w.heap.size E l e) (hC : Num w w.heap.size C' q m) (hn : n ≤ 9223372036854775807) (hk : k ≤ 9223372036854775807) (hl : l ≤ 9223372036854775807) (hq : q ≤ 9223372036854775807) :
    Calls Try.prog 4 #[.agg #[.slice A n c], .agg #[.slice B' k d], .agg #[.slice E l f], .agg #[.slice C' q p]] w (RetB (.bool true) w) := by
  by_cases hg : n ≤ 8 ∧ k ≤ 8 ∧ q ≤ 8
  · by_cases hg2 : l ≤ 2
    · by_cases h0 : chkS n a k b q m = 0
      · have h2 : chkS n a 0 0 q m = 0 := by
          obtain ⟨h3, h4, h5, h6, h7, h8, h9⟩ := chk0 h0
          subst h3 h4 h5
          exact chk_ok rfl rfl rfl (Nat.le_trans (nw_mono (Nat.le_of_lt h8)) (by omega)) (by omega) ⟨nw_pos (by omega), h6⟩ h8 (by omega)
        cases h1 : okB l e
        · exact prods_4 A B' E C' n k l q c d f p a b e m w hA hB hE hC hn hk hl hq hg hg2 h0 h1 h2
        · exact prods_5 A B' E C' n k l q c d f p a b e m w hA hB hE hC hn hk hl hq hg hg2 h0 h1 h2
      · cases h1 : okB l e
        · exact prods_1 A B' E C' n k l q c d f p a b e m w hA hB hE hC hn hk hl hq hg hg2 h0 h1
        · by_cases h2 : chkS n a 0 0 q m = 0
          · exact prods_3 A B' E C' n k l q c d f p a b e m w hA hB hE hC hn hk hl hq hg hg2 h0 h1 h2
          · exact prods_2 A B' E C' n k l q c d f p a b e m w hA hB hE hC hn hk hl hq hg hg2 h0 h1 h2
    · exact prods_far2 A B' E C' n k l q c d f p a b e m w hA hB hE hC hn hk hl hq hg hg2
  · exact prods_far1 A B' E C' n k l q c d f p a b e m w hA hB hE hC hn hk hl hq hg

end Go.Proofs.Ytckajjapockonaa
