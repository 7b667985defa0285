/- NatmodGcd: the walk. -/
import Derived.Test.YtckajjapockonaaLaw3b
import Derived.Test.YtckajjapockonaaRf13
import Derived.Test.YtckajjapockonaaNgcd
import Derived.Test.YtckajjapockonaaAwake
set_option linter.unusedVariables false
set_option linter.unusedSimpArgs false
namespace Go.Proofs.Ytckajjapockonaa
open Go.RowKit

def oq5_7_0 : Oper := { dst := some 60, op := Op.load 24 (Operand.tmp 5), type := 24, pos := "law.go:89", after := #[], guard := none }
def oq5_7_1 : Oper := { dst := some 61, op := Op.load 24 (Operand.tmp 2), type := 24, pos := "law.go:89", after := #[], guard := none }
def oq5_7_2 : Oper := { dst := some 62, op := Op.load 24 (Operand.tmp 3), type := 24, pos := "law.go:89", after := #[], guard := none }
def oq5_7_3 : Oper := { dst := some 63, op := Op.call { callee := Callee.value (Operand.func 27), args := #[Operand.tmp 61, Operand.tmp 62], argTypes := #[24, 24] }, type := 24, pos := "law.go:89", after := #[{ on := 1, ground := Ground.data }, { on := 2, ground := Ground.data }], guard := none }
def oq5_7_4 : Oper := { dst := some 64, op := Op.call { callee := Callee.value (Operand.func 17), args := #[Operand.tmp 60, Operand.tmp 63], argTypes := #[24, 24] }, type := 4, pos := "law.go:89", after := #[{ on := 0, ground := Ground.data }, { on := 3, ground := Ground.data }, { on := 3, ground := Ground.chain }], guard := none }
def oq5_7_5 : Oper := { dst := some 65, op := Op.unOp UnOp.not 4 (Operand.tmp 64), type := 4, pos := "law.go:89", after := #[{ on := 4, ground := Ground.data }], guard := none }
def oq5_7_6 : Oper := { dst := some 66, op := Op.move (Operand.tmp 65), type := 4, pos := "law.go:89", after := #[{ on := 5, ground := Ground.data }, { on := 4, ground := Ground.chain }], guard := none }
def oq5_7_7 : Oper := { dst := some 67, op := Op.move (Operand.tmp 6), type := 27, pos := "law.go:89", after := #[{ on := 6, ground := Ground.guard }], guard := some (6, false) }
def oq5_7_8 : Oper := { dst := some 68, op := Op.binOp BinOp.neq 27 (Operand.tmp 67) (Operand.const (Value.int IntKind.i64 0)) 27, type := 4, pos := "law.go:89", after := #[{ on := 7, ground := Ground.data }, { on := 6, ground := Ground.guard }], guard := some (6, false) }
def oq5_7_9 : Oper := { dst := some 69, op := Op.pick (Operand.tmp 66) (Operand.const (Value.bool true)) (Operand.tmp 68), type := 4, pos := "law.go:89", after := #[{ on := 6, ground := Ground.data }, { on := 8, ground := Ground.data }], guard := none }
set_option maxHeartbeats 16000000 in
set_option maxRecDepth 100000 in
theorem gcdl_far (A B' : Option Addr) (n k c d a b : Nat) (w : World) (hA : Num w w.heap.size A n a) (hB : Num w w.heap.size B' k b) (hn : n ≤ 9223372036854775807) (hk : k ≤ 9223372036854775807) (hg : ¬ (n ≤ 6 ∧ k ≤ 6)) :
    Calls Try.prog 5 #[.agg #[.slice A n c], .agg #[.slice B' k d]] w (RetB (.bool true) w) := by
  have HG : Hid (decide (n ≤ 6 ∧ k ≤ 6) = false) := decide_eq_false hg
  have z0 : (((nw 0 : Nat) : Int) == 0) = true := rfl
  have z00 : (((nw 0 : Nat) : Int) != 0) = false := rfl
  clear hg
  obtain ⟨b0, b1, bw⟩ := boxes2 w (.slice A n c) (.slice B' k d)
  have XA := VB.mk (B := w.heap.size) (a := a) b0 (.inl hA) bw (Nat.le_refl _) (by omega)
  have XB := VB.mk (B := w.heap.size) (a := b) b1 (.inl hB) bw (Nat.le_refl _) (by omega)
  have WW := bw
  clear bw b0 b1
  go_enter Try.func5, Try.ntmps5
  go_wp2_with fail
  generalize hV : ((w.alloc (.cells #[.slice A n c] 24)).alloc (.cells #[.slice B' k d] 24)) = V0 at XA XB WW ⊢
  clear hV
  have hbs : w.heap.size ≤ V0.heap.size := WW.size
  have hc := awake_any V0
  refine hc.mono ?_
  clear hc
  rintro e V1 ⟨rfl, hb⟩
  replace XA := XA.below hb
  replace XB := XB.below hb
  replace WW := WW.trans (hb.mono WW.size)
  have kXA := XA.cell
  have zXA := XA.lt
  have kXB := XB.cell
  have zXB := XB.lt
  clear hb hbs
  go_wp2_with fail
  have hbs : w.heap.size ≤ V1.heap.size := WW.size
  have hc := few_n2 6 (by omega) V1 A B' n k c d (by omega) (by omega)
  rw [HG.out] at hc
  refine hc.mono ?_
  clear hc
  rintro e V2 ⟨rfl, hb⟩
  clear kXA zXA kXB zXB
  replace XA := XA.below hb
  replace XB := XB.below hb
  replace WW := WW.trans (hb.mono WW.size)
  have kXA := XA.cell
  have zXA := XA.lt
  have kXB := XB.cell
  have zXB := XB.lt
  clear hb hbs
  go_wp2_with fail
  have hbs : w.heap.size ≤ V2.heap.size := WW.size
  have hc := awake_any V2
  refine hc.mono ?_
  clear hc
  rintro e V3 ⟨rfl, hb⟩
  clear kXA zXA kXB zXB
  replace XA := XA.below hb
  replace XB := XB.below hb
  replace WW := WW.trans (hb.mono WW.size)
  have kXA := XA.cell
  have zXA := XA.lt
  have kXB := XB.cell
  have zXB := XB.lt
  clear hb hbs
  go_wp2_with fail
  go_ret
  exact ⟨rfl, WW⟩

set_option maxHeartbeats 16000000 in
set_option maxRecDepth 100000 in
theorem gcdl_a (A B' : Option Addr) (n k c d a b : Nat) (w : World) (hA : Num w w.heap.size A n a) (hB : Num w w.heap.size B' k b) (hn : n ≤ 9223372036854775807) (hk : k ≤ 9223372036854775807) (hg : n ≤ 6 ∧ k ≤ 6) (h1 : okB n a = false) :
    Calls Try.prog 5 #[.agg #[.slice A n c], .agg #[.slice B' k d]] w (RetB (.bool true) w) := by
  have HG : Hid (decide (n ≤ 6 ∧ k ≤ 6) = true) := decide_eq_true hg
  have z0 : (((nw 0 : Nat) : Int) == 0) = true := rfl
  have z00 : (((nw 0 : Nat) : Int) != 0) = false := rfl
  have hg1 := hg.1
  have hg2 := hg.2
  have G1 := hid h1
  have HV : Hid (gcdV n a k b = (0, 1)) := (show gcdV n a k b = (0, 1) by unfold gcdV; rw [h1]; rfl)
  have HI : Hid (invS (chkS n a 0 0 k b) a b = (0, 1)) := (show invS (chkS n a 0 0 k b) a b = (0, 1) by have e : chkS n a 0 0 k b = 1 := by { unfold chkS; rw [h1]; rfl }; rw [e]; rfl)
  clear h1
  clear hg
  obtain ⟨b0, b1, bw⟩ := boxes2 w (.slice A n c) (.slice B' k d)
  have XA := VB.mk (B := w.heap.size) (a := a) b0 (.inl hA) bw (Nat.le_refl _) (by omega)
  have XB := VB.mk (B := w.heap.size) (a := b) b1 (.inl hB) bw (Nat.le_refl _) (by omega)
  have WW := bw
  clear bw b0 b1
  go_enter Try.func5, Try.ntmps5
  go_wp2_with fail
  generalize hV : ((w.alloc (.cells #[.slice A n c] 24)).alloc (.cells #[.slice B' k d] 24)) = V0 at XA XB WW ⊢
  clear hV
  have hbs : w.heap.size ≤ V0.heap.size := WW.size
  have hc := awake_any V0
  refine hc.mono ?_
  clear hc
  rintro e V1 ⟨rfl, hb⟩
  replace XA := XA.below hb
  replace XB := XB.below hb
  replace WW := WW.trans (hb.mono WW.size)
  have kXA := XA.cell
  have zXA := XA.lt
  have kXB := XB.cell
  have zXB := XB.lt
  clear hb hbs
  go_wp2_with fail
  have hbs : w.heap.size ≤ V1.heap.size := WW.size
  have hc := few_n2 6 (by omega) V1 A B' n k c d (by omega) (by omega)
  rw [HG.out] at hc
  refine hc.mono ?_
  clear hc
  rintro e V2 ⟨rfl, hb⟩
  clear kXA zXA kXB zXB
  replace XA := XA.below hb
  replace XB := XB.below hb
  replace WW := WW.trans (hb.mono WW.size)
  have kXA := XA.cell
  have zXA := XA.lt
  have kXB := XB.cell
  have zXB := XB.lt
  clear hb hbs
  go_wp2_with fail
  have hbs : w.heap.size ≤ V2.heap.size := WW.size
  have hc := ngcd_any A B' _ _ c d a b V2 XA.num XB.num (by omega) (by omega)
  rw [HV.out] at hc
  refine hc.mono ?_
  clear hc
  rintro e V3 ⟨v, rfl, hv, hb⟩
  clear kXA zXA kXB zXB
  replace XA := XA.below hb
  replace XB := XB.below hb
  replace WW := WW.trans (hb.mono WW.size)
  obtain ⟨D1, d1, rfl, ho⟩ := hv
  have O1 := ho.weak (b := w.heap.size) hbs
  clear ho
  have kXA := XA.cell
  have zXA := XA.lt
  have kXB := XB.cell
  have zXB := XB.lt
  clear hb hbs
  go_wp2_with fail
  obtain ⟨b0, bw⟩ := boxes1 V3 (.slice D1 (nw 0) d1)
  have hbs := WW.size
  clear kXA zXA kXB zXB
  have qXB4 := XB.lt
  have X1 := VB.mk (B := w.heap.size) (a := 0) b0 (.inr O1) bw hbs (by omega)
  replace XA := XA.below bw
  replace XB := XB.below bw
  replace O1 := O1.below bw (Nat.le_refl _)
  replace WW := WW.trans (bw.mono WW.size)
  clear bw hbs b0
  generalize hV : (V3.alloc (.cells #[.slice D1 (nw 0) d1] 24)) = V4 at XA XB X1 O1 WW ⊢
  clear hV
  have kXA := XA.cell
  have zXA := XA.lt
  have kXB := XB.cell
  have zXB := XB.lt
  have kX1 := X1.cell
  have zX1 := X1.lt
  have hbs : w.heap.size ≤ V4.heap.size := WW.size
  have hc := inverse_any A B' _ _ c d a b V4 XA.num XB.num (by omega) (by omega)
  rw [HI.out] at hc
  refine hc.mono ?_
  clear hc
  rintro e V5 ⟨v, rfl, hv, hb⟩
  clear kXA zXA kXB zXB kX1 zX1
  replace XA := XA.below hb
  replace XB := XB.below hb
  replace X1 := X1.below hb
  replace O1 := O1.below hb (Nat.le_refl _)
  replace WW := WW.trans (hb.mono WW.size)
  obtain ⟨D2, d2, rfl, ho⟩ := hv
  have O2 := ho.weak (b := w.heap.size) hbs
  clear ho
  have kXA := XA.cell
  have zXA := XA.lt
  have kXB := XB.cell
  have zXB := XB.lt
  have kX1 := X1.cell
  have zX1 := X1.lt
  clear hb hbs
  go_wp2_with fail
  obtain ⟨b0, bw⟩ := boxes1 V5 (.slice D2 (nw 0) d2)
  have hbs := WW.size
  clear kXA zXA kXB zXB kX1 zX1
  have qX16 := X1.lt
  have qXB6 := XB.lt
  have X2 := VB.mk (B := w.heap.size) (a := 0) b0 (.inr O2) bw hbs (by omega)
  replace XA := XA.below bw
  replace XB := XB.below bw
  replace X1 := X1.below bw
  replace O1 := O1.below bw (Nat.le_refl _)
  replace O2 := O2.below bw (Nat.le_refl _)
  replace WW := WW.trans (bw.mono WW.size)
  clear bw hbs b0
  generalize hV : (V5.alloc (.cells #[.slice D2 (nw 0) d2] 24)) = V6 at XA XB X1 X2 O1 O2 WW ⊢
  clear hV
  have kXA := XA.cell
  have zXA := XA.lt
  have kXB := XB.cell
  have zXB := XB.lt
  have kX1 := X1.cell
  have zX1 := X1.lt
  have kX2 := X2.cell
  have zX2 := X2.lt
  have hbs : w.heap.size ≤ V6.heap.size := WW.size
  have hc := rvalid_any A _ c a _ V6 XA.num (Nat.le_refl _) (by omega)
  rw [G1.out] at hc
  refine hc.mono ?_
  clear hc
  rintro e V7 ⟨rfl, hb⟩
  clear kXA zXA kXB zXB kX1 zX1 kX2 zX2
  replace XA := XA.below hb
  replace XB := XB.below hb
  replace X1 := X1.below hb
  replace X2 := X2.below hb
  replace O1 := O1.below hb (Nat.le_refl _)
  replace O2 := O2.below hb (Nat.le_refl _)
  replace WW := WW.trans (hb.mono WW.size)
  have kXA := XA.cell
  have zXA := XA.lt
  have kXB := XB.cell
  have zXB := XB.lt
  have kX1 := X1.cell
  have zX1 := X1.lt
  have kX2 := X2.cell
  have zX2 := X2.lt
  clear hb hbs
  go_wp2_with fail
  go_ret
  exact ⟨rfl, WW⟩

set_option maxHeartbeats 16000000 in
set_option maxRecDepth 100000 in
theorem gcdl_b (A B' : Option Addr) (n k c d a b : Nat) (w : World) (hA : Num w w.heap.size A n a) (hB : Num w w.heap.size B' k b) (hn : n ≤ 9223372036854775807) (hk : k ≤ 9223372036854775807) (hg : n ≤ 6 ∧ k ≤ 6) (h1 : okB n a = true) (h2 : okB k b = false) :
    Calls Try.prog 5 #[.agg #[.slice A n c], .agg #[.slice B' k d]] w (RetB (.bool true) w) := by
  have HG : Hid (decide (n ≤ 6 ∧ k ≤ 6) = true) := decide_eq_true hg
  have z0 : (((nw 0 : Nat) : Int) == 0) = true := rfl
  have z00 : (((nw 0 : Nat) : Int) != 0) = false := rfl
  have hg1 := hg.1
  have hg2 := hg.2
  have G1 := hid h1
  have G2 := hid h2
  have HV : Hid (gcdV n a k b = (0, 1)) := (show gcdV n a k b = (0, 1) by unfold gcdV; rw [h1, h2]; rfl)
  have HI : Hid (invS (chkS n a 0 0 k b) a b = (0, 1)) := (show invS (chkS n a 0 0 k b) a b = (0, 1) by have e : chkS n a 0 0 k b = 1 := by { unfold chkS modB; rw [h1, h2]; rfl }; rw [e]; rfl)
  clear h1 h2
  clear hg
  obtain ⟨b0, b1, bw⟩ := boxes2 w (.slice A n c) (.slice B' k d)
  have XA := VB.mk (B := w.heap.size) (a := a) b0 (.inl hA) bw (Nat.le_refl _) (by omega)
  have XB := VB.mk (B := w.heap.size) (a := b) b1 (.inl hB) bw (Nat.le_refl _) (by omega)
  have WW := bw
  clear bw b0 b1
  go_enter Try.func5, Try.ntmps5
  go_wp2_with fail
  generalize hV : ((w.alloc (.cells #[.slice A n c] 24)).alloc (.cells #[.slice B' k d] 24)) = V0 at XA XB WW ⊢
  clear hV
  have hbs : w.heap.size ≤ V0.heap.size := WW.size
  have hc := awake_any V0
  refine hc.mono ?_
  clear hc
  rintro e V1 ⟨rfl, hb⟩
  replace XA := XA.below hb
  replace XB := XB.below hb
  replace WW := WW.trans (hb.mono WW.size)
  have kXA := XA.cell
  have zXA := XA.lt
  have kXB := XB.cell
  have zXB := XB.lt
  clear hb hbs
  go_wp2_with fail
  have hbs : w.heap.size ≤ V1.heap.size := WW.size
  have hc := few_n2 6 (by omega) V1 A B' n k c d (by omega) (by omega)
  rw [HG.out] at hc
  refine hc.mono ?_
  clear hc
  rintro e V2 ⟨rfl, hb⟩
  clear kXA zXA kXB zXB
  replace XA := XA.below hb
  replace XB := XB.below hb
  replace WW := WW.trans (hb.mono WW.size)
  have kXA := XA.cell
  have zXA := XA.lt
  have kXB := XB.cell
  have zXB := XB.lt
  clear hb hbs
  go_wp2_with fail
  have hbs : w.heap.size ≤ V2.heap.size := WW.size
  have hc := ngcd_any A B' _ _ c d a b V2 XA.num XB.num (by omega) (by omega)
  rw [HV.out] at hc
  refine hc.mono ?_
  clear hc
  rintro e V3 ⟨v, rfl, hv, hb⟩
  clear kXA zXA kXB zXB
  replace XA := XA.below hb
  replace XB := XB.below hb
  replace WW := WW.trans (hb.mono WW.size)
  obtain ⟨D1, d1, rfl, ho⟩ := hv
  have O1 := ho.weak (b := w.heap.size) hbs
  clear ho
  have kXA := XA.cell
  have zXA := XA.lt
  have kXB := XB.cell
  have zXB := XB.lt
  clear hb hbs
  go_wp2_with fail
  obtain ⟨b0, bw⟩ := boxes1 V3 (.slice D1 (nw 0) d1)
  have hbs := WW.size
  clear kXA zXA kXB zXB
  have qXB4 := XB.lt
  have X1 := VB.mk (B := w.heap.size) (a := 0) b0 (.inr O1) bw hbs (by omega)
  replace XA := XA.below bw
  replace XB := XB.below bw
  replace O1 := O1.below bw (Nat.le_refl _)
  replace WW := WW.trans (bw.mono WW.size)
  clear bw hbs b0
  generalize hV : (V3.alloc (.cells #[.slice D1 (nw 0) d1] 24)) = V4 at XA XB X1 O1 WW ⊢
  clear hV
  have kXA := XA.cell
  have zXA := XA.lt
  have kXB := XB.cell
  have zXB := XB.lt
  have kX1 := X1.cell
  have zX1 := X1.lt
  have hbs : w.heap.size ≤ V4.heap.size := WW.size
  have hc := inverse_any A B' _ _ c d a b V4 XA.num XB.num (by omega) (by omega)
  rw [HI.out] at hc
  refine hc.mono ?_
  clear hc
  rintro e V5 ⟨v, rfl, hv, hb⟩
  clear kXA zXA kXB zXB kX1 zX1
  replace XA := XA.below hb
  replace XB := XB.below hb
  replace X1 := X1.below hb
  replace O1 := O1.below hb (Nat.le_refl _)
  replace WW := WW.trans (hb.mono WW.size)
  obtain ⟨D2, d2, rfl, ho⟩ := hv
  have O2 := ho.weak (b := w.heap.size) hbs
  clear ho
  have kXA := XA.cell
  have zXA := XA.lt
  have kXB := XB.cell
  have zXB := XB.lt
  have kX1 := X1.cell
  have zX1 := X1.lt
  clear hb hbs
  go_wp2_with fail
  obtain ⟨b0, bw⟩ := boxes1 V5 (.slice D2 (nw 0) d2)
  have hbs := WW.size
  clear kXA zXA kXB zXB kX1 zX1
  have qX16 := X1.lt
  have qXB6 := XB.lt
  have X2 := VB.mk (B := w.heap.size) (a := 0) b0 (.inr O2) bw hbs (by omega)
  replace XA := XA.below bw
  replace XB := XB.below bw
  replace X1 := X1.below bw
  replace O1 := O1.below bw (Nat.le_refl _)
  replace O2 := O2.below bw (Nat.le_refl _)
  replace WW := WW.trans (bw.mono WW.size)
  clear bw hbs b0
  generalize hV : (V5.alloc (.cells #[.slice D2 (nw 0) d2] 24)) = V6 at XA XB X1 X2 O1 O2 WW ⊢
  clear hV
  have kXA := XA.cell
  have zXA := XA.lt
  have kXB := XB.cell
  have zXB := XB.lt
  have kX1 := X1.cell
  have zX1 := X1.lt
  have kX2 := X2.cell
  have zX2 := X2.lt
  have hbs : w.heap.size ≤ V6.heap.size := WW.size
  have hc := rvalid_any A _ c a _ V6 XA.num (Nat.le_refl _) (by omega)
  rw [G1.out] at hc
  refine hc.mono ?_
  clear hc
  rintro e V7 ⟨rfl, hb⟩
  clear kXA zXA kXB zXB kX1 zX1 kX2 zX2
  replace XA := XA.below hb
  replace XB := XB.below hb
  replace X1 := X1.below hb
  replace X2 := X2.below hb
  replace O1 := O1.below hb (Nat.le_refl _)
  replace O2 := O2.below hb (Nat.le_refl _)
  replace WW := WW.trans (hb.mono WW.size)
  have kXA := XA.cell
  have zXA := XA.lt
  have kXB := XB.cell
  have zXB := XB.lt
  have kX1 := X1.cell
  have zX1 := X1.lt
  have kX2 := X2.cell
  have zX2 := X2.lt
  clear hb hbs
  go_wp2_with fail
  have hbs : w.heap.size ≤ V7.heap.size := WW.size
  have hc := rvalid_any B' _ d b _ V7 XB.num (Nat.le_refl _) (by omega)
  rw [G2.out] at hc
  refine hc.mono ?_
  clear hc
  rintro e V8 ⟨rfl, hb⟩
  clear kXA zXA kXB zXB kX1 zX1 kX2 zX2
  replace XA := XA.below hb
  replace XB := XB.below hb
  replace X1 := X1.below hb
  replace X2 := X2.below hb
  replace O1 := O1.below hb (Nat.le_refl _)
  replace O2 := O2.below hb (Nat.le_refl _)
  replace WW := WW.trans (hb.mono WW.size)
  have kXA := XA.cell
  have zXA := XA.lt
  have kXB := XB.cell
  have zXB := XB.lt
  have kX1 := X1.cell
  have zX1 := X1.lt
  have kX2 := X2.cell
  have zX2 := X2.lt
  clear hb hbs
  go_wp2_with fail
  go_ret
  exact ⟨rfl, WW⟩

set_option maxHeartbeats 16000000 in
set_option maxRecDepth 100000 in
theorem gcdl_e (A B' : Option Addr) (n k c d a b : Nat) (w : World) (hA : Num w w.heap.size A n a) (hB : Num w w.heap.size B' k b) (hn : n ≤ 9223372036854775807) (hk : k ≤ 9223372036854775807) (hg : n ≤ 6 ∧ k ≤ 6) (h1 : okB n a = true) (h2 : okB k b = true) (h0 : ¬ chkS n a 0 0 k b = 0) :
    Calls Try.prog 5 #[.agg #[.slice A n c], .agg #[.slice B' k d]] w (RetB (.bool true) w) := by
  have HG : Hid (decide (n ≤ 6 ∧ k ≤ 6) = true) := decide_eq_true hg
  have z0 : (((nw 0 : Nat) : Int) == 0) = true := rfl
  have z00 : (((nw 0 : Nat) : Int) != 0) = false := rfl
  have hg1 := hg.1
  have hg2 := hg.2
  have G1 := hid h1
  have G2 := hid h2
  obtain ⟨e1, na⟩ := okB_yes.1 h1
  obtain ⟨e2, nb⟩ := okB_yes.1 h2
  subst e1 e2
  obtain ⟨x, hx⟩ : ∃ z, z = Nat.gcd a b := ⟨_, rfl⟩
  have HX := hid hx
  have HV : Hid (gcdV (nw a) a (nw b) b = (x, 0)) := (show gcdV (nw a) a (nw b) b = (x, 0) by unfold gcdV; rw [h1, h2, hx]; rfl)
  have nx : nw x ≤ 6 := by
    rw [hx]
    rcases Nat.eq_zero_or_pos a with h | h
    · rw [h, Nat.gcd_zero_left]; exact hg2
    · exact Nat.le_trans (nw_mono (Nat.le_of_dvd h (Nat.gcd_dvd_left a b))) hg1
  obtain ⟨e0, he0⟩ : ∃ x, chkS (nw a) a 0 0 (nw b) b = x := ⟨_, rfl⟩
  rw [he0] at h0
  have HC := hid he0
  have HI : Hid (invS (chkS (nw a) a 0 0 (nw b) b) a b = (0, e0)) := (show _ = (0, e0) by rw [he0]; unfold invS; rw [if_neg h0])
  have hbd := chk_bd (nw a) a 0 0 (nw b) b
  rw [he0] at hbd
  have z1 : (e0 != 0) = true := by simpa using h0
  have z2 : (e0 == e0) = true := by simp
  clear he0 h0 h1 h2 hx
  clear hg
  obtain ⟨b0, b1, bw⟩ := boxes2 w (.slice A (nw a) c) (.slice B' (nw b) d)
  have XA := VB.mk (B := w.heap.size) (a := a) b0 (.inl hA) bw (Nat.le_refl _) (by omega)
  have XB := VB.mk (B := w.heap.size) (a := b) b1 (.inl hB) bw (Nat.le_refl _) (by omega)
  have WW := bw
  clear bw b0 b1
  go_enter Try.func5, Try.ntmps5
  go_wp2_with fail
  generalize hV : ((w.alloc (.cells #[.slice A (nw a) c] 24)).alloc (.cells #[.slice B' (nw b) d] 24)) = V0 at XA XB WW ⊢
  clear hV
  have hbs : w.heap.size ≤ V0.heap.size := WW.size
  have hc := awake_any V0
  refine hc.mono ?_
  clear hc
  rintro e V1 ⟨rfl, hb⟩
  replace XA := XA.below hb
  replace XB := XB.below hb
  replace WW := WW.trans (hb.mono WW.size)
  have kXA := XA.cell
  have zXA := XA.lt
  have kXB := XB.cell
  have zXB := XB.lt
  clear hb hbs
  go_wp2_with fail
  have hbs : w.heap.size ≤ V1.heap.size := WW.size
  have hc := few_n2 6 (by omega) V1 A B' (nw a) (nw b) c d (by omega) (by omega)
  rw [HG.out] at hc
  refine hc.mono ?_
  clear hc
  rintro e V2 ⟨rfl, hb⟩
  clear kXA zXA kXB zXB
  replace XA := XA.below hb
  replace XB := XB.below hb
  replace WW := WW.trans (hb.mono WW.size)
  have kXA := XA.cell
  have zXA := XA.lt
  have kXB := XB.cell
  have zXB := XB.lt
  clear hb hbs
  go_wp2_with fail
  have hbs : w.heap.size ≤ V2.heap.size := WW.size
  have hc := ngcd_any A B' _ _ c d a b V2 XA.num XB.num (by omega) (by omega)
  rw [HV.out] at hc
  refine hc.mono ?_
  clear hc
  rintro e V3 ⟨v, rfl, hv, hb⟩
  clear kXA zXA kXB zXB
  replace XA := XA.below hb
  replace XB := XB.below hb
  replace WW := WW.trans (hb.mono WW.size)
  obtain ⟨D1, d1, rfl, ho⟩ := hv
  have O1 := ho.weak (b := w.heap.size) hbs
  clear ho
  have kXA := XA.cell
  have zXA := XA.lt
  have kXB := XB.cell
  have zXB := XB.lt
  clear hb hbs
  go_wp2_with fail
  obtain ⟨b0, bw⟩ := boxes1 V3 (.slice D1 (nw x) d1)
  have hbs := WW.size
  clear kXA zXA kXB zXB
  have qXB4 := XB.lt
  have X1 := VB.mk (B := w.heap.size) (a := x) b0 (.inr O1) bw hbs (by omega)
  replace XA := XA.below bw
  replace XB := XB.below bw
  replace O1 := O1.below bw (Nat.le_refl _)
  replace WW := WW.trans (bw.mono WW.size)
  clear bw hbs b0
  generalize hV : (V3.alloc (.cells #[.slice D1 (nw x) d1] 24)) = V4 at XA XB X1 O1 WW ⊢
  clear hV
  have kXA := XA.cell
  have zXA := XA.lt
  have kXB := XB.cell
  have zXB := XB.lt
  have kX1 := X1.cell
  have zX1 := X1.lt
  have hbs : w.heap.size ≤ V4.heap.size := WW.size
  have hc := inverse_any A B' _ _ c d a b V4 XA.num XB.num (by omega) (by omega)
  rw [HI.out] at hc
  refine hc.mono ?_
  clear hc
  rintro e V5 ⟨v, rfl, hv, hb⟩
  clear kXA zXA kXB zXB kX1 zX1
  replace XA := XA.below hb
  replace XB := XB.below hb
  replace X1 := X1.below hb
  replace O1 := O1.below hb (Nat.le_refl _)
  replace WW := WW.trans (hb.mono WW.size)
  obtain ⟨D2, d2, rfl, ho⟩ := hv
  have O2 := ho.weak (b := w.heap.size) hbs
  clear ho
  have kXA := XA.cell
  have zXA := XA.lt
  have kXB := XB.cell
  have zXB := XB.lt
  have kX1 := X1.cell
  have zX1 := X1.lt
  clear hb hbs
  go_wp2_with fail
  obtain ⟨b0, bw⟩ := boxes1 V5 (.slice D2 (nw 0) d2)
  have hbs := WW.size
  clear kXA zXA kXB zXB kX1 zX1
  have qX16 := X1.lt
  have qXB6 := XB.lt
  have X2 := VB.mk (B := w.heap.size) (a := 0) b0 (.inr O2) bw hbs (by omega)
  replace XA := XA.below bw
  replace XB := XB.below bw
  replace X1 := X1.below bw
  replace O1 := O1.below bw (Nat.le_refl _)
  replace O2 := O2.below bw (Nat.le_refl _)
  replace WW := WW.trans (bw.mono WW.size)
  clear bw hbs b0
  generalize hV : (V5.alloc (.cells #[.slice D2 (nw 0) d2] 24)) = V6 at XA XB X1 X2 O1 O2 WW ⊢
  clear hV
  have kXA := XA.cell
  have zXA := XA.lt
  have kXB := XB.cell
  have zXB := XB.lt
  have kX1 := X1.cell
  have zX1 := X1.lt
  have kX2 := X2.cell
  have zX2 := X2.lt
  have hbs : w.heap.size ≤ V6.heap.size := WW.size
  have hc := rvalid_any A _ c a _ V6 XA.num (Nat.le_refl _) (by omega)
  rw [G1.out] at hc
  refine hc.mono ?_
  clear hc
  rintro e V7 ⟨rfl, hb⟩
  clear kXA zXA kXB zXB kX1 zX1 kX2 zX2
  replace XA := XA.below hb
  replace XB := XB.below hb
  replace X1 := X1.below hb
  replace X2 := X2.below hb
  replace O1 := O1.below hb (Nat.le_refl _)
  replace O2 := O2.below hb (Nat.le_refl _)
  replace WW := WW.trans (hb.mono WW.size)
  have kXA := XA.cell
  have zXA := XA.lt
  have kXB := XB.cell
  have zXB := XB.lt
  have kX1 := X1.cell
  have zX1 := X1.lt
  have kX2 := X2.cell
  have zX2 := X2.lt
  clear hb hbs
  go_wp2_with fail
  have hbs : w.heap.size ≤ V7.heap.size := WW.size
  have hc := rvalid_any B' _ d b _ V7 XB.num (Nat.le_refl _) (by omega)
  rw [G2.out] at hc
  refine hc.mono ?_
  clear hc
  rintro e V8 ⟨rfl, hb⟩
  clear kXA zXA kXB zXB kX1 zX1 kX2 zX2
  replace XA := XA.below hb
  replace XB := XB.below hb
  replace X1 := X1.below hb
  replace X2 := X2.below hb
  replace O1 := O1.below hb (Nat.le_refl _)
  replace O2 := O2.below hb (Nat.le_refl _)
  replace WW := WW.trans (hb.mono WW.size)
  have kXA := XA.cell
  have zXA := XA.lt
  have kXB := XB.cell
  have zXB := XB.lt
  have kX1 := X1.cell
  have zX1 := X1.lt
  have kX2 := X2.cell
  have zX2 := X2.lt
  clear hb hbs
  go_wp2_with fail
  have WWd := WW.drew
  have XAd := XA.drew
  have XBd := XB.drew
  have X1d := X1.drew
  have X2d := X2.drew
  have O1d := O1.drew
  have O2d := O2.drew
  have hst : (fun w' => w'.cell? ⟨w.heap.size, 0, none⟩ = some (.slice A (nw a) c) ∧ w'.cell? ⟨w.heap.size + 1, 0, none⟩ = some (.slice B' (nw b) d) ∧ w'.cell? ⟨V3.heap.size, 0, none⟩ = some (.slice D1 (nw x) d1)) V8.drew := ⟨XA.cell, XB.cell, X1.cell⟩
  clear WW kXA zXA kXB zXB kX1 zX1 kX2 zX2 XA XB X1 X2 O1 O2
  have qq0 := X2d.lt
  refine region_L 17 (fun w' => w'.cell? ⟨w.heap.size, 0, none⟩ = some (.slice A (nw a) c) ∧ w'.cell? ⟨w.heap.size + 1, 0, none⟩ = some (.slice B' (nw b) d) ∧ w'.cell? ⟨V3.heap.size, 0, none⟩ = some (.slice D1 (nw x) d1)) (by kernel_rfl) hst (fun hHeld => ?_)
  clear hst
  refine AnyL_name (fun W' => Below w.heap.size w W' ∧ VB w.heap.size W' (w.heap.size) A (nw a) c a ∧ VB w.heap.size W' (w.heap.size + 1) B' (nw b) d b ∧ VB w.heap.size W' (V3.heap.size) D1 (nw x) d1 x ∧ VB w.heap.size W' (V5.heap.size) D2 (nw 0) d2 0 ∧ Own W' w.heap.size D1 (nw x) d1 x ∧ Own W' w.heap.size D2 (nw 0) d2 0 ∧ V8.drew.heap.size ≤ W'.heap.size ∧ (fun w' => w'.cell? ⟨w.heap.size, 0, none⟩ = some (.slice A (nw a) c) ∧ w'.cell? ⟨w.heap.size + 1, 0, none⟩ = some (.slice B' (nw b) d) ∧ w'.cell? ⟨V3.heap.size, 0, none⟩ = some (.slice D1 (nw x) d1)) W') ⟨WWd, XAd, XBd, X1d, X2d, O1d, O2d, Nat.le_refl _, hHeld⟩ ?_
  clear hHeld WWd XAd XBd X1d X2d O1d O2d
  rintro U8x0 ⟨WW, XA, XB, X1, X2, O1, O2, sz0, hHeld⟩
  refine AnyL_take (i := 0) (oi := oq5_7_0) (v := ?_) rfl (by kernel_rfl) (by kernel_rfl) (by kernel_rfl) (by kernel_rfl) (fun _ _ _ h => h) (Or.inl ⟨by rfl, ?_⟩) (by assumption) ?_
  rotate_left
  · (delta oq5_7_0; intro ws hSw; (try dsimp only at hSw); (try go_simp); (try with_reducible rfl))
  (try simp only [oq5_7_0, Act.put, List.setIfInBounds_toArray, List.set_cons_zero, List.set_cons_succ])
  refine AnyL_take (i := 1) (oi := oq5_7_1) (v := ?_) rfl (by kernel_rfl) (by kernel_rfl) (by kernel_rfl) (by kernel_rfl) (fun _ _ _ h => h) (Or.inl ⟨by rfl, ?_⟩) (by assumption) ?_
  rotate_left
  · (delta oq5_7_1; intro ws hSw; (try dsimp only at hSw); (try go_simp); (try with_reducible rfl))
  (try simp only [oq5_7_1, Act.put, List.setIfInBounds_toArray, List.set_cons_zero, List.set_cons_succ])
  refine AnyL_take (i := 2) (oi := oq5_7_2) (v := ?_) rfl (by kernel_rfl) (by kernel_rfl) (by kernel_rfl) (by kernel_rfl) (fun _ _ _ h => h) (Or.inl ⟨by rfl, ?_⟩) (by assumption) ?_
  rotate_left
  · (delta oq5_7_2; intro ws hSw; (try dsimp only at hSw); (try go_simp); (try with_reducible rfl))
  (try simp only [oq5_7_2, Act.put, List.setIfInBounds_toArray, List.set_cons_zero, List.set_cons_succ])
  refine AnyL_ready (rs := [3]) (by kernel_rfl) (by simp) ?_
  refine ReadyL.cons (o := oq5_7_3) rfl (fun K hK => ?_) ReadyL.nil
  delta oq5_7_3
  go_simp
  have hbs : w.heap.size ≤ U8x0.heap.size := WW.size
  have hc := rgcd_any A B' c d a b U8x0 XA.num XB.num (by omega) (by omega)
  rw [← HX.out] at hc
  refine hc.mono ?_
  clear hc
  rintro e V10 ⟨D5, d5, rfl, hv, hb⟩
  replace XA := XA.below hb
  replace XB := XB.below hb
  replace X1 := X1.below hb
  replace X2 := X2.below hb
  replace O1 := O1.below hb (Nat.le_refl _)
  replace O2 := O2.below hb (Nat.le_refl _)
  replace WW := WW.trans (hb.mono WW.size)
  have sz10 := hb.size
  have N5 := hv.num hb.size
  clear hv
  clear hb hbs
  refine hK.out _ _ (⟨XA.cell, XB.cell, X1.cell⟩) (fun hHeld2 => ?_)
  clear hK K hHeld
  have hHeld := hHeld2
  clear hHeld2
  (try simp only [oq5_7_3, Act.put, List.setIfInBounds_toArray, List.set_cons_zero, List.set_cons_succ])
  refine AnyL_ready (rs := [4]) (by kernel_rfl) (by simp) ?_
  refine ReadyL.cons (o := oq5_7_4) rfl (fun K hK => ?_) ReadyL.nil
  delta oq5_7_4
  go_simp
  have hbs : w.heap.size ≤ V10.heap.size := WW.size
  have hc := same3_any D1 D5 _ _ d1 d5 x x V10 X1.num N5 (by omega) (by omega)
  rw [sameB_yes] at hc
  refine hc.mono ?_
  clear hc
  rintro e V11 ⟨rfl, hb⟩
  replace XA := XA.below hb
  replace XB := XB.below hb
  replace X1 := X1.below hb
  replace X2 := X2.below hb
  replace O1 := O1.below hb (Nat.le_refl _)
  replace O2 := O2.below hb (Nat.le_refl _)
  replace WW := WW.trans (hb.mono WW.size)
  have sz11 := hb.size
  clear hb hbs
  refine hK.out _ _ (⟨XA.cell, XB.cell, X1.cell⟩) (fun hHeld2 => ?_)
  clear hK K hHeld
  have hHeld := hHeld2
  clear hHeld2
  (try simp only [oq5_7_4, Act.put, List.setIfInBounds_toArray, List.set_cons_zero, List.set_cons_succ])
  refine AnyL_take (i := 5) (oi := oq5_7_5) (v := ?_) rfl (by kernel_rfl) (by kernel_rfl) (by kernel_rfl) (by kernel_rfl) (fun _ _ _ h => h) (Or.inl ⟨by rfl, ?_⟩) (by assumption) ?_
  rotate_left
  · (delta oq5_7_5; intro ws hSw; (try dsimp only at hSw); (try go_simp); (try with_reducible rfl))
  (try simp only [oq5_7_5, Act.put, List.setIfInBounds_toArray, List.set_cons_zero, List.set_cons_succ])
  refine AnyL_take (i := 6) (oi := oq5_7_6) (v := ?_) rfl (by kernel_rfl) (by kernel_rfl) (by kernel_rfl) (by kernel_rfl) (fun _ _ _ h => h) (Or.inl ⟨by rfl, ?_⟩) (by assumption) ?_
  rotate_left
  · (delta oq5_7_6; intro ws hSw; (try dsimp only at hSw); (try go_simp); (try with_reducible rfl))
  (try simp only [oq5_7_6, Act.put, List.setIfInBounds_toArray, List.set_cons_zero, List.set_cons_succ])
  refine AnyL_take (i := 7) (oi := oq5_7_7) (v := ?_) rfl (by kernel_rfl) (by kernel_rfl) (by kernel_rfl) (by kernel_rfl) (fun _ _ _ h => h) (Or.inl ⟨by rfl, ?_⟩) (by assumption) ?_
  rotate_left
  · (delta oq5_7_7; intro ws hSw; (try dsimp only at hSw); (try go_simp); (try with_reducible rfl))
  (try simp only [oq5_7_7, Act.put, List.setIfInBounds_toArray, List.set_cons_zero, List.set_cons_succ])
  refine AnyL_take (i := 8) (oi := oq5_7_8) (v := ?_) rfl (by kernel_rfl) (by kernel_rfl) (by kernel_rfl) (by kernel_rfl) (fun _ _ _ h => h) (Or.inl ⟨by rfl, ?_⟩) (by assumption) ?_
  rotate_left
  · (delta oq5_7_8; intro ws hSw; (try dsimp only at hSw); (try go_simp); (try with_reducible rfl))
  (try simp only [oq5_7_8, Act.put, List.setIfInBounds_toArray, List.set_cons_zero, List.set_cons_succ])
  refine AnyL_take (i := 9) (oi := oq5_7_9) (v := ?_) rfl (by kernel_rfl) (by kernel_rfl) (by kernel_rfl) (by kernel_rfl) (fun _ _ _ h => h) (Or.inl ⟨by rfl, ?_⟩) (by assumption) ?_
  rotate_left
  · (delta oq5_7_9; intro ws hSw; (try dsimp only at hSw); (try go_simp); (try with_reducible rfl))
  (try simp only [oq5_7_9, Act.put, List.setIfInBounds_toArray, List.set_cons_zero, List.set_cons_succ])
  refine AnyL_done (by kernel_rfl) ?_ _
  clear hHeld
  have kXA := XA.cell
  have zXA := XA.lt
  have kXB := XB.cell
  have zXB := XB.lt
  have kX1 := X1.cell
  have zX1 := X1.lt
  have kX2 := X2.cell
  have zX2 := X2.lt
  go_wp2_with fail
  have hbs : w.heap.size ≤ V11.heap.size := WW.size
  have hc := first_a1 V11 A _ c a _ b d B' XA.num XB.num (by omega) (by omega)
  rw [HC.out] at hc
  refine hc.mono ?_
  clear hc
  rintro e V12 ⟨rfl, hb⟩
  clear kXA zXA kXB zXB kX1 zX1 kX2 zX2
  replace XA := XA.below hb
  replace XB := XB.below hb
  replace X1 := X1.below hb
  replace X2 := X2.below hb
  replace O1 := O1.below hb (Nat.le_refl _)
  replace O2 := O2.below hb (Nat.le_refl _)
  replace WW := WW.trans (hb.mono WW.size)
  have kXA := XA.cell
  have zXA := XA.lt
  have kXB := XB.cell
  have zXB := XB.lt
  have kX1 := X1.cell
  have zX1 := X1.lt
  have kX2 := X2.cell
  have zX2 := X2.lt
  clear hb hbs
  go_wp2_with fail
  go_ret
  exact ⟨rfl, WW⟩

set_option maxHeartbeats 16000000 in
set_option maxRecDepth 100000 in
theorem gcdl_z (A B' : Option Addr) (n k c d a b : Nat) (w : World) (hA : Num w w.heap.size A n a) (hB : Num w w.heap.size B' k b) (hn : n ≤ 9223372036854775807) (hk : k ≤ 9223372036854775807) (hg : n ≤ 6 ∧ k ≤ 6) (h1 : okB n a = true) (h2 : okB k b = true) (h0 : chkS n a 0 0 k b = 0) (h3 : ¬ Nat.gcd a b = 1) :
    Calls Try.prog 5 #[.agg #[.slice A n c], .agg #[.slice B' k d]] w (RetB (.bool true) w) := by
  have HG : Hid (decide (n ≤ 6 ∧ k ≤ 6) = true) := decide_eq_true hg
  have z0 : (((nw 0 : Nat) : Int) == 0) = true := rfl
  have z00 : (((nw 0 : Nat) : Int) != 0) = false := rfl
  have hg1 := hg.1
  have hg2 := hg.2
  have G1 := hid h1
  have G2 := hid h2
  obtain ⟨e1, na⟩ := okB_yes.1 h1
  obtain ⟨e2, nb⟩ := okB_yes.1 h2
  subst e1 e2
  obtain ⟨x, hx⟩ : ∃ z, z = Nat.gcd a b := ⟨_, rfl⟩
  have HX := hid hx
  have HV : Hid (gcdV (nw a) a (nw b) b = (x, 0)) := (show gcdV (nw a) a (nw b) b = (x, 0) by unfold gcdV; rw [h1, h2, hx]; rfl)
  have nx : nw x ≤ 6 := by
    rw [hx]
    rcases Nat.eq_zero_or_pos a with h | h
    · rw [h, Nat.gcd_zero_left]; exact hg2
    · exact Nat.le_trans (nw_mono (Nat.le_of_dvd h (Nat.gcd_dvd_left a b))) hg1
  have HC := hid h0
  obtain ⟨-, -, -, hm1, hm0, ha, -⟩ := chk0 h0
  have HAM := hid ha
  have GT : Hid (decide (Nat.gcd a b = 1) = false) := decide_eq_false h3
  have HI : Hid (invS (chkS (nw a) a 0 0 (nw b) b) a b = (0, 10)) := (show _ = (0, 10) by unfold invS; rw [if_pos h0, if_neg h3])
  clear h0 h1 h2 h3 hx ha hm0
  clear hg
  obtain ⟨b0, b1, bw⟩ := boxes2 w (.slice A (nw a) c) (.slice B' (nw b) d)
  have XA := VB.mk (B := w.heap.size) (a := a) b0 (.inl hA) bw (Nat.le_refl _) (by omega)
  have XB := VB.mk (B := w.heap.size) (a := b) b1 (.inl hB) bw (Nat.le_refl _) (by omega)
  have WW := bw
  clear bw b0 b1
  go_enter Try.func5, Try.ntmps5
  go_wp2_with fail
  generalize hV : ((w.alloc (.cells #[.slice A (nw a) c] 24)).alloc (.cells #[.slice B' (nw b) d] 24)) = V0 at XA XB WW ⊢
  clear hV
  have hbs : w.heap.size ≤ V0.heap.size := WW.size
  have hc := awake_any V0
  refine hc.mono ?_
  clear hc
  rintro e V1 ⟨rfl, hb⟩
  replace XA := XA.below hb
  replace XB := XB.below hb
  replace WW := WW.trans (hb.mono WW.size)
  have kXA := XA.cell
  have zXA := XA.lt
  have kXB := XB.cell
  have zXB := XB.lt
  clear hb hbs
  go_wp2_with fail
  have hbs : w.heap.size ≤ V1.heap.size := WW.size
  have hc := few_n2 6 (by omega) V1 A B' (nw a) (nw b) c d (by omega) (by omega)
  rw [HG.out] at hc
  refine hc.mono ?_
  clear hc
  rintro e V2 ⟨rfl, hb⟩
  clear kXA zXA kXB zXB
  replace XA := XA.below hb
  replace XB := XB.below hb
  replace WW := WW.trans (hb.mono WW.size)
  have kXA := XA.cell
  have zXA := XA.lt
  have kXB := XB.cell
  have zXB := XB.lt
  clear hb hbs
  go_wp2_with fail
  have hbs : w.heap.size ≤ V2.heap.size := WW.size
  have hc := ngcd_any A B' _ _ c d a b V2 XA.num XB.num (by omega) (by omega)
  rw [HV.out] at hc
  refine hc.mono ?_
  clear hc
  rintro e V3 ⟨v, rfl, hv, hb⟩
  clear kXA zXA kXB zXB
  replace XA := XA.below hb
  replace XB := XB.below hb
  replace WW := WW.trans (hb.mono WW.size)
  obtain ⟨D1, d1, rfl, ho⟩ := hv
  have O1 := ho.weak (b := w.heap.size) hbs
  clear ho
  have kXA := XA.cell
  have zXA := XA.lt
  have kXB := XB.cell
  have zXB := XB.lt
  clear hb hbs
  go_wp2_with fail
  obtain ⟨b0, bw⟩ := boxes1 V3 (.slice D1 (nw x) d1)
  have hbs := WW.size
  clear kXA zXA kXB zXB
  have qXB4 := XB.lt
  have X1 := VB.mk (B := w.heap.size) (a := x) b0 (.inr O1) bw hbs (by omega)
  replace XA := XA.below bw
  replace XB := XB.below bw
  replace O1 := O1.below bw (Nat.le_refl _)
  replace WW := WW.trans (bw.mono WW.size)
  clear bw hbs b0
  generalize hV : (V3.alloc (.cells #[.slice D1 (nw x) d1] 24)) = V4 at XA XB X1 O1 WW ⊢
  clear hV
  have kXA := XA.cell
  have zXA := XA.lt
  have kXB := XB.cell
  have zXB := XB.lt
  have kX1 := X1.cell
  have zX1 := X1.lt
  have hbs : w.heap.size ≤ V4.heap.size := WW.size
  have hc := inverse_any A B' _ _ c d a b V4 XA.num XB.num (by omega) (by omega)
  rw [HI.out] at hc
  refine hc.mono ?_
  clear hc
  rintro e V5 ⟨v, rfl, hv, hb⟩
  clear kXA zXA kXB zXB kX1 zX1
  replace XA := XA.below hb
  replace XB := XB.below hb
  replace X1 := X1.below hb
  replace O1 := O1.below hb (Nat.le_refl _)
  replace WW := WW.trans (hb.mono WW.size)
  obtain ⟨D2, d2, rfl, ho⟩ := hv
  have O2 := ho.weak (b := w.heap.size) hbs
  clear ho
  have kXA := XA.cell
  have zXA := XA.lt
  have kXB := XB.cell
  have zXB := XB.lt
  have kX1 := X1.cell
  have zX1 := X1.lt
  clear hb hbs
  go_wp2_with fail
  obtain ⟨b0, bw⟩ := boxes1 V5 (.slice D2 (nw 0) d2)
  have hbs := WW.size
  clear kXA zXA kXB zXB kX1 zX1
  have qX16 := X1.lt
  have qXB6 := XB.lt
  have X2 := VB.mk (B := w.heap.size) (a := 0) b0 (.inr O2) bw hbs (by omega)
  replace XA := XA.below bw
  replace XB := XB.below bw
  replace X1 := X1.below bw
  replace O1 := O1.below bw (Nat.le_refl _)
  replace O2 := O2.below bw (Nat.le_refl _)
  replace WW := WW.trans (bw.mono WW.size)
  clear bw hbs b0
  generalize hV : (V5.alloc (.cells #[.slice D2 (nw 0) d2] 24)) = V6 at XA XB X1 X2 O1 O2 WW ⊢
  clear hV
  have kXA := XA.cell
  have zXA := XA.lt
  have kXB := XB.cell
  have zXB := XB.lt
  have kX1 := X1.cell
  have zX1 := X1.lt
  have kX2 := X2.cell
  have zX2 := X2.lt
  have hbs : w.heap.size ≤ V6.heap.size := WW.size
  have hc := rvalid_any A _ c a _ V6 XA.num (Nat.le_refl _) (by omega)
  rw [G1.out] at hc
  refine hc.mono ?_
  clear hc
  rintro e V7 ⟨rfl, hb⟩
  clear kXA zXA kXB zXB kX1 zX1 kX2 zX2
  replace XA := XA.below hb
  replace XB := XB.below hb
  replace X1 := X1.below hb
  replace X2 := X2.below hb
  replace O1 := O1.below hb (Nat.le_refl _)
  replace O2 := O2.below hb (Nat.le_refl _)
  replace WW := WW.trans (hb.mono WW.size)
  have kXA := XA.cell
  have zXA := XA.lt
  have kXB := XB.cell
  have zXB := XB.lt
  have kX1 := X1.cell
  have zX1 := X1.lt
  have kX2 := X2.cell
  have zX2 := X2.lt
  clear hb hbs
  go_wp2_with fail
  have hbs : w.heap.size ≤ V7.heap.size := WW.size
  have hc := rvalid_any B' _ d b _ V7 XB.num (Nat.le_refl _) (by omega)
  rw [G2.out] at hc
  refine hc.mono ?_
  clear hc
  rintro e V8 ⟨rfl, hb⟩
  clear kXA zXA kXB zXB kX1 zX1 kX2 zX2
  replace XA := XA.below hb
  replace XB := XB.below hb
  replace X1 := X1.below hb
  replace X2 := X2.below hb
  replace O1 := O1.below hb (Nat.le_refl _)
  replace O2 := O2.below hb (Nat.le_refl _)
  replace WW := WW.trans (hb.mono WW.size)
  have kXA := XA.cell
  have zXA := XA.lt
  have kXB := XB.cell
  have zXB := XB.lt
  have kX1 := X1.cell
  have zX1 := X1.lt
  have kX2 := X2.cell
  have zX2 := X2.lt
  clear hb hbs
  go_wp2_with fail
  have WWd := WW.drew
  have XAd := XA.drew
  have XBd := XB.drew
  have X1d := X1.drew
  have X2d := X2.drew
  have O1d := O1.drew
  have O2d := O2.drew
  have hst : (fun w' => w'.cell? ⟨w.heap.size, 0, none⟩ = some (.slice A (nw a) c) ∧ w'.cell? ⟨w.heap.size + 1, 0, none⟩ = some (.slice B' (nw b) d) ∧ w'.cell? ⟨V3.heap.size, 0, none⟩ = some (.slice D1 (nw x) d1)) V8.drew := ⟨XA.cell, XB.cell, X1.cell⟩
  clear WW kXA zXA kXB zXB kX1 zX1 kX2 zX2 XA XB X1 X2 O1 O2
  have qq0 := X2d.lt
  refine region_L 17 (fun w' => w'.cell? ⟨w.heap.size, 0, none⟩ = some (.slice A (nw a) c) ∧ w'.cell? ⟨w.heap.size + 1, 0, none⟩ = some (.slice B' (nw b) d) ∧ w'.cell? ⟨V3.heap.size, 0, none⟩ = some (.slice D1 (nw x) d1)) (by kernel_rfl) hst (fun hHeld => ?_)
  clear hst
  refine AnyL_name (fun W' => Below w.heap.size w W' ∧ VB w.heap.size W' (w.heap.size) A (nw a) c a ∧ VB w.heap.size W' (w.heap.size + 1) B' (nw b) d b ∧ VB w.heap.size W' (V3.heap.size) D1 (nw x) d1 x ∧ VB w.heap.size W' (V5.heap.size) D2 (nw 0) d2 0 ∧ Own W' w.heap.size D1 (nw x) d1 x ∧ Own W' w.heap.size D2 (nw 0) d2 0 ∧ V8.drew.heap.size ≤ W'.heap.size ∧ (fun w' => w'.cell? ⟨w.heap.size, 0, none⟩ = some (.slice A (nw a) c) ∧ w'.cell? ⟨w.heap.size + 1, 0, none⟩ = some (.slice B' (nw b) d) ∧ w'.cell? ⟨V3.heap.size, 0, none⟩ = some (.slice D1 (nw x) d1)) W') ⟨WWd, XAd, XBd, X1d, X2d, O1d, O2d, Nat.le_refl _, hHeld⟩ ?_
  clear hHeld WWd XAd XBd X1d X2d O1d O2d
  rintro U8x0 ⟨WW, XA, XB, X1, X2, O1, O2, sz0, hHeld⟩
  refine AnyL_take (i := 0) (oi := oq5_7_0) (v := ?_) rfl (by kernel_rfl) (by kernel_rfl) (by kernel_rfl) (by kernel_rfl) (fun _ _ _ h => h) (Or.inl ⟨by rfl, ?_⟩) (by assumption) ?_
  rotate_left
  · (delta oq5_7_0; intro ws hSw; (try dsimp only at hSw); (try go_simp); (try with_reducible rfl))
  (try simp only [oq5_7_0, Act.put, List.setIfInBounds_toArray, List.set_cons_zero, List.set_cons_succ])
  refine AnyL_take (i := 1) (oi := oq5_7_1) (v := ?_) rfl (by kernel_rfl) (by kernel_rfl) (by kernel_rfl) (by kernel_rfl) (fun _ _ _ h => h) (Or.inl ⟨by rfl, ?_⟩) (by assumption) ?_
  rotate_left
  · (delta oq5_7_1; intro ws hSw; (try dsimp only at hSw); (try go_simp); (try with_reducible rfl))
  (try simp only [oq5_7_1, Act.put, List.setIfInBounds_toArray, List.set_cons_zero, List.set_cons_succ])
  refine AnyL_take (i := 2) (oi := oq5_7_2) (v := ?_) rfl (by kernel_rfl) (by kernel_rfl) (by kernel_rfl) (by kernel_rfl) (fun _ _ _ h => h) (Or.inl ⟨by rfl, ?_⟩) (by assumption) ?_
  rotate_left
  · (delta oq5_7_2; intro ws hSw; (try dsimp only at hSw); (try go_simp); (try with_reducible rfl))
  (try simp only [oq5_7_2, Act.put, List.setIfInBounds_toArray, List.set_cons_zero, List.set_cons_succ])
  refine AnyL_ready (rs := [3]) (by kernel_rfl) (by simp) ?_
  refine ReadyL.cons (o := oq5_7_3) rfl (fun K hK => ?_) ReadyL.nil
  delta oq5_7_3
  go_simp
  have hbs : w.heap.size ≤ U8x0.heap.size := WW.size
  have hc := rgcd_any A B' c d a b U8x0 XA.num XB.num (by omega) (by omega)
  rw [← HX.out] at hc
  refine hc.mono ?_
  clear hc
  rintro e V10 ⟨D5, d5, rfl, hv, hb⟩
  replace XA := XA.below hb
  replace XB := XB.below hb
  replace X1 := X1.below hb
  replace X2 := X2.below hb
  replace O1 := O1.below hb (Nat.le_refl _)
  replace O2 := O2.below hb (Nat.le_refl _)
  replace WW := WW.trans (hb.mono WW.size)
  have sz10 := hb.size
  have N5 := hv.num hb.size
  clear hv
  clear hb hbs
  refine hK.out _ _ (⟨XA.cell, XB.cell, X1.cell⟩) (fun hHeld2 => ?_)
  clear hK K hHeld
  have hHeld := hHeld2
  clear hHeld2
  (try simp only [oq5_7_3, Act.put, List.setIfInBounds_toArray, List.set_cons_zero, List.set_cons_succ])
  refine AnyL_ready (rs := [4]) (by kernel_rfl) (by simp) ?_
  refine ReadyL.cons (o := oq5_7_4) rfl (fun K hK => ?_) ReadyL.nil
  delta oq5_7_4
  go_simp
  have hbs : w.heap.size ≤ V10.heap.size := WW.size
  have hc := same3_any D1 D5 _ _ d1 d5 x x V10 X1.num N5 (by omega) (by omega)
  rw [sameB_yes] at hc
  refine hc.mono ?_
  clear hc
  rintro e V11 ⟨rfl, hb⟩
  replace XA := XA.below hb
  replace XB := XB.below hb
  replace X1 := X1.below hb
  replace X2 := X2.below hb
  replace O1 := O1.below hb (Nat.le_refl _)
  replace O2 := O2.below hb (Nat.le_refl _)
  replace WW := WW.trans (hb.mono WW.size)
  have sz11 := hb.size
  clear hb hbs
  refine hK.out _ _ (⟨XA.cell, XB.cell, X1.cell⟩) (fun hHeld2 => ?_)
  clear hK K hHeld
  have hHeld := hHeld2
  clear hHeld2
  (try simp only [oq5_7_4, Act.put, List.setIfInBounds_toArray, List.set_cons_zero, List.set_cons_succ])
  refine AnyL_take (i := 5) (oi := oq5_7_5) (v := ?_) rfl (by kernel_rfl) (by kernel_rfl) (by kernel_rfl) (by kernel_rfl) (fun _ _ _ h => h) (Or.inl ⟨by rfl, ?_⟩) (by assumption) ?_
  rotate_left
  · (delta oq5_7_5; intro ws hSw; (try dsimp only at hSw); (try go_simp); (try with_reducible rfl))
  (try simp only [oq5_7_5, Act.put, List.setIfInBounds_toArray, List.set_cons_zero, List.set_cons_succ])
  refine AnyL_take (i := 6) (oi := oq5_7_6) (v := ?_) rfl (by kernel_rfl) (by kernel_rfl) (by kernel_rfl) (by kernel_rfl) (fun _ _ _ h => h) (Or.inl ⟨by rfl, ?_⟩) (by assumption) ?_
  rotate_left
  · (delta oq5_7_6; intro ws hSw; (try dsimp only at hSw); (try go_simp); (try with_reducible rfl))
  (try simp only [oq5_7_6, Act.put, List.setIfInBounds_toArray, List.set_cons_zero, List.set_cons_succ])
  refine AnyL_take (i := 7) (oi := oq5_7_7) (v := ?_) rfl (by kernel_rfl) (by kernel_rfl) (by kernel_rfl) (by kernel_rfl) (fun _ _ _ h => h) (Or.inl ⟨by rfl, ?_⟩) (by assumption) ?_
  rotate_left
  · (delta oq5_7_7; intro ws hSw; (try dsimp only at hSw); (try go_simp); (try with_reducible rfl))
  (try simp only [oq5_7_7, Act.put, List.setIfInBounds_toArray, List.set_cons_zero, List.set_cons_succ])
  refine AnyL_take (i := 8) (oi := oq5_7_8) (v := ?_) rfl (by kernel_rfl) (by kernel_rfl) (by kernel_rfl) (by kernel_rfl) (fun _ _ _ h => h) (Or.inl ⟨by rfl, ?_⟩) (by assumption) ?_
  rotate_left
  · (delta oq5_7_8; intro ws hSw; (try dsimp only at hSw); (try go_simp); (try with_reducible rfl))
  (try simp only [oq5_7_8, Act.put, List.setIfInBounds_toArray, List.set_cons_zero, List.set_cons_succ])
  refine AnyL_take (i := 9) (oi := oq5_7_9) (v := ?_) rfl (by kernel_rfl) (by kernel_rfl) (by kernel_rfl) (by kernel_rfl) (fun _ _ _ h => h) (Or.inl ⟨by rfl, ?_⟩) (by assumption) ?_
  rotate_left
  · (delta oq5_7_9; intro ws hSw; (try dsimp only at hSw); (try go_simp); (try with_reducible rfl))
  (try simp only [oq5_7_9, Act.put, List.setIfInBounds_toArray, List.set_cons_zero, List.set_cons_succ])
  refine AnyL_done (by kernel_rfl) ?_ _
  clear hHeld
  have kXA := XA.cell
  have zXA := XA.lt
  have kXB := XB.cell
  have zXB := XB.lt
  have kX1 := X1.cell
  have zX1 := X1.lt
  have kX2 := X2.cell
  have zX2 := X2.lt
  go_wp2_with fail
  have hbs : w.heap.size ≤ V11.heap.size := WW.size
  have hc := first_a1 V11 A _ c a _ b d B' XA.num XB.num (by omega) (by omega)
  rw [HC.out] at hc
  refine hc.mono ?_
  clear hc
  rintro e V12 ⟨rfl, hb⟩
  clear kXA zXA kXB zXB kX1 zX1 kX2 zX2
  replace XA := XA.below hb
  replace XB := XB.below hb
  replace X1 := X1.below hb
  replace X2 := X2.below hb
  replace O1 := O1.below hb (Nat.le_refl _)
  replace O2 := O2.below hb (Nat.le_refl _)
  replace WW := WW.trans (hb.mono WW.size)
  have kXA := XA.cell
  have zXA := XA.lt
  have kXB := XB.cell
  have zXB := XB.lt
  have kX1 := X1.cell
  have zX1 := X1.lt
  have kX2 := X2.cell
  have zX2 := X2.lt
  clear hb hbs
  go_wp2_with fail
  have hbs : w.heap.size ≤ V12.heap.size := WW.size
  have hc := rinverse_any A B' c d a b V12 XA.num XB.num (by omega) HAM.out
  refine hc.mono ?_
  clear hc
  rintro e V13 ⟨D6, d6, x6, rfl, ho, hb, hx1, hx2⟩
  clear kXA zXA kXB zXB kX1 zX1 kX2 zX2
  replace XA := XA.below hb
  replace XB := XB.below hb
  replace X1 := X1.below hb
  replace X2 := X2.below hb
  replace O1 := O1.below hb (Nat.le_refl _)
  replace O2 := O2.below hb (Nat.le_refl _)
  replace WW := WW.trans (hb.mono WW.size)
  have O6 := ho.weak (b := w.heap.size) hbs
  clear ho
  rw [GT.out]
  clear hx1 hx2
  have kXA := XA.cell
  have zXA := XA.lt
  have kXB := XB.cell
  have zXB := XB.lt
  have kX1 := X1.cell
  have zX1 := X1.lt
  have kX2 := X2.cell
  have zX2 := X2.lt
  clear hb hbs
  go_wp2_with fail
  obtain ⟨b0, bw⟩ := boxes1 V13 (.slice D6 (nw x6) d6)
  have hbs := WW.size
  clear kXA zXA kXB zXB kX1 zX1 kX2 zX2
  have qX114 := X1.lt
  have qX214 := X2.lt
  have qXB14 := XB.lt
  have X3 := VB.mk (B := w.heap.size) (a := x6) b0 (.inr O6) bw hbs (by omega)
  replace XA := XA.below bw
  replace XB := XB.below bw
  replace X1 := X1.below bw
  replace X2 := X2.below bw
  replace O1 := O1.below bw (Nat.le_refl _)
  replace O2 := O2.below bw (Nat.le_refl _)
  replace O6 := O6.below bw (Nat.le_refl _)
  replace WW := WW.trans (bw.mono WW.size)
  clear bw hbs b0
  generalize hV : (V13.alloc (.cells #[.slice D6 (nw x6) d6] 24)) = V14 at XA XB X1 X2 X3 O1 O2 O6 WW ⊢
  clear hV
  have kXA := XA.cell
  have zXA := XA.lt
  have kXB := XB.cell
  have zXB := XB.lt
  have kX1 := X1.cell
  have zX1 := X1.lt
  have kX2 := X2.cell
  have zX2 := X2.lt
  have kX3 := X3.cell
  have zX3 := X3.lt
  go_ret
  exact ⟨rfl, WW⟩

set_option maxHeartbeats 16000000 in
set_option maxRecDepth 100000 in
theorem gcdl_ok (A B' : Option Addr) (n k c d a b : Nat) (w : World) (hA : Num w w.heap.size A n a) (hB : Num w w.heap.size B' k b) (hn : n ≤ 9223372036854775807) (hk : k ≤ 9223372036854775807) (hg : n ≤ 6 ∧ k ≤ 6) (h1 : okB n a = true) (h2 : okB k b = true) (h0 : chkS n a 0 0 k b = 0) (h3 : Nat.gcd a b = 1) :
    Calls Try.prog 5 #[.agg #[.slice A n c], .agg #[.slice B' k d]] w (RetB (.bool true) w) := by
  have HG : Hid (decide (n ≤ 6 ∧ k ≤ 6) = true) := decide_eq_true hg
  have z0 : (((nw 0 : Nat) : Int) == 0) = true := rfl
  have z00 : (((nw 0 : Nat) : Int) != 0) = false := rfl
  have hg1 := hg.1
  have hg2 := hg.2
  have G1 := hid h1
  have G2 := hid h2
  obtain ⟨e1, na⟩ := okB_yes.1 h1
  obtain ⟨e2, nb⟩ := okB_yes.1 h2
  subst e1 e2
  obtain ⟨x, hx⟩ : ∃ z, z = Nat.gcd a b := ⟨_, rfl⟩
  have HX := hid hx
  have HV : Hid (gcdV (nw a) a (nw b) b = (x, 0)) := (show gcdV (nw a) a (nw b) b = (x, 0) by unfold gcdV; rw [h1, h2, hx]; rfl)
  have nx : nw x ≤ 6 := by
    rw [hx]
    rcases Nat.eq_zero_or_pos a with h | h
    · rw [h, Nat.gcd_zero_left]; exact hg2
    · exact Nat.le_trans (nw_mono (Nat.le_of_dvd h (Nat.gcd_dvd_left a b))) hg1
  have HC := hid h0
  obtain ⟨-, -, -, hm1, hm0, ha, -⟩ := chk0 h0
  have HAM := hid ha
  obtain ⟨y, hy⟩ : ∃ z, z = invN a b := ⟨_, rfl⟩
  have HY := hid hy
  have GT : Hid (decide (Nat.gcd a b = 1) = true) := decide_eq_true h3
  have HG1 := hid h3
  have HI : Hid (invS (chkS (nw a) a 0 0 (nw b) b) a b = (y, 0)) := (show _ = (y, 0) by unfold invS; rw [if_pos h0, if_pos h3, hy])
  have ny : nw y ≤ 32 := Nat.le_trans (nw_mono (Nat.le_of_lt (by rw [hy]; exact invN_lt hm0))) hm1
  clear hy
  clear h0 h1 h2 h3 hx ha hm0
  clear hg
  obtain ⟨b0, b1, bw⟩ := boxes2 w (.slice A (nw a) c) (.slice B' (nw b) d)
  have XA := VB.mk (B := w.heap.size) (a := a) b0 (.inl hA) bw (Nat.le_refl _) (by omega)
  have XB := VB.mk (B := w.heap.size) (a := b) b1 (.inl hB) bw (Nat.le_refl _) (by omega)
  have WW := bw
  clear bw b0 b1
  go_enter Try.func5, Try.ntmps5
  go_wp2_with fail
  generalize hV : ((w.alloc (.cells #[.slice A (nw a) c] 24)).alloc (.cells #[.slice B' (nw b) d] 24)) = V0 at XA XB WW ⊢
  clear hV
  have hbs : w.heap.size ≤ V0.heap.size := WW.size
  have hc := awake_any V0
  refine hc.mono ?_
  clear hc
  rintro e V1 ⟨rfl, hb⟩
  replace XA := XA.below hb
  replace XB := XB.below hb
  replace WW := WW.trans (hb.mono WW.size)
  have kXA := XA.cell
  have zXA := XA.lt
  have kXB := XB.cell
  have zXB := XB.lt
  clear hb hbs
  go_wp2_with fail
  have hbs : w.heap.size ≤ V1.heap.size := WW.size
  have hc := few_n2 6 (by omega) V1 A B' (nw a) (nw b) c d (by omega) (by omega)
  rw [HG.out] at hc
  refine hc.mono ?_
  clear hc
  rintro e V2 ⟨rfl, hb⟩
  clear kXA zXA kXB zXB
  replace XA := XA.below hb
  replace XB := XB.below hb
  replace WW := WW.trans (hb.mono WW.size)
  have kXA := XA.cell
  have zXA := XA.lt
  have kXB := XB.cell
  have zXB := XB.lt
  clear hb hbs
  go_wp2_with fail
  have hbs : w.heap.size ≤ V2.heap.size := WW.size
  have hc := ngcd_any A B' _ _ c d a b V2 XA.num XB.num (by omega) (by omega)
  rw [HV.out] at hc
  refine hc.mono ?_
  clear hc
  rintro e V3 ⟨v, rfl, hv, hb⟩
  clear kXA zXA kXB zXB
  replace XA := XA.below hb
  replace XB := XB.below hb
  replace WW := WW.trans (hb.mono WW.size)
  obtain ⟨D1, d1, rfl, ho⟩ := hv
  have O1 := ho.weak (b := w.heap.size) hbs
  clear ho
  have kXA := XA.cell
  have zXA := XA.lt
  have kXB := XB.cell
  have zXB := XB.lt
  clear hb hbs
  go_wp2_with fail
  obtain ⟨b0, bw⟩ := boxes1 V3 (.slice D1 (nw x) d1)
  have hbs := WW.size
  clear kXA zXA kXB zXB
  have qXB4 := XB.lt
  have X1 := VB.mk (B := w.heap.size) (a := x) b0 (.inr O1) bw hbs (by omega)
  replace XA := XA.below bw
  replace XB := XB.below bw
  replace O1 := O1.below bw (Nat.le_refl _)
  replace WW := WW.trans (bw.mono WW.size)
  clear bw hbs b0
  generalize hV : (V3.alloc (.cells #[.slice D1 (nw x) d1] 24)) = V4 at XA XB X1 O1 WW ⊢
  clear hV
  have kXA := XA.cell
  have zXA := XA.lt
  have kXB := XB.cell
  have zXB := XB.lt
  have kX1 := X1.cell
  have zX1 := X1.lt
  have hbs : w.heap.size ≤ V4.heap.size := WW.size
  have hc := inverse_any A B' _ _ c d a b V4 XA.num XB.num (by omega) (by omega)
  rw [HI.out] at hc
  refine hc.mono ?_
  clear hc
  rintro e V5 ⟨v, rfl, hv, hb⟩
  clear kXA zXA kXB zXB kX1 zX1
  replace XA := XA.below hb
  replace XB := XB.below hb
  replace X1 := X1.below hb
  replace O1 := O1.below hb (Nat.le_refl _)
  replace WW := WW.trans (hb.mono WW.size)
  obtain ⟨D2, d2, rfl, ho⟩ := hv
  have O2 := ho.weak (b := w.heap.size) hbs
  clear ho
  have kXA := XA.cell
  have zXA := XA.lt
  have kXB := XB.cell
  have zXB := XB.lt
  have kX1 := X1.cell
  have zX1 := X1.lt
  clear hb hbs
  go_wp2_with fail
  obtain ⟨b0, bw⟩ := boxes1 V5 (.slice D2 (nw y) d2)
  have hbs := WW.size
  clear kXA zXA kXB zXB kX1 zX1
  have qX16 := X1.lt
  have qXB6 := XB.lt
  have X2 := VB.mk (B := w.heap.size) (a := y) b0 (.inr O2) bw hbs (by omega)
  replace XA := XA.below bw
  replace XB := XB.below bw
  replace X1 := X1.below bw
  replace O1 := O1.below bw (Nat.le_refl _)
  replace O2 := O2.below bw (Nat.le_refl _)
  replace WW := WW.trans (bw.mono WW.size)
  clear bw hbs b0
  generalize hV : (V5.alloc (.cells #[.slice D2 (nw y) d2] 24)) = V6 at XA XB X1 X2 O1 O2 WW ⊢
  clear hV
  have kXA := XA.cell
  have zXA := XA.lt
  have kXB := XB.cell
  have zXB := XB.lt
  have kX1 := X1.cell
  have zX1 := X1.lt
  have kX2 := X2.cell
  have zX2 := X2.lt
  have hbs : w.heap.size ≤ V6.heap.size := WW.size
  have hc := rvalid_any A _ c a _ V6 XA.num (Nat.le_refl _) (by omega)
  rw [G1.out] at hc
  refine hc.mono ?_
  clear hc
  rintro e V7 ⟨rfl, hb⟩
  clear kXA zXA kXB zXB kX1 zX1 kX2 zX2
  replace XA := XA.below hb
  replace XB := XB.below hb
  replace X1 := X1.below hb
  replace X2 := X2.below hb
  replace O1 := O1.below hb (Nat.le_refl _)
  replace O2 := O2.below hb (Nat.le_refl _)
  replace WW := WW.trans (hb.mono WW.size)
  have kXA := XA.cell
  have zXA := XA.lt
  have kXB := XB.cell
  have zXB := XB.lt
  have kX1 := X1.cell
  have zX1 := X1.lt
  have kX2 := X2.cell
  have zX2 := X2.lt
  clear hb hbs
  go_wp2_with fail
  have hbs : w.heap.size ≤ V7.heap.size := WW.size
  have hc := rvalid_any B' _ d b _ V7 XB.num (Nat.le_refl _) (by omega)
  rw [G2.out] at hc
  refine hc.mono ?_
  clear hc
  rintro e V8 ⟨rfl, hb⟩
  clear kXA zXA kXB zXB kX1 zX1 kX2 zX2
  replace XA := XA.below hb
  replace XB := XB.below hb
  replace X1 := X1.below hb
  replace X2 := X2.below hb
  replace O1 := O1.below hb (Nat.le_refl _)
  replace O2 := O2.below hb (Nat.le_refl _)
  replace WW := WW.trans (hb.mono WW.size)
  have kXA := XA.cell
  have zXA := XA.lt
  have kXB := XB.cell
  have zXB := XB.lt
  have kX1 := X1.cell
  have zX1 := X1.lt
  have kX2 := X2.cell
  have zX2 := X2.lt
  clear hb hbs
  go_wp2_with fail
  have WWd := WW.drew
  have XAd := XA.drew
  have XBd := XB.drew
  have X1d := X1.drew
  have X2d := X2.drew
  have O1d := O1.drew
  have O2d := O2.drew
  have hst : (fun w' => w'.cell? ⟨w.heap.size, 0, none⟩ = some (.slice A (nw a) c) ∧ w'.cell? ⟨w.heap.size + 1, 0, none⟩ = some (.slice B' (nw b) d) ∧ w'.cell? ⟨V3.heap.size, 0, none⟩ = some (.slice D1 (nw x) d1)) V8.drew := ⟨XA.cell, XB.cell, X1.cell⟩
  clear WW kXA zXA kXB zXB kX1 zX1 kX2 zX2 XA XB X1 X2 O1 O2
  have qq0 := X2d.lt
  refine region_L 17 (fun w' => w'.cell? ⟨w.heap.size, 0, none⟩ = some (.slice A (nw a) c) ∧ w'.cell? ⟨w.heap.size + 1, 0, none⟩ = some (.slice B' (nw b) d) ∧ w'.cell? ⟨V3.heap.size, 0, none⟩ = some (.slice D1 (nw x) d1)) (by kernel_rfl) hst (fun hHeld => ?_)
  clear hst
  refine AnyL_name (fun W' => Below w.heap.size w W' ∧ VB w.heap.size W' (w.heap.size) A (nw a) c a ∧ VB w.heap.size W' (w.heap.size + 1) B' (nw b) d b ∧ VB w.heap.size W' (V3.heap.size) D1 (nw x) d1 x ∧ VB w.heap.size W' (V5.heap.size) D2 (nw y) d2 y ∧ Own W' w.heap.size D1 (nw x) d1 x ∧ Own W' w.heap.size D2 (nw y) d2 y ∧ V8.drew.heap.size ≤ W'.heap.size ∧ (fun w' => w'.cell? ⟨w.heap.size, 0, none⟩ = some (.slice A (nw a) c) ∧ w'.cell? ⟨w.heap.size + 1, 0, none⟩ = some (.slice B' (nw b) d) ∧ w'.cell? ⟨V3.heap.size, 0, none⟩ = some (.slice D1 (nw x) d1)) W') ⟨WWd, XAd, XBd, X1d, X2d, O1d, O2d, Nat.le_refl _, hHeld⟩ ?_
  clear hHeld WWd XAd XBd X1d X2d O1d O2d
  rintro U8x0 ⟨WW, XA, XB, X1, X2, O1, O2, sz0, hHeld⟩
  refine AnyL_take (i := 0) (oi := oq5_7_0) (v := ?_) rfl (by kernel_rfl) (by kernel_rfl) (by kernel_rfl) (by kernel_rfl) (fun _ _ _ h => h) (Or.inl ⟨by rfl, ?_⟩) (by assumption) ?_
  rotate_left
  · (delta oq5_7_0; intro ws hSw; (try dsimp only at hSw); (try go_simp); (try with_reducible rfl))
  (try simp only [oq5_7_0, Act.put, List.setIfInBounds_toArray, List.set_cons_zero, List.set_cons_succ])
  refine AnyL_take (i := 1) (oi := oq5_7_1) (v := ?_) rfl (by kernel_rfl) (by kernel_rfl) (by kernel_rfl) (by kernel_rfl) (fun _ _ _ h => h) (Or.inl ⟨by rfl, ?_⟩) (by assumption) ?_
  rotate_left
  · (delta oq5_7_1; intro ws hSw; (try dsimp only at hSw); (try go_simp); (try with_reducible rfl))
  (try simp only [oq5_7_1, Act.put, List.setIfInBounds_toArray, List.set_cons_zero, List.set_cons_succ])
  refine AnyL_take (i := 2) (oi := oq5_7_2) (v := ?_) rfl (by kernel_rfl) (by kernel_rfl) (by kernel_rfl) (by kernel_rfl) (fun _ _ _ h => h) (Or.inl ⟨by rfl, ?_⟩) (by assumption) ?_
  rotate_left
  · (delta oq5_7_2; intro ws hSw; (try dsimp only at hSw); (try go_simp); (try with_reducible rfl))
  (try simp only [oq5_7_2, Act.put, List.setIfInBounds_toArray, List.set_cons_zero, List.set_cons_succ])
  refine AnyL_ready (rs := [3]) (by kernel_rfl) (by simp) ?_
  refine ReadyL.cons (o := oq5_7_3) rfl (fun K hK => ?_) ReadyL.nil
  delta oq5_7_3
  go_simp
  have hbs : w.heap.size ≤ U8x0.heap.size := WW.size
  have hc := rgcd_any A B' c d a b U8x0 XA.num XB.num (by omega) (by omega)
  rw [← HX.out] at hc
  refine hc.mono ?_
  clear hc
  rintro e V10 ⟨D5, d5, rfl, hv, hb⟩
  replace XA := XA.below hb
  replace XB := XB.below hb
  replace X1 := X1.below hb
  replace X2 := X2.below hb
  replace O1 := O1.below hb (Nat.le_refl _)
  replace O2 := O2.below hb (Nat.le_refl _)
  replace WW := WW.trans (hb.mono WW.size)
  have sz10 := hb.size
  have N5 := hv.num hb.size
  clear hv
  clear hb hbs
  refine hK.out _ _ (⟨XA.cell, XB.cell, X1.cell⟩) (fun hHeld2 => ?_)
  clear hK K hHeld
  have hHeld := hHeld2
  clear hHeld2
  (try simp only [oq5_7_3, Act.put, List.setIfInBounds_toArray, List.set_cons_zero, List.set_cons_succ])
  refine AnyL_ready (rs := [4]) (by kernel_rfl) (by simp) ?_
  refine ReadyL.cons (o := oq5_7_4) rfl (fun K hK => ?_) ReadyL.nil
  delta oq5_7_4
  go_simp
  have hbs : w.heap.size ≤ V10.heap.size := WW.size
  have hc := same3_any D1 D5 _ _ d1 d5 x x V10 X1.num N5 (by omega) (by omega)
  rw [sameB_yes] at hc
  refine hc.mono ?_
  clear hc
  rintro e V11 ⟨rfl, hb⟩
  replace XA := XA.below hb
  replace XB := XB.below hb
  replace X1 := X1.below hb
  replace X2 := X2.below hb
  replace O1 := O1.below hb (Nat.le_refl _)
  replace O2 := O2.below hb (Nat.le_refl _)
  replace WW := WW.trans (hb.mono WW.size)
  have sz11 := hb.size
  clear hb hbs
  refine hK.out _ _ (⟨XA.cell, XB.cell, X1.cell⟩) (fun hHeld2 => ?_)
  clear hK K hHeld
  have hHeld := hHeld2
  clear hHeld2
  (try simp only [oq5_7_4, Act.put, List.setIfInBounds_toArray, List.set_cons_zero, List.set_cons_succ])
  refine AnyL_take (i := 5) (oi := oq5_7_5) (v := ?_) rfl (by kernel_rfl) (by kernel_rfl) (by kernel_rfl) (by kernel_rfl) (fun _ _ _ h => h) (Or.inl ⟨by rfl, ?_⟩) (by assumption) ?_
  rotate_left
  · (delta oq5_7_5; intro ws hSw; (try dsimp only at hSw); (try go_simp); (try with_reducible rfl))
  (try simp only [oq5_7_5, Act.put, List.setIfInBounds_toArray, List.set_cons_zero, List.set_cons_succ])
  refine AnyL_take (i := 6) (oi := oq5_7_6) (v := ?_) rfl (by kernel_rfl) (by kernel_rfl) (by kernel_rfl) (by kernel_rfl) (fun _ _ _ h => h) (Or.inl ⟨by rfl, ?_⟩) (by assumption) ?_
  rotate_left
  · (delta oq5_7_6; intro ws hSw; (try dsimp only at hSw); (try go_simp); (try with_reducible rfl))
  (try simp only [oq5_7_6, Act.put, List.setIfInBounds_toArray, List.set_cons_zero, List.set_cons_succ])
  refine AnyL_take (i := 7) (oi := oq5_7_7) (v := ?_) rfl (by kernel_rfl) (by kernel_rfl) (by kernel_rfl) (by kernel_rfl) (fun _ _ _ h => h) (Or.inl ⟨by rfl, ?_⟩) (by assumption) ?_
  rotate_left
  · (delta oq5_7_7; intro ws hSw; (try dsimp only at hSw); (try go_simp); (try with_reducible rfl))
  (try simp only [oq5_7_7, Act.put, List.setIfInBounds_toArray, List.set_cons_zero, List.set_cons_succ])
  refine AnyL_take (i := 8) (oi := oq5_7_8) (v := ?_) rfl (by kernel_rfl) (by kernel_rfl) (by kernel_rfl) (by kernel_rfl) (fun _ _ _ h => h) (Or.inl ⟨by rfl, ?_⟩) (by assumption) ?_
  rotate_left
  · (delta oq5_7_8; intro ws hSw; (try dsimp only at hSw); (try go_simp); (try with_reducible rfl))
  (try simp only [oq5_7_8, Act.put, List.setIfInBounds_toArray, List.set_cons_zero, List.set_cons_succ])
  refine AnyL_take (i := 9) (oi := oq5_7_9) (v := ?_) rfl (by kernel_rfl) (by kernel_rfl) (by kernel_rfl) (by kernel_rfl) (fun _ _ _ h => h) (Or.inl ⟨by rfl, ?_⟩) (by assumption) ?_
  rotate_left
  · (delta oq5_7_9; intro ws hSw; (try dsimp only at hSw); (try go_simp); (try with_reducible rfl))
  (try simp only [oq5_7_9, Act.put, List.setIfInBounds_toArray, List.set_cons_zero, List.set_cons_succ])
  refine AnyL_done (by kernel_rfl) ?_ _
  clear hHeld
  have kXA := XA.cell
  have zXA := XA.lt
  have kXB := XB.cell
  have zXB := XB.lt
  have kX1 := X1.cell
  have zX1 := X1.lt
  have kX2 := X2.cell
  have zX2 := X2.lt
  go_wp2_with fail
  have hbs : w.heap.size ≤ V11.heap.size := WW.size
  have hc := first_a1 V11 A _ c a _ b d B' XA.num XB.num (by omega) (by omega)
  rw [HC.out] at hc
  refine hc.mono ?_
  clear hc
  rintro e V12 ⟨rfl, hb⟩
  clear kXA zXA kXB zXB kX1 zX1 kX2 zX2
  replace XA := XA.below hb
  replace XB := XB.below hb
  replace X1 := X1.below hb
  replace X2 := X2.below hb
  replace O1 := O1.below hb (Nat.le_refl _)
  replace O2 := O2.below hb (Nat.le_refl _)
  replace WW := WW.trans (hb.mono WW.size)
  have kXA := XA.cell
  have zXA := XA.lt
  have kXB := XB.cell
  have zXB := XB.lt
  have kX1 := X1.cell
  have zX1 := X1.lt
  have kX2 := X2.cell
  have zX2 := X2.lt
  clear hb hbs
  go_wp2_with fail
  have hbs : w.heap.size ≤ V12.heap.size := WW.size
  have hc := rinverse_any A B' c d a b V12 XA.num XB.num (by omega) HAM.out
  refine hc.mono ?_
  clear hc
  rintro e V13 ⟨D6, d6, x6, rfl, ho, hb, hx1, hx2⟩
  clear kXA zXA kXB zXB kX1 zX1 kX2 zX2
  replace XA := XA.below hb
  replace XB := XB.below hb
  replace X1 := X1.below hb
  replace X2 := X2.below hb
  replace O1 := O1.below hb (Nat.le_refl _)
  replace O2 := O2.below hb (Nat.le_refl _)
  replace WW := WW.trans (hb.mono WW.size)
  have O6 := ho.weak (b := w.heap.size) hbs
  clear ho
  rw [GT.out]
  have hx6 : x6 = y := by rw [HY.out]; exact (invN_eq hx1 (by rw [HG1.out] at hx2; exact hx2)).symm
  rw [hx6] at O6 ⊢
  clear hx6
  clear hx1 hx2
  have kXA := XA.cell
  have zXA := XA.lt
  have kXB := XB.cell
  have zXB := XB.lt
  have kX1 := X1.cell
  have zX1 := X1.lt
  have kX2 := X2.cell
  have zX2 := X2.lt
  clear hb hbs
  go_wp2_with fail
  obtain ⟨b0, bw⟩ := boxes1 V13 (.slice D6 (nw y) d6)
  have hbs := WW.size
  clear kXA zXA kXB zXB kX1 zX1 kX2 zX2
  have qX114 := X1.lt
  have qX214 := X2.lt
  have qXB14 := XB.lt
  have X3 := VB.mk (B := w.heap.size) (a := y) b0 (.inr O6) bw hbs (by omega)
  replace XA := XA.below bw
  replace XB := XB.below bw
  replace X1 := X1.below bw
  replace X2 := X2.below bw
  replace O1 := O1.below bw (Nat.le_refl _)
  replace O2 := O2.below bw (Nat.le_refl _)
  replace O6 := O6.below bw (Nat.le_refl _)
  replace WW := WW.trans (bw.mono WW.size)
  clear bw hbs b0
  generalize hV : (V13.alloc (.cells #[.slice D6 (nw y) d6] 24)) = V14 at XA XB X1 X2 X3 O1 O2 O6 WW ⊢
  clear hV
  have kXA := XA.cell
  have zXA := XA.lt
  have kXB := XB.cell
  have zXB := XB.lt
  have kX1 := X1.cell
  have zX1 := X1.lt
  have kX2 := X2.cell
  have zX2 := X2.lt
  have kX3 := X3.cell
  have zX3 := X3.lt
  have hbs : w.heap.size ≤ V14.heap.size := WW.size
  have hc := same3_any D2 D6 _ _ d2 d6 y y V14 X2.num X3.num (by omega) (by omega)
  rw [sameB_yes] at hc
  refine hc.mono ?_
  clear hc
  rintro e V15 ⟨rfl, hb⟩
  clear kXA zXA kXB zXB kX1 zX1 kX2 zX2 kX3 zX3
  replace XA := XA.below hb
  replace XB := XB.below hb
  replace X1 := X1.below hb
  replace X2 := X2.below hb
  replace X3 := X3.below hb
  replace O1 := O1.below hb (Nat.le_refl _)
  replace O2 := O2.below hb (Nat.le_refl _)
  replace O6 := O6.below hb (Nat.le_refl _)
  replace WW := WW.trans (hb.mono WW.size)
  have kXA := XA.cell
  have zXA := XA.lt
  have kXB := XB.cell
  have zXB := XB.lt
  have kX1 := X1.cell
  have zX1 := X1.lt
  have kX2 := X2.cell
  have zX2 := X2.lt
  have kX3 := X3.cell
  have zX3 := X3.lt
  clear hb hbs
  go_wp2_with fail
  go_ret
  exact ⟨rfl, WW⟩

theorem natmodGcd_walk (A B' : Option Addr) (n k c d a b : Nat) (w : World) (hA : Num w w.heap.size A n a) (hB : Num w w.heap.size B' k b) (hn : n ≤ 9223372036854775807) (hk : k ≤ 9223372036854775807) :
    Calls Try.prog 5 #[.agg #[.slice A n c], .agg #[.slice B' k d]] w (RetB (.bool true) w) := by
  by_cases hg : n ≤ 6 ∧ k ≤ 6
  · cases h1 : okB n a
    · exact gcdl_a A B' n k c d a b w hA hB hn hk hg h1
    cases h2 : okB k b
    · exact gcdl_b A B' n k c d a b w hA hB hn hk hg h1 h2
    by_cases h0 : chkS n a 0 0 k b = 0
    · by_cases h3 : Nat.gcd a b = 1
      · exact gcdl_ok A B' n k c d a b w hA hB hn hk hg h1 h2 h0 h3
      · exact gcdl_z A B' n k c d a b w hA hB hn hk hg h1 h2 h0 h3
    · exact gcdl_e A B' n k c d a b w hA hB hn hk hg h1 h2 h0
  · exact gcdl_far A B' n k c d a b w hA hB hn hk hg

end Go.Proofs.Ytckajjapockonaa
