/- NatmodCrt: the walk. -/
import Derived.Test.YtckajjapockonaaLaw3b
import Derived.Test.YtckajjapockonaaRf14
import Derived.Test.YtckajjapockonaaAwake
set_option linter.unusedVariables false
set_option linter.unusedSimpArgs false
namespace Go.Proofs.Ytckajjapockonaa
open Go.RowKit

def oq6_15_0 : Oper := { dst := some 106, op := Op.load 24 (Operand.tmp 9), type := 24, pos := "law.go:122", after := #[], guard := none }
def oq6_15_1 : Oper := { dst := some 107, op := Op.load 24 (Operand.tmp 4), type := 24, pos := "law.go:122", after := #[], guard := none }
def oq6_15_2 : Oper := { dst := some 108, op := Op.load 24 (Operand.tmp 5), type := 24, pos := "law.go:122", after := #[], guard := none }
def oq6_15_3 : Oper := { dst := some 109, op := Op.load 24 (Operand.tmp 6), type := 24, pos := "law.go:122", after := #[], guard := none }
def oq6_15_4 : Oper := { dst := some 110, op := Op.load 24 (Operand.tmp 7), type := 24, pos := "law.go:122", after := #[], guard := none }
def oq6_15_5 : Oper := { dst := some 111, op := Op.call { callee := Callee.value (Operand.func 33), args := #[Operand.tmp 107, Operand.tmp 108, Operand.tmp 109, Operand.tmp 110], argTypes := #[24, 24, 24, 24] }, type := 24, pos := "law.go:122", after := #[{ on := 1, ground := Ground.data }, { on := 2, ground := Ground.data }, { on := 3, ground := Ground.data }, { on := 4, ground := Ground.data }], guard := none }
def oq6_15_6 : Oper := { dst := some 112, op := Op.call { callee := Callee.value (Operand.func 17), args := #[Operand.tmp 106, Operand.tmp 111], argTypes := #[24, 24] }, type := 4, pos := "law.go:122", after := #[{ on := 0, ground := Ground.data }, { on := 5, ground := Ground.data }, { on := 5, ground := Ground.chain }], guard := none }
def oq6_15_7 : Oper := { dst := some 113, op := Op.move (Operand.tmp 112), type := 4, pos := "law.go:122", after := #[{ on := 6, ground := Ground.data }, { on := 6, ground := Ground.chain }], guard := none }
def oq6_15_8 : Oper := { dst := some 114, op := Op.move (Operand.tmp 10), type := 27, pos := "law.go:122", after := #[{ on := 7, ground := Ground.guard }], guard := some (7, true) }
def oq6_15_9 : Oper := { dst := some 115, op := Op.binOp BinOp.eql 27 (Operand.tmp 114) (Operand.const (Value.int IntKind.i64 0)) 27, type := 4, pos := "law.go:122", after := #[{ on := 8, ground := Ground.data }, { on := 7, ground := Ground.guard }], guard := some (7, true) }
def oq6_15_10 : Oper := { dst := some 116, op := Op.pick (Operand.tmp 113) (Operand.tmp 115) (Operand.const (Value.bool false)), type := 4, pos := "law.go:122", after := #[{ on := 7, ground := Ground.data }, { on := 9, ground := Ground.data }], guard := none }
def oq6_15_11 : Oper := { dst := some 8, op := Op.assign (Operand.tmp 116), type := 4, pos := "law.go:122", after := #[{ on := 10, ground := Ground.data }, { on := 7, ground := Ground.chain }, { on := 0, ground := Ground.phase }, { on := 1, ground := Ground.phase }, { on := 2, ground := Ground.phase }, { on := 3, ground := Ground.phase }, { on := 4, ground := Ground.phase }, { on := 5, ground := Ground.phase }, { on := 6, ground := Ground.phase }, { on := 7, ground := Ground.phase }, { on := 8, ground := Ground.phase }, { on := 9, ground := Ground.phase }, { on := 10, ground := Ground.phase }], guard := none }
theorem nw_prod_ge {p q : Nat} (hp : 0 < p) (hq : 0 < q) : nw p + nw q ≤ nw (p * q) + 1 := by
  have h1 := pw_le_of_nw (show p ≠ 0 by omega)
  have h2 := pw_le_of_nw (show q ≠ 0 by omega)
  have h3 := Nat.mul_le_mul h1 h2
  rw [← pw_add] at h3
  have h4 := Nat.lt_of_le_of_lt h3 (lt_nw (p * q))
  have h5 := (Nat.pow_lt_pow_iff_right (by omega : 1 < 2)).1 h4
  have h6 := nw_pos (show p ≠ 0 by omega)
  have h7 := nw_pos (show q ≠ 0 by omega)
  omega
set_option maxHeartbeats 16000000 in
set_option maxRecDepth 100000 in
theorem crtl_far1 (A A2 A3 A4 : Option Addr) (n k j l c1 c2 c3 c4 a p b q : Nat) (w : World) (hA : Num w w.heap.size A n a) (hP : Num w w.heap.size A2 k p) (hB : Num w w.heap.size A3 j b) (hQ : Num w w.heap.size A4 l q) (hn : n ≤ 9223372036854775807) (hk : k ≤ 9223372036854775807) (hj : j ≤ 9223372036854775807) (hl : l ≤ 9223372036854775807) (hg : ¬ (n ≤ 40 ∧ k ≤ 40 ∧ j ≤ 40 ∧ l ≤ 40)) :
    Calls Try.prog 6 #[.agg #[.slice A n c1], .agg #[.slice A2 k c2], .agg #[.slice A3 j c3], .agg #[.slice A4 l c4]] w (RetB (.bool true) w) := by
  have HG : Hid (decide (n ≤ 40 ∧ k ≤ 40 ∧ j ≤ 40 ∧ l ≤ 40) = false) := decide_eq_false hg
  clear hg
  obtain ⟨b0, b1, b2, b3, bw⟩ := boxes4 w (.slice A n c1) (.slice A2 k c2) (.slice A3 j c3) (.slice A4 l c4)
  have XA := VB.mk (B := w.heap.size) (a := a) b0 (.inl hA) bw (Nat.le_refl _) (by omega)
  have XP := VB.mk (B := w.heap.size) (a := p) b1 (.inl hP) bw (Nat.le_refl _) (by omega)
  have XB := VB.mk (B := w.heap.size) (a := b) b2 (.inl hB) bw (Nat.le_refl _) (by omega)
  have XQ := VB.mk (B := w.heap.size) (a := q) b3 (.inl hQ) bw (Nat.le_refl _) (by omega)
  have WW := bw
  clear bw b0 b1 b2 b3
  go_enter Try.func6, Try.ntmps6
  go_wp2_with fail
  generalize hV : ((((w.alloc (.cells #[.slice A n c1] 24)).alloc (.cells #[.slice A2 k c2] 24)).alloc (.cells #[.slice A3 j c3] 24)).alloc (.cells #[.slice A4 l c4] 24)) = V0 at XA XP XB XQ WW ⊢
  clear hV
  have hbs : w.heap.size ≤ V0.heap.size := WW.size
  have hc := awake_any V0
  refine hc.mono ?_
  clear hc
  rintro e V1 ⟨rfl, hb⟩
  replace XA := XA.below hb
  replace XP := XP.below hb
  replace XB := XB.below hb
  replace XQ := XQ.below hb
  replace WW := WW.trans (hb.mono WW.size)
  have kXA := XA.cell
  have zXA := XA.lt
  have kXP := XP.cell
  have zXP := XP.lt
  have kXB := XB.cell
  have zXB := XB.lt
  have kXQ := XQ.cell
  have zXQ := XQ.lt
  clear hb hbs
  go_wp2_with fail
  have hbs : w.heap.size ≤ V1.heap.size := WW.size
  have hc := few_n4 40 (by omega) V1 A A2 A3 A4 n k j l c1 c2 c3 c4 (by omega) (by omega) (by omega) (by omega)
  rw [HG.out] at hc
  refine hc.mono ?_
  clear hc
  rintro e V2 ⟨rfl, hb⟩
  clear kXA zXA kXP zXP kXB zXB kXQ zXQ
  replace XA := XA.below hb
  replace XP := XP.below hb
  replace XB := XB.below hb
  replace XQ := XQ.below hb
  replace WW := WW.trans (hb.mono WW.size)
  have kXA := XA.cell
  have zXA := XA.lt
  have kXP := XP.cell
  have zXP := XP.lt
  have kXB := XB.cell
  have zXB := XB.lt
  have kXQ := XQ.cell
  have zXQ := XQ.lt
  clear hb hbs
  go_wp2_with fail
  have hbs : w.heap.size ≤ V2.heap.size := WW.size
  have hc := awake_any V2
  refine hc.mono ?_
  clear hc
  rintro e V3 ⟨rfl, hb⟩
  clear kXA zXA kXP zXP kXB zXB kXQ zXQ
  replace XA := XA.below hb
  replace XP := XP.below hb
  replace XB := XB.below hb
  replace XQ := XQ.below hb
  replace WW := WW.trans (hb.mono WW.size)
  have kXA := XA.cell
  have zXA := XA.lt
  have kXP := XP.cell
  have zXP := XP.lt
  have kXB := XB.cell
  have zXB := XB.lt
  have kXQ := XQ.cell
  have zXQ := XQ.lt
  clear hb hbs
  go_wp2_with fail
  go_ret
  exact ⟨rfl, WW⟩

set_option maxHeartbeats 16000000 in
set_option maxRecDepth 100000 in
theorem crtl_far2 (A A2 A3 A4 : Option Addr) (n k j l c1 c2 c3 c4 a p b q : Nat) (w : World) (hA : Num w w.heap.size A n a) (hP : Num w w.heap.size A2 k p) (hB : Num w w.heap.size A3 j b) (hQ : Num w w.heap.size A4 l q) (hn : n ≤ 9223372036854775807) (hk : k ≤ 9223372036854775807) (hj : j ≤ 9223372036854775807) (hl : l ≤ 9223372036854775807) (hg : n ≤ 40 ∧ k ≤ 40 ∧ j ≤ 40 ∧ l ≤ 40) (hg6 : ¬ (k ≤ 6 ∧ l ≤ 6)) (hs : k + l < 34) :
    Calls Try.prog 6 #[.agg #[.slice A n c1], .agg #[.slice A2 k c2], .agg #[.slice A3 j c3], .agg #[.slice A4 l c4]] w (RetB (.bool true) w) := by
  have HG : Hid (decide (n ≤ 40 ∧ k ≤ 40 ∧ j ≤ 40 ∧ l ≤ 40) = true) := decide_eq_true hg
  have HG6 : Hid (decide (k ≤ 6 ∧ l ≤ 6) = false) := decide_eq_false hg6
  have hk40 := hg.2.1
  have hl40 := hg.2.2.2
  have hn40 := hg.1
  have hj40 := hg.2.2.1
  have z0 : (((nw 0 : Nat) : Int) == 0) = true := rfl
  have z00 : (((nw 0 : Nat) : Int) != 0) = false := rfl
  have s1 : (k : Int) + (l : Int) < 34 := by omega
  clear hg hg6 hs
  obtain ⟨b0, b1, b2, b3, bw⟩ := boxes4 w (.slice A n c1) (.slice A2 k c2) (.slice A3 j c3) (.slice A4 l c4)
  have XA := VB.mk (B := w.heap.size) (a := a) b0 (.inl hA) bw (Nat.le_refl _) (by omega)
  have XP := VB.mk (B := w.heap.size) (a := p) b1 (.inl hP) bw (Nat.le_refl _) (by omega)
  have XB := VB.mk (B := w.heap.size) (a := b) b2 (.inl hB) bw (Nat.le_refl _) (by omega)
  have XQ := VB.mk (B := w.heap.size) (a := q) b3 (.inl hQ) bw (Nat.le_refl _) (by omega)
  have WW := bw
  clear bw b0 b1 b2 b3
  go_enter Try.func6, Try.ntmps6
  go_wp2_with fail
  generalize hV : ((((w.alloc (.cells #[.slice A n c1] 24)).alloc (.cells #[.slice A2 k c2] 24)).alloc (.cells #[.slice A3 j c3] 24)).alloc (.cells #[.slice A4 l c4] 24)) = V0 at XA XP XB XQ WW ⊢
  clear hV
  have hbs : w.heap.size ≤ V0.heap.size := WW.size
  have hc := awake_any V0
  refine hc.mono ?_
  clear hc
  rintro e V1 ⟨rfl, hb⟩
  replace XA := XA.below hb
  replace XP := XP.below hb
  replace XB := XB.below hb
  replace XQ := XQ.below hb
  replace WW := WW.trans (hb.mono WW.size)
  have kXA := XA.cell
  have zXA := XA.lt
  have kXP := XP.cell
  have zXP := XP.lt
  have kXB := XB.cell
  have zXB := XB.lt
  have kXQ := XQ.cell
  have zXQ := XQ.lt
  clear hb hbs
  go_wp2_with fail
  have hbs : w.heap.size ≤ V1.heap.size := WW.size
  have hc := few_n4 40 (by omega) V1 A A2 A3 A4 n k j l c1 c2 c3 c4 (by omega) (by omega) (by omega) (by omega)
  rw [HG.out] at hc
  refine hc.mono ?_
  clear hc
  rintro e V2 ⟨rfl, hb⟩
  clear kXA zXA kXP zXP kXB zXB kXQ zXQ
  replace XA := XA.below hb
  replace XP := XP.below hb
  replace XB := XB.below hb
  replace XQ := XQ.below hb
  replace WW := WW.trans (hb.mono WW.size)
  have kXA := XA.cell
  have zXA := XA.lt
  have kXP := XP.cell
  have zXP := XP.lt
  have kXB := XB.cell
  have zXB := XB.lt
  have kXQ := XQ.cell
  have zXQ := XQ.lt
  clear hb hbs
  go_wp2_with fail
  have hbs : w.heap.size ≤ V2.heap.size := WW.size
  have hc := few_n2 6 (by omega) V2 A2 A4 k l c2 c4 (by omega) (by omega)
  rw [HG6.out] at hc
  refine hc.mono ?_
  clear hc
  rintro e V3 ⟨rfl, hb⟩
  clear kXA zXA kXP zXP kXB zXB kXQ zXQ
  replace XA := XA.below hb
  replace XP := XP.below hb
  replace XB := XB.below hb
  replace XQ := XQ.below hb
  replace WW := WW.trans (hb.mono WW.size)
  have kXA := XA.cell
  have zXA := XA.lt
  have kXP := XP.cell
  have zXP := XP.lt
  have kXB := XB.cell
  have zXB := XB.lt
  have kXQ := XQ.cell
  have zXQ := XQ.lt
  clear hb hbs
  go_wp2_with fail
  have hbs : w.heap.size ≤ V3.heap.size := WW.size
  have hc := awake_any V3
  refine hc.mono ?_
  clear hc
  rintro e V4 ⟨rfl, hb⟩
  clear kXA zXA kXP zXP kXB zXB kXQ zXQ
  replace XA := XA.below hb
  replace XP := XP.below hb
  replace XB := XB.below hb
  replace XQ := XQ.below hb
  replace WW := WW.trans (hb.mono WW.size)
  have kXA := XA.cell
  have zXA := XA.lt
  have kXP := XP.cell
  have zXP := XP.lt
  have kXB := XB.cell
  have zXB := XB.lt
  have kXQ := XQ.cell
  have zXQ := XQ.lt
  clear hb hbs
  go_wp2_with fail
  go_ret
  exact ⟨rfl, WW⟩

set_option maxHeartbeats 16000000 in
set_option maxRecDepth 100000 in
theorem crtl_m1f (A A2 A3 A4 : Option Addr) (n k j l c1 c2 c3 c4 a p b q : Nat) (w : World) (hA : Num w w.heap.size A n a) (hP : Num w w.heap.size A2 k p) (hB : Num w w.heap.size A3 j b) (hQ : Num w w.heap.size A4 l q) (hn : n ≤ 9223372036854775807) (hk : k ≤ 9223372036854775807) (hj : j ≤ 9223372036854775807) (hl : l ≤ 9223372036854775807) (hg : n ≤ 40 ∧ k ≤ 40 ∧ j ≤ 40 ∧ l ≤ 40) (hg6 : k ≤ 6 ∧ l ≤ 6) (h1 : modB k p = false) :
    Calls Try.prog 6 #[.agg #[.slice A n c1], .agg #[.slice A2 k c2], .agg #[.slice A3 j c3], .agg #[.slice A4 l c4]] w (RetB (.bool true) w) := by
  have HG : Hid (decide (n ≤ 40 ∧ k ≤ 40 ∧ j ≤ 40 ∧ l ≤ 40) = true) := decide_eq_true hg
  have HG6 : Hid (decide (k ≤ 6 ∧ l ≤ 6) = true) := decide_eq_true hg6
  have hk40 := hg.2.1
  have hl40 := hg.2.2.2
  have hn40 := hg.1
  have hj40 := hg.2.2.1
  have z0 : (((nw 0 : Nat) : Int) == 0) = true := rfl
  have z00 : (((nw 0 : Nat) : Int) != 0) = false := rfl
  have s2 : (k : Int) + (l : Int) ≤ 33 := by omega
  have HV0 : crtV n a k p j b l q = (0, 1) := by unfold crtV; rw [h1]; cases okB n a <;> cases okB j b <;> rfl
  have HV := hid HV0
  clear HV0 hg hg6
  have M1 : Hid ((if modB k p = true then (0 : Int) else 1) = 1) := (show _ = _ by rw [h1]; rfl)
  clear h1
  obtain ⟨b0, b1, b2, b3, bw⟩ := boxes4 w (.slice A n c1) (.slice A2 k c2) (.slice A3 j c3) (.slice A4 l c4)
  have XA := VB.mk (B := w.heap.size) (a := a) b0 (.inl hA) bw (Nat.le_refl _) (by omega)
  have XP := VB.mk (B := w.heap.size) (a := p) b1 (.inl hP) bw (Nat.le_refl _) (by omega)
  have XB := VB.mk (B := w.heap.size) (a := b) b2 (.inl hB) bw (Nat.le_refl _) (by omega)
  have XQ := VB.mk (B := w.heap.size) (a := q) b3 (.inl hQ) bw (Nat.le_refl _) (by omega)
  have WW := bw
  clear bw b0 b1 b2 b3
  go_enter Try.func6, Try.ntmps6
  go_wp2_with fail
  generalize hV : ((((w.alloc (.cells #[.slice A n c1] 24)).alloc (.cells #[.slice A2 k c2] 24)).alloc (.cells #[.slice A3 j c3] 24)).alloc (.cells #[.slice A4 l c4] 24)) = V0 at XA XP XB XQ WW ⊢
  clear hV
  have hbs : w.heap.size ≤ V0.heap.size := WW.size
  have hc := awake_any V0
  refine hc.mono ?_
  clear hc
  rintro e V1 ⟨rfl, hb⟩
  replace XA := XA.below hb
  replace XP := XP.below hb
  replace XB := XB.below hb
  replace XQ := XQ.below hb
  replace WW := WW.trans (hb.mono WW.size)
  have kXA := XA.cell
  have zXA := XA.lt
  have kXP := XP.cell
  have zXP := XP.lt
  have kXB := XB.cell
  have zXB := XB.lt
  have kXQ := XQ.cell
  have zXQ := XQ.lt
  clear hb hbs
  go_wp2_with fail
  have hbs : w.heap.size ≤ V1.heap.size := WW.size
  have hc := few_n4 40 (by omega) V1 A A2 A3 A4 n k j l c1 c2 c3 c4 (by omega) (by omega) (by omega) (by omega)
  rw [HG.out] at hc
  refine hc.mono ?_
  clear hc
  rintro e V2 ⟨rfl, hb⟩
  clear kXA zXA kXP zXP kXB zXB kXQ zXQ
  replace XA := XA.below hb
  replace XP := XP.below hb
  replace XB := XB.below hb
  replace XQ := XQ.below hb
  replace WW := WW.trans (hb.mono WW.size)
  have kXA := XA.cell
  have zXA := XA.lt
  have kXP := XP.cell
  have zXP := XP.lt
  have kXB := XB.cell
  have zXB := XB.lt
  have kXQ := XQ.cell
  have zXQ := XQ.lt
  clear hb hbs
  go_wp2_with fail
  have hbs : w.heap.size ≤ V2.heap.size := WW.size
  have hc := few_n2 6 (by omega) V2 A2 A4 k l c2 c4 (by omega) (by omega)
  rw [HG6.out] at hc
  refine hc.mono ?_
  clear hc
  rintro e V3 ⟨rfl, hb⟩
  clear kXA zXA kXP zXP kXB zXB kXQ zXQ
  replace XA := XA.below hb
  replace XP := XP.below hb
  replace XB := XB.below hb
  replace XQ := XQ.below hb
  replace WW := WW.trans (hb.mono WW.size)
  have kXA := XA.cell
  have zXA := XA.lt
  have kXP := XP.cell
  have zXP := XP.lt
  have kXB := XB.cell
  have zXB := XB.lt
  have kXQ := XQ.cell
  have zXQ := XQ.lt
  clear hb hbs
  go_wp2_with fail
  have hbs : w.heap.size ≤ V3.heap.size := WW.size
  have hc := ncrt_any A A2 A3 A4 _ _ _ _ c1 c2 c3 c4 a p b q V3 XA.num XP.num XB.num XQ.num (by omega) (by omega) (by omega) (by omega)
  rw [HV.out] at hc
  refine hc.mono ?_
  clear hc
  rintro e V4 ⟨v, rfl, hv, hb⟩
  clear kXA zXA kXP zXP kXB zXB kXQ zXQ
  replace XA := XA.below hb
  replace XP := XP.below hb
  replace XB := XB.below hb
  replace XQ := XQ.below hb
  replace WW := WW.trans (hb.mono WW.size)
  obtain ⟨D1, d1, rfl, ho⟩ := hv
  have O1 := ho.weak (b := w.heap.size) hbs
  clear ho
  have kXA := XA.cell
  have zXA := XA.lt
  have kXP := XP.cell
  have zXP := XP.lt
  have kXB := XB.cell
  have zXB := XB.lt
  have kXQ := XQ.cell
  have zXQ := XQ.lt
  clear hb hbs
  go_wp2_with fail
  obtain ⟨b0, bw⟩ := boxes1 V4 (.slice D1 (nw 0) d1)
  have hbs := WW.size
  clear kXA zXA kXP zXP kXB zXB kXQ zXQ
  have qXQ5 := XQ.lt
  have X1 := VB.mk (B := w.heap.size) (a := 0) b0 (.inr O1) bw hbs (by omega)
  replace XA := XA.below bw
  replace XP := XP.below bw
  replace XB := XB.below bw
  replace XQ := XQ.below bw
  replace O1 := O1.below bw (Nat.le_refl _)
  replace WW := WW.trans (bw.mono WW.size)
  clear bw hbs b0
  generalize hV : (V4.alloc (.cells #[.slice D1 (nw 0) d1] 24)) = V5 at XA XP XB XQ X1 O1 WW ⊢
  clear hV
  have kXA := XA.cell
  have zXA := XA.lt
  have kXP := XP.cell
  have zXP := XP.lt
  have kXB := XB.cell
  have zXB := XB.lt
  have kXQ := XQ.cell
  have zXQ := XQ.lt
  have kX1 := X1.cell
  have zX1 := X1.lt
  have hbs : w.heap.size ≤ V5.heap.size := WW.size
  have hc := first_a0 V5 _ p c2 A2 XP.num (by omega)
  rw [M1.out] at hc
  refine hc.mono ?_
  clear hc
  rintro e V6 ⟨rfl, hb⟩
  clear kXA zXA kXP zXP kXB zXB kXQ zXQ kX1 zX1
  replace XA := XA.below hb
  replace XP := XP.below hb
  replace XB := XB.below hb
  replace XQ := XQ.below hb
  replace X1 := X1.below hb
  replace O1 := O1.below hb (Nat.le_refl _)
  replace WW := WW.trans (hb.mono WW.size)
  have kXA := XA.cell
  have zXA := XA.lt
  have kXP := XP.cell
  have zXP := XP.lt
  have kXB := XB.cell
  have zXB := XB.lt
  have kXQ := XQ.cell
  have zXQ := XQ.lt
  have kX1 := X1.cell
  have zX1 := X1.lt
  clear hb hbs
  go_wp2_with fail
  go_ret
  exact ⟨rfl, WW⟩

set_option maxHeartbeats 16000000 in
set_option maxRecDepth 100000 in
theorem crtl_m2f (A A2 A3 A4 : Option Addr) (n k j l c1 c2 c3 c4 a p b q : Nat) (w : World) (hA : Num w w.heap.size A n a) (hP : Num w w.heap.size A2 k p) (hB : Num w w.heap.size A3 j b) (hQ : Num w w.heap.size A4 l q) (hn : n ≤ 9223372036854775807) (hk : k ≤ 9223372036854775807) (hj : j ≤ 9223372036854775807) (hl : l ≤ 9223372036854775807) (hg : n ≤ 40 ∧ k ≤ 40 ∧ j ≤ 40 ∧ l ≤ 40) (hg6 : k ≤ 6 ∧ l ≤ 6) (h1 : modB k p = true) (h2 : modB l q = false) :
    Calls Try.prog 6 #[.agg #[.slice A n c1], .agg #[.slice A2 k c2], .agg #[.slice A3 j c3], .agg #[.slice A4 l c4]] w (RetB (.bool true) w) := by
  have HG : Hid (decide (n ≤ 40 ∧ k ≤ 40 ∧ j ≤ 40 ∧ l ≤ 40) = true) := decide_eq_true hg
  have HG6 : Hid (decide (k ≤ 6 ∧ l ≤ 6) = true) := decide_eq_true hg6
  have hk40 := hg.2.1
  have hl40 := hg.2.2.2
  have hn40 := hg.1
  have hj40 := hg.2.2.1
  have z0 : (((nw 0 : Nat) : Int) == 0) = true := rfl
  have z00 : (((nw 0 : Nat) : Int) != 0) = false := rfl
  have s2 : (k : Int) + (l : Int) ≤ 33 := by omega
  have HV0 : crtV n a k p j b l q = (0, 1) := by unfold crtV; rw [h1, h2]; cases okB n a <;> cases okB j b <;> rfl
  have HV := hid HV0
  clear HV0 hg hg6
  have M1 : Hid ((if modB k p = true then (0 : Int) else 1) = 0) := (show _ = _ by rw [h1]; rfl)
  have M2 : Hid ((if modB l q = true then (0 : Int) else 1) = 1) := (show _ = _ by rw [h2]; rfl)
  clear h1 h2
  obtain ⟨b0, b1, b2, b3, bw⟩ := boxes4 w (.slice A n c1) (.slice A2 k c2) (.slice A3 j c3) (.slice A4 l c4)
  have XA := VB.mk (B := w.heap.size) (a := a) b0 (.inl hA) bw (Nat.le_refl _) (by omega)
  have XP := VB.mk (B := w.heap.size) (a := p) b1 (.inl hP) bw (Nat.le_refl _) (by omega)
  have XB := VB.mk (B := w.heap.size) (a := b) b2 (.inl hB) bw (Nat.le_refl _) (by omega)
  have XQ := VB.mk (B := w.heap.size) (a := q) b3 (.inl hQ) bw (Nat.le_refl _) (by omega)
  have WW := bw
  clear bw b0 b1 b2 b3
  go_enter Try.func6, Try.ntmps6
  go_wp2_with fail
  generalize hV : ((((w.alloc (.cells #[.slice A n c1] 24)).alloc (.cells #[.slice A2 k c2] 24)).alloc (.cells #[.slice A3 j c3] 24)).alloc (.cells #[.slice A4 l c4] 24)) = V0 at XA XP XB XQ WW ⊢
  clear hV
  have hbs : w.heap.size ≤ V0.heap.size := WW.size
  have hc := awake_any V0
  refine hc.mono ?_
  clear hc
  rintro e V1 ⟨rfl, hb⟩
  replace XA := XA.below hb
  replace XP := XP.below hb
  replace XB := XB.below hb
  replace XQ := XQ.below hb
  replace WW := WW.trans (hb.mono WW.size)
  have kXA := XA.cell
  have zXA := XA.lt
  have kXP := XP.cell
  have zXP := XP.lt
  have kXB := XB.cell
  have zXB := XB.lt
  have kXQ := XQ.cell
  have zXQ := XQ.lt
  clear hb hbs
  go_wp2_with fail
  have hbs : w.heap.size ≤ V1.heap.size := WW.size
  have hc := few_n4 40 (by omega) V1 A A2 A3 A4 n k j l c1 c2 c3 c4 (by omega) (by omega) (by omega) (by omega)
  rw [HG.out] at hc
  refine hc.mono ?_
  clear hc
  rintro e V2 ⟨rfl, hb⟩
  clear kXA zXA kXP zXP kXB zXB kXQ zXQ
  replace XA := XA.below hb
  replace XP := XP.below hb
  replace XB := XB.below hb
  replace XQ := XQ.below hb
  replace WW := WW.trans (hb.mono WW.size)
  have kXA := XA.cell
  have zXA := XA.lt
  have kXP := XP.cell
  have zXP := XP.lt
  have kXB := XB.cell
  have zXB := XB.lt
  have kXQ := XQ.cell
  have zXQ := XQ.lt
  clear hb hbs
  go_wp2_with fail
  have hbs : w.heap.size ≤ V2.heap.size := WW.size
  have hc := few_n2 6 (by omega) V2 A2 A4 k l c2 c4 (by omega) (by omega)
  rw [HG6.out] at hc
  refine hc.mono ?_
  clear hc
  rintro e V3 ⟨rfl, hb⟩
  clear kXA zXA kXP zXP kXB zXB kXQ zXQ
  replace XA := XA.below hb
  replace XP := XP.below hb
  replace XB := XB.below hb
  replace XQ := XQ.below hb
  replace WW := WW.trans (hb.mono WW.size)
  have kXA := XA.cell
  have zXA := XA.lt
  have kXP := XP.cell
  have zXP := XP.lt
  have kXB := XB.cell
  have zXB := XB.lt
  have kXQ := XQ.cell
  have zXQ := XQ.lt
  clear hb hbs
  go_wp2_with fail
  have hbs : w.heap.size ≤ V3.heap.size := WW.size
  have hc := ncrt_any A A2 A3 A4 _ _ _ _ c1 c2 c3 c4 a p b q V3 XA.num XP.num XB.num XQ.num (by omega) (by omega) (by omega) (by omega)
  rw [HV.out] at hc
  refine hc.mono ?_
  clear hc
  rintro e V4 ⟨v, rfl, hv, hb⟩
  clear kXA zXA kXP zXP kXB zXB kXQ zXQ
  replace XA := XA.below hb
  replace XP := XP.below hb
  replace XB := XB.below hb
  replace XQ := XQ.below hb
  replace WW := WW.trans (hb.mono WW.size)
  obtain ⟨D1, d1, rfl, ho⟩ := hv
  have O1 := ho.weak (b := w.heap.size) hbs
  clear ho
  have kXA := XA.cell
  have zXA := XA.lt
  have kXP := XP.cell
  have zXP := XP.lt
  have kXB := XB.cell
  have zXB := XB.lt
  have kXQ := XQ.cell
  have zXQ := XQ.lt
  clear hb hbs
  go_wp2_with fail
  obtain ⟨b0, bw⟩ := boxes1 V4 (.slice D1 (nw 0) d1)
  have hbs := WW.size
  clear kXA zXA kXP zXP kXB zXB kXQ zXQ
  have qXQ5 := XQ.lt
  have X1 := VB.mk (B := w.heap.size) (a := 0) b0 (.inr O1) bw hbs (by omega)
  replace XA := XA.below bw
  replace XP := XP.below bw
  replace XB := XB.below bw
  replace XQ := XQ.below bw
  replace O1 := O1.below bw (Nat.le_refl _)
  replace WW := WW.trans (bw.mono WW.size)
  clear bw hbs b0
  generalize hV : (V4.alloc (.cells #[.slice D1 (nw 0) d1] 24)) = V5 at XA XP XB XQ X1 O1 WW ⊢
  clear hV
  have kXA := XA.cell
  have zXA := XA.lt
  have kXP := XP.cell
  have zXP := XP.lt
  have kXB := XB.cell
  have zXB := XB.lt
  have kXQ := XQ.cell
  have zXQ := XQ.lt
  have kX1 := X1.cell
  have zX1 := X1.lt
  have hbs : w.heap.size ≤ V5.heap.size := WW.size
  have hc := first_a0 V5 _ p c2 A2 XP.num (by omega)
  rw [M1.out] at hc
  refine hc.mono ?_
  clear hc
  rintro e V6 ⟨rfl, hb⟩
  clear kXA zXA kXP zXP kXB zXB kXQ zXQ kX1 zX1
  replace XA := XA.below hb
  replace XP := XP.below hb
  replace XB := XB.below hb
  replace XQ := XQ.below hb
  replace X1 := X1.below hb
  replace O1 := O1.below hb (Nat.le_refl _)
  replace WW := WW.trans (hb.mono WW.size)
  have kXA := XA.cell
  have zXA := XA.lt
  have kXP := XP.cell
  have zXP := XP.lt
  have kXB := XB.cell
  have zXB := XB.lt
  have kXQ := XQ.cell
  have zXQ := XQ.lt
  have kX1 := X1.cell
  have zX1 := X1.lt
  clear hb hbs
  go_wp2_with fail
  have hbs : w.heap.size ≤ V6.heap.size := WW.size
  have hc := first_a0 V6 _ q c4 A4 XQ.num (by omega)
  rw [M2.out] at hc
  refine hc.mono ?_
  clear hc
  rintro e V7 ⟨rfl, hb⟩
  clear kXA zXA kXP zXP kXB zXB kXQ zXQ kX1 zX1
  replace XA := XA.below hb
  replace XP := XP.below hb
  replace XB := XB.below hb
  replace XQ := XQ.below hb
  replace X1 := X1.below hb
  replace O1 := O1.below hb (Nat.le_refl _)
  replace WW := WW.trans (hb.mono WW.size)
  have kXA := XA.cell
  have zXA := XA.lt
  have kXP := XP.cell
  have zXP := XP.lt
  have kXB := XB.cell
  have zXB := XB.lt
  have kXQ := XQ.cell
  have zXQ := XQ.lt
  have kX1 := X1.cell
  have zX1 := X1.lt
  clear hb hbs
  go_wp2_with fail
  go_ret
  exact ⟨rfl, WW⟩

set_option maxHeartbeats 16000000 in
set_option maxRecDepth 100000 in
theorem crtl_v1f (A A2 A3 A4 : Option Addr) (n k j l c1 c2 c3 c4 a p b q : Nat) (w : World) (hA : Num w w.heap.size A n a) (hP : Num w w.heap.size A2 k p) (hB : Num w w.heap.size A3 j b) (hQ : Num w w.heap.size A4 l q) (hn : n ≤ 9223372036854775807) (hk : k ≤ 9223372036854775807) (hj : j ≤ 9223372036854775807) (hl : l ≤ 9223372036854775807) (hg : n ≤ 40 ∧ k ≤ 40 ∧ j ≤ 40 ∧ l ≤ 40) (hg6 : k ≤ 6 ∧ l ≤ 6) (h1 : modB k p = true) (h2 : modB l q = true) (h3 : okB n a = false) :
    Calls Try.prog 6 #[.agg #[.slice A n c1], .agg #[.slice A2 k c2], .agg #[.slice A3 j c3], .agg #[.slice A4 l c4]] w (RetB (.bool true) w) := by
  have HG : Hid (decide (n ≤ 40 ∧ k ≤ 40 ∧ j ≤ 40 ∧ l ≤ 40) = true) := decide_eq_true hg
  have HG6 : Hid (decide (k ≤ 6 ∧ l ≤ 6) = true) := decide_eq_true hg6
  have hk40 := hg.2.1
  have hl40 := hg.2.2.2
  have hn40 := hg.1
  have hj40 := hg.2.2.1
  have z0 : (((nw 0 : Nat) : Int) == 0) = true := rfl
  have z00 : (((nw 0 : Nat) : Int) != 0) = false := rfl
  have s2 : (k : Int) + (l : Int) ≤ 33 := by omega
  have HV0 : crtV n a k p j b l q = (0, 1) := by unfold crtV; rw [h3]; rfl
  have HV := hid HV0
  clear HV0 hg hg6
  have M1 : Hid ((if modB k p = true then (0 : Int) else 1) = 0) := (show _ = _ by rw [h1]; rfl)
  have M2 : Hid ((if modB l q = true then (0 : Int) else 1) = 0) := (show _ = _ by rw [h2]; rfl)
  have G3 := hid h3
  clear h1 h2 h3
  obtain ⟨b0, b1, b2, b3, bw⟩ := boxes4 w (.slice A n c1) (.slice A2 k c2) (.slice A3 j c3) (.slice A4 l c4)
  have XA := VB.mk (B := w.heap.size) (a := a) b0 (.inl hA) bw (Nat.le_refl _) (by omega)
  have XP := VB.mk (B := w.heap.size) (a := p) b1 (.inl hP) bw (Nat.le_refl _) (by omega)
  have XB := VB.mk (B := w.heap.size) (a := b) b2 (.inl hB) bw (Nat.le_refl _) (by omega)
  have XQ := VB.mk (B := w.heap.size) (a := q) b3 (.inl hQ) bw (Nat.le_refl _) (by omega)
  have WW := bw
  clear bw b0 b1 b2 b3
  go_enter Try.func6, Try.ntmps6
  go_wp2_with fail
  generalize hV : ((((w.alloc (.cells #[.slice A n c1] 24)).alloc (.cells #[.slice A2 k c2] 24)).alloc (.cells #[.slice A3 j c3] 24)).alloc (.cells #[.slice A4 l c4] 24)) = V0 at XA XP XB XQ WW ⊢
  clear hV
  have hbs : w.heap.size ≤ V0.heap.size := WW.size
  have hc := awake_any V0
  refine hc.mono ?_
  clear hc
  rintro e V1 ⟨rfl, hb⟩
  replace XA := XA.below hb
  replace XP := XP.below hb
  replace XB := XB.below hb
  replace XQ := XQ.below hb
  replace WW := WW.trans (hb.mono WW.size)
  have kXA := XA.cell
  have zXA := XA.lt
  have kXP := XP.cell
  have zXP := XP.lt
  have kXB := XB.cell
  have zXB := XB.lt
  have kXQ := XQ.cell
  have zXQ := XQ.lt
  clear hb hbs
  go_wp2_with fail
  have hbs : w.heap.size ≤ V1.heap.size := WW.size
  have hc := few_n4 40 (by omega) V1 A A2 A3 A4 n k j l c1 c2 c3 c4 (by omega) (by omega) (by omega) (by omega)
  rw [HG.out] at hc
  refine hc.mono ?_
  clear hc
  rintro e V2 ⟨rfl, hb⟩
  clear kXA zXA kXP zXP kXB zXB kXQ zXQ
  replace XA := XA.below hb
  replace XP := XP.below hb
  replace XB := XB.below hb
  replace XQ := XQ.below hb
  replace WW := WW.trans (hb.mono WW.size)
  have kXA := XA.cell
  have zXA := XA.lt
  have kXP := XP.cell
  have zXP := XP.lt
  have kXB := XB.cell
  have zXB := XB.lt
  have kXQ := XQ.cell
  have zXQ := XQ.lt
  clear hb hbs
  go_wp2_with fail
  have hbs : w.heap.size ≤ V2.heap.size := WW.size
  have hc := few_n2 6 (by omega) V2 A2 A4 k l c2 c4 (by omega) (by omega)
  rw [HG6.out] at hc
  refine hc.mono ?_
  clear hc
  rintro e V3 ⟨rfl, hb⟩
  clear kXA zXA kXP zXP kXB zXB kXQ zXQ
  replace XA := XA.below hb
  replace XP := XP.below hb
  replace XB := XB.below hb
  replace XQ := XQ.below hb
  replace WW := WW.trans (hb.mono WW.size)
  have kXA := XA.cell
  have zXA := XA.lt
  have kXP := XP.cell
  have zXP := XP.lt
  have kXB := XB.cell
  have zXB := XB.lt
  have kXQ := XQ.cell
  have zXQ := XQ.lt
  clear hb hbs
  go_wp2_with fail
  have hbs : w.heap.size ≤ V3.heap.size := WW.size
  have hc := ncrt_any A A2 A3 A4 _ _ _ _ c1 c2 c3 c4 a p b q V3 XA.num XP.num XB.num XQ.num (by omega) (by omega) (by omega) (by omega)
  rw [HV.out] at hc
  refine hc.mono ?_
  clear hc
  rintro e V4 ⟨v, rfl, hv, hb⟩
  clear kXA zXA kXP zXP kXB zXB kXQ zXQ
  replace XA := XA.below hb
  replace XP := XP.below hb
  replace XB := XB.below hb
  replace XQ := XQ.below hb
  replace WW := WW.trans (hb.mono WW.size)
  obtain ⟨D1, d1, rfl, ho⟩ := hv
  have O1 := ho.weak (b := w.heap.size) hbs
  clear ho
  have kXA := XA.cell
  have zXA := XA.lt
  have kXP := XP.cell
  have zXP := XP.lt
  have kXB := XB.cell
  have zXB := XB.lt
  have kXQ := XQ.cell
  have zXQ := XQ.lt
  clear hb hbs
  go_wp2_with fail
  obtain ⟨b0, bw⟩ := boxes1 V4 (.slice D1 (nw 0) d1)
  have hbs := WW.size
  clear kXA zXA kXP zXP kXB zXB kXQ zXQ
  have qXQ5 := XQ.lt
  have X1 := VB.mk (B := w.heap.size) (a := 0) b0 (.inr O1) bw hbs (by omega)
  replace XA := XA.below bw
  replace XP := XP.below bw
  replace XB := XB.below bw
  replace XQ := XQ.below bw
  replace O1 := O1.below bw (Nat.le_refl _)
  replace WW := WW.trans (bw.mono WW.size)
  clear bw hbs b0
  generalize hV : (V4.alloc (.cells #[.slice D1 (nw 0) d1] 24)) = V5 at XA XP XB XQ X1 O1 WW ⊢
  clear hV
  have kXA := XA.cell
  have zXA := XA.lt
  have kXP := XP.cell
  have zXP := XP.lt
  have kXB := XB.cell
  have zXB := XB.lt
  have kXQ := XQ.cell
  have zXQ := XQ.lt
  have kX1 := X1.cell
  have zX1 := X1.lt
  have hbs : w.heap.size ≤ V5.heap.size := WW.size
  have hc := first_a0 V5 _ p c2 A2 XP.num (by omega)
  rw [M1.out] at hc
  refine hc.mono ?_
  clear hc
  rintro e V6 ⟨rfl, hb⟩
  clear kXA zXA kXP zXP kXB zXB kXQ zXQ kX1 zX1
  replace XA := XA.below hb
  replace XP := XP.below hb
  replace XB := XB.below hb
  replace XQ := XQ.below hb
  replace X1 := X1.below hb
  replace O1 := O1.below hb (Nat.le_refl _)
  replace WW := WW.trans (hb.mono WW.size)
  have kXA := XA.cell
  have zXA := XA.lt
  have kXP := XP.cell
  have zXP := XP.lt
  have kXB := XB.cell
  have zXB := XB.lt
  have kXQ := XQ.cell
  have zXQ := XQ.lt
  have kX1 := X1.cell
  have zX1 := X1.lt
  clear hb hbs
  go_wp2_with fail
  have hbs : w.heap.size ≤ V6.heap.size := WW.size
  have hc := first_a0 V6 _ q c4 A4 XQ.num (by omega)
  rw [M2.out] at hc
  refine hc.mono ?_
  clear hc
  rintro e V7 ⟨rfl, hb⟩
  clear kXA zXA kXP zXP kXB zXB kXQ zXQ kX1 zX1
  replace XA := XA.below hb
  replace XP := XP.below hb
  replace XB := XB.below hb
  replace XQ := XQ.below hb
  replace X1 := X1.below hb
  replace O1 := O1.below hb (Nat.le_refl _)
  replace WW := WW.trans (hb.mono WW.size)
  have kXA := XA.cell
  have zXA := XA.lt
  have kXP := XP.cell
  have zXP := XP.lt
  have kXB := XB.cell
  have zXB := XB.lt
  have kXQ := XQ.cell
  have zXQ := XQ.lt
  have kX1 := X1.cell
  have zX1 := X1.lt
  clear hb hbs
  go_wp2_with fail
  have hbs : w.heap.size ≤ V7.heap.size := WW.size
  have hc := rvalid_any A _ c1 a _ V7 XA.num (Nat.le_refl _) (by omega)
  rw [G3.out] at hc
  refine hc.mono ?_
  clear hc
  rintro e V8 ⟨rfl, hb⟩
  clear kXA zXA kXP zXP kXB zXB kXQ zXQ kX1 zX1
  replace XA := XA.below hb
  replace XP := XP.below hb
  replace XB := XB.below hb
  replace XQ := XQ.below hb
  replace X1 := X1.below hb
  replace O1 := O1.below hb (Nat.le_refl _)
  replace WW := WW.trans (hb.mono WW.size)
  have kXA := XA.cell
  have zXA := XA.lt
  have kXP := XP.cell
  have zXP := XP.lt
  have kXB := XB.cell
  have zXB := XB.lt
  have kXQ := XQ.cell
  have zXQ := XQ.lt
  have kX1 := X1.cell
  have zX1 := X1.lt
  clear hb hbs
  go_wp2_with fail
  go_ret
  exact ⟨rfl, WW⟩

set_option maxHeartbeats 16000000 in
set_option maxRecDepth 100000 in
theorem crtl_v2f (A A2 A3 A4 : Option Addr) (n k j l c1 c2 c3 c4 a p b q : Nat) (w : World) (hA : Num w w.heap.size A n a) (hP : Num w w.heap.size A2 k p) (hB : Num w w.heap.size A3 j b) (hQ : Num w w.heap.size A4 l q) (hn : n ≤ 9223372036854775807) (hk : k ≤ 9223372036854775807) (hj : j ≤ 9223372036854775807) (hl : l ≤ 9223372036854775807) (hg : n ≤ 40 ∧ k ≤ 40 ∧ j ≤ 40 ∧ l ≤ 40) (hg6 : k ≤ 6 ∧ l ≤ 6) (h1 : modB k p = true) (h2 : modB l q = true) (h3 : okB n a = true) (h4 : okB j b = false) :
    Calls Try.prog 6 #[.agg #[.slice A n c1], .agg #[.slice A2 k c2], .agg #[.slice A3 j c3], .agg #[.slice A4 l c4]] w (RetB (.bool true) w) := by
  have HG : Hid (decide (n ≤ 40 ∧ k ≤ 40 ∧ j ≤ 40 ∧ l ≤ 40) = true) := decide_eq_true hg
  have HG6 : Hid (decide (k ≤ 6 ∧ l ≤ 6) = true) := decide_eq_true hg6
  have hk40 := hg.2.1
  have hl40 := hg.2.2.2
  have hn40 := hg.1
  have hj40 := hg.2.2.1
  have z0 : (((nw 0 : Nat) : Int) == 0) = true := rfl
  have z00 : (((nw 0 : Nat) : Int) != 0) = false := rfl
  have s2 : (k : Int) + (l : Int) ≤ 33 := by omega
  have HV0 : crtV n a k p j b l q = (0, 1) := by unfold crtV; rw [h3, h4]; rfl
  have HV := hid HV0
  clear HV0 hg hg6
  have M1 : Hid ((if modB k p = true then (0 : Int) else 1) = 0) := (show _ = _ by rw [h1]; rfl)
  have M2 : Hid ((if modB l q = true then (0 : Int) else 1) = 0) := (show _ = _ by rw [h2]; rfl)
  have G3 := hid h3
  have G4 := hid h4
  clear h1 h2 h3 h4
  obtain ⟨b0, b1, b2, b3, bw⟩ := boxes4 w (.slice A n c1) (.slice A2 k c2) (.slice A3 j c3) (.slice A4 l c4)
  have XA := VB.mk (B := w.heap.size) (a := a) b0 (.inl hA) bw (Nat.le_refl _) (by omega)
  have XP := VB.mk (B := w.heap.size) (a := p) b1 (.inl hP) bw (Nat.le_refl _) (by omega)
  have XB := VB.mk (B := w.heap.size) (a := b) b2 (.inl hB) bw (Nat.le_refl _) (by omega)
  have XQ := VB.mk (B := w.heap.size) (a := q) b3 (.inl hQ) bw (Nat.le_refl _) (by omega)
  have WW := bw
  clear bw b0 b1 b2 b3
  go_enter Try.func6, Try.ntmps6
  go_wp2_with fail
  generalize hV : ((((w.alloc (.cells #[.slice A n c1] 24)).alloc (.cells #[.slice A2 k c2] 24)).alloc (.cells #[.slice A3 j c3] 24)).alloc (.cells #[.slice A4 l c4] 24)) = V0 at XA XP XB XQ WW ⊢
  clear hV
  have hbs : w.heap.size ≤ V0.heap.size := WW.size
  have hc := awake_any V0
  refine hc.mono ?_
  clear hc
  rintro e V1 ⟨rfl, hb⟩
  replace XA := XA.below hb
  replace XP := XP.below hb
  replace XB := XB.below hb
  replace XQ := XQ.below hb
  replace WW := WW.trans (hb.mono WW.size)
  have kXA := XA.cell
  have zXA := XA.lt
  have kXP := XP.cell
  have zXP := XP.lt
  have kXB := XB.cell
  have zXB := XB.lt
  have kXQ := XQ.cell
  have zXQ := XQ.lt
  clear hb hbs
  go_wp2_with fail
  have hbs : w.heap.size ≤ V1.heap.size := WW.size
  have hc := few_n4 40 (by omega) V1 A A2 A3 A4 n k j l c1 c2 c3 c4 (by omega) (by omega) (by omega) (by omega)
  rw [HG.out] at hc
  refine hc.mono ?_
  clear hc
  rintro e V2 ⟨rfl, hb⟩
  clear kXA zXA kXP zXP kXB zXB kXQ zXQ
  replace XA := XA.below hb
  replace XP := XP.below hb
  replace XB := XB.below hb
  replace XQ := XQ.below hb
  replace WW := WW.trans (hb.mono WW.size)
  have kXA := XA.cell
  have zXA := XA.lt
  have kXP := XP.cell
  have zXP := XP.lt
  have kXB := XB.cell
  have zXB := XB.lt
  have kXQ := XQ.cell
  have zXQ := XQ.lt
  clear hb hbs
  go_wp2_with fail
  have hbs : w.heap.size ≤ V2.heap.size := WW.size
  have hc := few_n2 6 (by omega) V2 A2 A4 k l c2 c4 (by omega) (by omega)
  rw [HG6.out] at hc
  refine hc.mono ?_
  clear hc
  rintro e V3 ⟨rfl, hb⟩
  clear kXA zXA kXP zXP kXB zXB kXQ zXQ
  replace XA := XA.below hb
  replace XP := XP.below hb
  replace XB := XB.below hb
  replace XQ := XQ.below hb
  replace WW := WW.trans (hb.mono WW.size)
  have kXA := XA.cell
  have zXA := XA.lt
  have kXP := XP.cell
  have zXP := XP.lt
  have kXB := XB.cell
  have zXB := XB.lt
  have kXQ := XQ.cell
  have zXQ := XQ.lt
  clear hb hbs
  go_wp2_with fail
  have hbs : w.heap.size ≤ V3.heap.size := WW.size
  have hc := ncrt_any A A2 A3 A4 _ _ _ _ c1 c2 c3 c4 a p b q V3 XA.num XP.num XB.num XQ.num (by omega) (by omega) (by omega) (by omega)
  rw [HV.out] at hc
  refine hc.mono ?_
  clear hc
  rintro e V4 ⟨v, rfl, hv, hb⟩
  clear kXA zXA kXP zXP kXB zXB kXQ zXQ
  replace XA := XA.below hb
  replace XP := XP.below hb
  replace XB := XB.below hb
  replace XQ := XQ.below hb
  replace WW := WW.trans (hb.mono WW.size)
  obtain ⟨D1, d1, rfl, ho⟩ := hv
  have O1 := ho.weak (b := w.heap.size) hbs
  clear ho
  have kXA := XA.cell
  have zXA := XA.lt
  have kXP := XP.cell
  have zXP := XP.lt
  have kXB := XB.cell
  have zXB := XB.lt
  have kXQ := XQ.cell
  have zXQ := XQ.lt
  clear hb hbs
  go_wp2_with fail
  obtain ⟨b0, bw⟩ := boxes1 V4 (.slice D1 (nw 0) d1)
  have hbs := WW.size
  clear kXA zXA kXP zXP kXB zXB kXQ zXQ
  have qXQ5 := XQ.lt
  have X1 := VB.mk (B := w.heap.size) (a := 0) b0 (.inr O1) bw hbs (by omega)
  replace XA := XA.below bw
  replace XP := XP.below bw
  replace XB := XB.below bw
  replace XQ := XQ.below bw
  replace O1 := O1.below bw (Nat.le_refl _)
  replace WW := WW.trans (bw.mono WW.size)
  clear bw hbs b0
  generalize hV : (V4.alloc (.cells #[.slice D1 (nw 0) d1] 24)) = V5 at XA XP XB XQ X1 O1 WW ⊢
  clear hV
  have kXA := XA.cell
  have zXA := XA.lt
  have kXP := XP.cell
  have zXP := XP.lt
  have kXB := XB.cell
  have zXB := XB.lt
  have kXQ := XQ.cell
  have zXQ := XQ.lt
  have kX1 := X1.cell
  have zX1 := X1.lt
  have hbs : w.heap.size ≤ V5.heap.size := WW.size
  have hc := first_a0 V5 _ p c2 A2 XP.num (by omega)
  rw [M1.out] at hc
  refine hc.mono ?_
  clear hc
  rintro e V6 ⟨rfl, hb⟩
  clear kXA zXA kXP zXP kXB zXB kXQ zXQ kX1 zX1
  replace XA := XA.below hb
  replace XP := XP.below hb
  replace XB := XB.below hb
  replace XQ := XQ.below hb
  replace X1 := X1.below hb
  replace O1 := O1.below hb (Nat.le_refl _)
  replace WW := WW.trans (hb.mono WW.size)
  have kXA := XA.cell
  have zXA := XA.lt
  have kXP := XP.cell
  have zXP := XP.lt
  have kXB := XB.cell
  have zXB := XB.lt
  have kXQ := XQ.cell
  have zXQ := XQ.lt
  have kX1 := X1.cell
  have zX1 := X1.lt
  clear hb hbs
  go_wp2_with fail
  have hbs : w.heap.size ≤ V6.heap.size := WW.size
  have hc := first_a0 V6 _ q c4 A4 XQ.num (by omega)
  rw [M2.out] at hc
  refine hc.mono ?_
  clear hc
  rintro e V7 ⟨rfl, hb⟩
  clear kXA zXA kXP zXP kXB zXB kXQ zXQ kX1 zX1
  replace XA := XA.below hb
  replace XP := XP.below hb
  replace XB := XB.below hb
  replace XQ := XQ.below hb
  replace X1 := X1.below hb
  replace O1 := O1.below hb (Nat.le_refl _)
  replace WW := WW.trans (hb.mono WW.size)
  have kXA := XA.cell
  have zXA := XA.lt
  have kXP := XP.cell
  have zXP := XP.lt
  have kXB := XB.cell
  have zXB := XB.lt
  have kXQ := XQ.cell
  have zXQ := XQ.lt
  have kX1 := X1.cell
  have zX1 := X1.lt
  clear hb hbs
  go_wp2_with fail
  have hbs : w.heap.size ≤ V7.heap.size := WW.size
  have hc := rvalid_any A _ c1 a _ V7 XA.num (Nat.le_refl _) (by omega)
  rw [G3.out] at hc
  refine hc.mono ?_
  clear hc
  rintro e V8 ⟨rfl, hb⟩
  clear kXA zXA kXP zXP kXB zXB kXQ zXQ kX1 zX1
  replace XA := XA.below hb
  replace XP := XP.below hb
  replace XB := XB.below hb
  replace XQ := XQ.below hb
  replace X1 := X1.below hb
  replace O1 := O1.below hb (Nat.le_refl _)
  replace WW := WW.trans (hb.mono WW.size)
  have kXA := XA.cell
  have zXA := XA.lt
  have kXP := XP.cell
  have zXP := XP.lt
  have kXB := XB.cell
  have zXB := XB.lt
  have kXQ := XQ.cell
  have zXQ := XQ.lt
  have kX1 := X1.cell
  have zX1 := X1.lt
  clear hb hbs
  go_wp2_with fail
  have hbs : w.heap.size ≤ V8.heap.size := WW.size
  have hc := rvalid_any A3 _ c3 b _ V8 XB.num (Nat.le_refl _) (by omega)
  rw [G4.out] at hc
  refine hc.mono ?_
  clear hc
  rintro e V9 ⟨rfl, hb⟩
  clear kXA zXA kXP zXP kXB zXB kXQ zXQ kX1 zX1
  replace XA := XA.below hb
  replace XP := XP.below hb
  replace XB := XB.below hb
  replace XQ := XQ.below hb
  replace X1 := X1.below hb
  replace O1 := O1.below hb (Nat.le_refl _)
  replace WW := WW.trans (hb.mono WW.size)
  have kXA := XA.cell
  have zXA := XA.lt
  have kXP := XP.cell
  have zXP := XP.lt
  have kXB := XB.cell
  have zXB := XB.lt
  have kXQ := XQ.cell
  have zXQ := XQ.lt
  have kX1 := X1.cell
  have zX1 := X1.lt
  clear hb hbs
  go_wp2_with fail
  go_ret
  exact ⟨rfl, WW⟩

set_option maxHeartbeats 16000000 in
set_option maxRecDepth 100000 in
theorem crtl_r1f (A A2 A3 A4 : Option Addr) (n k j l c1 c2 c3 c4 a p b q : Nat) (w : World) (hA : Num w w.heap.size A n a) (hP : Num w w.heap.size A2 k p) (hB : Num w w.heap.size A3 j b) (hQ : Num w w.heap.size A4 l q) (hn : n ≤ 9223372036854775807) (hk : k ≤ 9223372036854775807) (hj : j ≤ 9223372036854775807) (hl : l ≤ 9223372036854775807) (hg : n ≤ 40 ∧ k ≤ 40 ∧ j ≤ 40 ∧ l ≤ 40) (hg6 : k ≤ 6 ∧ l ≤ 6) (h1 : modB k p = true) (h2 : modB l q = true) (h3 : okB n a = true) (h4 : okB j b = true) (h5 : ¬ a < p) :
    Calls Try.prog 6 #[.agg #[.slice A n c1], .agg #[.slice A2 k c2], .agg #[.slice A3 j c3], .agg #[.slice A4 l c4]] w (RetB (.bool true) w) := by
  have HG : Hid (decide (n ≤ 40 ∧ k ≤ 40 ∧ j ≤ 40 ∧ l ≤ 40) = true) := decide_eq_true hg
  have HG6 : Hid (decide (k ≤ 6 ∧ l ≤ 6) = true) := decide_eq_true hg6
  have hk40 := hg.2.1
  have hl40 := hg.2.2.2
  have hn40 := hg.1
  have hj40 := hg.2.2.1
  have z0 : (((nw 0 : Nat) : Int) == 0) = true := rfl
  have z00 : (((nw 0 : Nat) : Int) != 0) = false := rfl
  have s2 : (k : Int) + (l : Int) ≤ 33 := by omega
  have HV0 : crtV n a k p j b l q = (0, 2) := by unfold crtV; rw [h1, h2, h3, h4, if_pos (show (true && (true && (true && true))) = true from rfl), if_neg (fun h : a < p ∧ b < q => h5 h.1)]
  have HV := hid HV0
  clear HV0 hg hg6
  have M1 : Hid ((if modB k p = true then (0 : Int) else 1) = 0) := (show _ = _ by rw [h1]; rfl)
  have M2 : Hid ((if modB l q = true then (0 : Int) else 1) = 0) := (show _ = _ by rw [h2]; rfl)
  have G3 := hid h3
  have G4 := hid h4
  obtain ⟨e1, na⟩ := okB_yes.1 h3
  obtain ⟨e2, nb⟩ := okB_yes.1 h4
  obtain ⟨e3, np, hp0⟩ := modB_yes h1
  obtain ⟨e4, nq, hq0⟩ := modB_yes h2
  subst e1 e2 e3 e4
  have R1 : Hid (decide (a < p) = false) := decide_eq_false h5
  clear h1 h2 h3 h4 h5 hp0 hq0
  obtain ⟨b0, b1, b2, b3, bw⟩ := boxes4 w (.slice A (nw a) c1) (.slice A2 (nw p) c2) (.slice A3 (nw b) c3) (.slice A4 (nw q) c4)
  have XA := VB.mk (B := w.heap.size) (a := a) b0 (.inl hA) bw (Nat.le_refl _) (by omega)
  have XP := VB.mk (B := w.heap.size) (a := p) b1 (.inl hP) bw (Nat.le_refl _) (by omega)
  have XB := VB.mk (B := w.heap.size) (a := b) b2 (.inl hB) bw (Nat.le_refl _) (by omega)
  have XQ := VB.mk (B := w.heap.size) (a := q) b3 (.inl hQ) bw (Nat.le_refl _) (by omega)
  have WW := bw
  clear bw b0 b1 b2 b3
  go_enter Try.func6, Try.ntmps6
  go_wp2_with fail
  generalize hV : ((((w.alloc (.cells #[.slice A (nw a) c1] 24)).alloc (.cells #[.slice A2 (nw p) c2] 24)).alloc (.cells #[.slice A3 (nw b) c3] 24)).alloc (.cells #[.slice A4 (nw q) c4] 24)) = V0 at XA XP XB XQ WW ⊢
  clear hV
  have hbs : w.heap.size ≤ V0.heap.size := WW.size
  have hc := awake_any V0
  refine hc.mono ?_
  clear hc
  rintro e V1 ⟨rfl, hb⟩
  replace XA := XA.below hb
  replace XP := XP.below hb
  replace XB := XB.below hb
  replace XQ := XQ.below hb
  replace WW := WW.trans (hb.mono WW.size)
  have kXA := XA.cell
  have zXA := XA.lt
  have kXP := XP.cell
  have zXP := XP.lt
  have kXB := XB.cell
  have zXB := XB.lt
  have kXQ := XQ.cell
  have zXQ := XQ.lt
  clear hb hbs
  go_wp2_with fail
  have hbs : w.heap.size ≤ V1.heap.size := WW.size
  have hc := few_n4 40 (by omega) V1 A A2 A3 A4 (nw a) (nw p) (nw b) (nw q) c1 c2 c3 c4 (by omega) (by omega) (by omega) (by omega)
  rw [HG.out] at hc
  refine hc.mono ?_
  clear hc
  rintro e V2 ⟨rfl, hb⟩
  clear kXA zXA kXP zXP kXB zXB kXQ zXQ
  replace XA := XA.below hb
  replace XP := XP.below hb
  replace XB := XB.below hb
  replace XQ := XQ.below hb
  replace WW := WW.trans (hb.mono WW.size)
  have kXA := XA.cell
  have zXA := XA.lt
  have kXP := XP.cell
  have zXP := XP.lt
  have kXB := XB.cell
  have zXB := XB.lt
  have kXQ := XQ.cell
  have zXQ := XQ.lt
  clear hb hbs
  go_wp2_with fail
  have hbs : w.heap.size ≤ V2.heap.size := WW.size
  have hc := few_n2 6 (by omega) V2 A2 A4 (nw p) (nw q) c2 c4 (by omega) (by omega)
  rw [HG6.out] at hc
  refine hc.mono ?_
  clear hc
  rintro e V3 ⟨rfl, hb⟩
  clear kXA zXA kXP zXP kXB zXB kXQ zXQ
  replace XA := XA.below hb
  replace XP := XP.below hb
  replace XB := XB.below hb
  replace XQ := XQ.below hb
  replace WW := WW.trans (hb.mono WW.size)
  have kXA := XA.cell
  have zXA := XA.lt
  have kXP := XP.cell
  have zXP := XP.lt
  have kXB := XB.cell
  have zXB := XB.lt
  have kXQ := XQ.cell
  have zXQ := XQ.lt
  clear hb hbs
  go_wp2_with fail
  have hbs : w.heap.size ≤ V3.heap.size := WW.size
  have hc := ncrt_any A A2 A3 A4 _ _ _ _ c1 c2 c3 c4 a p b q V3 XA.num XP.num XB.num XQ.num (by omega) (by omega) (by omega) (by omega)
  rw [HV.out] at hc
  refine hc.mono ?_
  clear hc
  rintro e V4 ⟨v, rfl, hv, hb⟩
  clear kXA zXA kXP zXP kXB zXB kXQ zXQ
  replace XA := XA.below hb
  replace XP := XP.below hb
  replace XB := XB.below hb
  replace XQ := XQ.below hb
  replace WW := WW.trans (hb.mono WW.size)
  obtain ⟨D1, d1, rfl, ho⟩ := hv
  have O1 := ho.weak (b := w.heap.size) hbs
  clear ho
  have kXA := XA.cell
  have zXA := XA.lt
  have kXP := XP.cell
  have zXP := XP.lt
  have kXB := XB.cell
  have zXB := XB.lt
  have kXQ := XQ.cell
  have zXQ := XQ.lt
  clear hb hbs
  go_wp2_with fail
  obtain ⟨b0, bw⟩ := boxes1 V4 (.slice D1 (nw 0) d1)
  have hbs := WW.size
  clear kXA zXA kXP zXP kXB zXB kXQ zXQ
  have qXQ5 := XQ.lt
  have X1 := VB.mk (B := w.heap.size) (a := 0) b0 (.inr O1) bw hbs (by omega)
  replace XA := XA.below bw
  replace XP := XP.below bw
  replace XB := XB.below bw
  replace XQ := XQ.below bw
  replace O1 := O1.below bw (Nat.le_refl _)
  replace WW := WW.trans (bw.mono WW.size)
  clear bw hbs b0
  generalize hV : (V4.alloc (.cells #[.slice D1 (nw 0) d1] 24)) = V5 at XA XP XB XQ X1 O1 WW ⊢
  clear hV
  have kXA := XA.cell
  have zXA := XA.lt
  have kXP := XP.cell
  have zXP := XP.lt
  have kXB := XB.cell
  have zXB := XB.lt
  have kXQ := XQ.cell
  have zXQ := XQ.lt
  have kX1 := X1.cell
  have zX1 := X1.lt
  have hbs : w.heap.size ≤ V5.heap.size := WW.size
  have hc := first_a0 V5 _ p c2 A2 XP.num (by omega)
  rw [M1.out] at hc
  refine hc.mono ?_
  clear hc
  rintro e V6 ⟨rfl, hb⟩
  clear kXA zXA kXP zXP kXB zXB kXQ zXQ kX1 zX1
  replace XA := XA.below hb
  replace XP := XP.below hb
  replace XB := XB.below hb
  replace XQ := XQ.below hb
  replace X1 := X1.below hb
  replace O1 := O1.below hb (Nat.le_refl _)
  replace WW := WW.trans (hb.mono WW.size)
  have kXA := XA.cell
  have zXA := XA.lt
  have kXP := XP.cell
  have zXP := XP.lt
  have kXB := XB.cell
  have zXB := XB.lt
  have kXQ := XQ.cell
  have zXQ := XQ.lt
  have kX1 := X1.cell
  have zX1 := X1.lt
  clear hb hbs
  go_wp2_with fail
  have hbs : w.heap.size ≤ V6.heap.size := WW.size
  have hc := first_a0 V6 _ q c4 A4 XQ.num (by omega)
  rw [M2.out] at hc
  refine hc.mono ?_
  clear hc
  rintro e V7 ⟨rfl, hb⟩
  clear kXA zXA kXP zXP kXB zXB kXQ zXQ kX1 zX1
  replace XA := XA.below hb
  replace XP := XP.below hb
  replace XB := XB.below hb
  replace XQ := XQ.below hb
  replace X1 := X1.below hb
  replace O1 := O1.below hb (Nat.le_refl _)
  replace WW := WW.trans (hb.mono WW.size)
  have kXA := XA.cell
  have zXA := XA.lt
  have kXP := XP.cell
  have zXP := XP.lt
  have kXB := XB.cell
  have zXB := XB.lt
  have kXQ := XQ.cell
  have zXQ := XQ.lt
  have kX1 := X1.cell
  have zX1 := X1.lt
  clear hb hbs
  go_wp2_with fail
  have hbs : w.heap.size ≤ V7.heap.size := WW.size
  have hc := rvalid_any A _ c1 a _ V7 XA.num (Nat.le_refl _) (by omega)
  rw [G3.out] at hc
  refine hc.mono ?_
  clear hc
  rintro e V8 ⟨rfl, hb⟩
  clear kXA zXA kXP zXP kXB zXB kXQ zXQ kX1 zX1
  replace XA := XA.below hb
  replace XP := XP.below hb
  replace XB := XB.below hb
  replace XQ := XQ.below hb
  replace X1 := X1.below hb
  replace O1 := O1.below hb (Nat.le_refl _)
  replace WW := WW.trans (hb.mono WW.size)
  have kXA := XA.cell
  have zXA := XA.lt
  have kXP := XP.cell
  have zXP := XP.lt
  have kXB := XB.cell
  have zXB := XB.lt
  have kXQ := XQ.cell
  have zXQ := XQ.lt
  have kX1 := X1.cell
  have zX1 := X1.lt
  clear hb hbs
  go_wp2_with fail
  have hbs : w.heap.size ≤ V8.heap.size := WW.size
  have hc := rvalid_any A3 _ c3 b _ V8 XB.num (Nat.le_refl _) (by omega)
  rw [G4.out] at hc
  refine hc.mono ?_
  clear hc
  rintro e V9 ⟨rfl, hb⟩
  clear kXA zXA kXP zXP kXB zXB kXQ zXQ kX1 zX1
  replace XA := XA.below hb
  replace XP := XP.below hb
  replace XB := XB.below hb
  replace XQ := XQ.below hb
  replace X1 := X1.below hb
  replace O1 := O1.below hb (Nat.le_refl _)
  replace WW := WW.trans (hb.mono WW.size)
  have kXA := XA.cell
  have zXA := XA.lt
  have kXP := XP.cell
  have zXP := XP.lt
  have kXB := XB.cell
  have zXB := XB.lt
  have kXQ := XQ.cell
  have zXQ := XQ.lt
  have kX1 := X1.cell
  have zX1 := X1.lt
  clear hb hbs
  go_wp2_with fail
  have hbs : w.heap.size ≤ V9.heap.size := WW.size
  have hc := less3_any A A2 c1 c2 a p V9 XA.num XP.num (by omega) (by omega)
  rw [R1.out] at hc
  refine hc.mono ?_
  clear hc
  rintro e V10 ⟨rfl, hb⟩
  clear kXA zXA kXP zXP kXB zXB kXQ zXQ kX1 zX1
  replace XA := XA.below hb
  replace XP := XP.below hb
  replace XB := XB.below hb
  replace XQ := XQ.below hb
  replace X1 := X1.below hb
  replace O1 := O1.below hb (Nat.le_refl _)
  replace WW := WW.trans (hb.mono WW.size)
  have kXA := XA.cell
  have zXA := XA.lt
  have kXP := XP.cell
  have zXP := XP.lt
  have kXB := XB.cell
  have zXB := XB.lt
  have kXQ := XQ.cell
  have zXQ := XQ.lt
  have kX1 := X1.cell
  have zX1 := X1.lt
  clear hb hbs
  go_wp2_with fail
  go_ret
  exact ⟨rfl, WW⟩

set_option maxHeartbeats 16000000 in
set_option maxRecDepth 100000 in
theorem crtl_r2f (A A2 A3 A4 : Option Addr) (n k j l c1 c2 c3 c4 a p b q : Nat) (w : World) (hA : Num w w.heap.size A n a) (hP : Num w w.heap.size A2 k p) (hB : Num w w.heap.size A3 j b) (hQ : Num w w.heap.size A4 l q) (hn : n ≤ 9223372036854775807) (hk : k ≤ 9223372036854775807) (hj : j ≤ 9223372036854775807) (hl : l ≤ 9223372036854775807) (hg : n ≤ 40 ∧ k ≤ 40 ∧ j ≤ 40 ∧ l ≤ 40) (hg6 : k ≤ 6 ∧ l ≤ 6) (h1 : modB k p = true) (h2 : modB l q = true) (h3 : okB n a = true) (h4 : okB j b = true) (h5 : a < p) (h6 : ¬ b < q) :
    Calls Try.prog 6 #[.agg #[.slice A n c1], .agg #[.slice A2 k c2], .agg #[.slice A3 j c3], .agg #[.slice A4 l c4]] w (RetB (.bool true) w) := by
  have HG : Hid (decide (n ≤ 40 ∧ k ≤ 40 ∧ j ≤ 40 ∧ l ≤ 40) = true) := decide_eq_true hg
  have HG6 : Hid (decide (k ≤ 6 ∧ l ≤ 6) = true) := decide_eq_true hg6
  have hk40 := hg.2.1
  have hl40 := hg.2.2.2
  have hn40 := hg.1
  have hj40 := hg.2.2.1
  have z0 : (((nw 0 : Nat) : Int) == 0) = true := rfl
  have z00 : (((nw 0 : Nat) : Int) != 0) = false := rfl
  have s2 : (k : Int) + (l : Int) ≤ 33 := by omega
  have HV0 : crtV n a k p j b l q = (0, 2) := by unfold crtV; rw [h1, h2, h3, h4, if_pos (show (true && (true && (true && true))) = true from rfl), if_neg (fun h : a < p ∧ b < q => h6 h.2)]
  have HV := hid HV0
  clear HV0 hg hg6
  have M1 : Hid ((if modB k p = true then (0 : Int) else 1) = 0) := (show _ = _ by rw [h1]; rfl)
  have M2 : Hid ((if modB l q = true then (0 : Int) else 1) = 0) := (show _ = _ by rw [h2]; rfl)
  have G3 := hid h3
  have G4 := hid h4
  obtain ⟨e1, na⟩ := okB_yes.1 h3
  obtain ⟨e2, nb⟩ := okB_yes.1 h4
  obtain ⟨e3, np, hp0⟩ := modB_yes h1
  obtain ⟨e4, nq, hq0⟩ := modB_yes h2
  subst e1 e2 e3 e4
  have R1 : Hid (decide (a < p) = true) := decide_eq_true h5
  have R2 : Hid (decide (b < q) = false) := decide_eq_false h6
  clear h1 h2 h3 h4 h5 h6 hp0 hq0
  obtain ⟨b0, b1, b2, b3, bw⟩ := boxes4 w (.slice A (nw a) c1) (.slice A2 (nw p) c2) (.slice A3 (nw b) c3) (.slice A4 (nw q) c4)
  have XA := VB.mk (B := w.heap.size) (a := a) b0 (.inl hA) bw (Nat.le_refl _) (by omega)
  have XP := VB.mk (B := w.heap.size) (a := p) b1 (.inl hP) bw (Nat.le_refl _) (by omega)
  have XB := VB.mk (B := w.heap.size) (a := b) b2 (.inl hB) bw (Nat.le_refl _) (by omega)
  have XQ := VB.mk (B := w.heap.size) (a := q) b3 (.inl hQ) bw (Nat.le_refl _) (by omega)
  have WW := bw
  clear bw b0 b1 b2 b3
  go_enter Try.func6, Try.ntmps6
  go_wp2_with fail
  generalize hV : ((((w.alloc (.cells #[.slice A (nw a) c1] 24)).alloc (.cells #[.slice A2 (nw p) c2] 24)).alloc (.cells #[.slice A3 (nw b) c3] 24)).alloc (.cells #[.slice A4 (nw q) c4] 24)) = V0 at XA XP XB XQ WW ⊢
  clear hV
  have hbs : w.heap.size ≤ V0.heap.size := WW.size
  have hc := awake_any V0
  refine hc.mono ?_
  clear hc
  rintro e V1 ⟨rfl, hb⟩
  replace XA := XA.below hb
  replace XP := XP.below hb
  replace XB := XB.below hb
  replace XQ := XQ.below hb
  replace WW := WW.trans (hb.mono WW.size)
  have kXA := XA.cell
  have zXA := XA.lt
  have kXP := XP.cell
  have zXP := XP.lt
  have kXB := XB.cell
  have zXB := XB.lt
  have kXQ := XQ.cell
  have zXQ := XQ.lt
  clear hb hbs
  go_wp2_with fail
  have hbs : w.heap.size ≤ V1.heap.size := WW.size
  have hc := few_n4 40 (by omega) V1 A A2 A3 A4 (nw a) (nw p) (nw b) (nw q) c1 c2 c3 c4 (by omega) (by omega) (by omega) (by omega)
  rw [HG.out] at hc
  refine hc.mono ?_
  clear hc
  rintro e V2 ⟨rfl, hb⟩
  clear kXA zXA kXP zXP kXB zXB kXQ zXQ
  replace XA := XA.below hb
  replace XP := XP.below hb
  replace XB := XB.below hb
  replace XQ := XQ.below hb
  replace WW := WW.trans (hb.mono WW.size)
  have kXA := XA.cell
  have zXA := XA.lt
  have kXP := XP.cell
  have zXP := XP.lt
  have kXB := XB.cell
  have zXB := XB.lt
  have kXQ := XQ.cell
  have zXQ := XQ.lt
  clear hb hbs
  go_wp2_with fail
  have hbs : w.heap.size ≤ V2.heap.size := WW.size
  have hc := few_n2 6 (by omega) V2 A2 A4 (nw p) (nw q) c2 c4 (by omega) (by omega)
  rw [HG6.out] at hc
  refine hc.mono ?_
  clear hc
  rintro e V3 ⟨rfl, hb⟩
  clear kXA zXA kXP zXP kXB zXB kXQ zXQ
  replace XA := XA.below hb
  replace XP := XP.below hb
  replace XB := XB.below hb
  replace XQ := XQ.below hb
  replace WW := WW.trans (hb.mono WW.size)
  have kXA := XA.cell
  have zXA := XA.lt
  have kXP := XP.cell
  have zXP := XP.lt
  have kXB := XB.cell
  have zXB := XB.lt
  have kXQ := XQ.cell
  have zXQ := XQ.lt
  clear hb hbs
  go_wp2_with fail
  have hbs : w.heap.size ≤ V3.heap.size := WW.size
  have hc := ncrt_any A A2 A3 A4 _ _ _ _ c1 c2 c3 c4 a p b q V3 XA.num XP.num XB.num XQ.num (by omega) (by omega) (by omega) (by omega)
  rw [HV.out] at hc
  refine hc.mono ?_
  clear hc
  rintro e V4 ⟨v, rfl, hv, hb⟩
  clear kXA zXA kXP zXP kXB zXB kXQ zXQ
  replace XA := XA.below hb
  replace XP := XP.below hb
  replace XB := XB.below hb
  replace XQ := XQ.below hb
  replace WW := WW.trans (hb.mono WW.size)
  obtain ⟨D1, d1, rfl, ho⟩ := hv
  have O1 := ho.weak (b := w.heap.size) hbs
  clear ho
  have kXA := XA.cell
  have zXA := XA.lt
  have kXP := XP.cell
  have zXP := XP.lt
  have kXB := XB.cell
  have zXB := XB.lt
  have kXQ := XQ.cell
  have zXQ := XQ.lt
  clear hb hbs
  go_wp2_with fail
  obtain ⟨b0, bw⟩ := boxes1 V4 (.slice D1 (nw 0) d1)
  have hbs := WW.size
  clear kXA zXA kXP zXP kXB zXB kXQ zXQ
  have qXQ5 := XQ.lt
  have X1 := VB.mk (B := w.heap.size) (a := 0) b0 (.inr O1) bw hbs (by omega)
  replace XA := XA.below bw
  replace XP := XP.below bw
  replace XB := XB.below bw
  replace XQ := XQ.below bw
  replace O1 := O1.below bw (Nat.le_refl _)
  replace WW := WW.trans (bw.mono WW.size)
  clear bw hbs b0
  generalize hV : (V4.alloc (.cells #[.slice D1 (nw 0) d1] 24)) = V5 at XA XP XB XQ X1 O1 WW ⊢
  clear hV
  have kXA := XA.cell
  have zXA := XA.lt
  have kXP := XP.cell
  have zXP := XP.lt
  have kXB := XB.cell
  have zXB := XB.lt
  have kXQ := XQ.cell
  have zXQ := XQ.lt
  have kX1 := X1.cell
  have zX1 := X1.lt
  have hbs : w.heap.size ≤ V5.heap.size := WW.size
  have hc := first_a0 V5 _ p c2 A2 XP.num (by omega)
  rw [M1.out] at hc
  refine hc.mono ?_
  clear hc
  rintro e V6 ⟨rfl, hb⟩
  clear kXA zXA kXP zXP kXB zXB kXQ zXQ kX1 zX1
  replace XA := XA.below hb
  replace XP := XP.below hb
  replace XB := XB.below hb
  replace XQ := XQ.below hb
  replace X1 := X1.below hb
  replace O1 := O1.below hb (Nat.le_refl _)
  replace WW := WW.trans (hb.mono WW.size)
  have kXA := XA.cell
  have zXA := XA.lt
  have kXP := XP.cell
  have zXP := XP.lt
  have kXB := XB.cell
  have zXB := XB.lt
  have kXQ := XQ.cell
  have zXQ := XQ.lt
  have kX1 := X1.cell
  have zX1 := X1.lt
  clear hb hbs
  go_wp2_with fail
  have hbs : w.heap.size ≤ V6.heap.size := WW.size
  have hc := first_a0 V6 _ q c4 A4 XQ.num (by omega)
  rw [M2.out] at hc
  refine hc.mono ?_
  clear hc
  rintro e V7 ⟨rfl, hb⟩
  clear kXA zXA kXP zXP kXB zXB kXQ zXQ kX1 zX1
  replace XA := XA.below hb
  replace XP := XP.below hb
  replace XB := XB.below hb
  replace XQ := XQ.below hb
  replace X1 := X1.below hb
  replace O1 := O1.below hb (Nat.le_refl _)
  replace WW := WW.trans (hb.mono WW.size)
  have kXA := XA.cell
  have zXA := XA.lt
  have kXP := XP.cell
  have zXP := XP.lt
  have kXB := XB.cell
  have zXB := XB.lt
  have kXQ := XQ.cell
  have zXQ := XQ.lt
  have kX1 := X1.cell
  have zX1 := X1.lt
  clear hb hbs
  go_wp2_with fail
  have hbs : w.heap.size ≤ V7.heap.size := WW.size
  have hc := rvalid_any A _ c1 a _ V7 XA.num (Nat.le_refl _) (by omega)
  rw [G3.out] at hc
  refine hc.mono ?_
  clear hc
  rintro e V8 ⟨rfl, hb⟩
  clear kXA zXA kXP zXP kXB zXB kXQ zXQ kX1 zX1
  replace XA := XA.below hb
  replace XP := XP.below hb
  replace XB := XB.below hb
  replace XQ := XQ.below hb
  replace X1 := X1.below hb
  replace O1 := O1.below hb (Nat.le_refl _)
  replace WW := WW.trans (hb.mono WW.size)
  have kXA := XA.cell
  have zXA := XA.lt
  have kXP := XP.cell
  have zXP := XP.lt
  have kXB := XB.cell
  have zXB := XB.lt
  have kXQ := XQ.cell
  have zXQ := XQ.lt
  have kX1 := X1.cell
  have zX1 := X1.lt
  clear hb hbs
  go_wp2_with fail
  have hbs : w.heap.size ≤ V8.heap.size := WW.size
  have hc := rvalid_any A3 _ c3 b _ V8 XB.num (Nat.le_refl _) (by omega)
  rw [G4.out] at hc
  refine hc.mono ?_
  clear hc
  rintro e V9 ⟨rfl, hb⟩
  clear kXA zXA kXP zXP kXB zXB kXQ zXQ kX1 zX1
  replace XA := XA.below hb
  replace XP := XP.below hb
  replace XB := XB.below hb
  replace XQ := XQ.below hb
  replace X1 := X1.below hb
  replace O1 := O1.below hb (Nat.le_refl _)
  replace WW := WW.trans (hb.mono WW.size)
  have kXA := XA.cell
  have zXA := XA.lt
  have kXP := XP.cell
  have zXP := XP.lt
  have kXB := XB.cell
  have zXB := XB.lt
  have kXQ := XQ.cell
  have zXQ := XQ.lt
  have kX1 := X1.cell
  have zX1 := X1.lt
  clear hb hbs
  go_wp2_with fail
  have hbs : w.heap.size ≤ V9.heap.size := WW.size
  have hc := less3_any A A2 c1 c2 a p V9 XA.num XP.num (by omega) (by omega)
  rw [R1.out] at hc
  refine hc.mono ?_
  clear hc
  rintro e V10 ⟨rfl, hb⟩
  clear kXA zXA kXP zXP kXB zXB kXQ zXQ kX1 zX1
  replace XA := XA.below hb
  replace XP := XP.below hb
  replace XB := XB.below hb
  replace XQ := XQ.below hb
  replace X1 := X1.below hb
  replace O1 := O1.below hb (Nat.le_refl _)
  replace WW := WW.trans (hb.mono WW.size)
  have kXA := XA.cell
  have zXA := XA.lt
  have kXP := XP.cell
  have zXP := XP.lt
  have kXB := XB.cell
  have zXB := XB.lt
  have kXQ := XQ.cell
  have zXQ := XQ.lt
  have kX1 := X1.cell
  have zX1 := X1.lt
  clear hb hbs
  go_wp2_with fail
  have hbs : w.heap.size ≤ V10.heap.size := WW.size
  have hc := less3_any A3 A4 c3 c4 b q V10 XB.num XQ.num (by omega) (by omega)
  rw [R2.out] at hc
  refine hc.mono ?_
  clear hc
  rintro e V11 ⟨rfl, hb⟩
  clear kXA zXA kXP zXP kXB zXB kXQ zXQ kX1 zX1
  replace XA := XA.below hb
  replace XP := XP.below hb
  replace XB := XB.below hb
  replace XQ := XQ.below hb
  replace X1 := X1.below hb
  replace O1 := O1.below hb (Nat.le_refl _)
  replace WW := WW.trans (hb.mono WW.size)
  have kXA := XA.cell
  have zXA := XA.lt
  have kXP := XP.cell
  have zXP := XP.lt
  have kXB := XB.cell
  have zXB := XB.lt
  have kXQ := XQ.cell
  have zXQ := XQ.lt
  have kX1 := X1.cell
  have zX1 := X1.lt
  clear hb hbs
  go_wp2_with fail
  go_ret
  exact ⟨rfl, WW⟩

set_option maxHeartbeats 16000000 in
set_option maxRecDepth 100000 in
theorem crtl_zf (A A2 A3 A4 : Option Addr) (n k j l c1 c2 c3 c4 a p b q : Nat) (w : World) (hA : Num w w.heap.size A n a) (hP : Num w w.heap.size A2 k p) (hB : Num w w.heap.size A3 j b) (hQ : Num w w.heap.size A4 l q) (hn : n ≤ 9223372036854775807) (hk : k ≤ 9223372036854775807) (hj : j ≤ 9223372036854775807) (hl : l ≤ 9223372036854775807) (hg : n ≤ 40 ∧ k ≤ 40 ∧ j ≤ 40 ∧ l ≤ 40) (hg6 : k ≤ 6 ∧ l ≤ 6) (h1 : modB k p = true) (h2 : modB l q = true) (h3 : okB n a = true) (h4 : okB j b = true) (h5 : a < p) (h6 : b < q) (h7 : ¬ Nat.gcd p q = 1) :
    Calls Try.prog 6 #[.agg #[.slice A n c1], .agg #[.slice A2 k c2], .agg #[.slice A3 j c3], .agg #[.slice A4 l c4]] w (RetB (.bool true) w) := by
  have HG : Hid (decide (n ≤ 40 ∧ k ≤ 40 ∧ j ≤ 40 ∧ l ≤ 40) = true) := decide_eq_true hg
  have HG6 : Hid (decide (k ≤ 6 ∧ l ≤ 6) = true) := decide_eq_true hg6
  have hk40 := hg.2.1
  have hl40 := hg.2.2.2
  have hn40 := hg.1
  have hj40 := hg.2.2.1
  have z0 : (((nw 0 : Nat) : Int) == 0) = true := rfl
  have z00 : (((nw 0 : Nat) : Int) != 0) = false := rfl
  have s2 : (k : Int) + (l : Int) ≤ 33 := by omega
  have HV0 : crtV n a k p j b l q = (0, 10) := by unfold crtV; rw [h1, h2, h3, h4, if_pos (show (true && (true && (true && true))) = true from rfl), if_pos ⟨h5, h6⟩, if_neg h7]
  have HV := hid HV0
  clear HV0 hg hg6
  have M1 : Hid ((if modB k p = true then (0 : Int) else 1) = 0) := (show _ = _ by rw [h1]; rfl)
  have M2 : Hid ((if modB l q = true then (0 : Int) else 1) = 0) := (show _ = _ by rw [h2]; rfl)
  have G3 := hid h3
  have G4 := hid h4
  obtain ⟨e1, na⟩ := okB_yes.1 h3
  obtain ⟨e2, nb⟩ := okB_yes.1 h4
  obtain ⟨e3, np, hp0⟩ := modB_yes h1
  obtain ⟨e4, nq, hq0⟩ := modB_yes h2
  subst e1 e2 e3 e4
  have R1 : Hid (decide (a < p) = true) := decide_eq_true h5
  have R2 : Hid (decide (b < q) = true) := decide_eq_true h6
  obtain ⟨gg, hgg⟩ : ∃ z, z = Nat.gcd p q := ⟨_, rfl⟩
  have HGG := hid hgg
  have ngg : nw gg ≤ 32 := Nat.le_trans (nw_mono (by rw [hgg]; exact Nat.le_of_dvd hp0 (Nat.gcd_dvd_left p q))) np
  have GT : Hid (decide (gg = 1) = false) := decide_eq_false (by rw [hgg]; exact h7)
  have hap := hid h5
  have hbq := hid h6
  have hG7 := hid h7
  clear hgg
  clear h1 h2 h3 h4 h5 h6 h7 hp0 hq0
  obtain ⟨b0, b1, b2, b3, bw⟩ := boxes4 w (.slice A (nw a) c1) (.slice A2 (nw p) c2) (.slice A3 (nw b) c3) (.slice A4 (nw q) c4)
  have XA := VB.mk (B := w.heap.size) (a := a) b0 (.inl hA) bw (Nat.le_refl _) (by omega)
  have XP := VB.mk (B := w.heap.size) (a := p) b1 (.inl hP) bw (Nat.le_refl _) (by omega)
  have XB := VB.mk (B := w.heap.size) (a := b) b2 (.inl hB) bw (Nat.le_refl _) (by omega)
  have XQ := VB.mk (B := w.heap.size) (a := q) b3 (.inl hQ) bw (Nat.le_refl _) (by omega)
  have WW := bw
  clear bw b0 b1 b2 b3
  go_enter Try.func6, Try.ntmps6
  go_wp2_with fail
  generalize hV : ((((w.alloc (.cells #[.slice A (nw a) c1] 24)).alloc (.cells #[.slice A2 (nw p) c2] 24)).alloc (.cells #[.slice A3 (nw b) c3] 24)).alloc (.cells #[.slice A4 (nw q) c4] 24)) = V0 at XA XP XB XQ WW ⊢
  clear hV
  have hbs : w.heap.size ≤ V0.heap.size := WW.size
  have hc := awake_any V0
  refine hc.mono ?_
  clear hc
  rintro e V1 ⟨rfl, hb⟩
  replace XA := XA.below hb
  replace XP := XP.below hb
  replace XB := XB.below hb
  replace XQ := XQ.below hb
  replace WW := WW.trans (hb.mono WW.size)
  have kXA := XA.cell
  have zXA := XA.lt
  have kXP := XP.cell
  have zXP := XP.lt
  have kXB := XB.cell
  have zXB := XB.lt
  have kXQ := XQ.cell
  have zXQ := XQ.lt
  clear hb hbs
  go_wp2_with fail
  have hbs : w.heap.size ≤ V1.heap.size := WW.size
  have hc := few_n4 40 (by omega) V1 A A2 A3 A4 (nw a) (nw p) (nw b) (nw q) c1 c2 c3 c4 (by omega) (by omega) (by omega) (by omega)
  rw [HG.out] at hc
  refine hc.mono ?_
  clear hc
  rintro e V2 ⟨rfl, hb⟩
  clear kXA zXA kXP zXP kXB zXB kXQ zXQ
  replace XA := XA.below hb
  replace XP := XP.below hb
  replace XB := XB.below hb
  replace XQ := XQ.below hb
  replace WW := WW.trans (hb.mono WW.size)
  have kXA := XA.cell
  have zXA := XA.lt
  have kXP := XP.cell
  have zXP := XP.lt
  have kXB := XB.cell
  have zXB := XB.lt
  have kXQ := XQ.cell
  have zXQ := XQ.lt
  clear hb hbs
  go_wp2_with fail
  have hbs : w.heap.size ≤ V2.heap.size := WW.size
  have hc := few_n2 6 (by omega) V2 A2 A4 (nw p) (nw q) c2 c4 (by omega) (by omega)
  rw [HG6.out] at hc
  refine hc.mono ?_
  clear hc
  rintro e V3 ⟨rfl, hb⟩
  clear kXA zXA kXP zXP kXB zXB kXQ zXQ
  replace XA := XA.below hb
  replace XP := XP.below hb
  replace XB := XB.below hb
  replace XQ := XQ.below hb
  replace WW := WW.trans (hb.mono WW.size)
  have kXA := XA.cell
  have zXA := XA.lt
  have kXP := XP.cell
  have zXP := XP.lt
  have kXB := XB.cell
  have zXB := XB.lt
  have kXQ := XQ.cell
  have zXQ := XQ.lt
  clear hb hbs
  go_wp2_with fail
  have hbs : w.heap.size ≤ V3.heap.size := WW.size
  have hc := ncrt_any A A2 A3 A4 _ _ _ _ c1 c2 c3 c4 a p b q V3 XA.num XP.num XB.num XQ.num (by omega) (by omega) (by omega) (by omega)
  rw [HV.out] at hc
  refine hc.mono ?_
  clear hc
  rintro e V4 ⟨v, rfl, hv, hb⟩
  clear kXA zXA kXP zXP kXB zXB kXQ zXQ
  replace XA := XA.below hb
  replace XP := XP.below hb
  replace XB := XB.below hb
  replace XQ := XQ.below hb
  replace WW := WW.trans (hb.mono WW.size)
  obtain ⟨D1, d1, rfl, ho⟩ := hv
  have O1 := ho.weak (b := w.heap.size) hbs
  clear ho
  have kXA := XA.cell
  have zXA := XA.lt
  have kXP := XP.cell
  have zXP := XP.lt
  have kXB := XB.cell
  have zXB := XB.lt
  have kXQ := XQ.cell
  have zXQ := XQ.lt
  clear hb hbs
  go_wp2_with fail
  obtain ⟨b0, bw⟩ := boxes1 V4 (.slice D1 (nw 0) d1)
  have hbs := WW.size
  clear kXA zXA kXP zXP kXB zXB kXQ zXQ
  have qXQ5 := XQ.lt
  have X1 := VB.mk (B := w.heap.size) (a := 0) b0 (.inr O1) bw hbs (by omega)
  replace XA := XA.below bw
  replace XP := XP.below bw
  replace XB := XB.below bw
  replace XQ := XQ.below bw
  replace O1 := O1.below bw (Nat.le_refl _)
  replace WW := WW.trans (bw.mono WW.size)
  clear bw hbs b0
  generalize hV : (V4.alloc (.cells #[.slice D1 (nw 0) d1] 24)) = V5 at XA XP XB XQ X1 O1 WW ⊢
  clear hV
  have kXA := XA.cell
  have zXA := XA.lt
  have kXP := XP.cell
  have zXP := XP.lt
  have kXB := XB.cell
  have zXB := XB.lt
  have kXQ := XQ.cell
  have zXQ := XQ.lt
  have kX1 := X1.cell
  have zX1 := X1.lt
  have hbs : w.heap.size ≤ V5.heap.size := WW.size
  have hc := first_a0 V5 _ p c2 A2 XP.num (by omega)
  rw [M1.out] at hc
  refine hc.mono ?_
  clear hc
  rintro e V6 ⟨rfl, hb⟩
  clear kXA zXA kXP zXP kXB zXB kXQ zXQ kX1 zX1
  replace XA := XA.below hb
  replace XP := XP.below hb
  replace XB := XB.below hb
  replace XQ := XQ.below hb
  replace X1 := X1.below hb
  replace O1 := O1.below hb (Nat.le_refl _)
  replace WW := WW.trans (hb.mono WW.size)
  have kXA := XA.cell
  have zXA := XA.lt
  have kXP := XP.cell
  have zXP := XP.lt
  have kXB := XB.cell
  have zXB := XB.lt
  have kXQ := XQ.cell
  have zXQ := XQ.lt
  have kX1 := X1.cell
  have zX1 := X1.lt
  clear hb hbs
  go_wp2_with fail
  have hbs : w.heap.size ≤ V6.heap.size := WW.size
  have hc := first_a0 V6 _ q c4 A4 XQ.num (by omega)
  rw [M2.out] at hc
  refine hc.mono ?_
  clear hc
  rintro e V7 ⟨rfl, hb⟩
  clear kXA zXA kXP zXP kXB zXB kXQ zXQ kX1 zX1
  replace XA := XA.below hb
  replace XP := XP.below hb
  replace XB := XB.below hb
  replace XQ := XQ.below hb
  replace X1 := X1.below hb
  replace O1 := O1.below hb (Nat.le_refl _)
  replace WW := WW.trans (hb.mono WW.size)
  have kXA := XA.cell
  have zXA := XA.lt
  have kXP := XP.cell
  have zXP := XP.lt
  have kXB := XB.cell
  have zXB := XB.lt
  have kXQ := XQ.cell
  have zXQ := XQ.lt
  have kX1 := X1.cell
  have zX1 := X1.lt
  clear hb hbs
  go_wp2_with fail
  have hbs : w.heap.size ≤ V7.heap.size := WW.size
  have hc := rvalid_any A _ c1 a _ V7 XA.num (Nat.le_refl _) (by omega)
  rw [G3.out] at hc
  refine hc.mono ?_
  clear hc
  rintro e V8 ⟨rfl, hb⟩
  clear kXA zXA kXP zXP kXB zXB kXQ zXQ kX1 zX1
  replace XA := XA.below hb
  replace XP := XP.below hb
  replace XB := XB.below hb
  replace XQ := XQ.below hb
  replace X1 := X1.below hb
  replace O1 := O1.below hb (Nat.le_refl _)
  replace WW := WW.trans (hb.mono WW.size)
  have kXA := XA.cell
  have zXA := XA.lt
  have kXP := XP.cell
  have zXP := XP.lt
  have kXB := XB.cell
  have zXB := XB.lt
  have kXQ := XQ.cell
  have zXQ := XQ.lt
  have kX1 := X1.cell
  have zX1 := X1.lt
  clear hb hbs
  go_wp2_with fail
  have hbs : w.heap.size ≤ V8.heap.size := WW.size
  have hc := rvalid_any A3 _ c3 b _ V8 XB.num (Nat.le_refl _) (by omega)
  rw [G4.out] at hc
  refine hc.mono ?_
  clear hc
  rintro e V9 ⟨rfl, hb⟩
  clear kXA zXA kXP zXP kXB zXB kXQ zXQ kX1 zX1
  replace XA := XA.below hb
  replace XP := XP.below hb
  replace XB := XB.below hb
  replace XQ := XQ.below hb
  replace X1 := X1.below hb
  replace O1 := O1.below hb (Nat.le_refl _)
  replace WW := WW.trans (hb.mono WW.size)
  have kXA := XA.cell
  have zXA := XA.lt
  have kXP := XP.cell
  have zXP := XP.lt
  have kXB := XB.cell
  have zXB := XB.lt
  have kXQ := XQ.cell
  have zXQ := XQ.lt
  have kX1 := X1.cell
  have zX1 := X1.lt
  clear hb hbs
  go_wp2_with fail
  have hbs : w.heap.size ≤ V9.heap.size := WW.size
  have hc := less3_any A A2 c1 c2 a p V9 XA.num XP.num (by omega) (by omega)
  rw [R1.out] at hc
  refine hc.mono ?_
  clear hc
  rintro e V10 ⟨rfl, hb⟩
  clear kXA zXA kXP zXP kXB zXB kXQ zXQ kX1 zX1
  replace XA := XA.below hb
  replace XP := XP.below hb
  replace XB := XB.below hb
  replace XQ := XQ.below hb
  replace X1 := X1.below hb
  replace O1 := O1.below hb (Nat.le_refl _)
  replace WW := WW.trans (hb.mono WW.size)
  have kXA := XA.cell
  have zXA := XA.lt
  have kXP := XP.cell
  have zXP := XP.lt
  have kXB := XB.cell
  have zXB := XB.lt
  have kXQ := XQ.cell
  have zXQ := XQ.lt
  have kX1 := X1.cell
  have zX1 := X1.lt
  clear hb hbs
  go_wp2_with fail
  have hbs : w.heap.size ≤ V10.heap.size := WW.size
  have hc := less3_any A3 A4 c3 c4 b q V10 XB.num XQ.num (by omega) (by omega)
  rw [R2.out] at hc
  refine hc.mono ?_
  clear hc
  rintro e V11 ⟨rfl, hb⟩
  clear kXA zXA kXP zXP kXB zXB kXQ zXQ kX1 zX1
  replace XA := XA.below hb
  replace XP := XP.below hb
  replace XB := XB.below hb
  replace XQ := XQ.below hb
  replace X1 := X1.below hb
  replace O1 := O1.below hb (Nat.le_refl _)
  replace WW := WW.trans (hb.mono WW.size)
  have kXA := XA.cell
  have zXA := XA.lt
  have kXP := XP.cell
  have zXP := XP.lt
  have kXB := XB.cell
  have zXB := XB.lt
  have kXQ := XQ.cell
  have zXQ := XQ.lt
  have kX1 := X1.cell
  have zX1 := X1.lt
  clear hb hbs
  go_wp2_with fail
  have hbs : w.heap.size ≤ V11.heap.size := WW.size
  have hc := rgcd_any A2 A4 c2 c4 p q V11 XP.num XQ.num (by omega) (by omega)
  rw [← HGG.out] at hc
  refine hc.mono ?_
  clear hc
  rintro e V12 ⟨D5, d5, rfl, hv, hb⟩
  clear kXA zXA kXP zXP kXB zXB kXQ zXQ kX1 zX1
  replace XA := XA.below hb
  replace XP := XP.below hb
  replace XB := XB.below hb
  replace XQ := XQ.below hb
  replace X1 := X1.below hb
  replace O1 := O1.below hb (Nat.le_refl _)
  replace WW := WW.trans (hb.mono WW.size)
  have N5 := hv.num hb.size
  clear hv
  have kXA := XA.cell
  have zXA := XA.lt
  have kXP := XP.cell
  have zXP := XP.lt
  have kXB := XB.cell
  have zXB := XB.lt
  have kXQ := XQ.cell
  have zXQ := XQ.lt
  have kX1 := X1.cell
  have zX1 := X1.lt
  clear hb hbs
  go_wp2_with fail
  have hbs : w.heap.size ≤ V12.heap.size := WW.size
  have hc := of3_1 V12
  refine hc.mono ?_
  clear hc
  rintro e V13 ⟨v, rfl, hv, hb⟩
  clear kXA zXA kXP zXP kXB zXB kXQ zXQ kX1 zX1
  replace XA := XA.below hb
  replace XP := XP.below hb
  replace XB := XB.below hb
  replace XQ := XQ.below hb
  replace X1 := X1.below hb
  replace O1 := O1.below hb (Nat.le_refl _)
  replace N5 := (N5.below hb).more hb.size
  replace WW := WW.trans (hb.mono WW.size)
  obtain ⟨D6, d6, rfl, ho⟩ := hv
  have O6 := ho.weak (b := w.heap.size) hbs
  clear ho
  have kXA := XA.cell
  have zXA := XA.lt
  have kXP := XP.cell
  have zXP := XP.lt
  have kXB := XB.cell
  have zXB := XB.lt
  have kXQ := XQ.cell
  have zXQ := XQ.lt
  have kX1 := X1.cell
  have zX1 := X1.lt
  clear hb hbs
  go_wp2_with fail
  have hbs : w.heap.size ≤ V13.heap.size := WW.size
  have hc := rsame31_any D5 D6 d5 d6 gg 1 V13 N5 O6.num (by omega) (by decide)
  rw [GT.out] at hc
  refine hc.mono ?_
  clear hc
  rintro e V14 ⟨rfl, hb⟩
  clear kXA zXA kXP zXP kXB zXB kXQ zXQ kX1 zX1
  replace XA := XA.below hb
  replace XP := XP.below hb
  replace XB := XB.below hb
  replace XQ := XQ.below hb
  replace X1 := X1.below hb
  replace O1 := O1.below hb (Nat.le_refl _)
  replace O6 := O6.below hb (Nat.le_refl _)
  replace N5 := (N5.below hb).more hb.size
  replace WW := WW.trans (hb.mono WW.size)
  have kXA := XA.cell
  have zXA := XA.lt
  have kXP := XP.cell
  have zXP := XP.lt
  have kXB := XB.cell
  have zXB := XB.lt
  have kXQ := XQ.cell
  have zXQ := XQ.lt
  have kX1 := X1.cell
  have zX1 := X1.lt
  clear hb hbs
  go_wp2_with fail
  go_ret
  exact ⟨rfl, WW⟩

set_option maxHeartbeats 16000000 in
set_option maxRecDepth 100000 in
theorem crtl_finf (A A2 A3 A4 : Option Addr) (n k j l c1 c2 c3 c4 a p b q : Nat) (w : World) (hA : Num w w.heap.size A n a) (hP : Num w w.heap.size A2 k p) (hB : Num w w.heap.size A3 j b) (hQ : Num w w.heap.size A4 l q) (hn : n ≤ 9223372036854775807) (hk : k ≤ 9223372036854775807) (hj : j ≤ 9223372036854775807) (hl : l ≤ 9223372036854775807) (hg : n ≤ 40 ∧ k ≤ 40 ∧ j ≤ 40 ∧ l ≤ 40) (hg6 : k ≤ 6 ∧ l ≤ 6) (h1 : modB k p = true) (h2 : modB l q = true) (h3 : okB n a = true) (h4 : okB j b = true) (h5 : a < p) (h6 : b < q) (h7 : Nat.gcd p q = 1) :
    Calls Try.prog 6 #[.agg #[.slice A n c1], .agg #[.slice A2 k c2], .agg #[.slice A3 j c3], .agg #[.slice A4 l c4]] w (RetB (.bool true) w) := by
  have HG : Hid (decide (n ≤ 40 ∧ k ≤ 40 ∧ j ≤ 40 ∧ l ≤ 40) = true) := decide_eq_true hg
  have HG6 : Hid (decide (k ≤ 6 ∧ l ≤ 6) = true) := decide_eq_true hg6
  have hk40 := hg.2.1
  have hl40 := hg.2.2.2
  have hn40 := hg.1
  have hj40 := hg.2.2.1
  have z0 : (((nw 0 : Nat) : Int) == 0) = true := rfl
  have z00 : (((nw 0 : Nat) : Int) != 0) = false := rfl
  have s2 : (k : Int) + (l : Int) ≤ 33 := by omega
  obtain ⟨e3, np, hp0⟩ := modB_yes h1
  obtain ⟨e4, nq, hq0⟩ := modB_yes h2
  have npq : nw (p * q) ≤ 12 := nw_prod (j := 6) (k := 6) (by rw [e3]; exact hg6.1) (by rw [e4]; exact hg6.2)
  obtain ⟨x, hx⟩ : ∃ z, z = crtN a p b q := ⟨_, rfl⟩
  have HX := hid hx
  have HV0 : crtV n a k p j b l q = (x, 0) := by unfold crtV; rw [h1, h2, h3, h4, if_pos (show (true && (true && (true && true))) = true from rfl), if_pos ⟨h5, h6⟩, if_pos h7, if_pos (by omega), hx]
  have nx : nw x ≤ 100 := by
    rw [hx]; unfold crtN
    have hk := Nat.mod_lt ((b + (q - a % q)) % q * invN (p % q) q) hq0
    exact Nat.le_trans (nw_sum (k := 64) (Nat.le_trans (nw_mono (Nat.le_of_lt h5)) (by omega)) (Nat.le_trans (nw_prod (j := 32) (k := 32) (show nw p ≤ 32 by omega) (Nat.le_trans (nw_mono (Nat.le_of_lt hk)) (show nw q ≤ 32 by omega))) (by omega))) (by omega)
  clear e3 e4
  have HV := hid HV0
  clear HV0 hg hg6
  have M1 : Hid ((if modB k p = true then (0 : Int) else 1) = 0) := (show _ = _ by rw [h1]; rfl)
  have M2 : Hid ((if modB l q = true then (0 : Int) else 1) = 0) := (show _ = _ by rw [h2]; rfl)
  have G3 := hid h3
  have G4 := hid h4
  obtain ⟨e1, na⟩ := okB_yes.1 h3
  obtain ⟨e2, nb⟩ := okB_yes.1 h4
  have e3 := (modB_yes h1).1
  have e4 := (modB_yes h2).1
  subst e1 e2 e3 e4
  have R1 : Hid (decide (a < p) = true) := decide_eq_true h5
  have R2 : Hid (decide (b < q) = true) := decide_eq_true h6
  obtain ⟨gg, hgg⟩ : ∃ z, z = Nat.gcd p q := ⟨_, rfl⟩
  have HGG := hid hgg
  have ngg : nw gg ≤ 32 := Nat.le_trans (nw_mono (by rw [hgg]; exact Nat.le_of_dvd hp0 (Nat.gcd_dvd_left p q))) np
  have GT : Hid (decide (gg = 1) = true) := decide_eq_true (by rw [hgg]; exact h7)
  have hap := hid h5
  have hbq := hid h6
  have hG7 := hid h7
  clear hgg
  clear hx
  clear h1 h2 h3 h4 h5 h6 h7 hp0 hq0
  obtain ⟨b0, b1, b2, b3, bw⟩ := boxes4 w (.slice A (nw a) c1) (.slice A2 (nw p) c2) (.slice A3 (nw b) c3) (.slice A4 (nw q) c4)
  have XA := VB.mk (B := w.heap.size) (a := a) b0 (.inl hA) bw (Nat.le_refl _) (by omega)
  have XP := VB.mk (B := w.heap.size) (a := p) b1 (.inl hP) bw (Nat.le_refl _) (by omega)
  have XB := VB.mk (B := w.heap.size) (a := b) b2 (.inl hB) bw (Nat.le_refl _) (by omega)
  have XQ := VB.mk (B := w.heap.size) (a := q) b3 (.inl hQ) bw (Nat.le_refl _) (by omega)
  have WW := bw
  clear bw b0 b1 b2 b3
  go_enter Try.func6, Try.ntmps6
  go_wp2_with fail
  generalize hV : ((((w.alloc (.cells #[.slice A (nw a) c1] 24)).alloc (.cells #[.slice A2 (nw p) c2] 24)).alloc (.cells #[.slice A3 (nw b) c3] 24)).alloc (.cells #[.slice A4 (nw q) c4] 24)) = V0 at XA XP XB XQ WW ⊢
  clear hV
  have hbs : w.heap.size ≤ V0.heap.size := WW.size
  have hc := awake_any V0
  refine hc.mono ?_
  clear hc
  rintro e V1 ⟨rfl, hb⟩
  replace XA := XA.below hb
  replace XP := XP.below hb
  replace XB := XB.below hb
  replace XQ := XQ.below hb
  replace WW := WW.trans (hb.mono WW.size)
  have kXA := XA.cell
  have zXA := XA.lt
  have kXP := XP.cell
  have zXP := XP.lt
  have kXB := XB.cell
  have zXB := XB.lt
  have kXQ := XQ.cell
  have zXQ := XQ.lt
  clear hb hbs
  go_wp2_with fail
  have hbs : w.heap.size ≤ V1.heap.size := WW.size
  have hc := few_n4 40 (by omega) V1 A A2 A3 A4 (nw a) (nw p) (nw b) (nw q) c1 c2 c3 c4 (by omega) (by omega) (by omega) (by omega)
  rw [HG.out] at hc
  refine hc.mono ?_
  clear hc
  rintro e V2 ⟨rfl, hb⟩
  clear kXA zXA kXP zXP kXB zXB kXQ zXQ
  replace XA := XA.below hb
  replace XP := XP.below hb
  replace XB := XB.below hb
  replace XQ := XQ.below hb
  replace WW := WW.trans (hb.mono WW.size)
  have kXA := XA.cell
  have zXA := XA.lt
  have kXP := XP.cell
  have zXP := XP.lt
  have kXB := XB.cell
  have zXB := XB.lt
  have kXQ := XQ.cell
  have zXQ := XQ.lt
  clear hb hbs
  go_wp2_with fail
  have hbs : w.heap.size ≤ V2.heap.size := WW.size
  have hc := few_n2 6 (by omega) V2 A2 A4 (nw p) (nw q) c2 c4 (by omega) (by omega)
  rw [HG6.out] at hc
  refine hc.mono ?_
  clear hc
  rintro e V3 ⟨rfl, hb⟩
  clear kXA zXA kXP zXP kXB zXB kXQ zXQ
  replace XA := XA.below hb
  replace XP := XP.below hb
  replace XB := XB.below hb
  replace XQ := XQ.below hb
  replace WW := WW.trans (hb.mono WW.size)
  have kXA := XA.cell
  have zXA := XA.lt
  have kXP := XP.cell
  have zXP := XP.lt
  have kXB := XB.cell
  have zXB := XB.lt
  have kXQ := XQ.cell
  have zXQ := XQ.lt
  clear hb hbs
  go_wp2_with fail
  have hbs : w.heap.size ≤ V3.heap.size := WW.size
  have hc := ncrt_any A A2 A3 A4 _ _ _ _ c1 c2 c3 c4 a p b q V3 XA.num XP.num XB.num XQ.num (by omega) (by omega) (by omega) (by omega)
  rw [HV.out] at hc
  refine hc.mono ?_
  clear hc
  rintro e V4 ⟨v, rfl, hv, hb⟩
  clear kXA zXA kXP zXP kXB zXB kXQ zXQ
  replace XA := XA.below hb
  replace XP := XP.below hb
  replace XB := XB.below hb
  replace XQ := XQ.below hb
  replace WW := WW.trans (hb.mono WW.size)
  obtain ⟨D1, d1, rfl, ho⟩ := hv
  have O1 := ho.weak (b := w.heap.size) hbs
  clear ho
  have kXA := XA.cell
  have zXA := XA.lt
  have kXP := XP.cell
  have zXP := XP.lt
  have kXB := XB.cell
  have zXB := XB.lt
  have kXQ := XQ.cell
  have zXQ := XQ.lt
  clear hb hbs
  go_wp2_with fail
  obtain ⟨b0, bw⟩ := boxes1 V4 (.slice D1 (nw x) d1)
  have hbs := WW.size
  clear kXA zXA kXP zXP kXB zXB kXQ zXQ
  have qXQ5 := XQ.lt
  have X1 := VB.mk (B := w.heap.size) (a := x) b0 (.inr O1) bw hbs (by omega)
  replace XA := XA.below bw
  replace XP := XP.below bw
  replace XB := XB.below bw
  replace XQ := XQ.below bw
  replace O1 := O1.below bw (Nat.le_refl _)
  replace WW := WW.trans (bw.mono WW.size)
  clear bw hbs b0
  generalize hV : (V4.alloc (.cells #[.slice D1 (nw x) d1] 24)) = V5 at XA XP XB XQ X1 O1 WW ⊢
  clear hV
  have kXA := XA.cell
  have zXA := XA.lt
  have kXP := XP.cell
  have zXP := XP.lt
  have kXB := XB.cell
  have zXB := XB.lt
  have kXQ := XQ.cell
  have zXQ := XQ.lt
  have kX1 := X1.cell
  have zX1 := X1.lt
  have hbs : w.heap.size ≤ V5.heap.size := WW.size
  have hc := first_a0 V5 _ p c2 A2 XP.num (by omega)
  rw [M1.out] at hc
  refine hc.mono ?_
  clear hc
  rintro e V6 ⟨rfl, hb⟩
  clear kXA zXA kXP zXP kXB zXB kXQ zXQ kX1 zX1
  replace XA := XA.below hb
  replace XP := XP.below hb
  replace XB := XB.below hb
  replace XQ := XQ.below hb
  replace X1 := X1.below hb
  replace O1 := O1.below hb (Nat.le_refl _)
  replace WW := WW.trans (hb.mono WW.size)
  have kXA := XA.cell
  have zXA := XA.lt
  have kXP := XP.cell
  have zXP := XP.lt
  have kXB := XB.cell
  have zXB := XB.lt
  have kXQ := XQ.cell
  have zXQ := XQ.lt
  have kX1 := X1.cell
  have zX1 := X1.lt
  clear hb hbs
  go_wp2_with fail
  have hbs : w.heap.size ≤ V6.heap.size := WW.size
  have hc := first_a0 V6 _ q c4 A4 XQ.num (by omega)
  rw [M2.out] at hc
  refine hc.mono ?_
  clear hc
  rintro e V7 ⟨rfl, hb⟩
  clear kXA zXA kXP zXP kXB zXB kXQ zXQ kX1 zX1
  replace XA := XA.below hb
  replace XP := XP.below hb
  replace XB := XB.below hb
  replace XQ := XQ.below hb
  replace X1 := X1.below hb
  replace O1 := O1.below hb (Nat.le_refl _)
  replace WW := WW.trans (hb.mono WW.size)
  have kXA := XA.cell
  have zXA := XA.lt
  have kXP := XP.cell
  have zXP := XP.lt
  have kXB := XB.cell
  have zXB := XB.lt
  have kXQ := XQ.cell
  have zXQ := XQ.lt
  have kX1 := X1.cell
  have zX1 := X1.lt
  clear hb hbs
  go_wp2_with fail
  have hbs : w.heap.size ≤ V7.heap.size := WW.size
  have hc := rvalid_any A _ c1 a _ V7 XA.num (Nat.le_refl _) (by omega)
  rw [G3.out] at hc
  refine hc.mono ?_
  clear hc
  rintro e V8 ⟨rfl, hb⟩
  clear kXA zXA kXP zXP kXB zXB kXQ zXQ kX1 zX1
  replace XA := XA.below hb
  replace XP := XP.below hb
  replace XB := XB.below hb
  replace XQ := XQ.below hb
  replace X1 := X1.below hb
  replace O1 := O1.below hb (Nat.le_refl _)
  replace WW := WW.trans (hb.mono WW.size)
  have kXA := XA.cell
  have zXA := XA.lt
  have kXP := XP.cell
  have zXP := XP.lt
  have kXB := XB.cell
  have zXB := XB.lt
  have kXQ := XQ.cell
  have zXQ := XQ.lt
  have kX1 := X1.cell
  have zX1 := X1.lt
  clear hb hbs
  go_wp2_with fail
  have hbs : w.heap.size ≤ V8.heap.size := WW.size
  have hc := rvalid_any A3 _ c3 b _ V8 XB.num (Nat.le_refl _) (by omega)
  rw [G4.out] at hc
  refine hc.mono ?_
  clear hc
  rintro e V9 ⟨rfl, hb⟩
  clear kXA zXA kXP zXP kXB zXB kXQ zXQ kX1 zX1
  replace XA := XA.below hb
  replace XP := XP.below hb
  replace XB := XB.below hb
  replace XQ := XQ.below hb
  replace X1 := X1.below hb
  replace O1 := O1.below hb (Nat.le_refl _)
  replace WW := WW.trans (hb.mono WW.size)
  have kXA := XA.cell
  have zXA := XA.lt
  have kXP := XP.cell
  have zXP := XP.lt
  have kXB := XB.cell
  have zXB := XB.lt
  have kXQ := XQ.cell
  have zXQ := XQ.lt
  have kX1 := X1.cell
  have zX1 := X1.lt
  clear hb hbs
  go_wp2_with fail
  have hbs : w.heap.size ≤ V9.heap.size := WW.size
  have hc := less3_any A A2 c1 c2 a p V9 XA.num XP.num (by omega) (by omega)
  rw [R1.out] at hc
  refine hc.mono ?_
  clear hc
  rintro e V10 ⟨rfl, hb⟩
  clear kXA zXA kXP zXP kXB zXB kXQ zXQ kX1 zX1
  replace XA := XA.below hb
  replace XP := XP.below hb
  replace XB := XB.below hb
  replace XQ := XQ.below hb
  replace X1 := X1.below hb
  replace O1 := O1.below hb (Nat.le_refl _)
  replace WW := WW.trans (hb.mono WW.size)
  have kXA := XA.cell
  have zXA := XA.lt
  have kXP := XP.cell
  have zXP := XP.lt
  have kXB := XB.cell
  have zXB := XB.lt
  have kXQ := XQ.cell
  have zXQ := XQ.lt
  have kX1 := X1.cell
  have zX1 := X1.lt
  clear hb hbs
  go_wp2_with fail
  have hbs : w.heap.size ≤ V10.heap.size := WW.size
  have hc := less3_any A3 A4 c3 c4 b q V10 XB.num XQ.num (by omega) (by omega)
  rw [R2.out] at hc
  refine hc.mono ?_
  clear hc
  rintro e V11 ⟨rfl, hb⟩
  clear kXA zXA kXP zXP kXB zXB kXQ zXQ kX1 zX1
  replace XA := XA.below hb
  replace XP := XP.below hb
  replace XB := XB.below hb
  replace XQ := XQ.below hb
  replace X1 := X1.below hb
  replace O1 := O1.below hb (Nat.le_refl _)
  replace WW := WW.trans (hb.mono WW.size)
  have kXA := XA.cell
  have zXA := XA.lt
  have kXP := XP.cell
  have zXP := XP.lt
  have kXB := XB.cell
  have zXB := XB.lt
  have kXQ := XQ.cell
  have zXQ := XQ.lt
  have kX1 := X1.cell
  have zX1 := X1.lt
  clear hb hbs
  go_wp2_with fail
  have hbs : w.heap.size ≤ V11.heap.size := WW.size
  have hc := rgcd_any A2 A4 c2 c4 p q V11 XP.num XQ.num (by omega) (by omega)
  rw [← HGG.out] at hc
  refine hc.mono ?_
  clear hc
  rintro e V12 ⟨D5, d5, rfl, hv, hb⟩
  clear kXA zXA kXP zXP kXB zXB kXQ zXQ kX1 zX1
  replace XA := XA.below hb
  replace XP := XP.below hb
  replace XB := XB.below hb
  replace XQ := XQ.below hb
  replace X1 := X1.below hb
  replace O1 := O1.below hb (Nat.le_refl _)
  replace WW := WW.trans (hb.mono WW.size)
  have N5 := hv.num hb.size
  clear hv
  have kXA := XA.cell
  have zXA := XA.lt
  have kXP := XP.cell
  have zXP := XP.lt
  have kXB := XB.cell
  have zXB := XB.lt
  have kXQ := XQ.cell
  have zXQ := XQ.lt
  have kX1 := X1.cell
  have zX1 := X1.lt
  clear hb hbs
  go_wp2_with fail
  have hbs : w.heap.size ≤ V12.heap.size := WW.size
  have hc := of3_1 V12
  refine hc.mono ?_
  clear hc
  rintro e V13 ⟨v, rfl, hv, hb⟩
  clear kXA zXA kXP zXP kXB zXB kXQ zXQ kX1 zX1
  replace XA := XA.below hb
  replace XP := XP.below hb
  replace XB := XB.below hb
  replace XQ := XQ.below hb
  replace X1 := X1.below hb
  replace O1 := O1.below hb (Nat.le_refl _)
  replace N5 := (N5.below hb).more hb.size
  replace WW := WW.trans (hb.mono WW.size)
  obtain ⟨D6, d6, rfl, ho⟩ := hv
  have O6 := ho.weak (b := w.heap.size) hbs
  clear ho
  have kXA := XA.cell
  have zXA := XA.lt
  have kXP := XP.cell
  have zXP := XP.lt
  have kXB := XB.cell
  have zXB := XB.lt
  have kXQ := XQ.cell
  have zXQ := XQ.lt
  have kX1 := X1.cell
  have zX1 := X1.lt
  clear hb hbs
  go_wp2_with fail
  have hbs : w.heap.size ≤ V13.heap.size := WW.size
  have hc := rsame31_any D5 D6 d5 d6 gg 1 V13 N5 O6.num (by omega) (by decide)
  rw [GT.out] at hc
  refine hc.mono ?_
  clear hc
  rintro e V14 ⟨rfl, hb⟩
  clear kXA zXA kXP zXP kXB zXB kXQ zXQ kX1 zX1
  replace XA := XA.below hb
  replace XP := XP.below hb
  replace XB := XB.below hb
  replace XQ := XQ.below hb
  replace X1 := X1.below hb
  replace O1 := O1.below hb (Nat.le_refl _)
  replace O6 := O6.below hb (Nat.le_refl _)
  replace N5 := (N5.below hb).more hb.size
  replace WW := WW.trans (hb.mono WW.size)
  have kXA := XA.cell
  have zXA := XA.lt
  have kXP := XP.cell
  have zXP := XP.lt
  have kXB := XB.cell
  have zXB := XB.lt
  have kXQ := XQ.cell
  have zXQ := XQ.lt
  have kX1 := X1.cell
  have zX1 := X1.lt
  clear hb hbs
  go_wp2_with fail
  have WWd := WW.drew
  have XAd := XA.drew
  have XPd := XP.drew
  have XBd := XB.drew
  have XQd := XQ.drew
  have X1d := X1.drew
  have O1d := O1.drew
  have O6d := O6.drew
  have hst : (fun w' => w'.cell? ⟨w.heap.size, 0, none⟩ = some (.slice A (nw a) c1) ∧ w'.cell? ⟨w.heap.size + 1, 0, none⟩ = some (.slice A2 (nw p) c2) ∧ w'.cell? ⟨w.heap.size + 1 + 1, 0, none⟩ = some (.slice A3 (nw b) c3) ∧ w'.cell? ⟨w.heap.size + 1 + 1 + 1, 0, none⟩ = some (.slice A4 (nw q) c4) ∧ w'.cell? ⟨V4.heap.size, 0, none⟩ = some (.slice D1 (nw x) d1)) V14.drew := ⟨XA.cell, XP.cell, XB.cell, XQ.cell, X1.cell⟩
  clear WW kXA zXA kXP zXP kXB zXB kXQ zXQ kX1 zX1 XA XP XB XQ X1 O1 O6
  have qq0 := X1d.lt
  refine region_L 19 (fun w' => w'.cell? ⟨w.heap.size, 0, none⟩ = some (.slice A (nw a) c1) ∧ w'.cell? ⟨w.heap.size + 1, 0, none⟩ = some (.slice A2 (nw p) c2) ∧ w'.cell? ⟨w.heap.size + 1 + 1, 0, none⟩ = some (.slice A3 (nw b) c3) ∧ w'.cell? ⟨w.heap.size + 1 + 1 + 1, 0, none⟩ = some (.slice A4 (nw q) c4) ∧ w'.cell? ⟨V4.heap.size, 0, none⟩ = some (.slice D1 (nw x) d1)) (by kernel_rfl) hst (fun hHeld => ?_)
  clear hst
  refine AnyL_name (fun W' => Below w.heap.size w W' ∧ VB w.heap.size W' (w.heap.size) A (nw a) c1 a ∧ VB w.heap.size W' (w.heap.size + 1) A2 (nw p) c2 p ∧ VB w.heap.size W' (w.heap.size + 1 + 1) A3 (nw b) c3 b ∧ VB w.heap.size W' (w.heap.size + 1 + 1 + 1) A4 (nw q) c4 q ∧ VB w.heap.size W' (V4.heap.size) D1 (nw x) d1 x ∧ Own W' w.heap.size D1 (nw x) d1 x ∧ Own W' w.heap.size D6 (nw 1) d6 1 ∧ V14.drew.heap.size ≤ W'.heap.size ∧ (fun w' => w'.cell? ⟨w.heap.size, 0, none⟩ = some (.slice A (nw a) c1) ∧ w'.cell? ⟨w.heap.size + 1, 0, none⟩ = some (.slice A2 (nw p) c2) ∧ w'.cell? ⟨w.heap.size + 1 + 1, 0, none⟩ = some (.slice A3 (nw b) c3) ∧ w'.cell? ⟨w.heap.size + 1 + 1 + 1, 0, none⟩ = some (.slice A4 (nw q) c4) ∧ w'.cell? ⟨V4.heap.size, 0, none⟩ = some (.slice D1 (nw x) d1)) W') ⟨WWd, XAd, XPd, XBd, XQd, X1d, O1d, O6d, Nat.le_refl _, hHeld⟩ ?_
  clear hHeld WWd XAd XPd XBd XQd X1d O1d O6d
  rintro U14x0 ⟨WW, XA, XP, XB, XQ, X1, O1, O6, sz0, hHeld⟩
  refine AnyL_take (i := 0) (oi := oq6_15_0) (v := ?_) rfl (by kernel_rfl) (by kernel_rfl) (by kernel_rfl) (by kernel_rfl) (fun _ _ _ h => h) (Or.inl ⟨by rfl, ?_⟩) (by assumption) ?_
  rotate_left
  · (delta oq6_15_0; intro ws hSw; (try dsimp only at hSw); (try go_simp); (try with_reducible rfl))
  (try simp only [oq6_15_0, Act.put, List.setIfInBounds_toArray, List.set_cons_zero, List.set_cons_succ])
  refine AnyL_take (i := 1) (oi := oq6_15_1) (v := ?_) rfl (by kernel_rfl) (by kernel_rfl) (by kernel_rfl) (by kernel_rfl) (fun _ _ _ h => h) (Or.inl ⟨by rfl, ?_⟩) (by assumption) ?_
  rotate_left
  · (delta oq6_15_1; intro ws hSw; (try dsimp only at hSw); (try go_simp); (try with_reducible rfl))
  (try simp only [oq6_15_1, Act.put, List.setIfInBounds_toArray, List.set_cons_zero, List.set_cons_succ])
  refine AnyL_take (i := 2) (oi := oq6_15_2) (v := ?_) rfl (by kernel_rfl) (by kernel_rfl) (by kernel_rfl) (by kernel_rfl) (fun _ _ _ h => h) (Or.inl ⟨by rfl, ?_⟩) (by assumption) ?_
  rotate_left
  · (delta oq6_15_2; intro ws hSw; (try dsimp only at hSw); (try go_simp); (try with_reducible rfl))
  (try simp only [oq6_15_2, Act.put, List.setIfInBounds_toArray, List.set_cons_zero, List.set_cons_succ])
  refine AnyL_take (i := 3) (oi := oq6_15_3) (v := ?_) rfl (by kernel_rfl) (by kernel_rfl) (by kernel_rfl) (by kernel_rfl) (fun _ _ _ h => h) (Or.inl ⟨by rfl, ?_⟩) (by assumption) ?_
  rotate_left
  · (delta oq6_15_3; intro ws hSw; (try dsimp only at hSw); (try go_simp); (try with_reducible rfl))
  (try simp only [oq6_15_3, Act.put, List.setIfInBounds_toArray, List.set_cons_zero, List.set_cons_succ])
  refine AnyL_take (i := 4) (oi := oq6_15_4) (v := ?_) rfl (by kernel_rfl) (by kernel_rfl) (by kernel_rfl) (by kernel_rfl) (fun _ _ _ h => h) (Or.inl ⟨by rfl, ?_⟩) (by assumption) ?_
  rotate_left
  · (delta oq6_15_4; intro ws hSw; (try dsimp only at hSw); (try go_simp); (try with_reducible rfl))
  (try simp only [oq6_15_4, Act.put, List.setIfInBounds_toArray, List.set_cons_zero, List.set_cons_succ])
  refine AnyL_ready (rs := [5]) (by kernel_rfl) (by simp) ?_
  refine ReadyL.cons (o := oq6_15_5) rfl (fun K hK => ?_) ReadyL.nil
  delta oq6_15_5
  go_simp
  have hbs : w.heap.size ≤ U14x0.heap.size := WW.size
  have hc := rcrt_any A A2 A3 A4 c1 c2 c3 c4 a p b q U14x0 XA.num XP.num XB.num XQ.num (by omega) (by omega) hap.out hbq.out hG7.out
  rw [← HX.out] at hc
  refine hc.mono ?_
  clear hc
  rintro e V16 ⟨v, rfl, hv, hb⟩
  replace XA := XA.below hb
  replace XP := XP.below hb
  replace XB := XB.below hb
  replace XQ := XQ.below hb
  replace X1 := X1.below hb
  replace O1 := O1.below hb (Nat.le_refl _)
  replace O6 := O6.below hb (Nat.le_refl _)
  replace WW := WW.trans (hb.mono WW.size)
  have sz16 := hb.size
  obtain ⟨D7, d7, rfl, ho⟩ := hv
  have O7 := ho.weak (b := w.heap.size) hbs
  clear ho
  clear hb hbs
  refine hK.out _ _ (⟨XA.cell, XP.cell, XB.cell, XQ.cell, X1.cell⟩) (fun hHeld2 => ?_)
  clear hK K hHeld
  have hHeld := hHeld2
  clear hHeld2
  (try simp only [oq6_15_5, Act.put, List.setIfInBounds_toArray, List.set_cons_zero, List.set_cons_succ])
  refine AnyL_ready (rs := [6]) (by kernel_rfl) (by simp) ?_
  refine ReadyL.cons (o := oq6_15_6) rfl (fun K hK => ?_) ReadyL.nil
  delta oq6_15_6
  go_simp
  have hbs : w.heap.size ≤ V16.heap.size := WW.size
  have hc := same3_any D1 D7 _ _ d1 d7 x x V16 X1.num O7.num (by omega) (by omega)
  rw [sameB_yes] at hc
  refine hc.mono ?_
  clear hc
  rintro e V17 ⟨rfl, hb⟩
  replace XA := XA.below hb
  replace XP := XP.below hb
  replace XB := XB.below hb
  replace XQ := XQ.below hb
  replace X1 := X1.below hb
  replace O1 := O1.below hb (Nat.le_refl _)
  replace O6 := O6.below hb (Nat.le_refl _)
  replace O7 := O7.below hb (Nat.le_refl _)
  replace WW := WW.trans (hb.mono WW.size)
  have sz17 := hb.size
  clear hb hbs
  refine hK.out _ _ (⟨XA.cell, XP.cell, XB.cell, XQ.cell, X1.cell⟩) (fun hHeld2 => ?_)
  clear hK K hHeld
  have hHeld := hHeld2
  clear hHeld2
  (try simp only [oq6_15_6, Act.put, List.setIfInBounds_toArray, List.set_cons_zero, List.set_cons_succ])
  refine AnyL_take (i := 7) (oi := oq6_15_7) (v := ?_) rfl (by kernel_rfl) (by kernel_rfl) (by kernel_rfl) (by kernel_rfl) (fun _ _ _ h => h) (Or.inl ⟨by rfl, ?_⟩) (by assumption) ?_
  rotate_left
  · (delta oq6_15_7; intro ws hSw; (try dsimp only at hSw); (try go_simp); (try with_reducible rfl))
  (try simp only [oq6_15_7, Act.put, List.setIfInBounds_toArray, List.set_cons_zero, List.set_cons_succ])
  refine AnyL_take (i := 8) (oi := oq6_15_8) (v := ?_) rfl (by kernel_rfl) (by kernel_rfl) (by kernel_rfl) (by kernel_rfl) (fun _ _ _ h => h) (Or.inl ⟨by rfl, ?_⟩) (by assumption) ?_
  rotate_left
  · (delta oq6_15_8; intro ws hSw; (try dsimp only at hSw); (try go_simp); (try with_reducible rfl))
  (try simp only [oq6_15_8, Act.put, List.setIfInBounds_toArray, List.set_cons_zero, List.set_cons_succ])
  refine AnyL_take (i := 9) (oi := oq6_15_9) (v := ?_) rfl (by kernel_rfl) (by kernel_rfl) (by kernel_rfl) (by kernel_rfl) (fun _ _ _ h => h) (Or.inl ⟨by rfl, ?_⟩) (by assumption) ?_
  rotate_left
  · (delta oq6_15_9; intro ws hSw; (try dsimp only at hSw); (try go_simp); (try with_reducible rfl))
  (try simp only [oq6_15_9, Act.put, List.setIfInBounds_toArray, List.set_cons_zero, List.set_cons_succ])
  refine AnyL_take (i := 10) (oi := oq6_15_10) (v := ?_) rfl (by kernel_rfl) (by kernel_rfl) (by kernel_rfl) (by kernel_rfl) (fun _ _ _ h => h) (Or.inl ⟨by rfl, ?_⟩) (by assumption) ?_
  rotate_left
  · (delta oq6_15_10; intro ws hSw; (try dsimp only at hSw); (try go_simp); (try with_reducible rfl))
  (try simp only [oq6_15_10, Act.put, List.setIfInBounds_toArray, List.set_cons_zero, List.set_cons_succ])
  refine AnyL_take (i := 11) (oi := oq6_15_11) (v := ?_) rfl (by kernel_rfl) (by kernel_rfl) (by kernel_rfl) (by kernel_rfl) (fun _ _ _ h => h) (Or.inl ⟨by rfl, ?_⟩) (by assumption) ?_
  rotate_left
  · (delta oq6_15_11; intro ws hSw; (try dsimp only at hSw); (try go_simp); (try with_reducible rfl))
  (try simp only [oq6_15_11, Act.put, List.setIfInBounds_toArray, List.set_cons_zero, List.set_cons_succ])
  refine AnyL_done (by kernel_rfl) ?_ _
  clear hHeld
  have kXA := XA.cell
  have zXA := XA.lt
  have kXP := XP.cell
  have zXP := XP.lt
  have kXB := XB.cell
  have zXB := XB.lt
  have kXQ := XQ.cell
  have zXQ := XQ.lt
  have kX1 := X1.cell
  have zX1 := X1.lt
  go_wp2_with fail
  go_ret
  exact ⟨rfl, WW⟩

set_option maxHeartbeats 16000000 in
set_option maxRecDepth 100000 in
theorem crtl_m1n (A A2 A3 A4 : Option Addr) (n k j l c1 c2 c3 c4 a p b q : Nat) (w : World) (hA : Num w w.heap.size A n a) (hP : Num w w.heap.size A2 k p) (hB : Num w w.heap.size A3 j b) (hQ : Num w w.heap.size A4 l q) (hn : n ≤ 9223372036854775807) (hk : k ≤ 9223372036854775807) (hj : j ≤ 9223372036854775807) (hl : l ≤ 9223372036854775807) (hg : n ≤ 40 ∧ k ≤ 40 ∧ j ≤ 40 ∧ l ≤ 40) (hg6 : ¬ (k ≤ 6 ∧ l ≤ 6)) (hs : ¬ k + l < 34) (h1 : modB k p = false) :
    Calls Try.prog 6 #[.agg #[.slice A n c1], .agg #[.slice A2 k c2], .agg #[.slice A3 j c3], .agg #[.slice A4 l c4]] w (RetB (.bool true) w) := by
  have HG : Hid (decide (n ≤ 40 ∧ k ≤ 40 ∧ j ≤ 40 ∧ l ≤ 40) = true) := decide_eq_true hg
  have HG6 : Hid (decide (k ≤ 6 ∧ l ≤ 6) = false) := decide_eq_false hg6
  have hk40 := hg.2.1
  have hl40 := hg.2.2.2
  have hn40 := hg.1
  have hj40 := hg.2.2.1
  have z0 : (((nw 0 : Nat) : Int) == 0) = true := rfl
  have z00 : (((nw 0 : Nat) : Int) != 0) = false := rfl
  have s1 : ¬ ((k : Int) + (l : Int) < 34) := by omega
  have s2 : (34 : Int) ≤ (k : Int) + (l : Int) := by omega
  have s3 : (33 : Int) < (k : Int) + (l : Int) := by omega
  have HV0 : crtV n a k p j b l q = (0, 1) := by unfold crtV; rw [h1]; cases okB n a <;> cases okB j b <;> rfl
  have HV := hid HV0
  clear HV0 hg hg6 hs
  have M1 : Hid ((if modB k p = true then (0 : Int) else 1) = 1) := (show _ = _ by rw [h1]; rfl)
  clear h1
  obtain ⟨b0, b1, b2, b3, bw⟩ := boxes4 w (.slice A n c1) (.slice A2 k c2) (.slice A3 j c3) (.slice A4 l c4)
  have XA := VB.mk (B := w.heap.size) (a := a) b0 (.inl hA) bw (Nat.le_refl _) (by omega)
  have XP := VB.mk (B := w.heap.size) (a := p) b1 (.inl hP) bw (Nat.le_refl _) (by omega)
  have XB := VB.mk (B := w.heap.size) (a := b) b2 (.inl hB) bw (Nat.le_refl _) (by omega)
  have XQ := VB.mk (B := w.heap.size) (a := q) b3 (.inl hQ) bw (Nat.le_refl _) (by omega)
  have WW := bw
  clear bw b0 b1 b2 b3
  go_enter Try.func6, Try.ntmps6
  go_wp2_with fail
  generalize hV : ((((w.alloc (.cells #[.slice A n c1] 24)).alloc (.cells #[.slice A2 k c2] 24)).alloc (.cells #[.slice A3 j c3] 24)).alloc (.cells #[.slice A4 l c4] 24)) = V0 at XA XP XB XQ WW ⊢
  clear hV
  have hbs : w.heap.size ≤ V0.heap.size := WW.size
  have hc := awake_any V0
  refine hc.mono ?_
  clear hc
  rintro e V1 ⟨rfl, hb⟩
  replace XA := XA.below hb
  replace XP := XP.below hb
  replace XB := XB.below hb
  replace XQ := XQ.below hb
  replace WW := WW.trans (hb.mono WW.size)
  have kXA := XA.cell
  have zXA := XA.lt
  have kXP := XP.cell
  have zXP := XP.lt
  have kXB := XB.cell
  have zXB := XB.lt
  have kXQ := XQ.cell
  have zXQ := XQ.lt
  clear hb hbs
  go_wp2_with fail
  have hbs : w.heap.size ≤ V1.heap.size := WW.size
  have hc := few_n4 40 (by omega) V1 A A2 A3 A4 n k j l c1 c2 c3 c4 (by omega) (by omega) (by omega) (by omega)
  rw [HG.out] at hc
  refine hc.mono ?_
  clear hc
  rintro e V2 ⟨rfl, hb⟩
  clear kXA zXA kXP zXP kXB zXB kXQ zXQ
  replace XA := XA.below hb
  replace XP := XP.below hb
  replace XB := XB.below hb
  replace XQ := XQ.below hb
  replace WW := WW.trans (hb.mono WW.size)
  have kXA := XA.cell
  have zXA := XA.lt
  have kXP := XP.cell
  have zXP := XP.lt
  have kXB := XB.cell
  have zXB := XB.lt
  have kXQ := XQ.cell
  have zXQ := XQ.lt
  clear hb hbs
  go_wp2_with fail
  have hbs : w.heap.size ≤ V2.heap.size := WW.size
  have hc := few_n2 6 (by omega) V2 A2 A4 k l c2 c4 (by omega) (by omega)
  rw [HG6.out] at hc
  refine hc.mono ?_
  clear hc
  rintro e V3 ⟨rfl, hb⟩
  clear kXA zXA kXP zXP kXB zXB kXQ zXQ
  replace XA := XA.below hb
  replace XP := XP.below hb
  replace XB := XB.below hb
  replace XQ := XQ.below hb
  replace WW := WW.trans (hb.mono WW.size)
  have kXA := XA.cell
  have zXA := XA.lt
  have kXP := XP.cell
  have zXP := XP.lt
  have kXB := XB.cell
  have zXB := XB.lt
  have kXQ := XQ.cell
  have zXQ := XQ.lt
  clear hb hbs
  go_wp2_with fail
  have hbs : w.heap.size ≤ V3.heap.size := WW.size
  have hc := ncrt_any A A2 A3 A4 _ _ _ _ c1 c2 c3 c4 a p b q V3 XA.num XP.num XB.num XQ.num (by omega) (by omega) (by omega) (by omega)
  rw [HV.out] at hc
  refine hc.mono ?_
  clear hc
  rintro e V4 ⟨v, rfl, hv, hb⟩
  clear kXA zXA kXP zXP kXB zXB kXQ zXQ
  replace XA := XA.below hb
  replace XP := XP.below hb
  replace XB := XB.below hb
  replace XQ := XQ.below hb
  replace WW := WW.trans (hb.mono WW.size)
  obtain ⟨D1, d1, rfl, ho⟩ := hv
  have O1 := ho.weak (b := w.heap.size) hbs
  clear ho
  have kXA := XA.cell
  have zXA := XA.lt
  have kXP := XP.cell
  have zXP := XP.lt
  have kXB := XB.cell
  have zXB := XB.lt
  have kXQ := XQ.cell
  have zXQ := XQ.lt
  clear hb hbs
  go_wp2_with fail
  obtain ⟨b0, bw⟩ := boxes1 V4 (.slice D1 (nw 0) d1)
  have hbs := WW.size
  clear kXA zXA kXP zXP kXB zXB kXQ zXQ
  have qXQ5 := XQ.lt
  have X1 := VB.mk (B := w.heap.size) (a := 0) b0 (.inr O1) bw hbs (by omega)
  replace XA := XA.below bw
  replace XP := XP.below bw
  replace XB := XB.below bw
  replace XQ := XQ.below bw
  replace O1 := O1.below bw (Nat.le_refl _)
  replace WW := WW.trans (bw.mono WW.size)
  clear bw hbs b0
  generalize hV : (V4.alloc (.cells #[.slice D1 (nw 0) d1] 24)) = V5 at XA XP XB XQ X1 O1 WW ⊢
  clear hV
  have kXA := XA.cell
  have zXA := XA.lt
  have kXP := XP.cell
  have zXP := XP.lt
  have kXB := XB.cell
  have zXB := XB.lt
  have kXQ := XQ.cell
  have zXQ := XQ.lt
  have kX1 := X1.cell
  have zX1 := X1.lt
  have hbs : w.heap.size ≤ V5.heap.size := WW.size
  have hc := first_a0 V5 _ p c2 A2 XP.num (by omega)
  rw [M1.out] at hc
  refine hc.mono ?_
  clear hc
  rintro e V6 ⟨rfl, hb⟩
  clear kXA zXA kXP zXP kXB zXB kXQ zXQ kX1 zX1
  replace XA := XA.below hb
  replace XP := XP.below hb
  replace XB := XB.below hb
  replace XQ := XQ.below hb
  replace X1 := X1.below hb
  replace O1 := O1.below hb (Nat.le_refl _)
  replace WW := WW.trans (hb.mono WW.size)
  have kXA := XA.cell
  have zXA := XA.lt
  have kXP := XP.cell
  have zXP := XP.lt
  have kXB := XB.cell
  have zXB := XB.lt
  have kXQ := XQ.cell
  have zXQ := XQ.lt
  have kX1 := X1.cell
  have zX1 := X1.lt
  clear hb hbs
  go_wp2_with fail
  go_ret
  exact ⟨rfl, WW⟩

set_option maxHeartbeats 16000000 in
set_option maxRecDepth 100000 in
theorem crtl_m2n (A A2 A3 A4 : Option Addr) (n k j l c1 c2 c3 c4 a p b q : Nat) (w : World) (hA : Num w w.heap.size A n a) (hP : Num w w.heap.size A2 k p) (hB : Num w w.heap.size A3 j b) (hQ : Num w w.heap.size A4 l q) (hn : n ≤ 9223372036854775807) (hk : k ≤ 9223372036854775807) (hj : j ≤ 9223372036854775807) (hl : l ≤ 9223372036854775807) (hg : n ≤ 40 ∧ k ≤ 40 ∧ j ≤ 40 ∧ l ≤ 40) (hg6 : ¬ (k ≤ 6 ∧ l ≤ 6)) (hs : ¬ k + l < 34) (h1 : modB k p = true) (h2 : modB l q = false) :
    Calls Try.prog 6 #[.agg #[.slice A n c1], .agg #[.slice A2 k c2], .agg #[.slice A3 j c3], .agg #[.slice A4 l c4]] w (RetB (.bool true) w) := by
  have HG : Hid (decide (n ≤ 40 ∧ k ≤ 40 ∧ j ≤ 40 ∧ l ≤ 40) = true) := decide_eq_true hg
  have HG6 : Hid (decide (k ≤ 6 ∧ l ≤ 6) = false) := decide_eq_false hg6
  have hk40 := hg.2.1
  have hl40 := hg.2.2.2
  have hn40 := hg.1
  have hj40 := hg.2.2.1
  have z0 : (((nw 0 : Nat) : Int) == 0) = true := rfl
  have z00 : (((nw 0 : Nat) : Int) != 0) = false := rfl
  have s1 : ¬ ((k : Int) + (l : Int) < 34) := by omega
  have s2 : (34 : Int) ≤ (k : Int) + (l : Int) := by omega
  have s3 : (33 : Int) < (k : Int) + (l : Int) := by omega
  have HV0 : crtV n a k p j b l q = (0, 1) := by unfold crtV; rw [h1, h2]; cases okB n a <;> cases okB j b <;> rfl
  have HV := hid HV0
  clear HV0 hg hg6 hs
  have M1 : Hid ((if modB k p = true then (0 : Int) else 1) = 0) := (show _ = _ by rw [h1]; rfl)
  have M2 : Hid ((if modB l q = true then (0 : Int) else 1) = 1) := (show _ = _ by rw [h2]; rfl)
  clear h1 h2
  obtain ⟨b0, b1, b2, b3, bw⟩ := boxes4 w (.slice A n c1) (.slice A2 k c2) (.slice A3 j c3) (.slice A4 l c4)
  have XA := VB.mk (B := w.heap.size) (a := a) b0 (.inl hA) bw (Nat.le_refl _) (by omega)
  have XP := VB.mk (B := w.heap.size) (a := p) b1 (.inl hP) bw (Nat.le_refl _) (by omega)
  have XB := VB.mk (B := w.heap.size) (a := b) b2 (.inl hB) bw (Nat.le_refl _) (by omega)
  have XQ := VB.mk (B := w.heap.size) (a := q) b3 (.inl hQ) bw (Nat.le_refl _) (by omega)
  have WW := bw
  clear bw b0 b1 b2 b3
  go_enter Try.func6, Try.ntmps6
  go_wp2_with fail
  generalize hV : ((((w.alloc (.cells #[.slice A n c1] 24)).alloc (.cells #[.slice A2 k c2] 24)).alloc (.cells #[.slice A3 j c3] 24)).alloc (.cells #[.slice A4 l c4] 24)) = V0 at XA XP XB XQ WW ⊢
  clear hV
  have hbs : w.heap.size ≤ V0.heap.size := WW.size
  have hc := awake_any V0
  refine hc.mono ?_
  clear hc
  rintro e V1 ⟨rfl, hb⟩
  replace XA := XA.below hb
  replace XP := XP.below hb
  replace XB := XB.below hb
  replace XQ := XQ.below hb
  replace WW := WW.trans (hb.mono WW.size)
  have kXA := XA.cell
  have zXA := XA.lt
  have kXP := XP.cell
  have zXP := XP.lt
  have kXB := XB.cell
  have zXB := XB.lt
  have kXQ := XQ.cell
  have zXQ := XQ.lt
  clear hb hbs
  go_wp2_with fail
  have hbs : w.heap.size ≤ V1.heap.size := WW.size
  have hc := few_n4 40 (by omega) V1 A A2 A3 A4 n k j l c1 c2 c3 c4 (by omega) (by omega) (by omega) (by omega)
  rw [HG.out] at hc
  refine hc.mono ?_
  clear hc
  rintro e V2 ⟨rfl, hb⟩
  clear kXA zXA kXP zXP kXB zXB kXQ zXQ
  replace XA := XA.below hb
  replace XP := XP.below hb
  replace XB := XB.below hb
  replace XQ := XQ.below hb
  replace WW := WW.trans (hb.mono WW.size)
  have kXA := XA.cell
  have zXA := XA.lt
  have kXP := XP.cell
  have zXP := XP.lt
  have kXB := XB.cell
  have zXB := XB.lt
  have kXQ := XQ.cell
  have zXQ := XQ.lt
  clear hb hbs
  go_wp2_with fail
  have hbs : w.heap.size ≤ V2.heap.size := WW.size
  have hc := few_n2 6 (by omega) V2 A2 A4 k l c2 c4 (by omega) (by omega)
  rw [HG6.out] at hc
  refine hc.mono ?_
  clear hc
  rintro e V3 ⟨rfl, hb⟩
  clear kXA zXA kXP zXP kXB zXB kXQ zXQ
  replace XA := XA.below hb
  replace XP := XP.below hb
  replace XB := XB.below hb
  replace XQ := XQ.below hb
  replace WW := WW.trans (hb.mono WW.size)
  have kXA := XA.cell
  have zXA := XA.lt
  have kXP := XP.cell
  have zXP := XP.lt
  have kXB := XB.cell
  have zXB := XB.lt
  have kXQ := XQ.cell
  have zXQ := XQ.lt
  clear hb hbs
  go_wp2_with fail
  have hbs : w.heap.size ≤ V3.heap.size := WW.size
  have hc := ncrt_any A A2 A3 A4 _ _ _ _ c1 c2 c3 c4 a p b q V3 XA.num XP.num XB.num XQ.num (by omega) (by omega) (by omega) (by omega)
  rw [HV.out] at hc
  refine hc.mono ?_
  clear hc
  rintro e V4 ⟨v, rfl, hv, hb⟩
  clear kXA zXA kXP zXP kXB zXB kXQ zXQ
  replace XA := XA.below hb
  replace XP := XP.below hb
  replace XB := XB.below hb
  replace XQ := XQ.below hb
  replace WW := WW.trans (hb.mono WW.size)
  obtain ⟨D1, d1, rfl, ho⟩ := hv
  have O1 := ho.weak (b := w.heap.size) hbs
  clear ho
  have kXA := XA.cell
  have zXA := XA.lt
  have kXP := XP.cell
  have zXP := XP.lt
  have kXB := XB.cell
  have zXB := XB.lt
  have kXQ := XQ.cell
  have zXQ := XQ.lt
  clear hb hbs
  go_wp2_with fail
  obtain ⟨b0, bw⟩ := boxes1 V4 (.slice D1 (nw 0) d1)
  have hbs := WW.size
  clear kXA zXA kXP zXP kXB zXB kXQ zXQ
  have qXQ5 := XQ.lt
  have X1 := VB.mk (B := w.heap.size) (a := 0) b0 (.inr O1) bw hbs (by omega)
  replace XA := XA.below bw
  replace XP := XP.below bw
  replace XB := XB.below bw
  replace XQ := XQ.below bw
  replace O1 := O1.below bw (Nat.le_refl _)
  replace WW := WW.trans (bw.mono WW.size)
  clear bw hbs b0
  generalize hV : (V4.alloc (.cells #[.slice D1 (nw 0) d1] 24)) = V5 at XA XP XB XQ X1 O1 WW ⊢
  clear hV
  have kXA := XA.cell
  have zXA := XA.lt
  have kXP := XP.cell
  have zXP := XP.lt
  have kXB := XB.cell
  have zXB := XB.lt
  have kXQ := XQ.cell
  have zXQ := XQ.lt
  have kX1 := X1.cell
  have zX1 := X1.lt
  have hbs : w.heap.size ≤ V5.heap.size := WW.size
  have hc := first_a0 V5 _ p c2 A2 XP.num (by omega)
  rw [M1.out] at hc
  refine hc.mono ?_
  clear hc
  rintro e V6 ⟨rfl, hb⟩
  clear kXA zXA kXP zXP kXB zXB kXQ zXQ kX1 zX1
  replace XA := XA.below hb
  replace XP := XP.below hb
  replace XB := XB.below hb
  replace XQ := XQ.below hb
  replace X1 := X1.below hb
  replace O1 := O1.below hb (Nat.le_refl _)
  replace WW := WW.trans (hb.mono WW.size)
  have kXA := XA.cell
  have zXA := XA.lt
  have kXP := XP.cell
  have zXP := XP.lt
  have kXB := XB.cell
  have zXB := XB.lt
  have kXQ := XQ.cell
  have zXQ := XQ.lt
  have kX1 := X1.cell
  have zX1 := X1.lt
  clear hb hbs
  go_wp2_with fail
  have hbs : w.heap.size ≤ V6.heap.size := WW.size
  have hc := first_a0 V6 _ q c4 A4 XQ.num (by omega)
  rw [M2.out] at hc
  refine hc.mono ?_
  clear hc
  rintro e V7 ⟨rfl, hb⟩
  clear kXA zXA kXP zXP kXB zXB kXQ zXQ kX1 zX1
  replace XA := XA.below hb
  replace XP := XP.below hb
  replace XB := XB.below hb
  replace XQ := XQ.below hb
  replace X1 := X1.below hb
  replace O1 := O1.below hb (Nat.le_refl _)
  replace WW := WW.trans (hb.mono WW.size)
  have kXA := XA.cell
  have zXA := XA.lt
  have kXP := XP.cell
  have zXP := XP.lt
  have kXB := XB.cell
  have zXB := XB.lt
  have kXQ := XQ.cell
  have zXQ := XQ.lt
  have kX1 := X1.cell
  have zX1 := X1.lt
  clear hb hbs
  go_wp2_with fail
  go_ret
  exact ⟨rfl, WW⟩

set_option maxHeartbeats 16000000 in
set_option maxRecDepth 100000 in
theorem crtl_v1n (A A2 A3 A4 : Option Addr) (n k j l c1 c2 c3 c4 a p b q : Nat) (w : World) (hA : Num w w.heap.size A n a) (hP : Num w w.heap.size A2 k p) (hB : Num w w.heap.size A3 j b) (hQ : Num w w.heap.size A4 l q) (hn : n ≤ 9223372036854775807) (hk : k ≤ 9223372036854775807) (hj : j ≤ 9223372036854775807) (hl : l ≤ 9223372036854775807) (hg : n ≤ 40 ∧ k ≤ 40 ∧ j ≤ 40 ∧ l ≤ 40) (hg6 : ¬ (k ≤ 6 ∧ l ≤ 6)) (hs : ¬ k + l < 34) (h1 : modB k p = true) (h2 : modB l q = true) (h3 : okB n a = false) :
    Calls Try.prog 6 #[.agg #[.slice A n c1], .agg #[.slice A2 k c2], .agg #[.slice A3 j c3], .agg #[.slice A4 l c4]] w (RetB (.bool true) w) := by
  have HG : Hid (decide (n ≤ 40 ∧ k ≤ 40 ∧ j ≤ 40 ∧ l ≤ 40) = true) := decide_eq_true hg
  have HG6 : Hid (decide (k ≤ 6 ∧ l ≤ 6) = false) := decide_eq_false hg6
  have hk40 := hg.2.1
  have hl40 := hg.2.2.2
  have hn40 := hg.1
  have hj40 := hg.2.2.1
  have z0 : (((nw 0 : Nat) : Int) == 0) = true := rfl
  have z00 : (((nw 0 : Nat) : Int) != 0) = false := rfl
  have s1 : ¬ ((k : Int) + (l : Int) < 34) := by omega
  have s2 : (34 : Int) ≤ (k : Int) + (l : Int) := by omega
  have s3 : (33 : Int) < (k : Int) + (l : Int) := by omega
  have HV0 : crtV n a k p j b l q = (0, 1) := by unfold crtV; rw [h3]; rfl
  have HV := hid HV0
  clear HV0 hg hg6 hs
  have M1 : Hid ((if modB k p = true then (0 : Int) else 1) = 0) := (show _ = _ by rw [h1]; rfl)
  have M2 : Hid ((if modB l q = true then (0 : Int) else 1) = 0) := (show _ = _ by rw [h2]; rfl)
  have G3 := hid h3
  clear h1 h2 h3
  obtain ⟨b0, b1, b2, b3, bw⟩ := boxes4 w (.slice A n c1) (.slice A2 k c2) (.slice A3 j c3) (.slice A4 l c4)
  have XA := VB.mk (B := w.heap.size) (a := a) b0 (.inl hA) bw (Nat.le_refl _) (by omega)
  have XP := VB.mk (B := w.heap.size) (a := p) b1 (.inl hP) bw (Nat.le_refl _) (by omega)
  have XB := VB.mk (B := w.heap.size) (a := b) b2 (.inl hB) bw (Nat.le_refl _) (by omega)
  have XQ := VB.mk (B := w.heap.size) (a := q) b3 (.inl hQ) bw (Nat.le_refl _) (by omega)
  have WW := bw
  clear bw b0 b1 b2 b3
  go_enter Try.func6, Try.ntmps6
  go_wp2_with fail
  generalize hV : ((((w.alloc (.cells #[.slice A n c1] 24)).alloc (.cells #[.slice A2 k c2] 24)).alloc (.cells #[.slice A3 j c3] 24)).alloc (.cells #[.slice A4 l c4] 24)) = V0 at XA XP XB XQ WW ⊢
  clear hV
  have hbs : w.heap.size ≤ V0.heap.size := WW.size
  have hc := awake_any V0
  refine hc.mono ?_
  clear hc
  rintro e V1 ⟨rfl, hb⟩
  replace XA := XA.below hb
  replace XP := XP.below hb
  replace XB := XB.below hb
  replace XQ := XQ.below hb
  replace WW := WW.trans (hb.mono WW.size)
  have kXA := XA.cell
  have zXA := XA.lt
  have kXP := XP.cell
  have zXP := XP.lt
  have kXB := XB.cell
  have zXB := XB.lt
  have kXQ := XQ.cell
  have zXQ := XQ.lt
  clear hb hbs
  go_wp2_with fail
  have hbs : w.heap.size ≤ V1.heap.size := WW.size
  have hc := few_n4 40 (by omega) V1 A A2 A3 A4 n k j l c1 c2 c3 c4 (by omega) (by omega) (by omega) (by omega)
  rw [HG.out] at hc
  refine hc.mono ?_
  clear hc
  rintro e V2 ⟨rfl, hb⟩
  clear kXA zXA kXP zXP kXB zXB kXQ zXQ
  replace XA := XA.below hb
  replace XP := XP.below hb
  replace XB := XB.below hb
  replace XQ := XQ.below hb
  replace WW := WW.trans (hb.mono WW.size)
  have kXA := XA.cell
  have zXA := XA.lt
  have kXP := XP.cell
  have zXP := XP.lt
  have kXB := XB.cell
  have zXB := XB.lt
  have kXQ := XQ.cell
  have zXQ := XQ.lt
  clear hb hbs
  go_wp2_with fail
  have hbs : w.heap.size ≤ V2.heap.size := WW.size
  have hc := few_n2 6 (by omega) V2 A2 A4 k l c2 c4 (by omega) (by omega)
  rw [HG6.out] at hc
  refine hc.mono ?_
  clear hc
  rintro e V3 ⟨rfl, hb⟩
  clear kXA zXA kXP zXP kXB zXB kXQ zXQ
  replace XA := XA.below hb
  replace XP := XP.below hb
  replace XB := XB.below hb
  replace XQ := XQ.below hb
  replace WW := WW.trans (hb.mono WW.size)
  have kXA := XA.cell
  have zXA := XA.lt
  have kXP := XP.cell
  have zXP := XP.lt
  have kXB := XB.cell
  have zXB := XB.lt
  have kXQ := XQ.cell
  have zXQ := XQ.lt
  clear hb hbs
  go_wp2_with fail
  have hbs : w.heap.size ≤ V3.heap.size := WW.size
  have hc := ncrt_any A A2 A3 A4 _ _ _ _ c1 c2 c3 c4 a p b q V3 XA.num XP.num XB.num XQ.num (by omega) (by omega) (by omega) (by omega)
  rw [HV.out] at hc
  refine hc.mono ?_
  clear hc
  rintro e V4 ⟨v, rfl, hv, hb⟩
  clear kXA zXA kXP zXP kXB zXB kXQ zXQ
  replace XA := XA.below hb
  replace XP := XP.below hb
  replace XB := XB.below hb
  replace XQ := XQ.below hb
  replace WW := WW.trans (hb.mono WW.size)
  obtain ⟨D1, d1, rfl, ho⟩ := hv
  have O1 := ho.weak (b := w.heap.size) hbs
  clear ho
  have kXA := XA.cell
  have zXA := XA.lt
  have kXP := XP.cell
  have zXP := XP.lt
  have kXB := XB.cell
  have zXB := XB.lt
  have kXQ := XQ.cell
  have zXQ := XQ.lt
  clear hb hbs
  go_wp2_with fail
  obtain ⟨b0, bw⟩ := boxes1 V4 (.slice D1 (nw 0) d1)
  have hbs := WW.size
  clear kXA zXA kXP zXP kXB zXB kXQ zXQ
  have qXQ5 := XQ.lt
  have X1 := VB.mk (B := w.heap.size) (a := 0) b0 (.inr O1) bw hbs (by omega)
  replace XA := XA.below bw
  replace XP := XP.below bw
  replace XB := XB.below bw
  replace XQ := XQ.below bw
  replace O1 := O1.below bw (Nat.le_refl _)
  replace WW := WW.trans (bw.mono WW.size)
  clear bw hbs b0
  generalize hV : (V4.alloc (.cells #[.slice D1 (nw 0) d1] 24)) = V5 at XA XP XB XQ X1 O1 WW ⊢
  clear hV
  have kXA := XA.cell
  have zXA := XA.lt
  have kXP := XP.cell
  have zXP := XP.lt
  have kXB := XB.cell
  have zXB := XB.lt
  have kXQ := XQ.cell
  have zXQ := XQ.lt
  have kX1 := X1.cell
  have zX1 := X1.lt
  have hbs : w.heap.size ≤ V5.heap.size := WW.size
  have hc := first_a0 V5 _ p c2 A2 XP.num (by omega)
  rw [M1.out] at hc
  refine hc.mono ?_
  clear hc
  rintro e V6 ⟨rfl, hb⟩
  clear kXA zXA kXP zXP kXB zXB kXQ zXQ kX1 zX1
  replace XA := XA.below hb
  replace XP := XP.below hb
  replace XB := XB.below hb
  replace XQ := XQ.below hb
  replace X1 := X1.below hb
  replace O1 := O1.below hb (Nat.le_refl _)
  replace WW := WW.trans (hb.mono WW.size)
  have kXA := XA.cell
  have zXA := XA.lt
  have kXP := XP.cell
  have zXP := XP.lt
  have kXB := XB.cell
  have zXB := XB.lt
  have kXQ := XQ.cell
  have zXQ := XQ.lt
  have kX1 := X1.cell
  have zX1 := X1.lt
  clear hb hbs
  go_wp2_with fail
  have hbs : w.heap.size ≤ V6.heap.size := WW.size
  have hc := first_a0 V6 _ q c4 A4 XQ.num (by omega)
  rw [M2.out] at hc
  refine hc.mono ?_
  clear hc
  rintro e V7 ⟨rfl, hb⟩
  clear kXA zXA kXP zXP kXB zXB kXQ zXQ kX1 zX1
  replace XA := XA.below hb
  replace XP := XP.below hb
  replace XB := XB.below hb
  replace XQ := XQ.below hb
  replace X1 := X1.below hb
  replace O1 := O1.below hb (Nat.le_refl _)
  replace WW := WW.trans (hb.mono WW.size)
  have kXA := XA.cell
  have zXA := XA.lt
  have kXP := XP.cell
  have zXP := XP.lt
  have kXB := XB.cell
  have zXB := XB.lt
  have kXQ := XQ.cell
  have zXQ := XQ.lt
  have kX1 := X1.cell
  have zX1 := X1.lt
  clear hb hbs
  go_wp2_with fail
  have hbs : w.heap.size ≤ V7.heap.size := WW.size
  have hc := rvalid_any A _ c1 a _ V7 XA.num (Nat.le_refl _) (by omega)
  rw [G3.out] at hc
  refine hc.mono ?_
  clear hc
  rintro e V8 ⟨rfl, hb⟩
  clear kXA zXA kXP zXP kXB zXB kXQ zXQ kX1 zX1
  replace XA := XA.below hb
  replace XP := XP.below hb
  replace XB := XB.below hb
  replace XQ := XQ.below hb
  replace X1 := X1.below hb
  replace O1 := O1.below hb (Nat.le_refl _)
  replace WW := WW.trans (hb.mono WW.size)
  have kXA := XA.cell
  have zXA := XA.lt
  have kXP := XP.cell
  have zXP := XP.lt
  have kXB := XB.cell
  have zXB := XB.lt
  have kXQ := XQ.cell
  have zXQ := XQ.lt
  have kX1 := X1.cell
  have zX1 := X1.lt
  clear hb hbs
  go_wp2_with fail
  go_ret
  exact ⟨rfl, WW⟩

set_option maxHeartbeats 16000000 in
set_option maxRecDepth 100000 in
theorem crtl_v2n (A A2 A3 A4 : Option Addr) (n k j l c1 c2 c3 c4 a p b q : Nat) (w : World) (hA : Num w w.heap.size A n a) (hP : Num w w.heap.size A2 k p) (hB : Num w w.heap.size A3 j b) (hQ : Num w w.heap.size A4 l q) (hn : n ≤ 9223372036854775807) (hk : k ≤ 9223372036854775807) (hj : j ≤ 9223372036854775807) (hl : l ≤ 9223372036854775807) (hg : n ≤ 40 ∧ k ≤ 40 ∧ j ≤ 40 ∧ l ≤ 40) (hg6 : ¬ (k ≤ 6 ∧ l ≤ 6)) (hs : ¬ k + l < 34) (h1 : modB k p = true) (h2 : modB l q = true) (h3 : okB n a = true) (h4 : okB j b = false) :
    Calls Try.prog 6 #[.agg #[.slice A n c1], .agg #[.slice A2 k c2], .agg #[.slice A3 j c3], .agg #[.slice A4 l c4]] w (RetB (.bool true) w) := by
  have HG : Hid (decide (n ≤ 40 ∧ k ≤ 40 ∧ j ≤ 40 ∧ l ≤ 40) = true) := decide_eq_true hg
  have HG6 : Hid (decide (k ≤ 6 ∧ l ≤ 6) = false) := decide_eq_false hg6
  have hk40 := hg.2.1
  have hl40 := hg.2.2.2
  have hn40 := hg.1
  have hj40 := hg.2.2.1
  have z0 : (((nw 0 : Nat) : Int) == 0) = true := rfl
  have z00 : (((nw 0 : Nat) : Int) != 0) = false := rfl
  have s1 : ¬ ((k : Int) + (l : Int) < 34) := by omega
  have s2 : (34 : Int) ≤ (k : Int) + (l : Int) := by omega
  have s3 : (33 : Int) < (k : Int) + (l : Int) := by omega
  have HV0 : crtV n a k p j b l q = (0, 1) := by unfold crtV; rw [h3, h4]; rfl
  have HV := hid HV0
  clear HV0 hg hg6 hs
  have M1 : Hid ((if modB k p = true then (0 : Int) else 1) = 0) := (show _ = _ by rw [h1]; rfl)
  have M2 : Hid ((if modB l q = true then (0 : Int) else 1) = 0) := (show _ = _ by rw [h2]; rfl)
  have G3 := hid h3
  have G4 := hid h4
  clear h1 h2 h3 h4
  obtain ⟨b0, b1, b2, b3, bw⟩ := boxes4 w (.slice A n c1) (.slice A2 k c2) (.slice A3 j c3) (.slice A4 l c4)
  have XA := VB.mk (B := w.heap.size) (a := a) b0 (.inl hA) bw (Nat.le_refl _) (by omega)
  have XP := VB.mk (B := w.heap.size) (a := p) b1 (.inl hP) bw (Nat.le_refl _) (by omega)
  have XB := VB.mk (B := w.heap.size) (a := b) b2 (.inl hB) bw (Nat.le_refl _) (by omega)
  have XQ := VB.mk (B := w.heap.size) (a := q) b3 (.inl hQ) bw (Nat.le_refl _) (by omega)
  have WW := bw
  clear bw b0 b1 b2 b3
  go_enter Try.func6, Try.ntmps6
  go_wp2_with fail
  generalize hV : ((((w.alloc (.cells #[.slice A n c1] 24)).alloc (.cells #[.slice A2 k c2] 24)).alloc (.cells #[.slice A3 j c3] 24)).alloc (.cells #[.slice A4 l c4] 24)) = V0 at XA XP XB XQ WW ⊢
  clear hV
  have hbs : w.heap.size ≤ V0.heap.size := WW.size
  have hc := awake_any V0
  refine hc.mono ?_
  clear hc
  rintro e V1 ⟨rfl, hb⟩
  replace XA := XA.below hb
  replace XP := XP.below hb
  replace XB := XB.below hb
  replace XQ := XQ.below hb
  replace WW := WW.trans (hb.mono WW.size)
  have kXA := XA.cell
  have zXA := XA.lt
  have kXP := XP.cell
  have zXP := XP.lt
  have kXB := XB.cell
  have zXB := XB.lt
  have kXQ := XQ.cell
  have zXQ := XQ.lt
  clear hb hbs
  go_wp2_with fail
  have hbs : w.heap.size ≤ V1.heap.size := WW.size
  have hc := few_n4 40 (by omega) V1 A A2 A3 A4 n k j l c1 c2 c3 c4 (by omega) (by omega) (by omega) (by omega)
  rw [HG.out] at hc
  refine hc.mono ?_
  clear hc
  rintro e V2 ⟨rfl, hb⟩
  clear kXA zXA kXP zXP kXB zXB kXQ zXQ
  replace XA := XA.below hb
  replace XP := XP.below hb
  replace XB := XB.below hb
  replace XQ := XQ.below hb
  replace WW := WW.trans (hb.mono WW.size)
  have kXA := XA.cell
  have zXA := XA.lt
  have kXP := XP.cell
  have zXP := XP.lt
  have kXB := XB.cell
  have zXB := XB.lt
  have kXQ := XQ.cell
  have zXQ := XQ.lt
  clear hb hbs
  go_wp2_with fail
  have hbs : w.heap.size ≤ V2.heap.size := WW.size
  have hc := few_n2 6 (by omega) V2 A2 A4 k l c2 c4 (by omega) (by omega)
  rw [HG6.out] at hc
  refine hc.mono ?_
  clear hc
  rintro e V3 ⟨rfl, hb⟩
  clear kXA zXA kXP zXP kXB zXB kXQ zXQ
  replace XA := XA.below hb
  replace XP := XP.below hb
  replace XB := XB.below hb
  replace XQ := XQ.below hb
  replace WW := WW.trans (hb.mono WW.size)
  have kXA := XA.cell
  have zXA := XA.lt
  have kXP := XP.cell
  have zXP := XP.lt
  have kXB := XB.cell
  have zXB := XB.lt
  have kXQ := XQ.cell
  have zXQ := XQ.lt
  clear hb hbs
  go_wp2_with fail
  have hbs : w.heap.size ≤ V3.heap.size := WW.size
  have hc := ncrt_any A A2 A3 A4 _ _ _ _ c1 c2 c3 c4 a p b q V3 XA.num XP.num XB.num XQ.num (by omega) (by omega) (by omega) (by omega)
  rw [HV.out] at hc
  refine hc.mono ?_
  clear hc
  rintro e V4 ⟨v, rfl, hv, hb⟩
  clear kXA zXA kXP zXP kXB zXB kXQ zXQ
  replace XA := XA.below hb
  replace XP := XP.below hb
  replace XB := XB.below hb
  replace XQ := XQ.below hb
  replace WW := WW.trans (hb.mono WW.size)
  obtain ⟨D1, d1, rfl, ho⟩ := hv
  have O1 := ho.weak (b := w.heap.size) hbs
  clear ho
  have kXA := XA.cell
  have zXA := XA.lt
  have kXP := XP.cell
  have zXP := XP.lt
  have kXB := XB.cell
  have zXB := XB.lt
  have kXQ := XQ.cell
  have zXQ := XQ.lt
  clear hb hbs
  go_wp2_with fail
  obtain ⟨b0, bw⟩ := boxes1 V4 (.slice D1 (nw 0) d1)
  have hbs := WW.size
  clear kXA zXA kXP zXP kXB zXB kXQ zXQ
  have qXQ5 := XQ.lt
  have X1 := VB.mk (B := w.heap.size) (a := 0) b0 (.inr O1) bw hbs (by omega)
  replace XA := XA.below bw
  replace XP := XP.below bw
  replace XB := XB.below bw
  replace XQ := XQ.below bw
  replace O1 := O1.below bw (Nat.le_refl _)
  replace WW := WW.trans (bw.mono WW.size)
  clear bw hbs b0
  generalize hV : (V4.alloc (.cells #[.slice D1 (nw 0) d1] 24)) = V5 at XA XP XB XQ X1 O1 WW ⊢
  clear hV
  have kXA := XA.cell
  have zXA := XA.lt
  have kXP := XP.cell
  have zXP := XP.lt
  have kXB := XB.cell
  have zXB := XB.lt
  have kXQ := XQ.cell
  have zXQ := XQ.lt
  have kX1 := X1.cell
  have zX1 := X1.lt
  have hbs : w.heap.size ≤ V5.heap.size := WW.size
  have hc := first_a0 V5 _ p c2 A2 XP.num (by omega)
  rw [M1.out] at hc
  refine hc.mono ?_
  clear hc
  rintro e V6 ⟨rfl, hb⟩
  clear kXA zXA kXP zXP kXB zXB kXQ zXQ kX1 zX1
  replace XA := XA.below hb
  replace XP := XP.below hb
  replace XB := XB.below hb
  replace XQ := XQ.below hb
  replace X1 := X1.below hb
  replace O1 := O1.below hb (Nat.le_refl _)
  replace WW := WW.trans (hb.mono WW.size)
  have kXA := XA.cell
  have zXA := XA.lt
  have kXP := XP.cell
  have zXP := XP.lt
  have kXB := XB.cell
  have zXB := XB.lt
  have kXQ := XQ.cell
  have zXQ := XQ.lt
  have kX1 := X1.cell
  have zX1 := X1.lt
  clear hb hbs
  go_wp2_with fail
  have hbs : w.heap.size ≤ V6.heap.size := WW.size
  have hc := first_a0 V6 _ q c4 A4 XQ.num (by omega)
  rw [M2.out] at hc
  refine hc.mono ?_
  clear hc
  rintro e V7 ⟨rfl, hb⟩
  clear kXA zXA kXP zXP kXB zXB kXQ zXQ kX1 zX1
  replace XA := XA.below hb
  replace XP := XP.below hb
  replace XB := XB.below hb
  replace XQ := XQ.below hb
  replace X1 := X1.below hb
  replace O1 := O1.below hb (Nat.le_refl _)
  replace WW := WW.trans (hb.mono WW.size)
  have kXA := XA.cell
  have zXA := XA.lt
  have kXP := XP.cell
  have zXP := XP.lt
  have kXB := XB.cell
  have zXB := XB.lt
  have kXQ := XQ.cell
  have zXQ := XQ.lt
  have kX1 := X1.cell
  have zX1 := X1.lt
  clear hb hbs
  go_wp2_with fail
  have hbs : w.heap.size ≤ V7.heap.size := WW.size
  have hc := rvalid_any A _ c1 a _ V7 XA.num (Nat.le_refl _) (by omega)
  rw [G3.out] at hc
  refine hc.mono ?_
  clear hc
  rintro e V8 ⟨rfl, hb⟩
  clear kXA zXA kXP zXP kXB zXB kXQ zXQ kX1 zX1
  replace XA := XA.below hb
  replace XP := XP.below hb
  replace XB := XB.below hb
  replace XQ := XQ.below hb
  replace X1 := X1.below hb
  replace O1 := O1.below hb (Nat.le_refl _)
  replace WW := WW.trans (hb.mono WW.size)
  have kXA := XA.cell
  have zXA := XA.lt
  have kXP := XP.cell
  have zXP := XP.lt
  have kXB := XB.cell
  have zXB := XB.lt
  have kXQ := XQ.cell
  have zXQ := XQ.lt
  have kX1 := X1.cell
  have zX1 := X1.lt
  clear hb hbs
  go_wp2_with fail
  have hbs : w.heap.size ≤ V8.heap.size := WW.size
  have hc := rvalid_any A3 _ c3 b _ V8 XB.num (Nat.le_refl _) (by omega)
  rw [G4.out] at hc
  refine hc.mono ?_
  clear hc
  rintro e V9 ⟨rfl, hb⟩
  clear kXA zXA kXP zXP kXB zXB kXQ zXQ kX1 zX1
  replace XA := XA.below hb
  replace XP := XP.below hb
  replace XB := XB.below hb
  replace XQ := XQ.below hb
  replace X1 := X1.below hb
  replace O1 := O1.below hb (Nat.le_refl _)
  replace WW := WW.trans (hb.mono WW.size)
  have kXA := XA.cell
  have zXA := XA.lt
  have kXP := XP.cell
  have zXP := XP.lt
  have kXB := XB.cell
  have zXB := XB.lt
  have kXQ := XQ.cell
  have zXQ := XQ.lt
  have kX1 := X1.cell
  have zX1 := X1.lt
  clear hb hbs
  go_wp2_with fail
  go_ret
  exact ⟨rfl, WW⟩

set_option maxHeartbeats 16000000 in
set_option maxRecDepth 100000 in
theorem crtl_r1n (A A2 A3 A4 : Option Addr) (n k j l c1 c2 c3 c4 a p b q : Nat) (w : World) (hA : Num w w.heap.size A n a) (hP : Num w w.heap.size A2 k p) (hB : Num w w.heap.size A3 j b) (hQ : Num w w.heap.size A4 l q) (hn : n ≤ 9223372036854775807) (hk : k ≤ 9223372036854775807) (hj : j ≤ 9223372036854775807) (hl : l ≤ 9223372036854775807) (hg : n ≤ 40 ∧ k ≤ 40 ∧ j ≤ 40 ∧ l ≤ 40) (hg6 : ¬ (k ≤ 6 ∧ l ≤ 6)) (hs : ¬ k + l < 34) (h1 : modB k p = true) (h2 : modB l q = true) (h3 : okB n a = true) (h4 : okB j b = true) (h5 : ¬ a < p) :
    Calls Try.prog 6 #[.agg #[.slice A n c1], .agg #[.slice A2 k c2], .agg #[.slice A3 j c3], .agg #[.slice A4 l c4]] w (RetB (.bool true) w) := by
  have HG : Hid (decide (n ≤ 40 ∧ k ≤ 40 ∧ j ≤ 40 ∧ l ≤ 40) = true) := decide_eq_true hg
  have HG6 : Hid (decide (k ≤ 6 ∧ l ≤ 6) = false) := decide_eq_false hg6
  have hk40 := hg.2.1
  have hl40 := hg.2.2.2
  have hn40 := hg.1
  have hj40 := hg.2.2.1
  have z0 : (((nw 0 : Nat) : Int) == 0) = true := rfl
  have z00 : (((nw 0 : Nat) : Int) != 0) = false := rfl
  have s1 : ¬ ((k : Int) + (l : Int) < 34) := by omega
  have s2 : (34 : Int) ≤ (k : Int) + (l : Int) := by omega
  have s3 : (33 : Int) < (k : Int) + (l : Int) := by omega
  have HV0 : crtV n a k p j b l q = (0, 2) := by unfold crtV; rw [h1, h2, h3, h4, if_pos (show (true && (true && (true && true))) = true from rfl), if_neg (fun h : a < p ∧ b < q => h5 h.1)]
  have HV := hid HV0
  clear HV0 hg hg6 hs
  have M1 : Hid ((if modB k p = true then (0 : Int) else 1) = 0) := (show _ = _ by rw [h1]; rfl)
  have M2 : Hid ((if modB l q = true then (0 : Int) else 1) = 0) := (show _ = _ by rw [h2]; rfl)
  have G3 := hid h3
  have G4 := hid h4
  obtain ⟨e1, na⟩ := okB_yes.1 h3
  obtain ⟨e2, nb⟩ := okB_yes.1 h4
  obtain ⟨e3, np, hp0⟩ := modB_yes h1
  obtain ⟨e4, nq, hq0⟩ := modB_yes h2
  subst e1 e2 e3 e4
  have R1 : Hid (decide (a < p) = false) := decide_eq_false h5
  clear h1 h2 h3 h4 h5 hp0 hq0
  obtain ⟨b0, b1, b2, b3, bw⟩ := boxes4 w (.slice A (nw a) c1) (.slice A2 (nw p) c2) (.slice A3 (nw b) c3) (.slice A4 (nw q) c4)
  have XA := VB.mk (B := w.heap.size) (a := a) b0 (.inl hA) bw (Nat.le_refl _) (by omega)
  have XP := VB.mk (B := w.heap.size) (a := p) b1 (.inl hP) bw (Nat.le_refl _) (by omega)
  have XB := VB.mk (B := w.heap.size) (a := b) b2 (.inl hB) bw (Nat.le_refl _) (by omega)
  have XQ := VB.mk (B := w.heap.size) (a := q) b3 (.inl hQ) bw (Nat.le_refl _) (by omega)
  have WW := bw
  clear bw b0 b1 b2 b3
  go_enter Try.func6, Try.ntmps6
  go_wp2_with fail
  generalize hV : ((((w.alloc (.cells #[.slice A (nw a) c1] 24)).alloc (.cells #[.slice A2 (nw p) c2] 24)).alloc (.cells #[.slice A3 (nw b) c3] 24)).alloc (.cells #[.slice A4 (nw q) c4] 24)) = V0 at XA XP XB XQ WW ⊢
  clear hV
  have hbs : w.heap.size ≤ V0.heap.size := WW.size
  have hc := awake_any V0
  refine hc.mono ?_
  clear hc
  rintro e V1 ⟨rfl, hb⟩
  replace XA := XA.below hb
  replace XP := XP.below hb
  replace XB := XB.below hb
  replace XQ := XQ.below hb
  replace WW := WW.trans (hb.mono WW.size)
  have kXA := XA.cell
  have zXA := XA.lt
  have kXP := XP.cell
  have zXP := XP.lt
  have kXB := XB.cell
  have zXB := XB.lt
  have kXQ := XQ.cell
  have zXQ := XQ.lt
  clear hb hbs
  go_wp2_with fail
  have hbs : w.heap.size ≤ V1.heap.size := WW.size
  have hc := few_n4 40 (by omega) V1 A A2 A3 A4 (nw a) (nw p) (nw b) (nw q) c1 c2 c3 c4 (by omega) (by omega) (by omega) (by omega)
  rw [HG.out] at hc
  refine hc.mono ?_
  clear hc
  rintro e V2 ⟨rfl, hb⟩
  clear kXA zXA kXP zXP kXB zXB kXQ zXQ
  replace XA := XA.below hb
  replace XP := XP.below hb
  replace XB := XB.below hb
  replace XQ := XQ.below hb
  replace WW := WW.trans (hb.mono WW.size)
  have kXA := XA.cell
  have zXA := XA.lt
  have kXP := XP.cell
  have zXP := XP.lt
  have kXB := XB.cell
  have zXB := XB.lt
  have kXQ := XQ.cell
  have zXQ := XQ.lt
  clear hb hbs
  go_wp2_with fail
  have hbs : w.heap.size ≤ V2.heap.size := WW.size
  have hc := few_n2 6 (by omega) V2 A2 A4 (nw p) (nw q) c2 c4 (by omega) (by omega)
  rw [HG6.out] at hc
  refine hc.mono ?_
  clear hc
  rintro e V3 ⟨rfl, hb⟩
  clear kXA zXA kXP zXP kXB zXB kXQ zXQ
  replace XA := XA.below hb
  replace XP := XP.below hb
  replace XB := XB.below hb
  replace XQ := XQ.below hb
  replace WW := WW.trans (hb.mono WW.size)
  have kXA := XA.cell
  have zXA := XA.lt
  have kXP := XP.cell
  have zXP := XP.lt
  have kXB := XB.cell
  have zXB := XB.lt
  have kXQ := XQ.cell
  have zXQ := XQ.lt
  clear hb hbs
  go_wp2_with fail
  have hbs : w.heap.size ≤ V3.heap.size := WW.size
  have hc := ncrt_any A A2 A3 A4 _ _ _ _ c1 c2 c3 c4 a p b q V3 XA.num XP.num XB.num XQ.num (by omega) (by omega) (by omega) (by omega)
  rw [HV.out] at hc
  refine hc.mono ?_
  clear hc
  rintro e V4 ⟨v, rfl, hv, hb⟩
  clear kXA zXA kXP zXP kXB zXB kXQ zXQ
  replace XA := XA.below hb
  replace XP := XP.below hb
  replace XB := XB.below hb
  replace XQ := XQ.below hb
  replace WW := WW.trans (hb.mono WW.size)
  obtain ⟨D1, d1, rfl, ho⟩ := hv
  have O1 := ho.weak (b := w.heap.size) hbs
  clear ho
  have kXA := XA.cell
  have zXA := XA.lt
  have kXP := XP.cell
  have zXP := XP.lt
  have kXB := XB.cell
  have zXB := XB.lt
  have kXQ := XQ.cell
  have zXQ := XQ.lt
  clear hb hbs
  go_wp2_with fail
  obtain ⟨b0, bw⟩ := boxes1 V4 (.slice D1 (nw 0) d1)
  have hbs := WW.size
  clear kXA zXA kXP zXP kXB zXB kXQ zXQ
  have qXQ5 := XQ.lt
  have X1 := VB.mk (B := w.heap.size) (a := 0) b0 (.inr O1) bw hbs (by omega)
  replace XA := XA.below bw
  replace XP := XP.below bw
  replace XB := XB.below bw
  replace XQ := XQ.below bw
  replace O1 := O1.below bw (Nat.le_refl _)
  replace WW := WW.trans (bw.mono WW.size)
  clear bw hbs b0
  generalize hV : (V4.alloc (.cells #[.slice D1 (nw 0) d1] 24)) = V5 at XA XP XB XQ X1 O1 WW ⊢
  clear hV
  have kXA := XA.cell
  have zXA := XA.lt
  have kXP := XP.cell
  have zXP := XP.lt
  have kXB := XB.cell
  have zXB := XB.lt
  have kXQ := XQ.cell
  have zXQ := XQ.lt
  have kX1 := X1.cell
  have zX1 := X1.lt
  have hbs : w.heap.size ≤ V5.heap.size := WW.size
  have hc := first_a0 V5 _ p c2 A2 XP.num (by omega)
  rw [M1.out] at hc
  refine hc.mono ?_
  clear hc
  rintro e V6 ⟨rfl, hb⟩
  clear kXA zXA kXP zXP kXB zXB kXQ zXQ kX1 zX1
  replace XA := XA.below hb
  replace XP := XP.below hb
  replace XB := XB.below hb
  replace XQ := XQ.below hb
  replace X1 := X1.below hb
  replace O1 := O1.below hb (Nat.le_refl _)
  replace WW := WW.trans (hb.mono WW.size)
  have kXA := XA.cell
  have zXA := XA.lt
  have kXP := XP.cell
  have zXP := XP.lt
  have kXB := XB.cell
  have zXB := XB.lt
  have kXQ := XQ.cell
  have zXQ := XQ.lt
  have kX1 := X1.cell
  have zX1 := X1.lt
  clear hb hbs
  go_wp2_with fail
  have hbs : w.heap.size ≤ V6.heap.size := WW.size
  have hc := first_a0 V6 _ q c4 A4 XQ.num (by omega)
  rw [M2.out] at hc
  refine hc.mono ?_
  clear hc
  rintro e V7 ⟨rfl, hb⟩
  clear kXA zXA kXP zXP kXB zXB kXQ zXQ kX1 zX1
  replace XA := XA.below hb
  replace XP := XP.below hb
  replace XB := XB.below hb
  replace XQ := XQ.below hb
  replace X1 := X1.below hb
  replace O1 := O1.below hb (Nat.le_refl _)
  replace WW := WW.trans (hb.mono WW.size)
  have kXA := XA.cell
  have zXA := XA.lt
  have kXP := XP.cell
  have zXP := XP.lt
  have kXB := XB.cell
  have zXB := XB.lt
  have kXQ := XQ.cell
  have zXQ := XQ.lt
  have kX1 := X1.cell
  have zX1 := X1.lt
  clear hb hbs
  go_wp2_with fail
  have hbs : w.heap.size ≤ V7.heap.size := WW.size
  have hc := rvalid_any A _ c1 a _ V7 XA.num (Nat.le_refl _) (by omega)
  rw [G3.out] at hc
  refine hc.mono ?_
  clear hc
  rintro e V8 ⟨rfl, hb⟩
  clear kXA zXA kXP zXP kXB zXB kXQ zXQ kX1 zX1
  replace XA := XA.below hb
  replace XP := XP.below hb
  replace XB := XB.below hb
  replace XQ := XQ.below hb
  replace X1 := X1.below hb
  replace O1 := O1.below hb (Nat.le_refl _)
  replace WW := WW.trans (hb.mono WW.size)
  have kXA := XA.cell
  have zXA := XA.lt
  have kXP := XP.cell
  have zXP := XP.lt
  have kXB := XB.cell
  have zXB := XB.lt
  have kXQ := XQ.cell
  have zXQ := XQ.lt
  have kX1 := X1.cell
  have zX1 := X1.lt
  clear hb hbs
  go_wp2_with fail
  have hbs : w.heap.size ≤ V8.heap.size := WW.size
  have hc := rvalid_any A3 _ c3 b _ V8 XB.num (Nat.le_refl _) (by omega)
  rw [G4.out] at hc
  refine hc.mono ?_
  clear hc
  rintro e V9 ⟨rfl, hb⟩
  clear kXA zXA kXP zXP kXB zXB kXQ zXQ kX1 zX1
  replace XA := XA.below hb
  replace XP := XP.below hb
  replace XB := XB.below hb
  replace XQ := XQ.below hb
  replace X1 := X1.below hb
  replace O1 := O1.below hb (Nat.le_refl _)
  replace WW := WW.trans (hb.mono WW.size)
  have kXA := XA.cell
  have zXA := XA.lt
  have kXP := XP.cell
  have zXP := XP.lt
  have kXB := XB.cell
  have zXB := XB.lt
  have kXQ := XQ.cell
  have zXQ := XQ.lt
  have kX1 := X1.cell
  have zX1 := X1.lt
  clear hb hbs
  go_wp2_with fail
  have hbs : w.heap.size ≤ V9.heap.size := WW.size
  have hc := less3_any A A2 c1 c2 a p V9 XA.num XP.num (by omega) (by omega)
  rw [R1.out] at hc
  refine hc.mono ?_
  clear hc
  rintro e V10 ⟨rfl, hb⟩
  clear kXA zXA kXP zXP kXB zXB kXQ zXQ kX1 zX1
  replace XA := XA.below hb
  replace XP := XP.below hb
  replace XB := XB.below hb
  replace XQ := XQ.below hb
  replace X1 := X1.below hb
  replace O1 := O1.below hb (Nat.le_refl _)
  replace WW := WW.trans (hb.mono WW.size)
  have kXA := XA.cell
  have zXA := XA.lt
  have kXP := XP.cell
  have zXP := XP.lt
  have kXB := XB.cell
  have zXB := XB.lt
  have kXQ := XQ.cell
  have zXQ := XQ.lt
  have kX1 := X1.cell
  have zX1 := X1.lt
  clear hb hbs
  go_wp2_with fail
  go_ret
  exact ⟨rfl, WW⟩

set_option maxHeartbeats 16000000 in
set_option maxRecDepth 100000 in
theorem crtl_r2n (A A2 A3 A4 : Option Addr) (n k j l c1 c2 c3 c4 a p b q : Nat) (w : World) (hA : Num w w.heap.size A n a) (hP : Num w w.heap.size A2 k p) (hB : Num w w.heap.size A3 j b) (hQ : Num w w.heap.size A4 l q) (hn : n ≤ 9223372036854775807) (hk : k ≤ 9223372036854775807) (hj : j ≤ 9223372036854775807) (hl : l ≤ 9223372036854775807) (hg : n ≤ 40 ∧ k ≤ 40 ∧ j ≤ 40 ∧ l ≤ 40) (hg6 : ¬ (k ≤ 6 ∧ l ≤ 6)) (hs : ¬ k + l < 34) (h1 : modB k p = true) (h2 : modB l q = true) (h3 : okB n a = true) (h4 : okB j b = true) (h5 : a < p) (h6 : ¬ b < q) :
    Calls Try.prog 6 #[.agg #[.slice A n c1], .agg #[.slice A2 k c2], .agg #[.slice A3 j c3], .agg #[.slice A4 l c4]] w (RetB (.bool true) w) := by
  have HG : Hid (decide (n ≤ 40 ∧ k ≤ 40 ∧ j ≤ 40 ∧ l ≤ 40) = true) := decide_eq_true hg
  have HG6 : Hid (decide (k ≤ 6 ∧ l ≤ 6) = false) := decide_eq_false hg6
  have hk40 := hg.2.1
  have hl40 := hg.2.2.2
  have hn40 := hg.1
  have hj40 := hg.2.2.1
  have z0 : (((nw 0 : Nat) : Int) == 0) = true := rfl
  have z00 : (((nw 0 : Nat) : Int) != 0) = false := rfl
  have s1 : ¬ ((k : Int) + (l : Int) < 34) := by omega
  have s2 : (34 : Int) ≤ (k : Int) + (l : Int) := by omega
  have s3 : (33 : Int) < (k : Int) + (l : Int) := by omega
  have HV0 : crtV n a k p j b l q = (0, 2) := by unfold crtV; rw [h1, h2, h3, h4, if_pos (show (true && (true && (true && true))) = true from rfl), if_neg (fun h : a < p ∧ b < q => h6 h.2)]
  have HV := hid HV0
  clear HV0 hg hg6 hs
  have M1 : Hid ((if modB k p = true then (0 : Int) else 1) = 0) := (show _ = _ by rw [h1]; rfl)
  have M2 : Hid ((if modB l q = true then (0 : Int) else 1) = 0) := (show _ = _ by rw [h2]; rfl)
  have G3 := hid h3
  have G4 := hid h4
  obtain ⟨e1, na⟩ := okB_yes.1 h3
  obtain ⟨e2, nb⟩ := okB_yes.1 h4
  obtain ⟨e3, np, hp0⟩ := modB_yes h1
  obtain ⟨e4, nq, hq0⟩ := modB_yes h2
  subst e1 e2 e3 e4
  have R1 : Hid (decide (a < p) = true) := decide_eq_true h5
  have R2 : Hid (decide (b < q) = false) := decide_eq_false h6
  clear h1 h2 h3 h4 h5 h6 hp0 hq0
  obtain ⟨b0, b1, b2, b3, bw⟩ := boxes4 w (.slice A (nw a) c1) (.slice A2 (nw p) c2) (.slice A3 (nw b) c3) (.slice A4 (nw q) c4)
  have XA := VB.mk (B := w.heap.size) (a := a) b0 (.inl hA) bw (Nat.le_refl _) (by omega)
  have XP := VB.mk (B := w.heap.size) (a := p) b1 (.inl hP) bw (Nat.le_refl _) (by omega)
  have XB := VB.mk (B := w.heap.size) (a := b) b2 (.inl hB) bw (Nat.le_refl _) (by omega)
  have XQ := VB.mk (B := w.heap.size) (a := q) b3 (.inl hQ) bw (Nat.le_refl _) (by omega)
  have WW := bw
  clear bw b0 b1 b2 b3
  go_enter Try.func6, Try.ntmps6
  go_wp2_with fail
  generalize hV : ((((w.alloc (.cells #[.slice A (nw a) c1] 24)).alloc (.cells #[.slice A2 (nw p) c2] 24)).alloc (.cells #[.slice A3 (nw b) c3] 24)).alloc (.cells #[.slice A4 (nw q) c4] 24)) = V0 at XA XP XB XQ WW ⊢
  clear hV
  have hbs : w.heap.size ≤ V0.heap.size := WW.size
  have hc := awake_any V0
  refine hc.mono ?_
  clear hc
  rintro e V1 ⟨rfl, hb⟩
  replace XA := XA.below hb
  replace XP := XP.below hb
  replace XB := XB.below hb
  replace XQ := XQ.below hb
  replace WW := WW.trans (hb.mono WW.size)
  have kXA := XA.cell
  have zXA := XA.lt
  have kXP := XP.cell
  have zXP := XP.lt
  have kXB := XB.cell
  have zXB := XB.lt
  have kXQ := XQ.cell
  have zXQ := XQ.lt
  clear hb hbs
  go_wp2_with fail
  have hbs : w.heap.size ≤ V1.heap.size := WW.size
  have hc := few_n4 40 (by omega) V1 A A2 A3 A4 (nw a) (nw p) (nw b) (nw q) c1 c2 c3 c4 (by omega) (by omega) (by omega) (by omega)
  rw [HG.out] at hc
  refine hc.mono ?_
  clear hc
  rintro e V2 ⟨rfl, hb⟩
  clear kXA zXA kXP zXP kXB zXB kXQ zXQ
  replace XA := XA.below hb
  replace XP := XP.below hb
  replace XB := XB.below hb
  replace XQ := XQ.below hb
  replace WW := WW.trans (hb.mono WW.size)
  have kXA := XA.cell
  have zXA := XA.lt
  have kXP := XP.cell
  have zXP := XP.lt
  have kXB := XB.cell
  have zXB := XB.lt
  have kXQ := XQ.cell
  have zXQ := XQ.lt
  clear hb hbs
  go_wp2_with fail
  have hbs : w.heap.size ≤ V2.heap.size := WW.size
  have hc := few_n2 6 (by omega) V2 A2 A4 (nw p) (nw q) c2 c4 (by omega) (by omega)
  rw [HG6.out] at hc
  refine hc.mono ?_
  clear hc
  rintro e V3 ⟨rfl, hb⟩
  clear kXA zXA kXP zXP kXB zXB kXQ zXQ
  replace XA := XA.below hb
  replace XP := XP.below hb
  replace XB := XB.below hb
  replace XQ := XQ.below hb
  replace WW := WW.trans (hb.mono WW.size)
  have kXA := XA.cell
  have zXA := XA.lt
  have kXP := XP.cell
  have zXP := XP.lt
  have kXB := XB.cell
  have zXB := XB.lt
  have kXQ := XQ.cell
  have zXQ := XQ.lt
  clear hb hbs
  go_wp2_with fail
  have hbs : w.heap.size ≤ V3.heap.size := WW.size
  have hc := ncrt_any A A2 A3 A4 _ _ _ _ c1 c2 c3 c4 a p b q V3 XA.num XP.num XB.num XQ.num (by omega) (by omega) (by omega) (by omega)
  rw [HV.out] at hc
  refine hc.mono ?_
  clear hc
  rintro e V4 ⟨v, rfl, hv, hb⟩
  clear kXA zXA kXP zXP kXB zXB kXQ zXQ
  replace XA := XA.below hb
  replace XP := XP.below hb
  replace XB := XB.below hb
  replace XQ := XQ.below hb
  replace WW := WW.trans (hb.mono WW.size)
  obtain ⟨D1, d1, rfl, ho⟩ := hv
  have O1 := ho.weak (b := w.heap.size) hbs
  clear ho
  have kXA := XA.cell
  have zXA := XA.lt
  have kXP := XP.cell
  have zXP := XP.lt
  have kXB := XB.cell
  have zXB := XB.lt
  have kXQ := XQ.cell
  have zXQ := XQ.lt
  clear hb hbs
  go_wp2_with fail
  obtain ⟨b0, bw⟩ := boxes1 V4 (.slice D1 (nw 0) d1)
  have hbs := WW.size
  clear kXA zXA kXP zXP kXB zXB kXQ zXQ
  have qXQ5 := XQ.lt
  have X1 := VB.mk (B := w.heap.size) (a := 0) b0 (.inr O1) bw hbs (by omega)
  replace XA := XA.below bw
  replace XP := XP.below bw
  replace XB := XB.below bw
  replace XQ := XQ.below bw
  replace O1 := O1.below bw (Nat.le_refl _)
  replace WW := WW.trans (bw.mono WW.size)
  clear bw hbs b0
  generalize hV : (V4.alloc (.cells #[.slice D1 (nw 0) d1] 24)) = V5 at XA XP XB XQ X1 O1 WW ⊢
  clear hV
  have kXA := XA.cell
  have zXA := XA.lt
  have kXP := XP.cell
  have zXP := XP.lt
  have kXB := XB.cell
  have zXB := XB.lt
  have kXQ := XQ.cell
  have zXQ := XQ.lt
  have kX1 := X1.cell
  have zX1 := X1.lt
  have hbs : w.heap.size ≤ V5.heap.size := WW.size
  have hc := first_a0 V5 _ p c2 A2 XP.num (by omega)
  rw [M1.out] at hc
  refine hc.mono ?_
  clear hc
  rintro e V6 ⟨rfl, hb⟩
  clear kXA zXA kXP zXP kXB zXB kXQ zXQ kX1 zX1
  replace XA := XA.below hb
  replace XP := XP.below hb
  replace XB := XB.below hb
  replace XQ := XQ.below hb
  replace X1 := X1.below hb
  replace O1 := O1.below hb (Nat.le_refl _)
  replace WW := WW.trans (hb.mono WW.size)
  have kXA := XA.cell
  have zXA := XA.lt
  have kXP := XP.cell
  have zXP := XP.lt
  have kXB := XB.cell
  have zXB := XB.lt
  have kXQ := XQ.cell
  have zXQ := XQ.lt
  have kX1 := X1.cell
  have zX1 := X1.lt
  clear hb hbs
  go_wp2_with fail
  have hbs : w.heap.size ≤ V6.heap.size := WW.size
  have hc := first_a0 V6 _ q c4 A4 XQ.num (by omega)
  rw [M2.out] at hc
  refine hc.mono ?_
  clear hc
  rintro e V7 ⟨rfl, hb⟩
  clear kXA zXA kXP zXP kXB zXB kXQ zXQ kX1 zX1
  replace XA := XA.below hb
  replace XP := XP.below hb
  replace XB := XB.below hb
  replace XQ := XQ.below hb
  replace X1 := X1.below hb
  replace O1 := O1.below hb (Nat.le_refl _)
  replace WW := WW.trans (hb.mono WW.size)
  have kXA := XA.cell
  have zXA := XA.lt
  have kXP := XP.cell
  have zXP := XP.lt
  have kXB := XB.cell
  have zXB := XB.lt
  have kXQ := XQ.cell
  have zXQ := XQ.lt
  have kX1 := X1.cell
  have zX1 := X1.lt
  clear hb hbs
  go_wp2_with fail
  have hbs : w.heap.size ≤ V7.heap.size := WW.size
  have hc := rvalid_any A _ c1 a _ V7 XA.num (Nat.le_refl _) (by omega)
  rw [G3.out] at hc
  refine hc.mono ?_
  clear hc
  rintro e V8 ⟨rfl, hb⟩
  clear kXA zXA kXP zXP kXB zXB kXQ zXQ kX1 zX1
  replace XA := XA.below hb
  replace XP := XP.below hb
  replace XB := XB.below hb
  replace XQ := XQ.below hb
  replace X1 := X1.below hb
  replace O1 := O1.below hb (Nat.le_refl _)
  replace WW := WW.trans (hb.mono WW.size)
  have kXA := XA.cell
  have zXA := XA.lt
  have kXP := XP.cell
  have zXP := XP.lt
  have kXB := XB.cell
  have zXB := XB.lt
  have kXQ := XQ.cell
  have zXQ := XQ.lt
  have kX1 := X1.cell
  have zX1 := X1.lt
  clear hb hbs
  go_wp2_with fail
  have hbs : w.heap.size ≤ V8.heap.size := WW.size
  have hc := rvalid_any A3 _ c3 b _ V8 XB.num (Nat.le_refl _) (by omega)
  rw [G4.out] at hc
  refine hc.mono ?_
  clear hc
  rintro e V9 ⟨rfl, hb⟩
  clear kXA zXA kXP zXP kXB zXB kXQ zXQ kX1 zX1
  replace XA := XA.below hb
  replace XP := XP.below hb
  replace XB := XB.below hb
  replace XQ := XQ.below hb
  replace X1 := X1.below hb
  replace O1 := O1.below hb (Nat.le_refl _)
  replace WW := WW.trans (hb.mono WW.size)
  have kXA := XA.cell
  have zXA := XA.lt
  have kXP := XP.cell
  have zXP := XP.lt
  have kXB := XB.cell
  have zXB := XB.lt
  have kXQ := XQ.cell
  have zXQ := XQ.lt
  have kX1 := X1.cell
  have zX1 := X1.lt
  clear hb hbs
  go_wp2_with fail
  have hbs : w.heap.size ≤ V9.heap.size := WW.size
  have hc := less3_any A A2 c1 c2 a p V9 XA.num XP.num (by omega) (by omega)
  rw [R1.out] at hc
  refine hc.mono ?_
  clear hc
  rintro e V10 ⟨rfl, hb⟩
  clear kXA zXA kXP zXP kXB zXB kXQ zXQ kX1 zX1
  replace XA := XA.below hb
  replace XP := XP.below hb
  replace XB := XB.below hb
  replace XQ := XQ.below hb
  replace X1 := X1.below hb
  replace O1 := O1.below hb (Nat.le_refl _)
  replace WW := WW.trans (hb.mono WW.size)
  have kXA := XA.cell
  have zXA := XA.lt
  have kXP := XP.cell
  have zXP := XP.lt
  have kXB := XB.cell
  have zXB := XB.lt
  have kXQ := XQ.cell
  have zXQ := XQ.lt
  have kX1 := X1.cell
  have zX1 := X1.lt
  clear hb hbs
  go_wp2_with fail
  have hbs : w.heap.size ≤ V10.heap.size := WW.size
  have hc := less3_any A3 A4 c3 c4 b q V10 XB.num XQ.num (by omega) (by omega)
  rw [R2.out] at hc
  refine hc.mono ?_
  clear hc
  rintro e V11 ⟨rfl, hb⟩
  clear kXA zXA kXP zXP kXB zXB kXQ zXQ kX1 zX1
  replace XA := XA.below hb
  replace XP := XP.below hb
  replace XB := XB.below hb
  replace XQ := XQ.below hb
  replace X1 := X1.below hb
  replace O1 := O1.below hb (Nat.le_refl _)
  replace WW := WW.trans (hb.mono WW.size)
  have kXA := XA.cell
  have zXA := XA.lt
  have kXP := XP.cell
  have zXP := XP.lt
  have kXB := XB.cell
  have zXB := XB.lt
  have kXQ := XQ.cell
  have zXQ := XQ.lt
  have kX1 := X1.cell
  have zX1 := X1.lt
  clear hb hbs
  go_wp2_with fail
  go_ret
  exact ⟨rfl, WW⟩

set_option maxHeartbeats 16000000 in
set_option maxRecDepth 100000 in
theorem crtl_zn (A A2 A3 A4 : Option Addr) (n k j l c1 c2 c3 c4 a p b q : Nat) (w : World) (hA : Num w w.heap.size A n a) (hP : Num w w.heap.size A2 k p) (hB : Num w w.heap.size A3 j b) (hQ : Num w w.heap.size A4 l q) (hn : n ≤ 9223372036854775807) (hk : k ≤ 9223372036854775807) (hj : j ≤ 9223372036854775807) (hl : l ≤ 9223372036854775807) (hg : n ≤ 40 ∧ k ≤ 40 ∧ j ≤ 40 ∧ l ≤ 40) (hg6 : ¬ (k ≤ 6 ∧ l ≤ 6)) (hs : ¬ k + l < 34) (h1 : modB k p = true) (h2 : modB l q = true) (h3 : okB n a = true) (h4 : okB j b = true) (h5 : a < p) (h6 : b < q) (h7 : ¬ Nat.gcd p q = 1) :
    Calls Try.prog 6 #[.agg #[.slice A n c1], .agg #[.slice A2 k c2], .agg #[.slice A3 j c3], .agg #[.slice A4 l c4]] w (RetB (.bool true) w) := by
  have HG : Hid (decide (n ≤ 40 ∧ k ≤ 40 ∧ j ≤ 40 ∧ l ≤ 40) = true) := decide_eq_true hg
  have HG6 : Hid (decide (k ≤ 6 ∧ l ≤ 6) = false) := decide_eq_false hg6
  have hk40 := hg.2.1
  have hl40 := hg.2.2.2
  have hn40 := hg.1
  have hj40 := hg.2.2.1
  have z0 : (((nw 0 : Nat) : Int) == 0) = true := rfl
  have z00 : (((nw 0 : Nat) : Int) != 0) = false := rfl
  have s1 : ¬ ((k : Int) + (l : Int) < 34) := by omega
  have s2 : (34 : Int) ≤ (k : Int) + (l : Int) := by omega
  have s3 : (33 : Int) < (k : Int) + (l : Int) := by omega
  have HV0 : crtV n a k p j b l q = (0, 10) := by unfold crtV; rw [h1, h2, h3, h4, if_pos (show (true && (true && (true && true))) = true from rfl), if_pos ⟨h5, h6⟩, if_neg h7]
  have HV := hid HV0
  clear HV0 hg hg6 hs
  have M1 : Hid ((if modB k p = true then (0 : Int) else 1) = 0) := (show _ = _ by rw [h1]; rfl)
  have M2 : Hid ((if modB l q = true then (0 : Int) else 1) = 0) := (show _ = _ by rw [h2]; rfl)
  have G3 := hid h3
  have G4 := hid h4
  obtain ⟨e1, na⟩ := okB_yes.1 h3
  obtain ⟨e2, nb⟩ := okB_yes.1 h4
  obtain ⟨e3, np, hp0⟩ := modB_yes h1
  obtain ⟨e4, nq, hq0⟩ := modB_yes h2
  subst e1 e2 e3 e4
  have R1 : Hid (decide (a < p) = true) := decide_eq_true h5
  have R2 : Hid (decide (b < q) = true) := decide_eq_true h6
  obtain ⟨gg, hgg⟩ : ∃ z, z = Nat.gcd p q := ⟨_, rfl⟩
  have HGG := hid hgg
  have ngg : nw gg ≤ 32 := Nat.le_trans (nw_mono (by rw [hgg]; exact Nat.le_of_dvd hp0 (Nat.gcd_dvd_left p q))) np
  have GT : Hid (decide (gg = 1) = false) := decide_eq_false (by rw [hgg]; exact h7)
  have hap := hid h5
  have hbq := hid h6
  have hG7 := hid h7
  clear hgg
  clear h1 h2 h3 h4 h5 h6 h7 hp0 hq0
  obtain ⟨b0, b1, b2, b3, bw⟩ := boxes4 w (.slice A (nw a) c1) (.slice A2 (nw p) c2) (.slice A3 (nw b) c3) (.slice A4 (nw q) c4)
  have XA := VB.mk (B := w.heap.size) (a := a) b0 (.inl hA) bw (Nat.le_refl _) (by omega)
  have XP := VB.mk (B := w.heap.size) (a := p) b1 (.inl hP) bw (Nat.le_refl _) (by omega)
  have XB := VB.mk (B := w.heap.size) (a := b) b2 (.inl hB) bw (Nat.le_refl _) (by omega)
  have XQ := VB.mk (B := w.heap.size) (a := q) b3 (.inl hQ) bw (Nat.le_refl _) (by omega)
  have WW := bw
  clear bw b0 b1 b2 b3
  go_enter Try.func6, Try.ntmps6
  go_wp2_with fail
  generalize hV : ((((w.alloc (.cells #[.slice A (nw a) c1] 24)).alloc (.cells #[.slice A2 (nw p) c2] 24)).alloc (.cells #[.slice A3 (nw b) c3] 24)).alloc (.cells #[.slice A4 (nw q) c4] 24)) = V0 at XA XP XB XQ WW ⊢
  clear hV
  have hbs : w.heap.size ≤ V0.heap.size := WW.size
  have hc := awake_any V0
  refine hc.mono ?_
  clear hc
  rintro e V1 ⟨rfl, hb⟩
  replace XA := XA.below hb
  replace XP := XP.below hb
  replace XB := XB.below hb
  replace XQ := XQ.below hb
  replace WW := WW.trans (hb.mono WW.size)
  have kXA := XA.cell
  have zXA := XA.lt
  have kXP := XP.cell
  have zXP := XP.lt
  have kXB := XB.cell
  have zXB := XB.lt
  have kXQ := XQ.cell
  have zXQ := XQ.lt
  clear hb hbs
  go_wp2_with fail
  have hbs : w.heap.size ≤ V1.heap.size := WW.size
  have hc := few_n4 40 (by omega) V1 A A2 A3 A4 (nw a) (nw p) (nw b) (nw q) c1 c2 c3 c4 (by omega) (by omega) (by omega) (by omega)
  rw [HG.out] at hc
  refine hc.mono ?_
  clear hc
  rintro e V2 ⟨rfl, hb⟩
  clear kXA zXA kXP zXP kXB zXB kXQ zXQ
  replace XA := XA.below hb
  replace XP := XP.below hb
  replace XB := XB.below hb
  replace XQ := XQ.below hb
  replace WW := WW.trans (hb.mono WW.size)
  have kXA := XA.cell
  have zXA := XA.lt
  have kXP := XP.cell
  have zXP := XP.lt
  have kXB := XB.cell
  have zXB := XB.lt
  have kXQ := XQ.cell
  have zXQ := XQ.lt
  clear hb hbs
  go_wp2_with fail
  have hbs : w.heap.size ≤ V2.heap.size := WW.size
  have hc := few_n2 6 (by omega) V2 A2 A4 (nw p) (nw q) c2 c4 (by omega) (by omega)
  rw [HG6.out] at hc
  refine hc.mono ?_
  clear hc
  rintro e V3 ⟨rfl, hb⟩
  clear kXA zXA kXP zXP kXB zXB kXQ zXQ
  replace XA := XA.below hb
  replace XP := XP.below hb
  replace XB := XB.below hb
  replace XQ := XQ.below hb
  replace WW := WW.trans (hb.mono WW.size)
  have kXA := XA.cell
  have zXA := XA.lt
  have kXP := XP.cell
  have zXP := XP.lt
  have kXB := XB.cell
  have zXB := XB.lt
  have kXQ := XQ.cell
  have zXQ := XQ.lt
  clear hb hbs
  go_wp2_with fail
  have hbs : w.heap.size ≤ V3.heap.size := WW.size
  have hc := ncrt_any A A2 A3 A4 _ _ _ _ c1 c2 c3 c4 a p b q V3 XA.num XP.num XB.num XQ.num (by omega) (by omega) (by omega) (by omega)
  rw [HV.out] at hc
  refine hc.mono ?_
  clear hc
  rintro e V4 ⟨v, rfl, hv, hb⟩
  clear kXA zXA kXP zXP kXB zXB kXQ zXQ
  replace XA := XA.below hb
  replace XP := XP.below hb
  replace XB := XB.below hb
  replace XQ := XQ.below hb
  replace WW := WW.trans (hb.mono WW.size)
  obtain ⟨D1, d1, rfl, ho⟩ := hv
  have O1 := ho.weak (b := w.heap.size) hbs
  clear ho
  have kXA := XA.cell
  have zXA := XA.lt
  have kXP := XP.cell
  have zXP := XP.lt
  have kXB := XB.cell
  have zXB := XB.lt
  have kXQ := XQ.cell
  have zXQ := XQ.lt
  clear hb hbs
  go_wp2_with fail
  obtain ⟨b0, bw⟩ := boxes1 V4 (.slice D1 (nw 0) d1)
  have hbs := WW.size
  clear kXA zXA kXP zXP kXB zXB kXQ zXQ
  have qXQ5 := XQ.lt
  have X1 := VB.mk (B := w.heap.size) (a := 0) b0 (.inr O1) bw hbs (by omega)
  replace XA := XA.below bw
  replace XP := XP.below bw
  replace XB := XB.below bw
  replace XQ := XQ.below bw
  replace O1 := O1.below bw (Nat.le_refl _)
  replace WW := WW.trans (bw.mono WW.size)
  clear bw hbs b0
  generalize hV : (V4.alloc (.cells #[.slice D1 (nw 0) d1] 24)) = V5 at XA XP XB XQ X1 O1 WW ⊢
  clear hV
  have kXA := XA.cell
  have zXA := XA.lt
  have kXP := XP.cell
  have zXP := XP.lt
  have kXB := XB.cell
  have zXB := XB.lt
  have kXQ := XQ.cell
  have zXQ := XQ.lt
  have kX1 := X1.cell
  have zX1 := X1.lt
  have hbs : w.heap.size ≤ V5.heap.size := WW.size
  have hc := first_a0 V5 _ p c2 A2 XP.num (by omega)
  rw [M1.out] at hc
  refine hc.mono ?_
  clear hc
  rintro e V6 ⟨rfl, hb⟩
  clear kXA zXA kXP zXP kXB zXB kXQ zXQ kX1 zX1
  replace XA := XA.below hb
  replace XP := XP.below hb
  replace XB := XB.below hb
  replace XQ := XQ.below hb
  replace X1 := X1.below hb
  replace O1 := O1.below hb (Nat.le_refl _)
  replace WW := WW.trans (hb.mono WW.size)
  have kXA := XA.cell
  have zXA := XA.lt
  have kXP := XP.cell
  have zXP := XP.lt
  have kXB := XB.cell
  have zXB := XB.lt
  have kXQ := XQ.cell
  have zXQ := XQ.lt
  have kX1 := X1.cell
  have zX1 := X1.lt
  clear hb hbs
  go_wp2_with fail
  have hbs : w.heap.size ≤ V6.heap.size := WW.size
  have hc := first_a0 V6 _ q c4 A4 XQ.num (by omega)
  rw [M2.out] at hc
  refine hc.mono ?_
  clear hc
  rintro e V7 ⟨rfl, hb⟩
  clear kXA zXA kXP zXP kXB zXB kXQ zXQ kX1 zX1
  replace XA := XA.below hb
  replace XP := XP.below hb
  replace XB := XB.below hb
  replace XQ := XQ.below hb
  replace X1 := X1.below hb
  replace O1 := O1.below hb (Nat.le_refl _)
  replace WW := WW.trans (hb.mono WW.size)
  have kXA := XA.cell
  have zXA := XA.lt
  have kXP := XP.cell
  have zXP := XP.lt
  have kXB := XB.cell
  have zXB := XB.lt
  have kXQ := XQ.cell
  have zXQ := XQ.lt
  have kX1 := X1.cell
  have zX1 := X1.lt
  clear hb hbs
  go_wp2_with fail
  have hbs : w.heap.size ≤ V7.heap.size := WW.size
  have hc := rvalid_any A _ c1 a _ V7 XA.num (Nat.le_refl _) (by omega)
  rw [G3.out] at hc
  refine hc.mono ?_
  clear hc
  rintro e V8 ⟨rfl, hb⟩
  clear kXA zXA kXP zXP kXB zXB kXQ zXQ kX1 zX1
  replace XA := XA.below hb
  replace XP := XP.below hb
  replace XB := XB.below hb
  replace XQ := XQ.below hb
  replace X1 := X1.below hb
  replace O1 := O1.below hb (Nat.le_refl _)
  replace WW := WW.trans (hb.mono WW.size)
  have kXA := XA.cell
  have zXA := XA.lt
  have kXP := XP.cell
  have zXP := XP.lt
  have kXB := XB.cell
  have zXB := XB.lt
  have kXQ := XQ.cell
  have zXQ := XQ.lt
  have kX1 := X1.cell
  have zX1 := X1.lt
  clear hb hbs
  go_wp2_with fail
  have hbs : w.heap.size ≤ V8.heap.size := WW.size
  have hc := rvalid_any A3 _ c3 b _ V8 XB.num (Nat.le_refl _) (by omega)
  rw [G4.out] at hc
  refine hc.mono ?_
  clear hc
  rintro e V9 ⟨rfl, hb⟩
  clear kXA zXA kXP zXP kXB zXB kXQ zXQ kX1 zX1
  replace XA := XA.below hb
  replace XP := XP.below hb
  replace XB := XB.below hb
  replace XQ := XQ.below hb
  replace X1 := X1.below hb
  replace O1 := O1.below hb (Nat.le_refl _)
  replace WW := WW.trans (hb.mono WW.size)
  have kXA := XA.cell
  have zXA := XA.lt
  have kXP := XP.cell
  have zXP := XP.lt
  have kXB := XB.cell
  have zXB := XB.lt
  have kXQ := XQ.cell
  have zXQ := XQ.lt
  have kX1 := X1.cell
  have zX1 := X1.lt
  clear hb hbs
  go_wp2_with fail
  have hbs : w.heap.size ≤ V9.heap.size := WW.size
  have hc := less3_any A A2 c1 c2 a p V9 XA.num XP.num (by omega) (by omega)
  rw [R1.out] at hc
  refine hc.mono ?_
  clear hc
  rintro e V10 ⟨rfl, hb⟩
  clear kXA zXA kXP zXP kXB zXB kXQ zXQ kX1 zX1
  replace XA := XA.below hb
  replace XP := XP.below hb
  replace XB := XB.below hb
  replace XQ := XQ.below hb
  replace X1 := X1.below hb
  replace O1 := O1.below hb (Nat.le_refl _)
  replace WW := WW.trans (hb.mono WW.size)
  have kXA := XA.cell
  have zXA := XA.lt
  have kXP := XP.cell
  have zXP := XP.lt
  have kXB := XB.cell
  have zXB := XB.lt
  have kXQ := XQ.cell
  have zXQ := XQ.lt
  have kX1 := X1.cell
  have zX1 := X1.lt
  clear hb hbs
  go_wp2_with fail
  have hbs : w.heap.size ≤ V10.heap.size := WW.size
  have hc := less3_any A3 A4 c3 c4 b q V10 XB.num XQ.num (by omega) (by omega)
  rw [R2.out] at hc
  refine hc.mono ?_
  clear hc
  rintro e V11 ⟨rfl, hb⟩
  clear kXA zXA kXP zXP kXB zXB kXQ zXQ kX1 zX1
  replace XA := XA.below hb
  replace XP := XP.below hb
  replace XB := XB.below hb
  replace XQ := XQ.below hb
  replace X1 := X1.below hb
  replace O1 := O1.below hb (Nat.le_refl _)
  replace WW := WW.trans (hb.mono WW.size)
  have kXA := XA.cell
  have zXA := XA.lt
  have kXP := XP.cell
  have zXP := XP.lt
  have kXB := XB.cell
  have zXB := XB.lt
  have kXQ := XQ.cell
  have zXQ := XQ.lt
  have kX1 := X1.cell
  have zX1 := X1.lt
  clear hb hbs
  go_wp2_with fail
  have hbs : w.heap.size ≤ V11.heap.size := WW.size
  have hc := rgcd_any A2 A4 c2 c4 p q V11 XP.num XQ.num (by omega) (by omega)
  rw [← HGG.out] at hc
  refine hc.mono ?_
  clear hc
  rintro e V12 ⟨D5, d5, rfl, hv, hb⟩
  clear kXA zXA kXP zXP kXB zXB kXQ zXQ kX1 zX1
  replace XA := XA.below hb
  replace XP := XP.below hb
  replace XB := XB.below hb
  replace XQ := XQ.below hb
  replace X1 := X1.below hb
  replace O1 := O1.below hb (Nat.le_refl _)
  replace WW := WW.trans (hb.mono WW.size)
  have N5 := hv.num hb.size
  clear hv
  have kXA := XA.cell
  have zXA := XA.lt
  have kXP := XP.cell
  have zXP := XP.lt
  have kXB := XB.cell
  have zXB := XB.lt
  have kXQ := XQ.cell
  have zXQ := XQ.lt
  have kX1 := X1.cell
  have zX1 := X1.lt
  clear hb hbs
  go_wp2_with fail
  have hbs : w.heap.size ≤ V12.heap.size := WW.size
  have hc := of3_1 V12
  refine hc.mono ?_
  clear hc
  rintro e V13 ⟨v, rfl, hv, hb⟩
  clear kXA zXA kXP zXP kXB zXB kXQ zXQ kX1 zX1
  replace XA := XA.below hb
  replace XP := XP.below hb
  replace XB := XB.below hb
  replace XQ := XQ.below hb
  replace X1 := X1.below hb
  replace O1 := O1.below hb (Nat.le_refl _)
  replace N5 := (N5.below hb).more hb.size
  replace WW := WW.trans (hb.mono WW.size)
  obtain ⟨D6, d6, rfl, ho⟩ := hv
  have O6 := ho.weak (b := w.heap.size) hbs
  clear ho
  have kXA := XA.cell
  have zXA := XA.lt
  have kXP := XP.cell
  have zXP := XP.lt
  have kXB := XB.cell
  have zXB := XB.lt
  have kXQ := XQ.cell
  have zXQ := XQ.lt
  have kX1 := X1.cell
  have zX1 := X1.lt
  clear hb hbs
  go_wp2_with fail
  have hbs : w.heap.size ≤ V13.heap.size := WW.size
  have hc := rsame31_any D5 D6 d5 d6 gg 1 V13 N5 O6.num (by omega) (by decide)
  rw [GT.out] at hc
  refine hc.mono ?_
  clear hc
  rintro e V14 ⟨rfl, hb⟩
  clear kXA zXA kXP zXP kXB zXB kXQ zXQ kX1 zX1
  replace XA := XA.below hb
  replace XP := XP.below hb
  replace XB := XB.below hb
  replace XQ := XQ.below hb
  replace X1 := X1.below hb
  replace O1 := O1.below hb (Nat.le_refl _)
  replace O6 := O6.below hb (Nat.le_refl _)
  replace N5 := (N5.below hb).more hb.size
  replace WW := WW.trans (hb.mono WW.size)
  have kXA := XA.cell
  have zXA := XA.lt
  have kXP := XP.cell
  have zXP := XP.lt
  have kXB := XB.cell
  have zXB := XB.lt
  have kXQ := XQ.cell
  have zXQ := XQ.lt
  have kX1 := X1.cell
  have zX1 := X1.lt
  clear hb hbs
  go_wp2_with fail
  go_ret
  exact ⟨rfl, WW⟩

set_option maxHeartbeats 16000000 in
set_option maxRecDepth 100000 in
theorem crtl_finn (A A2 A3 A4 : Option Addr) (n k j l c1 c2 c3 c4 a p b q : Nat) (w : World) (hA : Num w w.heap.size A n a) (hP : Num w w.heap.size A2 k p) (hB : Num w w.heap.size A3 j b) (hQ : Num w w.heap.size A4 l q) (hn : n ≤ 9223372036854775807) (hk : k ≤ 9223372036854775807) (hj : j ≤ 9223372036854775807) (hl : l ≤ 9223372036854775807) (hg : n ≤ 40 ∧ k ≤ 40 ∧ j ≤ 40 ∧ l ≤ 40) (hg6 : ¬ (k ≤ 6 ∧ l ≤ 6)) (hs : ¬ k + l < 34) (h1 : modB k p = true) (h2 : modB l q = true) (h3 : okB n a = true) (h4 : okB j b = true) (h5 : a < p) (h6 : b < q) (h7 : Nat.gcd p q = 1) :
    Calls Try.prog 6 #[.agg #[.slice A n c1], .agg #[.slice A2 k c2], .agg #[.slice A3 j c3], .agg #[.slice A4 l c4]] w (RetB (.bool true) w) := by
  have HG : Hid (decide (n ≤ 40 ∧ k ≤ 40 ∧ j ≤ 40 ∧ l ≤ 40) = true) := decide_eq_true hg
  have HG6 : Hid (decide (k ≤ 6 ∧ l ≤ 6) = false) := decide_eq_false hg6
  have hk40 := hg.2.1
  have hl40 := hg.2.2.2
  have hn40 := hg.1
  have hj40 := hg.2.2.1
  have z0 : (((nw 0 : Nat) : Int) == 0) = true := rfl
  have z00 : (((nw 0 : Nat) : Int) != 0) = false := rfl
  have s1 : ¬ ((k : Int) + (l : Int) < 34) := by omega
  have s2 : (34 : Int) ≤ (k : Int) + (l : Int) := by omega
  have s3 : (33 : Int) < (k : Int) + (l : Int) := by omega
  obtain ⟨e3, np, hp0⟩ := modB_yes h1
  obtain ⟨e4, nq, hq0⟩ := modB_yes h2
  have hge := nw_prod_ge hp0 hq0
  have HV0 : crtV n a k p j b l q = (0, 9) := by unfold crtV; rw [h1, h2, h3, h4, if_pos (show (true && (true && (true && true))) = true from rfl), if_pos ⟨h5, h6⟩, if_pos h7, if_neg (by omega)]
  clear hge
  clear e3 e4
  have HV := hid HV0
  clear HV0 hg hg6 hs
  have M1 : Hid ((if modB k p = true then (0 : Int) else 1) = 0) := (show _ = _ by rw [h1]; rfl)
  have M2 : Hid ((if modB l q = true then (0 : Int) else 1) = 0) := (show _ = _ by rw [h2]; rfl)
  have G3 := hid h3
  have G4 := hid h4
  obtain ⟨e1, na⟩ := okB_yes.1 h3
  obtain ⟨e2, nb⟩ := okB_yes.1 h4
  have e3 := (modB_yes h1).1
  have e4 := (modB_yes h2).1
  subst e1 e2 e3 e4
  have R1 : Hid (decide (a < p) = true) := decide_eq_true h5
  have R2 : Hid (decide (b < q) = true) := decide_eq_true h6
  obtain ⟨gg, hgg⟩ : ∃ z, z = Nat.gcd p q := ⟨_, rfl⟩
  have HGG := hid hgg
  have ngg : nw gg ≤ 32 := Nat.le_trans (nw_mono (by rw [hgg]; exact Nat.le_of_dvd hp0 (Nat.gcd_dvd_left p q))) np
  have GT : Hid (decide (gg = 1) = true) := decide_eq_true (by rw [hgg]; exact h7)
  have hap := hid h5
  have hbq := hid h6
  have hG7 := hid h7
  clear hgg
  clear h1 h2 h3 h4 h5 h6 h7 hp0 hq0
  obtain ⟨b0, b1, b2, b3, bw⟩ := boxes4 w (.slice A (nw a) c1) (.slice A2 (nw p) c2) (.slice A3 (nw b) c3) (.slice A4 (nw q) c4)
  have XA := VB.mk (B := w.heap.size) (a := a) b0 (.inl hA) bw (Nat.le_refl _) (by omega)
  have XP := VB.mk (B := w.heap.size) (a := p) b1 (.inl hP) bw (Nat.le_refl _) (by omega)
  have XB := VB.mk (B := w.heap.size) (a := b) b2 (.inl hB) bw (Nat.le_refl _) (by omega)
  have XQ := VB.mk (B := w.heap.size) (a := q) b3 (.inl hQ) bw (Nat.le_refl _) (by omega)
  have WW := bw
  clear bw b0 b1 b2 b3
  go_enter Try.func6, Try.ntmps6
  go_wp2_with fail
  generalize hV : ((((w.alloc (.cells #[.slice A (nw a) c1] 24)).alloc (.cells #[.slice A2 (nw p) c2] 24)).alloc (.cells #[.slice A3 (nw b) c3] 24)).alloc (.cells #[.slice A4 (nw q) c4] 24)) = V0 at XA XP XB XQ WW ⊢
  clear hV
  have hbs : w.heap.size ≤ V0.heap.size := WW.size
  have hc := awake_any V0
  refine hc.mono ?_
  clear hc
  rintro e V1 ⟨rfl, hb⟩
  replace XA := XA.below hb
  replace XP := XP.below hb
  replace XB := XB.below hb
  replace XQ := XQ.below hb
  replace WW := WW.trans (hb.mono WW.size)
  have kXA := XA.cell
  have zXA := XA.lt
  have kXP := XP.cell
  have zXP := XP.lt
  have kXB := XB.cell
  have zXB := XB.lt
  have kXQ := XQ.cell
  have zXQ := XQ.lt
  clear hb hbs
  go_wp2_with fail
  have hbs : w.heap.size ≤ V1.heap.size := WW.size
  have hc := few_n4 40 (by omega) V1 A A2 A3 A4 (nw a) (nw p) (nw b) (nw q) c1 c2 c3 c4 (by omega) (by omega) (by omega) (by omega)
  rw [HG.out] at hc
  refine hc.mono ?_
  clear hc
  rintro e V2 ⟨rfl, hb⟩
  clear kXA zXA kXP zXP kXB zXB kXQ zXQ
  replace XA := XA.below hb
  replace XP := XP.below hb
  replace XB := XB.below hb
  replace XQ := XQ.below hb
  replace WW := WW.trans (hb.mono WW.size)
  have kXA := XA.cell
  have zXA := XA.lt
  have kXP := XP.cell
  have zXP := XP.lt
  have kXB := XB.cell
  have zXB := XB.lt
  have kXQ := XQ.cell
  have zXQ := XQ.lt
  clear hb hbs
  go_wp2_with fail
  have hbs : w.heap.size ≤ V2.heap.size := WW.size
  have hc := few_n2 6 (by omega) V2 A2 A4 (nw p) (nw q) c2 c4 (by omega) (by omega)
  rw [HG6.out] at hc
  refine hc.mono ?_
  clear hc
  rintro e V3 ⟨rfl, hb⟩
  clear kXA zXA kXP zXP kXB zXB kXQ zXQ
  replace XA := XA.below hb
  replace XP := XP.below hb
  replace XB := XB.below hb
  replace XQ := XQ.below hb
  replace WW := WW.trans (hb.mono WW.size)
  have kXA := XA.cell
  have zXA := XA.lt
  have kXP := XP.cell
  have zXP := XP.lt
  have kXB := XB.cell
  have zXB := XB.lt
  have kXQ := XQ.cell
  have zXQ := XQ.lt
  clear hb hbs
  go_wp2_with fail
  have hbs : w.heap.size ≤ V3.heap.size := WW.size
  have hc := ncrt_any A A2 A3 A4 _ _ _ _ c1 c2 c3 c4 a p b q V3 XA.num XP.num XB.num XQ.num (by omega) (by omega) (by omega) (by omega)
  rw [HV.out] at hc
  refine hc.mono ?_
  clear hc
  rintro e V4 ⟨v, rfl, hv, hb⟩
  clear kXA zXA kXP zXP kXB zXB kXQ zXQ
  replace XA := XA.below hb
  replace XP := XP.below hb
  replace XB := XB.below hb
  replace XQ := XQ.below hb
  replace WW := WW.trans (hb.mono WW.size)
  obtain ⟨D1, d1, rfl, ho⟩ := hv
  have O1 := ho.weak (b := w.heap.size) hbs
  clear ho
  have kXA := XA.cell
  have zXA := XA.lt
  have kXP := XP.cell
  have zXP := XP.lt
  have kXB := XB.cell
  have zXB := XB.lt
  have kXQ := XQ.cell
  have zXQ := XQ.lt
  clear hb hbs
  go_wp2_with fail
  obtain ⟨b0, bw⟩ := boxes1 V4 (.slice D1 (nw 0) d1)
  have hbs := WW.size
  clear kXA zXA kXP zXP kXB zXB kXQ zXQ
  have qXQ5 := XQ.lt
  have X1 := VB.mk (B := w.heap.size) (a := 0) b0 (.inr O1) bw hbs (by omega)
  replace XA := XA.below bw
  replace XP := XP.below bw
  replace XB := XB.below bw
  replace XQ := XQ.below bw
  replace O1 := O1.below bw (Nat.le_refl _)
  replace WW := WW.trans (bw.mono WW.size)
  clear bw hbs b0
  generalize hV : (V4.alloc (.cells #[.slice D1 (nw 0) d1] 24)) = V5 at XA XP XB XQ X1 O1 WW ⊢
  clear hV
  have kXA := XA.cell
  have zXA := XA.lt
  have kXP := XP.cell
  have zXP := XP.lt
  have kXB := XB.cell
  have zXB := XB.lt
  have kXQ := XQ.cell
  have zXQ := XQ.lt
  have kX1 := X1.cell
  have zX1 := X1.lt
  have hbs : w.heap.size ≤ V5.heap.size := WW.size
  have hc := first_a0 V5 _ p c2 A2 XP.num (by omega)
  rw [M1.out] at hc
  refine hc.mono ?_
  clear hc
  rintro e V6 ⟨rfl, hb⟩
  clear kXA zXA kXP zXP kXB zXB kXQ zXQ kX1 zX1
  replace XA := XA.below hb
  replace XP := XP.below hb
  replace XB := XB.below hb
  replace XQ := XQ.below hb
  replace X1 := X1.below hb
  replace O1 := O1.below hb (Nat.le_refl _)
  replace WW := WW.trans (hb.mono WW.size)
  have kXA := XA.cell
  have zXA := XA.lt
  have kXP := XP.cell
  have zXP := XP.lt
  have kXB := XB.cell
  have zXB := XB.lt
  have kXQ := XQ.cell
  have zXQ := XQ.lt
  have kX1 := X1.cell
  have zX1 := X1.lt
  clear hb hbs
  go_wp2_with fail
  have hbs : w.heap.size ≤ V6.heap.size := WW.size
  have hc := first_a0 V6 _ q c4 A4 XQ.num (by omega)
  rw [M2.out] at hc
  refine hc.mono ?_
  clear hc
  rintro e V7 ⟨rfl, hb⟩
  clear kXA zXA kXP zXP kXB zXB kXQ zXQ kX1 zX1
  replace XA := XA.below hb
  replace XP := XP.below hb
  replace XB := XB.below hb
  replace XQ := XQ.below hb
  replace X1 := X1.below hb
  replace O1 := O1.below hb (Nat.le_refl _)
  replace WW := WW.trans (hb.mono WW.size)
  have kXA := XA.cell
  have zXA := XA.lt
  have kXP := XP.cell
  have zXP := XP.lt
  have kXB := XB.cell
  have zXB := XB.lt
  have kXQ := XQ.cell
  have zXQ := XQ.lt
  have kX1 := X1.cell
  have zX1 := X1.lt
  clear hb hbs
  go_wp2_with fail
  have hbs : w.heap.size ≤ V7.heap.size := WW.size
  have hc := rvalid_any A _ c1 a _ V7 XA.num (Nat.le_refl _) (by omega)
  rw [G3.out] at hc
  refine hc.mono ?_
  clear hc
  rintro e V8 ⟨rfl, hb⟩
  clear kXA zXA kXP zXP kXB zXB kXQ zXQ kX1 zX1
  replace XA := XA.below hb
  replace XP := XP.below hb
  replace XB := XB.below hb
  replace XQ := XQ.below hb
  replace X1 := X1.below hb
  replace O1 := O1.below hb (Nat.le_refl _)
  replace WW := WW.trans (hb.mono WW.size)
  have kXA := XA.cell
  have zXA := XA.lt
  have kXP := XP.cell
  have zXP := XP.lt
  have kXB := XB.cell
  have zXB := XB.lt
  have kXQ := XQ.cell
  have zXQ := XQ.lt
  have kX1 := X1.cell
  have zX1 := X1.lt
  clear hb hbs
  go_wp2_with fail
  have hbs : w.heap.size ≤ V8.heap.size := WW.size
  have hc := rvalid_any A3 _ c3 b _ V8 XB.num (Nat.le_refl _) (by omega)
  rw [G4.out] at hc
  refine hc.mono ?_
  clear hc
  rintro e V9 ⟨rfl, hb⟩
  clear kXA zXA kXP zXP kXB zXB kXQ zXQ kX1 zX1
  replace XA := XA.below hb
  replace XP := XP.below hb
  replace XB := XB.below hb
  replace XQ := XQ.below hb
  replace X1 := X1.below hb
  replace O1 := O1.below hb (Nat.le_refl _)
  replace WW := WW.trans (hb.mono WW.size)
  have kXA := XA.cell
  have zXA := XA.lt
  have kXP := XP.cell
  have zXP := XP.lt
  have kXB := XB.cell
  have zXB := XB.lt
  have kXQ := XQ.cell
  have zXQ := XQ.lt
  have kX1 := X1.cell
  have zX1 := X1.lt
  clear hb hbs
  go_wp2_with fail
  have hbs : w.heap.size ≤ V9.heap.size := WW.size
  have hc := less3_any A A2 c1 c2 a p V9 XA.num XP.num (by omega) (by omega)
  rw [R1.out] at hc
  refine hc.mono ?_
  clear hc
  rintro e V10 ⟨rfl, hb⟩
  clear kXA zXA kXP zXP kXB zXB kXQ zXQ kX1 zX1
  replace XA := XA.below hb
  replace XP := XP.below hb
  replace XB := XB.below hb
  replace XQ := XQ.below hb
  replace X1 := X1.below hb
  replace O1 := O1.below hb (Nat.le_refl _)
  replace WW := WW.trans (hb.mono WW.size)
  have kXA := XA.cell
  have zXA := XA.lt
  have kXP := XP.cell
  have zXP := XP.lt
  have kXB := XB.cell
  have zXB := XB.lt
  have kXQ := XQ.cell
  have zXQ := XQ.lt
  have kX1 := X1.cell
  have zX1 := X1.lt
  clear hb hbs
  go_wp2_with fail
  have hbs : w.heap.size ≤ V10.heap.size := WW.size
  have hc := less3_any A3 A4 c3 c4 b q V10 XB.num XQ.num (by omega) (by omega)
  rw [R2.out] at hc
  refine hc.mono ?_
  clear hc
  rintro e V11 ⟨rfl, hb⟩
  clear kXA zXA kXP zXP kXB zXB kXQ zXQ kX1 zX1
  replace XA := XA.below hb
  replace XP := XP.below hb
  replace XB := XB.below hb
  replace XQ := XQ.below hb
  replace X1 := X1.below hb
  replace O1 := O1.below hb (Nat.le_refl _)
  replace WW := WW.trans (hb.mono WW.size)
  have kXA := XA.cell
  have zXA := XA.lt
  have kXP := XP.cell
  have zXP := XP.lt
  have kXB := XB.cell
  have zXB := XB.lt
  have kXQ := XQ.cell
  have zXQ := XQ.lt
  have kX1 := X1.cell
  have zX1 := X1.lt
  clear hb hbs
  go_wp2_with fail
  have hbs : w.heap.size ≤ V11.heap.size := WW.size
  have hc := rgcd_any A2 A4 c2 c4 p q V11 XP.num XQ.num (by omega) (by omega)
  rw [← HGG.out] at hc
  refine hc.mono ?_
  clear hc
  rintro e V12 ⟨D5, d5, rfl, hv, hb⟩
  clear kXA zXA kXP zXP kXB zXB kXQ zXQ kX1 zX1
  replace XA := XA.below hb
  replace XP := XP.below hb
  replace XB := XB.below hb
  replace XQ := XQ.below hb
  replace X1 := X1.below hb
  replace O1 := O1.below hb (Nat.le_refl _)
  replace WW := WW.trans (hb.mono WW.size)
  have N5 := hv.num hb.size
  clear hv
  have kXA := XA.cell
  have zXA := XA.lt
  have kXP := XP.cell
  have zXP := XP.lt
  have kXB := XB.cell
  have zXB := XB.lt
  have kXQ := XQ.cell
  have zXQ := XQ.lt
  have kX1 := X1.cell
  have zX1 := X1.lt
  clear hb hbs
  go_wp2_with fail
  have hbs : w.heap.size ≤ V12.heap.size := WW.size
  have hc := of3_1 V12
  refine hc.mono ?_
  clear hc
  rintro e V13 ⟨v, rfl, hv, hb⟩
  clear kXA zXA kXP zXP kXB zXB kXQ zXQ kX1 zX1
  replace XA := XA.below hb
  replace XP := XP.below hb
  replace XB := XB.below hb
  replace XQ := XQ.below hb
  replace X1 := X1.below hb
  replace O1 := O1.below hb (Nat.le_refl _)
  replace N5 := (N5.below hb).more hb.size
  replace WW := WW.trans (hb.mono WW.size)
  obtain ⟨D6, d6, rfl, ho⟩ := hv
  have O6 := ho.weak (b := w.heap.size) hbs
  clear ho
  have kXA := XA.cell
  have zXA := XA.lt
  have kXP := XP.cell
  have zXP := XP.lt
  have kXB := XB.cell
  have zXB := XB.lt
  have kXQ := XQ.cell
  have zXQ := XQ.lt
  have kX1 := X1.cell
  have zX1 := X1.lt
  clear hb hbs
  go_wp2_with fail
  have hbs : w.heap.size ≤ V13.heap.size := WW.size
  have hc := rsame31_any D5 D6 d5 d6 gg 1 V13 N5 O6.num (by omega) (by decide)
  rw [GT.out] at hc
  refine hc.mono ?_
  clear hc
  rintro e V14 ⟨rfl, hb⟩
  clear kXA zXA kXP zXP kXB zXB kXQ zXQ kX1 zX1
  replace XA := XA.below hb
  replace XP := XP.below hb
  replace XB := XB.below hb
  replace XQ := XQ.below hb
  replace X1 := X1.below hb
  replace O1 := O1.below hb (Nat.le_refl _)
  replace O6 := O6.below hb (Nat.le_refl _)
  replace N5 := (N5.below hb).more hb.size
  replace WW := WW.trans (hb.mono WW.size)
  have kXA := XA.cell
  have zXA := XA.lt
  have kXP := XP.cell
  have zXP := XP.lt
  have kXB := XB.cell
  have zXB := XB.lt
  have kXQ := XQ.cell
  have zXQ := XQ.lt
  have kX1 := X1.cell
  have zX1 := X1.lt
  clear hb hbs
  go_wp2_with fail
  go_ret
  exact ⟨rfl, WW⟩

theorem natmodCrt_walk (A A2 A3 A4 : Option Addr) (n k j l c1 c2 c3 c4 a p b q : Nat) (w : World) (hA : Num w w.heap.size A n a) (hP : Num w w.heap.size A2 k p) (hB : Num w w.heap.size A3 j b) (hQ : Num w w.heap.size A4 l q) (hn : n ≤ 9223372036854775807) (hk : k ≤ 9223372036854775807) (hj : j ≤ 9223372036854775807) (hl : l ≤ 9223372036854775807) :
    Calls Try.prog 6 #[.agg #[.slice A n c1], .agg #[.slice A2 k c2], .agg #[.slice A3 j c3], .agg #[.slice A4 l c4]] w (RetB (.bool true) w) := by
  by_cases hg : n ≤ 40 ∧ k ≤ 40 ∧ j ≤ 40 ∧ l ≤ 40
  · by_cases hg6 : k ≤ 6 ∧ l ≤ 6
    · cases h1 : modB k p
      · exact crtl_m1f A A2 A3 A4 n k j l c1 c2 c3 c4 a p b q w hA hP hB hQ hn hk hj hl hg hg6 h1
      cases h2 : modB l q
      · exact crtl_m2f A A2 A3 A4 n k j l c1 c2 c3 c4 a p b q w hA hP hB hQ hn hk hj hl hg hg6 h1 h2
      cases h3 : okB n a
      · exact crtl_v1f A A2 A3 A4 n k j l c1 c2 c3 c4 a p b q w hA hP hB hQ hn hk hj hl hg hg6 h1 h2 h3
      cases h4 : okB j b
      · exact crtl_v2f A A2 A3 A4 n k j l c1 c2 c3 c4 a p b q w hA hP hB hQ hn hk hj hl hg hg6 h1 h2 h3 h4
      by_cases h5 : a < p
      · by_cases h6 : b < q
        · by_cases h7 : Nat.gcd p q = 1
          · exact crtl_finf A A2 A3 A4 n k j l c1 c2 c3 c4 a p b q w hA hP hB hQ hn hk hj hl hg hg6 h1 h2 h3 h4 h5 h6 h7
          · exact crtl_zf A A2 A3 A4 n k j l c1 c2 c3 c4 a p b q w hA hP hB hQ hn hk hj hl hg hg6 h1 h2 h3 h4 h5 h6 h7
        · exact crtl_r2f A A2 A3 A4 n k j l c1 c2 c3 c4 a p b q w hA hP hB hQ hn hk hj hl hg hg6 h1 h2 h3 h4 h5 h6
      · exact crtl_r1f A A2 A3 A4 n k j l c1 c2 c3 c4 a p b q w hA hP hB hQ hn hk hj hl hg hg6 h1 h2 h3 h4 h5
    · by_cases hs : k + l < 34
      · exact crtl_far2 A A2 A3 A4 n k j l c1 c2 c3 c4 a p b q w hA hP hB hQ hn hk hj hl hg hg6 hs
      · cases h1 : modB k p
        · exact crtl_m1n A A2 A3 A4 n k j l c1 c2 c3 c4 a p b q w hA hP hB hQ hn hk hj hl hg hg6 hs h1
        cases h2 : modB l q
        · exact crtl_m2n A A2 A3 A4 n k j l c1 c2 c3 c4 a p b q w hA hP hB hQ hn hk hj hl hg hg6 hs h1 h2
        cases h3 : okB n a
        · exact crtl_v1n A A2 A3 A4 n k j l c1 c2 c3 c4 a p b q w hA hP hB hQ hn hk hj hl hg hg6 hs h1 h2 h3
        cases h4 : okB j b
        · exact crtl_v2n A A2 A3 A4 n k j l c1 c2 c3 c4 a p b q w hA hP hB hQ hn hk hj hl hg hg6 hs h1 h2 h3 h4
        by_cases h5 : a < p
        · by_cases h6 : b < q
          · by_cases h7 : Nat.gcd p q = 1
            · exact crtl_finn A A2 A3 A4 n k j l c1 c2 c3 c4 a p b q w hA hP hB hQ hn hk hj hl hg hg6 hs h1 h2 h3 h4 h5 h6 h7
            · exact crtl_zn A A2 A3 A4 n k j l c1 c2 c3 c4 a p b q w hA hP hB hQ hn hk hj hl hg hg6 hs h1 h2 h3 h4 h5 h6 h7
          · exact crtl_r2n A A2 A3 A4 n k j l c1 c2 c3 c4 a p b q w hA hP hB hQ hn hk hj hl hg hg6 hs h1 h2 h3 h4 h5 h6
        · exact crtl_r1n A A2 A3 A4 n k j l c1 c2 c3 c4 a p b q w hA hP hB hQ hn hk hj hl hg hg6 hs h1 h2 h3 h4 h5
  · exact crtl_far1 A A2 A3 A4 n k j l c1 c2 c3 c4 a p b q w hA hP hB hQ hn hk hj hl hg

end Go.Proofs.Ytckajjapockonaa
