/- natmod: Crt. -/
import Derived.Test.YtckajjapockonaaVb
set_option linter.unusedVariables false
set_option linter.unusedSimpArgs false
namespace Go.Proofs.Ytckajjapockonaa
open Go.RowKit

def oq29_5_0 : Oper := { dst := some 52, op := Op.load 24 (Operand.tmp 5), type := 24, pos := "natmod.go:78", after := #[], guard := none }
def oq29_5_1 : Oper := { dst := some 53, op := Op.load 24 (Operand.tmp 7), type := 24, pos := "natmod.go:78", after := #[], guard := none }
def oq29_5_2 : Oper := { dst := some 54, op := Op.call { callee := Callee.value (Operand.func 58), args := #[Operand.tmp 52, Operand.tmp 53], argTypes := #[24, 24] }, type := 24, pos := "natmod.go:78", after := #[{ on := 0, ground := Ground.data }, { on := 1, ground := Ground.data }], guard := none }
def oq29_5_3 : Oper := { dst := some 55, op := Op.load 24 (Operand.tmp 7), type := 24, pos := "natmod.go:78", after := #[], guard := none }
def oq29_5_4 : Oper := { dst := some 56, op := Op.call { callee := Callee.value (Operand.func 66), args := #[Operand.tmp 54, Operand.tmp 55], argTypes := #[24, 24] }, type := 62, pos := "natmod.go:78", after := #[{ on := 2, ground := Ground.data }, { on := 3, ground := Ground.data }, { on := 2, ground := Ground.chain }], guard := none }
def oq29_5_5 : Oper := { dst := some 51, op := Op.move (Operand.tmp 56), type := 62, pos := "natmod.go:78", after := #[{ on := 4, ground := Ground.data }], guard := none }
def oq29_5_6 : Oper := { dst := some 57, op := Op.extract (Operand.tmp 51) 0, type := 24, pos := "natmod.go:78", after := #[{ on := 5, ground := Ground.data }], guard := none }
def oq29_5_7 : Oper := { dst := some 58, op := Op.extract (Operand.tmp 51) 1, type := 24, pos := "natmod.go:78", after := #[{ on := 5, ground := Ground.data }, { on := 10, ground := Ground.gcOnly Departure.lateStores }], guard := none }
def oq29_5_8 : Oper := { dst := some 10, op := Op.alloc 24, type := 0, pos := "natmod.go:78", after := #[], guard := none }
def oq29_5_9 : Oper := { dst := some 11, op := Op.alloc 24, type := 0, pos := "natmod.go:78", after := #[], guard := none }
def oq29_5_10 : Oper := { dst := none, op := Op.store 24 (Operand.tmp 10) (Operand.tmp 57), type := 0, pos := "natmod.go:78", after := #[{ on := 8, ground := Ground.data }, { on := 6, ground := Ground.data }, { on := 4, ground := Ground.chain }, { on := 0, ground := Ground.phase }, { on := 1, ground := Ground.phase }, { on := 2, ground := Ground.phase }, { on := 3, ground := Ground.phase }, { on := 4, ground := Ground.phase }, { on := 5, ground := Ground.phase }, { on := 6, ground := Ground.phase }, { on := 7, ground := Ground.textOnly Departure.lateStores }, { on := 8, ground := Ground.phase }, { on := 9, ground := Ground.phase }], guard := none }
def oq29_5_11 : Oper := { dst := none, op := Op.store 24 (Operand.tmp 11) (Operand.tmp 58), type := 0, pos := "natmod.go:78", after := #[{ on := 9, ground := Ground.data }, { on := 7, ground := Ground.data }, { on := 10, ground := Ground.chain }, { on := 0, ground := Ground.phase }, { on := 1, ground := Ground.phase }, { on := 2, ground := Ground.phase }, { on := 3, ground := Ground.phase }, { on := 4, ground := Ground.phase }, { on := 5, ground := Ground.phase }, { on := 6, ground := Ground.phase }, { on := 7, ground := Ground.phase }, { on := 8, ground := Ground.phase }, { on := 9, ground := Ground.phase }, { on := 10, ground := Ground.phase }], guard := none }
def oq29_7_0 : Oper := { dst := some 66, op := Op.load 24 (Operand.tmp 10), type := 24, pos := "natmod.go:81", after := #[], guard := none }
def oq29_7_1 : Oper := { dst := some 67, op := Op.call { callee := Callee.value (Operand.func 59), args := #[], argTypes := #[] }, type := 24, pos := "natmod.go:81", after := #[], guard := none }
def oq29_7_2 : Oper := { dst := some 68, op := Op.call { callee := Callee.value (Operand.func 67), args := #[Operand.tmp 66, Operand.tmp 67], argTypes := #[24, 24] }, type := 3, pos := "natmod.go:81", after := #[{ on := 0, ground := Ground.data }, { on := 1, ground := Ground.data }, { on := 1, ground := Ground.chain }], guard := none }
def oq29_7_3 : Oper := { dst := some 69, op := Op.binOp BinOp.neq 3 (Operand.tmp 68) (Operand.const (Value.int IntKind.i64 0)) 3, type := 4, pos := "natmod.go:81", after := #[{ on := 2, ground := Ground.data }], guard := none }
def oq29_7_4 : Oper := { dst := some 65, op := Op.assign (Operand.tmp 69), type := 4, pos := "natmod.go:81", after := #[{ on := 3, ground := Ground.data }, { on := 2, ground := Ground.chain }], guard := none }
def oq29_11_0 : Oper := { dst := some 76, op := Op.load 24 (Operand.tmp 6), type := 24, pos := "natmod.go:87", after := #[], guard := none }
def oq29_11_1 : Oper := { dst := some 77, op := Op.load 24 (Operand.tmp 4), type := 24, pos := "natmod.go:87", after := #[], guard := none }
def oq29_11_2 : Oper := { dst := some 78, op := Op.load 24 (Operand.tmp 7), type := 24, pos := "natmod.go:87", after := #[], guard := none }
def oq29_11_3 : Oper := { dst := some 79, op := Op.call { callee := Callee.value (Operand.func 58), args := #[Operand.tmp 77, Operand.tmp 78], argTypes := #[24, 24] }, type := 24, pos := "natmod.go:87", after := #[{ on := 1, ground := Ground.data }, { on := 2, ground := Ground.data }], guard := none }
def oq29_11_4 : Oper := { dst := some 80, op := Op.load 24 (Operand.tmp 7), type := 24, pos := "natmod.go:87", after := #[], guard := none }
def oq29_11_5 : Oper := { dst := some 81, op := Op.call { callee := Callee.value (Operand.func 51), args := #[Operand.tmp 76, Operand.tmp 79, Operand.tmp 80], argTypes := #[24, 24, 24] }, type := 24, pos := "natmod.go:87", after := #[{ on := 0, ground := Ground.data }, { on := 3, ground := Ground.data }, { on := 4, ground := Ground.data }, { on := 3, ground := Ground.chain }], guard := none }
def oq29_11_6 : Oper := { dst := some 82, op := Op.load 24 (Operand.tmp 11), type := 24, pos := "natmod.go:87", after := #[], guard := none }
def oq29_11_7 : Oper := { dst := some 83, op := Op.load 24 (Operand.tmp 7), type := 24, pos := "natmod.go:87", after := #[], guard := none }
def oq29_11_8 : Oper := { dst := some 84, op := Op.call { callee := Callee.value (Operand.func 56), args := #[Operand.tmp 81, Operand.tmp 82, Operand.tmp 83], argTypes := #[24, 24, 24] }, type := 24, pos := "natmod.go:87", after := #[{ on := 5, ground := Ground.data }, { on := 6, ground := Ground.data }, { on := 7, ground := Ground.data }, { on := 5, ground := Ground.chain }], guard := none }
def oq29_11_9 : Oper := { dst := some 14, op := Op.alloc 24, type := 0, pos := "natmod.go:87", after := #[], guard := none }
def oq29_11_10 : Oper := { dst := none, op := Op.store 24 (Operand.tmp 14) (Operand.tmp 84), type := 0, pos := "natmod.go:87", after := #[{ on := 9, ground := Ground.data }, { on := 8, ground := Ground.data }, { on := 8, ground := Ground.chain }, { on := 0, ground := Ground.phase }, { on := 1, ground := Ground.phase }, { on := 2, ground := Ground.phase }, { on := 3, ground := Ground.phase }, { on := 4, ground := Ground.phase }, { on := 5, ground := Ground.phase }, { on := 6, ground := Ground.phase }, { on := 7, ground := Ground.phase }, { on := 8, ground := Ground.phase }, { on := 9, ground := Ground.phase }], guard := none }
theorem wp_landV {P : Program} {c : Code} {Q : Exit → Act → World → Prop} {a : Act} {w : World} {F : Nat → Nat → Option Addr → Nat → Option Addr → Nat → Option Addr → Nat → Nat → Act} (R : Nat → Nat → Option Addr → Nat → Option Addr → Nat → Option Addr → Nat → Nat → World → Prop)
    (hreg : c.wp P (fun e a1 w1 => e = Exit.normal ∧ ∃ x0 x1 x2 x3 x4 x5 x6 x7 x8, a1 = F x0 x1 x2 x3 x4 x5 x6 x7 x8 ∧ R x0 x1 x2 x3 x4 x5 x6 x7 x8 w1) a w) (himp : ∀ x0 x1 x2 x3 x4 x5 x6 x7 x8 w1, R x0 x1 x2 x3 x4 x5 x6 x7 x8 w1 → Q Exit.normal (F x0 x1 x2 x3 x4 x5 x6 x7 x8) w1) : c.wp P Q a w :=
  Code.wp_mono (fun e a1 w1 h => by obtain ⟨rfl, x0, x1, x2, x3, x4, x5, x6, x7, x8, rfl, hR⟩ := h; exact himp _ _ _ _ _ _ _ _ _ w1 hR) hreg
theorem wp_landW {P : Program} {c : Code} {Q : Exit → Act → World → Prop} {a : Act} {w : World} {F : Nat → Option Addr → Nat → Option Addr → Nat → Option Addr → Nat → Act} (R : Nat → Option Addr → Nat → Option Addr → Nat → Option Addr → Nat → World → Prop)
    (hreg : c.wp P (fun e a1 w1 => e = Exit.normal ∧ ∃ x0 x1 x2 x3 x4 x5 x6, a1 = F x0 x1 x2 x3 x4 x5 x6 ∧ R x0 x1 x2 x3 x4 x5 x6 w1) a w) (himp : ∀ x0 x1 x2 x3 x4 x5 x6 w1, R x0 x1 x2 x3 x4 x5 x6 w1 → Q Exit.normal (F x0 x1 x2 x3 x4 x5 x6) w1) : c.wp P Q a w :=
  Code.wp_mono (fun e a1 w1 h => by obtain ⟨rfl, x0, x1, x2, x3, x4, x5, x6, rfl, hR⟩ := h; exact himp _ _ _ _ _ _ _ w1 hR) hreg
theorem wpAnyH_name {P : Program} {md : Region.Mode} {ops : Array Oper} {Q : Exit → Act → World → Prop} {S : World → Prop} {fuel : Nat} {listed : Array Bool} {a : Act} {w : World} (Fc : World → Prop) (hf : Fc w)
    (h : ∀ W', Fc W' → wpAnyH P md ops Q S fuel listed a W') : wpAnyH P md ops Q S fuel listed a w := h w hf
theorem invN_lt {a m : Nat} (h : 0 < m) : invN a m < m := by
  classical
  unfold invN
  split
  · rename_i h1; exact (Classical.choose_spec h1).1
  · exact h
/-- The number that Crt finds. -/
noncomputable def crtN (a p b q : Nat) : Nat := a + p * (((b + (q - a % q)) % q * invN (p % q) q) % q)
/-- What Crt returns. -/
noncomputable def crtV (n a k p j b l q : Nat) : Nat × Int := if okB n a && (okB j b && (modB k p && modB l q)) then (if a < p ∧ b < q then (if Nat.gcd p q = 1 then (if nw (p * q) ≤ 32 then (crtN a p b q, 0) else (0, 9)) else (0, 10)) else (0, 2)) else (0, 1)
theorem modB_nw {m : Nat} (h0 : 0 < m) (h : nw m ≤ 32) : modB (nw m) m = true := by
  unfold modB; rw [okB_nw (Nat.le_trans h (show 32 ≤ 64 by omega)), decide_eq_true ⟨nw_pos (by omega), h⟩]; rfl
theorem modB_not {m : Nat} (h : ¬ nw m ≤ 32) : modB (nw m) m = false := by
  unfold modB; rw [decide_eq_false (fun c => h c.2), Bool.and_false]
set_option maxHeartbeats 16000000 in
theorem ncrt_a1 (A A2 A3 A4 : Option Addr) (n k j l c1 c2 c3 c4 a p b q : Nat) (w : World) (hA : Num w w.heap.size A n a) (hP : Num w w.heap.size A2 k p) (hB : Num w w.heap.size A3 j b) (hQ : Num w w.heap.size A4 l q) (hn : n ≤ 9223372036854775807) (hk : k ≤ 9223372036854775807) (hj : j ≤ 9223372036854775807) (hl : l ≤ 9223372036854775807) (h1 : okB n a = false) :
    Calls Try.prog 29 #[.agg #[.slice A n c1], .agg #[.slice A2 k c2], .agg #[.slice A3 j c3], .agg #[.slice A4 l c4]] w (RetTwo w.heap.size (crtV n a k p j b l q).1 (crtV n a k p j b l q).2 w) := by
  have HV : crtV n a k p j b l q = (0, 1) := by unfold crtV; rw [h1]; rfl
  rw [HV]
  clear HV
  have G1 := hid h1
  clear h1
  obtain ⟨b0, b1, b2, b3, b4, bw⟩ := boxes5 w (.slice A n c1) (.slice A2 k c2) (.slice A3 j c3) (.slice A4 l c4) (.slice none 0 0)
  have XA := VB.mk (B := w.heap.size) (a := a) b0 (.inl hA) bw (Nat.le_refl _) (by omega)
  have XP := VB.mk (B := w.heap.size) (a := p) b1 (.inl hP) bw (Nat.le_refl _) (by omega)
  have XB := VB.mk (B := w.heap.size) (a := b) b2 (.inl hB) bw (Nat.le_refl _) (by omega)
  have XQ := VB.mk (B := w.heap.size) (a := q) b3 (.inl hQ) bw (Nat.le_refl _) (by omega)
  have XR := VB.mk (B := w.heap.size) (a := 0) b4 (.inr (Own.nil _ _ _ _ (Nat.zero_le _))) bw (Nat.le_refl _) (by omega)
  have WW := bw
  clear bw b0 b1 b2 b3 b4
  go_enter Try.func29, Try.ntmps29
  go_wp2_with fail
  generalize hV : (((((w.alloc (.cells #[.slice A n c1] 24)).alloc (.cells #[.slice A2 k c2] 24)).alloc (.cells #[.slice A3 j c3] 24)).alloc (.cells #[.slice A4 l c4] 24)).alloc (.cells #[.slice none 0 0] 24)) = V0 at XA XP XB XQ XR WW ⊢
  clear hV
  have hbs : w.heap.size ≤ V0.heap.size := WW.size
  have hc := valid_any A _ c1 a _ V0 XA.num (Nat.le_refl _) hn
  rw [G1.out] at hc
  refine hc.mono ?_
  clear hc
  rintro e V1 ⟨rfl, hb⟩
  replace XA := XA.below hb
  replace XP := XP.below hb
  replace XB := XB.below hb
  replace XQ := XQ.below hb
  replace XR := XR.below hb
  replace WW := WW.trans (hb.mono WW.size)
  have fXR := XR.1.frozen 0
  have kXA := XA.cell
  have zXA := XA.lt
  have kXP := XP.cell
  have zXP := XP.lt
  have kXB := XB.cell
  have zXB := XB.lt
  have kXQ := XQ.cell
  have zXQ := XQ.lt
  have kXR := XR.cell
  have zXR := XR.lt
  clear hb hbs
  go_wp2_with fail
  exact bodyPost_ret (v := .tuple #[.agg #[.slice none 0 0], .int .i64 1]) (by simp [results, Try.results29, go_sem, kXR, zXR]) rfl ⟨_, rfl, NatV.nil _ _, WW.setCell (by simp <;> omega) _⟩

set_option maxHeartbeats 16000000 in
theorem ncrt_a2 (A A2 A3 A4 : Option Addr) (n k j l c1 c2 c3 c4 a p b q : Nat) (w : World) (hA : Num w w.heap.size A n a) (hP : Num w w.heap.size A2 k p) (hB : Num w w.heap.size A3 j b) (hQ : Num w w.heap.size A4 l q) (hn : n ≤ 9223372036854775807) (hk : k ≤ 9223372036854775807) (hj : j ≤ 9223372036854775807) (hl : l ≤ 9223372036854775807) (h1 : okB n a = true) (h2 : okB j b = false) :
    Calls Try.prog 29 #[.agg #[.slice A n c1], .agg #[.slice A2 k c2], .agg #[.slice A3 j c3], .agg #[.slice A4 l c4]] w (RetTwo w.heap.size (crtV n a k p j b l q).1 (crtV n a k p j b l q).2 w) := by
  have HV : crtV n a k p j b l q = (0, 1) := by unfold crtV; rw [h1, h2]; rfl
  rw [HV]
  clear HV
  have G1 := hid h1
  have G2 := hid h2
  clear h1 h2
  obtain ⟨b0, b1, b2, b3, b4, bw⟩ := boxes5 w (.slice A n c1) (.slice A2 k c2) (.slice A3 j c3) (.slice A4 l c4) (.slice none 0 0)
  have XA := VB.mk (B := w.heap.size) (a := a) b0 (.inl hA) bw (Nat.le_refl _) (by omega)
  have XP := VB.mk (B := w.heap.size) (a := p) b1 (.inl hP) bw (Nat.le_refl _) (by omega)
  have XB := VB.mk (B := w.heap.size) (a := b) b2 (.inl hB) bw (Nat.le_refl _) (by omega)
  have XQ := VB.mk (B := w.heap.size) (a := q) b3 (.inl hQ) bw (Nat.le_refl _) (by omega)
  have XR := VB.mk (B := w.heap.size) (a := 0) b4 (.inr (Own.nil _ _ _ _ (Nat.zero_le _))) bw (Nat.le_refl _) (by omega)
  have WW := bw
  clear bw b0 b1 b2 b3 b4
  go_enter Try.func29, Try.ntmps29
  go_wp2_with fail
  generalize hV : (((((w.alloc (.cells #[.slice A n c1] 24)).alloc (.cells #[.slice A2 k c2] 24)).alloc (.cells #[.slice A3 j c3] 24)).alloc (.cells #[.slice A4 l c4] 24)).alloc (.cells #[.slice none 0 0] 24)) = V0 at XA XP XB XQ XR WW ⊢
  clear hV
  have hbs : w.heap.size ≤ V0.heap.size := WW.size
  have hc := valid_any A _ c1 a _ V0 XA.num (Nat.le_refl _) hn
  rw [G1.out] at hc
  refine hc.mono ?_
  clear hc
  rintro e V1 ⟨rfl, hb⟩
  replace XA := XA.below hb
  replace XP := XP.below hb
  replace XB := XB.below hb
  replace XQ := XQ.below hb
  replace XR := XR.below hb
  replace WW := WW.trans (hb.mono WW.size)
  have kXA := XA.cell
  have zXA := XA.lt
  have kXP := XP.cell
  have zXP := XP.lt
  have kXB := XB.cell
  have zXB := XB.lt
  have kXQ := XQ.cell
  have zXQ := XQ.lt
  have kXR := XR.cell
  have zXR := XR.lt
  clear hb hbs
  go_wp2_with fail
  have hbs : w.heap.size ≤ V1.heap.size := WW.size
  have hc := valid_any A3 _ c3 b _ V1 XB.num (Nat.le_refl _) hj
  rw [G2.out] at hc
  refine hc.mono ?_
  clear hc
  rintro e V2 ⟨rfl, hb⟩
  clear kXA zXA kXP zXP kXB zXB kXQ zXQ kXR zXR
  replace XA := XA.below hb
  replace XP := XP.below hb
  replace XB := XB.below hb
  replace XQ := XQ.below hb
  replace XR := XR.below hb
  replace WW := WW.trans (hb.mono WW.size)
  have fXR := XR.1.frozen 0
  have kXA := XA.cell
  have zXA := XA.lt
  have kXP := XP.cell
  have zXP := XP.lt
  have kXB := XB.cell
  have zXB := XB.lt
  have kXQ := XQ.cell
  have zXQ := XQ.lt
  have kXR := XR.cell
  have zXR := XR.lt
  clear hb hbs
  go_wp2_with fail
  exact bodyPost_ret (v := .tuple #[.agg #[.slice none 0 0], .int .i64 1]) (by simp [results, Try.results29, go_sem, kXR, zXR]) rfl ⟨_, rfl, NatV.nil _ _, WW.setCell (by simp <;> omega) _⟩

set_option maxHeartbeats 16000000 in
theorem ncrt_a3 (A A2 A3 A4 : Option Addr) (n k j l c1 c2 c3 c4 a p b q : Nat) (w : World) (hA : Num w w.heap.size A n a) (hP : Num w w.heap.size A2 k p) (hB : Num w w.heap.size A3 j b) (hQ : Num w w.heap.size A4 l q) (hn : n ≤ 9223372036854775807) (hk : k ≤ 9223372036854775807) (hj : j ≤ 9223372036854775807) (hl : l ≤ 9223372036854775807) (h1 : okB n a = true) (h2 : okB j b = true) (h3 : modB k p = false) :
    Calls Try.prog 29 #[.agg #[.slice A n c1], .agg #[.slice A2 k c2], .agg #[.slice A3 j c3], .agg #[.slice A4 l c4]] w (RetTwo w.heap.size (crtV n a k p j b l q).1 (crtV n a k p j b l q).2 w) := by
  have HV : crtV n a k p j b l q = (0, 1) := by unfold crtV; rw [h1, h2, h3]; rfl
  rw [HV]
  clear HV
  have G1 := hid h1
  have G2 := hid h2
  have G3 := hid h3
  clear h1 h2 h3
  obtain ⟨b0, b1, b2, b3, b4, bw⟩ := boxes5 w (.slice A n c1) (.slice A2 k c2) (.slice A3 j c3) (.slice A4 l c4) (.slice none 0 0)
  have XA := VB.mk (B := w.heap.size) (a := a) b0 (.inl hA) bw (Nat.le_refl _) (by omega)
  have XP := VB.mk (B := w.heap.size) (a := p) b1 (.inl hP) bw (Nat.le_refl _) (by omega)
  have XB := VB.mk (B := w.heap.size) (a := b) b2 (.inl hB) bw (Nat.le_refl _) (by omega)
  have XQ := VB.mk (B := w.heap.size) (a := q) b3 (.inl hQ) bw (Nat.le_refl _) (by omega)
  have XR := VB.mk (B := w.heap.size) (a := 0) b4 (.inr (Own.nil _ _ _ _ (Nat.zero_le _))) bw (Nat.le_refl _) (by omega)
  have WW := bw
  clear bw b0 b1 b2 b3 b4
  go_enter Try.func29, Try.ntmps29
  go_wp2_with fail
  generalize hV : (((((w.alloc (.cells #[.slice A n c1] 24)).alloc (.cells #[.slice A2 k c2] 24)).alloc (.cells #[.slice A3 j c3] 24)).alloc (.cells #[.slice A4 l c4] 24)).alloc (.cells #[.slice none 0 0] 24)) = V0 at XA XP XB XQ XR WW ⊢
  clear hV
  have hbs : w.heap.size ≤ V0.heap.size := WW.size
  have hc := valid_any A _ c1 a _ V0 XA.num (Nat.le_refl _) hn
  rw [G1.out] at hc
  refine hc.mono ?_
  clear hc
  rintro e V1 ⟨rfl, hb⟩
  replace XA := XA.below hb
  replace XP := XP.below hb
  replace XB := XB.below hb
  replace XQ := XQ.below hb
  replace XR := XR.below hb
  replace WW := WW.trans (hb.mono WW.size)
  have kXA := XA.cell
  have zXA := XA.lt
  have kXP := XP.cell
  have zXP := XP.lt
  have kXB := XB.cell
  have zXB := XB.lt
  have kXQ := XQ.cell
  have zXQ := XQ.lt
  have kXR := XR.cell
  have zXR := XR.lt
  clear hb hbs
  go_wp2_with fail
  have hbs : w.heap.size ≤ V1.heap.size := WW.size
  have hc := valid_any A3 _ c3 b _ V1 XB.num (Nat.le_refl _) hj
  rw [G2.out] at hc
  refine hc.mono ?_
  clear hc
  rintro e V2 ⟨rfl, hb⟩
  clear kXA zXA kXP zXP kXB zXB kXQ zXQ kXR zXR
  replace XA := XA.below hb
  replace XP := XP.below hb
  replace XB := XB.below hb
  replace XQ := XQ.below hb
  replace XR := XR.below hb
  replace WW := WW.trans (hb.mono WW.size)
  have kXA := XA.cell
  have zXA := XA.lt
  have kXP := XP.cell
  have zXP := XP.lt
  have kXB := XB.cell
  have zXB := XB.lt
  have kXQ := XQ.cell
  have zXQ := XQ.lt
  have kXR := XR.cell
  have zXR := XR.lt
  clear hb hbs
  go_wp2_with fail
  have hbs : w.heap.size ≤ V2.heap.size := WW.size
  have hc := modulus_any A2 _ c2 p V2 XP.num hk
  rw [G3.out] at hc
  refine hc.mono ?_
  clear hc
  rintro e V3 ⟨rfl, hb⟩
  clear kXA zXA kXP zXP kXB zXB kXQ zXQ kXR zXR
  replace XA := XA.below hb
  replace XP := XP.below hb
  replace XB := XB.below hb
  replace XQ := XQ.below hb
  replace XR := XR.below hb
  replace WW := WW.trans (hb.mono WW.size)
  have fXR := XR.1.frozen 0
  have kXA := XA.cell
  have zXA := XA.lt
  have kXP := XP.cell
  have zXP := XP.lt
  have kXB := XB.cell
  have zXB := XB.lt
  have kXQ := XQ.cell
  have zXQ := XQ.lt
  have kXR := XR.cell
  have zXR := XR.lt
  clear hb hbs
  go_wp2_with fail
  exact bodyPost_ret (v := .tuple #[.agg #[.slice none 0 0], .int .i64 1]) (by simp [results, Try.results29, go_sem, kXR, zXR]) rfl ⟨_, rfl, NatV.nil _ _, WW.setCell (by simp <;> omega) _⟩

set_option maxHeartbeats 16000000 in
theorem ncrt_a4 (A A2 A3 A4 : Option Addr) (n k j l c1 c2 c3 c4 a p b q : Nat) (w : World) (hA : Num w w.heap.size A n a) (hP : Num w w.heap.size A2 k p) (hB : Num w w.heap.size A3 j b) (hQ : Num w w.heap.size A4 l q) (hn : n ≤ 9223372036854775807) (hk : k ≤ 9223372036854775807) (hj : j ≤ 9223372036854775807) (hl : l ≤ 9223372036854775807) (h1 : okB n a = true) (h2 : okB j b = true) (h3 : modB k p = true) (h4 : modB l q = false) :
    Calls Try.prog 29 #[.agg #[.slice A n c1], .agg #[.slice A2 k c2], .agg #[.slice A3 j c3], .agg #[.slice A4 l c4]] w (RetTwo w.heap.size (crtV n a k p j b l q).1 (crtV n a k p j b l q).2 w) := by
  have HV : crtV n a k p j b l q = (0, 1) := by unfold crtV; rw [h1, h2, h3, h4]; rfl
  rw [HV]
  clear HV
  have G1 := hid h1
  have G2 := hid h2
  have G3 := hid h3
  have G4 := hid h4
  clear h1 h2 h3 h4
  obtain ⟨b0, b1, b2, b3, b4, bw⟩ := boxes5 w (.slice A n c1) (.slice A2 k c2) (.slice A3 j c3) (.slice A4 l c4) (.slice none 0 0)
  have XA := VB.mk (B := w.heap.size) (a := a) b0 (.inl hA) bw (Nat.le_refl _) (by omega)
  have XP := VB.mk (B := w.heap.size) (a := p) b1 (.inl hP) bw (Nat.le_refl _) (by omega)
  have XB := VB.mk (B := w.heap.size) (a := b) b2 (.inl hB) bw (Nat.le_refl _) (by omega)
  have XQ := VB.mk (B := w.heap.size) (a := q) b3 (.inl hQ) bw (Nat.le_refl _) (by omega)
  have XR := VB.mk (B := w.heap.size) (a := 0) b4 (.inr (Own.nil _ _ _ _ (Nat.zero_le _))) bw (Nat.le_refl _) (by omega)
  have WW := bw
  clear bw b0 b1 b2 b3 b4
  go_enter Try.func29, Try.ntmps29
  go_wp2_with fail
  generalize hV : (((((w.alloc (.cells #[.slice A n c1] 24)).alloc (.cells #[.slice A2 k c2] 24)).alloc (.cells #[.slice A3 j c3] 24)).alloc (.cells #[.slice A4 l c4] 24)).alloc (.cells #[.slice none 0 0] 24)) = V0 at XA XP XB XQ XR WW ⊢
  clear hV
  have hbs : w.heap.size ≤ V0.heap.size := WW.size
  have hc := valid_any A _ c1 a _ V0 XA.num (Nat.le_refl _) hn
  rw [G1.out] at hc
  refine hc.mono ?_
  clear hc
  rintro e V1 ⟨rfl, hb⟩
  replace XA := XA.below hb
  replace XP := XP.below hb
  replace XB := XB.below hb
  replace XQ := XQ.below hb
  replace XR := XR.below hb
  replace WW := WW.trans (hb.mono WW.size)
  have kXA := XA.cell
  have zXA := XA.lt
  have kXP := XP.cell
  have zXP := XP.lt
  have kXB := XB.cell
  have zXB := XB.lt
  have kXQ := XQ.cell
  have zXQ := XQ.lt
  have kXR := XR.cell
  have zXR := XR.lt
  clear hb hbs
  go_wp2_with fail
  have hbs : w.heap.size ≤ V1.heap.size := WW.size
  have hc := valid_any A3 _ c3 b _ V1 XB.num (Nat.le_refl _) hj
  rw [G2.out] at hc
  refine hc.mono ?_
  clear hc
  rintro e V2 ⟨rfl, hb⟩
  clear kXA zXA kXP zXP kXB zXB kXQ zXQ kXR zXR
  replace XA := XA.below hb
  replace XP := XP.below hb
  replace XB := XB.below hb
  replace XQ := XQ.below hb
  replace XR := XR.below hb
  replace WW := WW.trans (hb.mono WW.size)
  have kXA := XA.cell
  have zXA := XA.lt
  have kXP := XP.cell
  have zXP := XP.lt
  have kXB := XB.cell
  have zXB := XB.lt
  have kXQ := XQ.cell
  have zXQ := XQ.lt
  have kXR := XR.cell
  have zXR := XR.lt
  clear hb hbs
  go_wp2_with fail
  have hbs : w.heap.size ≤ V2.heap.size := WW.size
  have hc := modulus_any A2 _ c2 p V2 XP.num hk
  rw [G3.out] at hc
  refine hc.mono ?_
  clear hc
  rintro e V3 ⟨rfl, hb⟩
  clear kXA zXA kXP zXP kXB zXB kXQ zXQ kXR zXR
  replace XA := XA.below hb
  replace XP := XP.below hb
  replace XB := XB.below hb
  replace XQ := XQ.below hb
  replace XR := XR.below hb
  replace WW := WW.trans (hb.mono WW.size)
  have kXA := XA.cell
  have zXA := XA.lt
  have kXP := XP.cell
  have zXP := XP.lt
  have kXB := XB.cell
  have zXB := XB.lt
  have kXQ := XQ.cell
  have zXQ := XQ.lt
  have kXR := XR.cell
  have zXR := XR.lt
  clear hb hbs
  go_wp2_with fail
  have hbs : w.heap.size ≤ V3.heap.size := WW.size
  have hc := modulus_any A4 _ c4 q V3 XQ.num hl
  rw [G4.out] at hc
  refine hc.mono ?_
  clear hc
  rintro e V4 ⟨rfl, hb⟩
  clear kXA zXA kXP zXP kXB zXB kXQ zXQ kXR zXR
  replace XA := XA.below hb
  replace XP := XP.below hb
  replace XB := XB.below hb
  replace XQ := XQ.below hb
  replace XR := XR.below hb
  replace WW := WW.trans (hb.mono WW.size)
  have fXR := XR.1.frozen 0
  have kXA := XA.cell
  have zXA := XA.lt
  have kXP := XP.cell
  have zXP := XP.lt
  have kXB := XB.cell
  have zXB := XB.lt
  have kXQ := XQ.cell
  have zXQ := XQ.lt
  have kXR := XR.cell
  have zXR := XR.lt
  clear hb hbs
  go_wp2_with fail
  exact bodyPost_ret (v := .tuple #[.agg #[.slice none 0 0], .int .i64 1]) (by simp [results, Try.results29, go_sem, kXR, zXR]) rfl ⟨_, rfl, NatV.nil _ _, WW.setCell (by simp <;> omega) _⟩

set_option maxHeartbeats 16000000 in
theorem ncrt_r1 (A A2 A3 A4 : Option Addr) (n k j l c1 c2 c3 c4 a p b q : Nat) (w : World) (hA : Num w w.heap.size A n a) (hP : Num w w.heap.size A2 k p) (hB : Num w w.heap.size A3 j b) (hQ : Num w w.heap.size A4 l q) (hn : n ≤ 9223372036854775807) (hk : k ≤ 9223372036854775807) (hj : j ≤ 9223372036854775807) (hl : l ≤ 9223372036854775807) (h1 : okB n a = true) (h2 : okB j b = true) (h3 : modB k p = true) (h4 : modB l q = true) (h5 : ¬ a < p) :
    Calls Try.prog 29 #[.agg #[.slice A n c1], .agg #[.slice A2 k c2], .agg #[.slice A3 j c3], .agg #[.slice A4 l c4]] w (RetTwo w.heap.size (crtV n a k p j b l q).1 (crtV n a k p j b l q).2 w) := by
  have HV : crtV n a k p j b l q = (0, 2) := by unfold crtV; rw [h1, h2, h3, h4, if_pos (show (true && (true && (true && true))) = true from rfl), if_neg (fun h : a < p ∧ b < q => h5 h.1)]
  rw [HV]
  clear HV
  have G1 := hid h1
  have G2 := hid h2
  have G3 := hid h3
  have G4 := hid h4
  obtain ⟨e1, na⟩ := okB_yes.1 h1
  obtain ⟨e2, nb⟩ := okB_yes.1 h2
  obtain ⟨e3, np, hp0⟩ := modB_yes h3
  obtain ⟨e4, nq, hq0⟩ := modB_yes h4
  subst e1 e2 e3 e4
  have R1 : Hid (decide (a < p) = false) := decide_eq_false h5
  clear h1 h2 h3 h4 h5 hp0 hq0
  obtain ⟨b0, b1, b2, b3, b4, bw⟩ := boxes5 w (.slice A (nw a) c1) (.slice A2 (nw p) c2) (.slice A3 (nw b) c3) (.slice A4 (nw q) c4) (.slice none 0 0)
  have XA := VB.mk (B := w.heap.size) (a := a) b0 (.inl hA) bw (Nat.le_refl _) (by omega)
  have XP := VB.mk (B := w.heap.size) (a := p) b1 (.inl hP) bw (Nat.le_refl _) (by omega)
  have XB := VB.mk (B := w.heap.size) (a := b) b2 (.inl hB) bw (Nat.le_refl _) (by omega)
  have XQ := VB.mk (B := w.heap.size) (a := q) b3 (.inl hQ) bw (Nat.le_refl _) (by omega)
  have XR := VB.mk (B := w.heap.size) (a := 0) b4 (.inr (Own.nil _ _ _ _ (Nat.zero_le _))) bw (Nat.le_refl _) (by omega)
  have WW := bw
  clear bw b0 b1 b2 b3 b4
  go_enter Try.func29, Try.ntmps29
  go_wp2_with fail
  generalize hV : (((((w.alloc (.cells #[.slice A (nw a) c1] 24)).alloc (.cells #[.slice A2 (nw p) c2] 24)).alloc (.cells #[.slice A3 (nw b) c3] 24)).alloc (.cells #[.slice A4 (nw q) c4] 24)).alloc (.cells #[.slice none 0 0] 24)) = V0 at XA XP XB XQ XR WW ⊢
  clear hV
  have hbs : w.heap.size ≤ V0.heap.size := WW.size
  have hc := valid_any A _ c1 a _ V0 XA.num (Nat.le_refl _) (by omega)
  rw [G1.out] at hc
  refine hc.mono ?_
  clear hc
  rintro e V1 ⟨rfl, hb⟩
  replace XA := XA.below hb
  replace XP := XP.below hb
  replace XB := XB.below hb
  replace XQ := XQ.below hb
  replace XR := XR.below hb
  replace WW := WW.trans (hb.mono WW.size)
  have kXA := XA.cell
  have zXA := XA.lt
  have kXP := XP.cell
  have zXP := XP.lt
  have kXB := XB.cell
  have zXB := XB.lt
  have kXQ := XQ.cell
  have zXQ := XQ.lt
  have kXR := XR.cell
  have zXR := XR.lt
  clear hb hbs
  go_wp2_with fail
  have hbs : w.heap.size ≤ V1.heap.size := WW.size
  have hc := valid_any A3 _ c3 b _ V1 XB.num (Nat.le_refl _) (by omega)
  rw [G2.out] at hc
  refine hc.mono ?_
  clear hc
  rintro e V2 ⟨rfl, hb⟩
  clear kXA zXA kXP zXP kXB zXB kXQ zXQ kXR zXR
  replace XA := XA.below hb
  replace XP := XP.below hb
  replace XB := XB.below hb
  replace XQ := XQ.below hb
  replace XR := XR.below hb
  replace WW := WW.trans (hb.mono WW.size)
  have kXA := XA.cell
  have zXA := XA.lt
  have kXP := XP.cell
  have zXP := XP.lt
  have kXB := XB.cell
  have zXB := XB.lt
  have kXQ := XQ.cell
  have zXQ := XQ.lt
  have kXR := XR.cell
  have zXR := XR.lt
  clear hb hbs
  go_wp2_with fail
  have hbs : w.heap.size ≤ V2.heap.size := WW.size
  have hc := modulus_any A2 _ c2 p V2 XP.num (by omega)
  rw [G3.out] at hc
  refine hc.mono ?_
  clear hc
  rintro e V3 ⟨rfl, hb⟩
  clear kXA zXA kXP zXP kXB zXB kXQ zXQ kXR zXR
  replace XA := XA.below hb
  replace XP := XP.below hb
  replace XB := XB.below hb
  replace XQ := XQ.below hb
  replace XR := XR.below hb
  replace WW := WW.trans (hb.mono WW.size)
  have kXA := XA.cell
  have zXA := XA.lt
  have kXP := XP.cell
  have zXP := XP.lt
  have kXB := XB.cell
  have zXB := XB.lt
  have kXQ := XQ.cell
  have zXQ := XQ.lt
  have kXR := XR.cell
  have zXR := XR.lt
  clear hb hbs
  go_wp2_with fail
  have hbs : w.heap.size ≤ V3.heap.size := WW.size
  have hc := modulus_any A4 _ c4 q V3 XQ.num (by omega)
  rw [G4.out] at hc
  refine hc.mono ?_
  clear hc
  rintro e V4 ⟨rfl, hb⟩
  clear kXA zXA kXP zXP kXB zXB kXQ zXQ kXR zXR
  replace XA := XA.below hb
  replace XP := XP.below hb
  replace XB := XB.below hb
  replace XQ := XQ.below hb
  replace XR := XR.below hb
  replace WW := WW.trans (hb.mono WW.size)
  have kXA := XA.cell
  have zXA := XA.lt
  have kXP := XP.cell
  have zXP := XP.lt
  have kXB := XB.cell
  have zXB := XB.lt
  have kXQ := XQ.cell
  have zXQ := XQ.lt
  have kXR := XR.cell
  have zXR := XR.lt
  clear hb hbs
  go_wp2_with fail
  have hbs : w.heap.size ≤ V4.heap.size := WW.size
  have hc := residue_any A A2 c1 c2 a p V4 XA.num XP.num (by omega) (by omega)
  rw [R1.out] at hc
  refine hc.mono ?_
  clear hc
  rintro e V5 ⟨rfl, hb⟩
  clear kXA zXA kXP zXP kXB zXB kXQ zXQ kXR zXR
  replace XA := XA.below hb
  replace XP := XP.below hb
  replace XB := XB.below hb
  replace XQ := XQ.below hb
  replace XR := XR.below hb
  replace WW := WW.trans (hb.mono WW.size)
  have fXR := XR.1.frozen 0
  have kXA := XA.cell
  have zXA := XA.lt
  have kXP := XP.cell
  have zXP := XP.lt
  have kXB := XB.cell
  have zXB := XB.lt
  have kXQ := XQ.cell
  have zXQ := XQ.lt
  have kXR := XR.cell
  have zXR := XR.lt
  clear hb hbs
  go_wp2_with fail
  exact bodyPost_ret (v := .tuple #[.agg #[.slice none 0 0], .int .i64 2]) (by simp [results, Try.results29, go_sem, kXR, zXR]) rfl ⟨_, rfl, NatV.nil _ _, WW.setCell (by simp <;> omega) _⟩

set_option maxHeartbeats 16000000 in
theorem ncrt_r2 (A A2 A3 A4 : Option Addr) (n k j l c1 c2 c3 c4 a p b q : Nat) (w : World) (hA : Num w w.heap.size A n a) (hP : Num w w.heap.size A2 k p) (hB : Num w w.heap.size A3 j b) (hQ : Num w w.heap.size A4 l q) (hn : n ≤ 9223372036854775807) (hk : k ≤ 9223372036854775807) (hj : j ≤ 9223372036854775807) (hl : l ≤ 9223372036854775807) (h1 : okB n a = true) (h2 : okB j b = true) (h3 : modB k p = true) (h4 : modB l q = true) (h5 : a < p) (h6 : ¬ b < q) :
    Calls Try.prog 29 #[.agg #[.slice A n c1], .agg #[.slice A2 k c2], .agg #[.slice A3 j c3], .agg #[.slice A4 l c4]] w (RetTwo w.heap.size (crtV n a k p j b l q).1 (crtV n a k p j b l q).2 w) := by
  have HV : crtV n a k p j b l q = (0, 2) := by unfold crtV; rw [h1, h2, h3, h4, if_pos (show (true && (true && (true && true))) = true from rfl), if_neg (fun h : a < p ∧ b < q => h6 h.2)]
  rw [HV]
  clear HV
  have G1 := hid h1
  have G2 := hid h2
  have G3 := hid h3
  have G4 := hid h4
  obtain ⟨e1, na⟩ := okB_yes.1 h1
  obtain ⟨e2, nb⟩ := okB_yes.1 h2
  obtain ⟨e3, np, hp0⟩ := modB_yes h3
  obtain ⟨e4, nq, hq0⟩ := modB_yes h4
  subst e1 e2 e3 e4
  have R1 : Hid (decide (a < p) = true) := decide_eq_true h5
  have R2 : Hid (decide (b < q) = false) := decide_eq_false h6
  clear h1 h2 h3 h4 h5 h6 hp0 hq0
  obtain ⟨b0, b1, b2, b3, b4, bw⟩ := boxes5 w (.slice A (nw a) c1) (.slice A2 (nw p) c2) (.slice A3 (nw b) c3) (.slice A4 (nw q) c4) (.slice none 0 0)
  have XA := VB.mk (B := w.heap.size) (a := a) b0 (.inl hA) bw (Nat.le_refl _) (by omega)
  have XP := VB.mk (B := w.heap.size) (a := p) b1 (.inl hP) bw (Nat.le_refl _) (by omega)
  have XB := VB.mk (B := w.heap.size) (a := b) b2 (.inl hB) bw (Nat.le_refl _) (by omega)
  have XQ := VB.mk (B := w.heap.size) (a := q) b3 (.inl hQ) bw (Nat.le_refl _) (by omega)
  have XR := VB.mk (B := w.heap.size) (a := 0) b4 (.inr (Own.nil _ _ _ _ (Nat.zero_le _))) bw (Nat.le_refl _) (by omega)
  have WW := bw
  clear bw b0 b1 b2 b3 b4
  go_enter Try.func29, Try.ntmps29
  go_wp2_with fail
  generalize hV : (((((w.alloc (.cells #[.slice A (nw a) c1] 24)).alloc (.cells #[.slice A2 (nw p) c2] 24)).alloc (.cells #[.slice A3 (nw b) c3] 24)).alloc (.cells #[.slice A4 (nw q) c4] 24)).alloc (.cells #[.slice none 0 0] 24)) = V0 at XA XP XB XQ XR WW ⊢
  clear hV
  have hbs : w.heap.size ≤ V0.heap.size := WW.size
  have hc := valid_any A _ c1 a _ V0 XA.num (Nat.le_refl _) (by omega)
  rw [G1.out] at hc
  refine hc.mono ?_
  clear hc
  rintro e V1 ⟨rfl, hb⟩
  replace XA := XA.below hb
  replace XP := XP.below hb
  replace XB := XB.below hb
  replace XQ := XQ.below hb
  replace XR := XR.below hb
  replace WW := WW.trans (hb.mono WW.size)
  have kXA := XA.cell
  have zXA := XA.lt
  have kXP := XP.cell
  have zXP := XP.lt
  have kXB := XB.cell
  have zXB := XB.lt
  have kXQ := XQ.cell
  have zXQ := XQ.lt
  have kXR := XR.cell
  have zXR := XR.lt
  clear hb hbs
  go_wp2_with fail
  have hbs : w.heap.size ≤ V1.heap.size := WW.size
  have hc := valid_any A3 _ c3 b _ V1 XB.num (Nat.le_refl _) (by omega)
  rw [G2.out] at hc
  refine hc.mono ?_
  clear hc
  rintro e V2 ⟨rfl, hb⟩
  clear kXA zXA kXP zXP kXB zXB kXQ zXQ kXR zXR
  replace XA := XA.below hb
  replace XP := XP.below hb
  replace XB := XB.below hb
  replace XQ := XQ.below hb
  replace XR := XR.below hb
  replace WW := WW.trans (hb.mono WW.size)
  have kXA := XA.cell
  have zXA := XA.lt
  have kXP := XP.cell
  have zXP := XP.lt
  have kXB := XB.cell
  have zXB := XB.lt
  have kXQ := XQ.cell
  have zXQ := XQ.lt
  have kXR := XR.cell
  have zXR := XR.lt
  clear hb hbs
  go_wp2_with fail
  have hbs : w.heap.size ≤ V2.heap.size := WW.size
  have hc := modulus_any A2 _ c2 p V2 XP.num (by omega)
  rw [G3.out] at hc
  refine hc.mono ?_
  clear hc
  rintro e V3 ⟨rfl, hb⟩
  clear kXA zXA kXP zXP kXB zXB kXQ zXQ kXR zXR
  replace XA := XA.below hb
  replace XP := XP.below hb
  replace XB := XB.below hb
  replace XQ := XQ.below hb
  replace XR := XR.below hb
  replace WW := WW.trans (hb.mono WW.size)
  have kXA := XA.cell
  have zXA := XA.lt
  have kXP := XP.cell
  have zXP := XP.lt
  have kXB := XB.cell
  have zXB := XB.lt
  have kXQ := XQ.cell
  have zXQ := XQ.lt
  have kXR := XR.cell
  have zXR := XR.lt
  clear hb hbs
  go_wp2_with fail
  have hbs : w.heap.size ≤ V3.heap.size := WW.size
  have hc := modulus_any A4 _ c4 q V3 XQ.num (by omega)
  rw [G4.out] at hc
  refine hc.mono ?_
  clear hc
  rintro e V4 ⟨rfl, hb⟩
  clear kXA zXA kXP zXP kXB zXB kXQ zXQ kXR zXR
  replace XA := XA.below hb
  replace XP := XP.below hb
  replace XB := XB.below hb
  replace XQ := XQ.below hb
  replace XR := XR.below hb
  replace WW := WW.trans (hb.mono WW.size)
  have kXA := XA.cell
  have zXA := XA.lt
  have kXP := XP.cell
  have zXP := XP.lt
  have kXB := XB.cell
  have zXB := XB.lt
  have kXQ := XQ.cell
  have zXQ := XQ.lt
  have kXR := XR.cell
  have zXR := XR.lt
  clear hb hbs
  go_wp2_with fail
  have hbs : w.heap.size ≤ V4.heap.size := WW.size
  have hc := residue_any A A2 c1 c2 a p V4 XA.num XP.num (by omega) (by omega)
  rw [R1.out] at hc
  refine hc.mono ?_
  clear hc
  rintro e V5 ⟨rfl, hb⟩
  clear kXA zXA kXP zXP kXB zXB kXQ zXQ kXR zXR
  replace XA := XA.below hb
  replace XP := XP.below hb
  replace XB := XB.below hb
  replace XQ := XQ.below hb
  replace XR := XR.below hb
  replace WW := WW.trans (hb.mono WW.size)
  have kXA := XA.cell
  have zXA := XA.lt
  have kXP := XP.cell
  have zXP := XP.lt
  have kXB := XB.cell
  have zXB := XB.lt
  have kXQ := XQ.cell
  have zXQ := XQ.lt
  have kXR := XR.cell
  have zXR := XR.lt
  clear hb hbs
  go_wp2_with fail
  have hbs : w.heap.size ≤ V5.heap.size := WW.size
  have hc := residue_any A3 A4 c3 c4 b q V5 XB.num XQ.num (by omega) (by omega)
  rw [R2.out] at hc
  refine hc.mono ?_
  clear hc
  rintro e V6 ⟨rfl, hb⟩
  clear kXA zXA kXP zXP kXB zXB kXQ zXQ kXR zXR
  replace XA := XA.below hb
  replace XP := XP.below hb
  replace XB := XB.below hb
  replace XQ := XQ.below hb
  replace XR := XR.below hb
  replace WW := WW.trans (hb.mono WW.size)
  have fXR := XR.1.frozen 0
  have kXA := XA.cell
  have zXA := XA.lt
  have kXP := XP.cell
  have zXP := XP.lt
  have kXB := XB.cell
  have zXB := XB.lt
  have kXQ := XQ.cell
  have zXQ := XQ.lt
  have kXR := XR.cell
  have zXR := XR.lt
  clear hb hbs
  go_wp2_with fail
  exact bodyPost_ret (v := .tuple #[.agg #[.slice none 0 0], .int .i64 2]) (by simp [results, Try.results29, go_sem, kXR, zXR]) rfl ⟨_, rfl, NatV.nil _ _, WW.setCell (by simp <;> omega) _⟩

theorem crtV_deep {a p b q : Nat} (hp : nw p ≤ 32) (hq : nw q ≤ 32) (hap : a < p) (hbq : b < q) : crtV (nw a) a (nw p) p (nw b) b (nw q) q = if Nat.gcd p q = 1 then (if nw (p * q) ≤ 32 then (crtN a p b q, 0) else (0, 9)) else (0, 10) := by
  unfold crtV
  rw [okB_nw (Nat.le_trans (nw_mono (Nat.le_of_lt hap)) (Nat.le_trans hp (by omega))), okB_nw (Nat.le_trans (nw_mono (Nat.le_of_lt hbq)) (Nat.le_trans hq (by omega))), modB_nw (by omega) hp, modB_nw (by omega) hq, if_pos (show (true && (true && (true && true))) = true from rfl), if_pos ⟨hap, hbq⟩]
set_option maxHeartbeats 16000000 in
set_option maxRecDepth 100000 in
theorem ncrt_deep (A A2 A3 A4 : Option Addr) (c1 c2 c3 c4 a p b q : Nat) (w : World) (hA : Num w w.heap.size A (nw a) a) (hP : Num w w.heap.size A2 (nw p) p) (hB : Num w w.heap.size A3 (nw b) b) (hQ : Num w w.heap.size A4 (nw q) q) (np : nw p ≤ 32) (nq : nw q ≤ 32) (h5 : a < p) (h6 : b < q) :
    Calls Try.prog 29 #[.agg #[.slice A (nw a) c1], .agg #[.slice A2 (nw p) c2], .agg #[.slice A3 (nw b) c3], .agg #[.slice A4 (nw q) c4]] w (RetTwo w.heap.size (crtV (nw a) a (nw p) p (nw b) b (nw q) q).1 (crtV (nw a) a (nw p) p (nw b) b (nw q) q).2 w) := by
  have HV := hid (crtV_deep np nq h5 h6)
  have hp0 : 0 < p := by omega
  have hq0 : 0 < q := by omega
  have na : nw a ≤ 32 := Nat.le_trans (nw_mono (Nat.le_of_lt h5)) np
  have nb : nw b ≤ 32 := Nat.le_trans (nw_mono (Nat.le_of_lt h6)) nq
  have G1 := hid (okB_nw (Nat.le_trans na (show 32 ≤ 64 by omega)))
  have G2 := hid (okB_nw (Nat.le_trans nb (show 32 ≤ 64 by omega)))
  have G3 := hid (modB_nw hp0 np)
  have G4 := hid (modB_nw hq0 nq)
  have R1 : Hid (decide (a < p) = true) := decide_eq_true h5
  have R2 : Hid (decide (b < q) = true) := decide_eq_true h6
  have HBQ := hid h6
  have HQ0 := hid hq0
  have HP0 := hid hp0
  have hqn : ¬ q = 0 := by omega
  obtain ⟨t, ht⟩ : ∃ z, z = p % q := ⟨_, rfl⟩
  have HT := hid ht
  have HTQ : Hid (t < q) := (show t < q by rw [ht]; exact Nat.mod_lt _ HQ0.out)
  have nt : nw t ≤ 32 := Nat.le_trans (nw_mono (Nat.le_of_lt HTQ.out)) nq
  obtain ⟨g, hg⟩ : ∃ z, z = Nat.gcd t q := ⟨_, rfl⟩
  have HG := hid hg
  have hgq : g ≤ q := by rw [hg]; exact Nat.le_of_dvd hq0 (Nat.gcd_dvd_right t q)
  have ng : nw g ≤ 32 := Nat.le_trans (nw_mono hgq) nq
  have HGP : Hid (g = Nat.gcd p q) := (show g = Nat.gcd p q by rw [hg, ht, Nat.gcd_comm, Nat.gcd_comm q, ← Nat.gcd_rec q p, Nat.gcd_comm])
  have K1 := hid (okB_nw (Nat.le_trans ng (show 32 ≤ 64 by omega)))
  have K2 : Hid (okB (nw 1) 1 = true) := okB_nw (a := 1) (by decide)
  have K3 := hid (okB_nw (Nat.le_trans np (show 32 ≤ 64 by omega)))
  have K4 := hid (okB_nw (Nat.le_trans nq (show 32 ≤ 64 by omega)))
  obtain ⟨pq, hpq⟩ : ∃ z, z = p * q := ⟨_, rfl⟩
  have HPQ := hid hpq
  have npq : nw pq ≤ 64 := by rw [hpq]; exact nw_prod (j := 32) (k := 32) np nq
  have LPQ := hid (limS_ok npq)
  clear ht hg hpq hgq hp0 hq0 h5 h6
  obtain ⟨b0, b1, b2, b3, b4, bw⟩ := boxes5 w (.slice A (nw a) c1) (.slice A2 (nw p) c2) (.slice A3 (nw b) c3) (.slice A4 (nw q) c4) (.slice none 0 0)
  have XA := VB.mk (B := w.heap.size) (a := a) b0 (.inl hA) bw (Nat.le_refl _) (by omega)
  have XP := VB.mk (B := w.heap.size) (a := p) b1 (.inl hP) bw (Nat.le_refl _) (by omega)
  have XB := VB.mk (B := w.heap.size) (a := b) b2 (.inl hB) bw (Nat.le_refl _) (by omega)
  have XQ := VB.mk (B := w.heap.size) (a := q) b3 (.inl hQ) bw (Nat.le_refl _) (by omega)
  have XR := VB.mk (B := w.heap.size) (a := 0) b4 (.inr (Own.nil _ _ _ _ (Nat.zero_le _))) bw (Nat.le_refl _) (by omega)
  have WW := bw
  clear bw b0 b1 b2 b3 b4
  go_enter Try.func29, Try.ntmps29
  go_wp2_with fail
  generalize hV : (((((w.alloc (.cells #[.slice A (nw a) c1] 24)).alloc (.cells #[.slice A2 (nw p) c2] 24)).alloc (.cells #[.slice A3 (nw b) c3] 24)).alloc (.cells #[.slice A4 (nw q) c4] 24)).alloc (.cells #[.slice none 0 0] 24)) = V0 at XA XP XB XQ XR WW ⊢
  clear hV
  have hbs : w.heap.size ≤ V0.heap.size := WW.size
  have hc := valid_any A _ c1 a _ V0 XA.num (Nat.le_refl _) (by omega)
  rw [G1.out] at hc
  refine hc.mono ?_
  clear hc
  rintro e V1 ⟨rfl, hb⟩
  replace XA := XA.below hb
  replace XP := XP.below hb
  replace XB := XB.below hb
  replace XQ := XQ.below hb
  replace XR := XR.below hb
  replace WW := WW.trans (hb.mono WW.size)
  have kXA := XA.cell
  have zXA := XA.lt
  have kXP := XP.cell
  have zXP := XP.lt
  have kXB := XB.cell
  have zXB := XB.lt
  have kXQ := XQ.cell
  have zXQ := XQ.lt
  have kXR := XR.cell
  have zXR := XR.lt
  clear hb hbs
  go_wp2_with fail
  have hbs : w.heap.size ≤ V1.heap.size := WW.size
  have hc := valid_any A3 _ c3 b _ V1 XB.num (Nat.le_refl _) (by omega)
  rw [G2.out] at hc
  refine hc.mono ?_
  clear hc
  rintro e V2 ⟨rfl, hb⟩
  clear kXA zXA kXP zXP kXB zXB kXQ zXQ kXR zXR
  replace XA := XA.below hb
  replace XP := XP.below hb
  replace XB := XB.below hb
  replace XQ := XQ.below hb
  replace XR := XR.below hb
  replace WW := WW.trans (hb.mono WW.size)
  have kXA := XA.cell
  have zXA := XA.lt
  have kXP := XP.cell
  have zXP := XP.lt
  have kXB := XB.cell
  have zXB := XB.lt
  have kXQ := XQ.cell
  have zXQ := XQ.lt
  have kXR := XR.cell
  have zXR := XR.lt
  clear hb hbs
  go_wp2_with fail
  have hbs : w.heap.size ≤ V2.heap.size := WW.size
  have hc := modulus_any A2 _ c2 p V2 XP.num (by omega)
  rw [G3.out] at hc
  refine hc.mono ?_
  clear hc
  rintro e V3 ⟨rfl, hb⟩
  clear kXA zXA kXP zXP kXB zXB kXQ zXQ kXR zXR
  replace XA := XA.below hb
  replace XP := XP.below hb
  replace XB := XB.below hb
  replace XQ := XQ.below hb
  replace XR := XR.below hb
  replace WW := WW.trans (hb.mono WW.size)
  have kXA := XA.cell
  have zXA := XA.lt
  have kXP := XP.cell
  have zXP := XP.lt
  have kXB := XB.cell
  have zXB := XB.lt
  have kXQ := XQ.cell
  have zXQ := XQ.lt
  have kXR := XR.cell
  have zXR := XR.lt
  clear hb hbs
  go_wp2_with fail
  have hbs : w.heap.size ≤ V3.heap.size := WW.size
  have hc := modulus_any A4 _ c4 q V3 XQ.num (by omega)
  rw [G4.out] at hc
  refine hc.mono ?_
  clear hc
  rintro e V4 ⟨rfl, hb⟩
  clear kXA zXA kXP zXP kXB zXB kXQ zXQ kXR zXR
  replace XA := XA.below hb
  replace XP := XP.below hb
  replace XB := XB.below hb
  replace XQ := XQ.below hb
  replace XR := XR.below hb
  replace WW := WW.trans (hb.mono WW.size)
  have kXA := XA.cell
  have zXA := XA.lt
  have kXP := XP.cell
  have zXP := XP.lt
  have kXB := XB.cell
  have zXB := XB.lt
  have kXQ := XQ.cell
  have zXQ := XQ.lt
  have kXR := XR.cell
  have zXR := XR.lt
  clear hb hbs
  go_wp2_with fail
  have hbs : w.heap.size ≤ V4.heap.size := WW.size
  have hc := residue_any A A2 c1 c2 a p V4 XA.num XP.num (by omega) (by omega)
  rw [R1.out] at hc
  refine hc.mono ?_
  clear hc
  rintro e V5 ⟨rfl, hb⟩
  clear kXA zXA kXP zXP kXB zXB kXQ zXQ kXR zXR
  replace XA := XA.below hb
  replace XP := XP.below hb
  replace XB := XB.below hb
  replace XQ := XQ.below hb
  replace XR := XR.below hb
  replace WW := WW.trans (hb.mono WW.size)
  have kXA := XA.cell
  have zXA := XA.lt
  have kXP := XP.cell
  have zXP := XP.lt
  have kXB := XB.cell
  have zXB := XB.lt
  have kXQ := XQ.cell
  have zXQ := XQ.lt
  have kXR := XR.cell
  have zXR := XR.lt
  clear hb hbs
  go_wp2_with fail
  have hbs : w.heap.size ≤ V5.heap.size := WW.size
  have hc := residue_any A3 A4 c3 c4 b q V5 XB.num XQ.num (by omega) (by omega)
  rw [R2.out] at hc
  refine hc.mono ?_
  clear hc
  rintro e V6 ⟨rfl, hb⟩
  clear kXA zXA kXP zXP kXB zXB kXQ zXQ kXR zXR
  replace XA := XA.below hb
  replace XP := XP.below hb
  replace XB := XB.below hb
  replace XQ := XQ.below hb
  replace XR := XR.below hb
  replace WW := WW.trans (hb.mono WW.size)
  have kXA := XA.cell
  have zXA := XA.lt
  have kXP := XP.cell
  have zXP := XP.lt
  have kXB := XB.cell
  have zXB := XB.lt
  have kXQ := XQ.cell
  have zXQ := XQ.lt
  have kXR := XR.cell
  have zXR := XR.lt
  clear hb hbs
  go_wp2_with fail
  clear kXA zXA kXP zXP kXB zXB kXQ zXQ kXR zXR
  apply wp_landV (R := fun gXd gXi D7 d7 D8 d8 D9 d9 x8 w1 => Below w.heap.size w w1 ∧ VB w.heap.size w1 (w.heap.size) A (nw a) c1 a ∧ VB w.heap.size w1 (w.heap.size + 1) A2 (nw p) c2 p ∧ VB w.heap.size w1 (w.heap.size + 1 + 1) A3 (nw b) c3 b ∧ VB w.heap.size w1 (w.heap.size + 1 + 1 + 1) A4 (nw q) c4 q ∧ VB w.heap.size w1 (w.heap.size + 1 + 1 + 1 + 1) none 0 0 0 ∧ VB w.heap.size w1 (gXd) D8 (nw g) d8 g ∧ VB w.heap.size w1 (gXi) D9 (nw x8) d9 x8 ∧ Own w1 w.heap.size D7 (nw t) d7 t ∧ VL w.heap.size w1 D8 (nw g) d8 g ∧ Own w1 w.heap.size D9 (nw x8) d9 x8 ∧ w.heap.size + 1 + 1 + 1 + 1 < gXd ∧ w.heap.size + 1 + 1 + 1 + 1 < gXi ∧ gXd ≠ gXi ∧ x8 < q ∧ (q : Int) ∣ (t : Int) * (x8 : Int) - (g : Int))
  case hreg =>
    refine wp_region_noPanic ?_
    have WWd := WW.drew
    have XAd := XA.drew
    have XPd := XP.drew
    have XBd := XB.drew
    have XQd := XQ.drew
    have XRd := XR.drew
    have hst : (fun w' => w'.cell? ⟨w.heap.size + 1, 0, none⟩ = some (.slice A2 (nw p) c2) ∧ w'.cell? ⟨w.heap.size + 1 + 1 + 1, 0, none⟩ = some (.slice A4 (nw q) c4)) V6.drew := ⟨XP.cell, XQ.cell⟩
    have qq0 := XRd.lt
    refine region_L 19 (fun w' => w'.cell? ⟨w.heap.size + 1, 0, none⟩ = some (.slice A2 (nw p) c2) ∧ w'.cell? ⟨w.heap.size + 1 + 1 + 1, 0, none⟩ = some (.slice A4 (nw q) c4)) (by kernel_rfl) hst (fun hHeld => ?_)
    clear hst
    generalize hV : V6.drew = U6x0 at hHeld WWd qq0 XAd XPd XBd XQd XRd ⊢
    clear hV
    have WW := WWd
    have XA := XAd
    have XP := XPd
    have XB := XBd
    have XQ := XQd
    have XR := XRd
    clear WWd XAd XPd XBd XQd XRd
    refine AnyL_take (i := 0) (oi := oq29_5_0) (v := ?_) rfl (by kernel_rfl) (by kernel_rfl) (by kernel_rfl) (by kernel_rfl) (fun _ _ _ h => h) (Or.inl ⟨by rfl, ?_⟩) (by assumption) ?_
    rotate_left
    · (delta oq29_5_0; intro ws hSw; (try dsimp only at hSw); (try go_simp); (try with_reducible rfl))
    (try simp only [oq29_5_0, Act.put, List.setIfInBounds_toArray, List.set_cons_zero, List.set_cons_succ])
    refine AnyL_take (i := 1) (oi := oq29_5_1) (v := ?_) rfl (by kernel_rfl) (by kernel_rfl) (by kernel_rfl) (by kernel_rfl) (fun _ _ _ h => h) (Or.inl ⟨by rfl, ?_⟩) (by assumption) ?_
    rotate_left
    · (delta oq29_5_1; intro ws hSw; (try dsimp only at hSw); (try go_simp); (try with_reducible rfl))
    (try simp only [oq29_5_1, Act.put, List.setIfInBounds_toArray, List.set_cons_zero, List.set_cons_succ])
    refine AnyL_take (i := 3) (oi := oq29_5_3) (v := ?_) rfl (by kernel_rfl) (by kernel_rfl) (by kernel_rfl) (by kernel_rfl) (fun _ _ _ h => h) (Or.inl ⟨by rfl, ?_⟩) (by assumption) ?_
    rotate_left
    · (delta oq29_5_3; intro ws hSw; (try dsimp only at hSw); (try go_simp); (try with_reducible rfl))
    (try simp only [oq29_5_3, Act.put, List.setIfInBounds_toArray, List.set_cons_zero, List.set_cons_succ])
    refine AnyL_ready (rs := [2, 8, 9]) (by kernel_rfl) (by simp) ?_
    refine ReadyL.cons (o := oq29_5_2) rfl (fun K hK => ?_) ?_
    · delta oq29_5_2
      go_simp
      have hbs : w.heap.size ≤ U6x0.heap.size := WW.size
      have hc := remainder_any A2 A4 c2 c4 p q U6x0 XP.num XQ.num (by omega) (by omega) hqn
      rw [← HT.out] at hc
      refine hc.mono ?_
      clear hc
      rintro e V8 ⟨v, rfl, hv, hb⟩
      replace XA := XA.below hb
      replace XP := XP.below hb
      replace XB := XB.below hb
      replace XQ := XQ.below hb
      replace XR := XR.below hb
      replace WW := WW.trans (hb.mono WW.size)
      have sz8 := hb.size
      obtain ⟨D7, d7, rfl, ho⟩ := hv
      have O7 := ho.weak (b := w.heap.size) hbs
      clear ho
      clear hb hbs
      refine hK.out _ _ (⟨XP.cell, XQ.cell⟩) (fun hHeld2 => ?_)
      clear hK K hHeld
      have hHeld := hHeld2
      clear hHeld2
      (try simp only [oq29_5_2, Act.put, List.setIfInBounds_toArray, List.set_cons_zero, List.set_cons_succ])
      refine AnyL_ready (rs := [4, 8, 9]) (by kernel_rfl) (by simp) ?_
      refine ReadyL.cons (o := oq29_5_4) rfl (fun K hK => ?_) ?_
      · delta oq29_5_4
        go_simp
        have hbs : w.heap.size ≤ V8.heap.size := WW.size
        have hc := euclid_any D7 A4 d7 c4 t q V8 O7.num XQ.num nq HTQ.out w.heap.size WW.size (.inr O7) XQ.2.1
        refine hc.mono ?_
        clear hc
        rintro e V9 ⟨D8, d8, u, x8, rfl, hvv, hu, hb, hx1, hx2⟩
        replace XA := XA.below hb
        replace XP := XP.below hb
        replace XB := XB.below hb
        replace XQ := XQ.below hb
        replace XR := XR.below hb
        replace O7 := O7.below hb (Nat.le_refl _)
        replace WW := WW.trans (hb.mono WW.size)
        have sz9 := hb.size
        rw [← HG.out] at hvv hx2 ⊢
        obtain ⟨D9, d9, rfl, ho⟩ := hu
        have O9 := ho.weak (b := w.heap.size) hbs
        have V8 : VL w.heap.size V9 D8 (nw g) d8 g := ⟨hvv, Nat.le_trans hbs hb.size⟩
        clear ho hvv
        clear hb hbs
        refine hK.out _ _ (⟨XP.cell, XQ.cell⟩) (fun hHeld2 => ?_)
        clear hK K hHeld
        have hHeld := hHeld2
        clear hHeld2
        (try simp only [oq29_5_4, Act.put, List.setIfInBounds_toArray, List.set_cons_zero, List.set_cons_succ])
        refine AnyL_take (i := 5) (oi := oq29_5_5) (v := ?_) rfl (by kernel_rfl) (by kernel_rfl) (by kernel_rfl) (by kernel_rfl) (fun _ _ _ h => h) (Or.inl ⟨by rfl, ?_⟩) (by assumption) ?_
        rotate_left
        · (delta oq29_5_5; intro ws hSw; (try dsimp only at hSw); (try go_simp); (try with_reducible rfl))
        (try simp only [oq29_5_5, Act.put, List.setIfInBounds_toArray, List.set_cons_zero, List.set_cons_succ])
        refine AnyL_take (i := 6) (oi := oq29_5_6) (v := ?_) rfl (by kernel_rfl) (by kernel_rfl) (by kernel_rfl) (by kernel_rfl) (fun _ _ _ h => h) (Or.inl ⟨by rfl, ?_⟩) (by assumption) ?_
        rotate_left
        · (delta oq29_5_6; intro ws hSw; (try dsimp only at hSw); (try go_simp); (try with_reducible rfl))
        (try simp only [oq29_5_6, Act.put, List.setIfInBounds_toArray, List.set_cons_zero, List.set_cons_succ])
        refine AnyL_take (i := 7) (oi := oq29_5_7) (v := ?_) rfl (by kernel_rfl) (by kernel_rfl) (by kernel_rfl) (by kernel_rfl) (fun _ _ _ h => h) (Or.inl ⟨by rfl, ?_⟩) (by assumption) ?_
        rotate_left
        · (delta oq29_5_7; intro ws hSw; (try dsimp only at hSw); (try go_simp); (try with_reducible rfl))
        (try simp only [oq29_5_7, Act.put, List.setIfInBounds_toArray, List.set_cons_zero, List.set_cons_succ])
        refine AnyL_ready (rs := [8, 9]) (by kernel_rfl) (by simp) ?_
        refine ReadyL.cons (o := oq29_5_8) rfl (fun K hK => ?_) ?_
        · delta oq29_5_8
          have lqXR : w.heap.size + 1 + 1 + 1 + 1 < V9.heap.size := XR.lt
          go_simp
          have ba := (Below.refl V9.heap.size V9).alloc (Nat.le_refl _) (.cells #[.slice none 0 0] 24)
          have XAn := XA.below ba
          have XPn := XP.below ba
          have XBn := XB.below ba
          have XQn := XQ.below ba
          have XRn := XR.below ba
          have O7n := O7.below ba (Nat.le_refl _)
          have V8n := V8.below ba (Nat.le_refl _)
          have O9n := O9.below ba (Nat.le_refl _)
          have bn := Blk.new V9 24 #[.slice none 0 0]
          have Xdn := VB.mk (B := w.heap.size) (a := 0) bn (.inr (Own.nil _ _ _ _ (Nat.zero_le _))) ba WW.size WW.size
          have WWn := WW.trans (ba.mono WW.size)
          have sn : V9.heap.size < (V9.alloc (.cells #[.slice none 0 0] 24)).heap.size := bn.lt
          refine hK.out _ _ (⟨XPn.cell, XQn.cell⟩) (fun hHeld2 => ?_)
          clear hK K hHeld
          (try simp only [oq29_5_8, Act.put, List.setIfInBounds_toArray, List.set_cons_zero, List.set_cons_succ])
          generalize hV : V9.alloc (.cells #[.slice none 0 0] 24) = V10 at hHeld2 sn WWn XAn XPn XBn XQn XRn Xdn O7n V8n O9n ⊢
          clear hV ba bn WW XA XP XB XQ XR O7 V8 O9
          have WW := WWn
          have XA := XAn
          have XP := XPn
          have XB := XBn
          have XQ := XQn
          have XR := XRn
          have Xd := Xdn
          have O7 := O7n
          have V8 := V8n
          have O9 := O9n
          have sz10 := sn
          have hHeld := hHeld2
          clear sn hHeld2 WWn XAn XPn XBn XQn XRn Xdn O7n V8n O9n
          obtain ⟨gXd, hg⟩ : ∃ x, x = V9.heap.size := ⟨_, rfl⟩
          have mXdXR : w.heap.size + 1 + 1 + 1 + 1 < gXd := by omega
          rw [← hg] at Xd sz10 ⊢
          clear hg lqXR
          refine AnyL_ready (rs := [9]) (by kernel_rfl) (by simp) ?_
          refine ReadyL.cons (o := oq29_5_9) rfl (fun K hK => ?_) ReadyL.nil
          delta oq29_5_9
          have lqXR : w.heap.size + 1 + 1 + 1 + 1 < V10.heap.size := XR.lt
          have lXd : gXd < V10.heap.size := Xd.lt
          go_simp
          have ba := (Below.refl V10.heap.size V10).alloc (Nat.le_refl _) (.cells #[.slice none 0 0] 24)
          have XAn := XA.below ba
          have XPn := XP.below ba
          have XBn := XB.below ba
          have XQn := XQ.below ba
          have XRn := XR.below ba
          have Xdn := Xd.below ba
          have O7n := O7.below ba (Nat.le_refl _)
          have V8n := V8.below ba (Nat.le_refl _)
          have O9n := O9.below ba (Nat.le_refl _)
          have bn := Blk.new V10 24 #[.slice none 0 0]
          have Xin := VB.mk (B := w.heap.size) (a := 0) bn (.inr (Own.nil _ _ _ _ (Nat.zero_le _))) ba WW.size WW.size
          have WWn := WW.trans (ba.mono WW.size)
          have sn : V10.heap.size < (V10.alloc (.cells #[.slice none 0 0] 24)).heap.size := bn.lt
          refine hK.out _ _ (⟨XPn.cell, XQn.cell⟩) (fun hHeld2 => ?_)
          clear hK K hHeld
          (try simp only [oq29_5_9, Act.put, List.setIfInBounds_toArray, List.set_cons_zero, List.set_cons_succ])
          generalize hV : V10.alloc (.cells #[.slice none 0 0] 24) = V11 at hHeld2 sn WWn XAn XPn XBn XQn XRn Xdn Xin O7n V8n O9n ⊢
          clear hV ba bn WW XA XP XB XQ XR Xd O7 V8 O9
          have WW := WWn
          have XA := XAn
          have XP := XPn
          have XB := XBn
          have XQ := XQn
          have XR := XRn
          have Xd := Xdn
          have Xi := Xin
          have O7 := O7n
          have V8 := V8n
          have O9 := O9n
          have sz11 := sn
          have hHeld := hHeld2
          clear sn hHeld2 WWn XAn XPn XBn XQn XRn Xdn Xin O7n V8n O9n
          obtain ⟨gXi, hg⟩ : ∃ x, x = V10.heap.size := ⟨_, rfl⟩
          have mXiXR : w.heap.size + 1 + 1 + 1 + 1 < gXi := by omega
          have nXdXi : gXd ≠ gXi := by omega
          rw [← hg] at Xi sz11 ⊢
          clear hg lqXR lXd
          refine AnyL_ready (rs := [10]) (by kernel_rfl) (by simp) ?_
          refine ReadyL.cons (o := oq29_5_10) rfl (fun K hK => ?_) ReadyL.nil
          delta oq29_5_10
          have fz := Xd.1.frozen 0
          have cz := Xd.cell
          have lz := Xd.lt
          go_simp
          have XAn := XA.far (p := ⟨gXd, 0, none⟩) Xd.1 Xd.2.2 (by simp <;> omega) (.slice D8 (nw g) d8)
          have XPn := XP.far (p := ⟨gXd, 0, none⟩) Xd.1 Xd.2.2 (by simp <;> omega) (.slice D8 (nw g) d8)
          have XBn := XB.far (p := ⟨gXd, 0, none⟩) Xd.1 Xd.2.2 (by simp <;> omega) (.slice D8 (nw g) d8)
          have XQn := XQ.far (p := ⟨gXd, 0, none⟩) Xd.1 Xd.2.2 (by simp <;> omega) (.slice D8 (nw g) d8)
          have XRn := XR.far (p := ⟨gXd, 0, none⟩) Xd.1 Xd.2.2 (by simp <;> omega) (.slice D8 (nw g) d8)
          have Xin := Xi.far (p := ⟨gXd, 0, none⟩) Xd.1 Xd.2.2 (by simp <;> omega) (.slice D8 (nw g) d8)
          have Xdn := Xd.set_ (A' := D8) (n' := (nw g)) (c' := d8) (a' := g) (V8.1)
          have O7n := O7.box (p := ⟨gXd, 0, none⟩) Xd.1 (by decide) (.slice D8 (nw g) d8)
          have V8n := V8.box (p := ⟨gXd, 0, none⟩) Xd.1 Xd.2.2 (.slice D8 (nw g) d8)
          have O9n := O9.box (p := ⟨gXd, 0, none⟩) Xd.1 (by decide) (.slice D8 (nw g) d8)
          have WWn := WW.setCell (p := ⟨gXd, 0, none⟩) (by simp <;> omega) (.slice D8 (nw g) d8)
          refine hK.out _ _ (⟨XPn.cell, XQn.cell⟩) (fun hHeld2 => ?_)
          clear hK K hHeld
          (try simp only [oq29_5_10, Act.put, List.setIfInBounds_toArray, List.set_cons_zero, List.set_cons_succ])
          generalize hV : V11.setCell ⟨gXd, 0, none⟩ (.slice D8 (nw g) d8) = V12 at hHeld2 WWn XAn XPn XBn XQn XRn Xdn Xin O7n V8n O9n ⊢
          clear hV fz cz lz WW XA XP XB XQ XR Xd Xi O7 V8 O9
          have WW := WWn
          have XA := XAn
          have XP := XPn
          have XB := XBn
          have XQ := XQn
          have XR := XRn
          have Xd := Xdn
          have Xi := Xin
          have O7 := O7n
          have V8 := V8n
          have O9 := O9n
          have hHeld := hHeld2
          clear hHeld2
          clear WWn XAn XPn XBn XQn XRn Xdn Xin O7n V8n O9n
          refine AnyL_ready (rs := [11]) (by kernel_rfl) (by simp) ?_
          refine ReadyL.cons (o := oq29_5_11) rfl (fun K hK => ?_) ReadyL.nil
          delta oq29_5_11
          have fz := Xi.1.frozen 0
          have cz := Xi.cell
          have lz := Xi.lt
          go_simp
          have XAn := XA.far (p := ⟨gXi, 0, none⟩) Xi.1 Xi.2.2 (by simp <;> omega) (.slice D9 (nw x8) d9)
          have XPn := XP.far (p := ⟨gXi, 0, none⟩) Xi.1 Xi.2.2 (by simp <;> omega) (.slice D9 (nw x8) d9)
          have XBn := XB.far (p := ⟨gXi, 0, none⟩) Xi.1 Xi.2.2 (by simp <;> omega) (.slice D9 (nw x8) d9)
          have XQn := XQ.far (p := ⟨gXi, 0, none⟩) Xi.1 Xi.2.2 (by simp <;> omega) (.slice D9 (nw x8) d9)
          have XRn := XR.far (p := ⟨gXi, 0, none⟩) Xi.1 Xi.2.2 (by simp <;> omega) (.slice D9 (nw x8) d9)
          have Xdn := Xd.far (p := ⟨gXi, 0, none⟩) Xi.1 Xi.2.2 (by simp <;> omega) (.slice D9 (nw x8) d9)
          have Xin := Xi.set_ (A' := D9) (n' := (nw x8)) (c' := d9) (a' := x8) (.inr O9)
          have O7n := O7.box (p := ⟨gXi, 0, none⟩) Xi.1 (by decide) (.slice D9 (nw x8) d9)
          have V8n := V8.box (p := ⟨gXi, 0, none⟩) Xi.1 Xi.2.2 (.slice D9 (nw x8) d9)
          have O9n := O9.box (p := ⟨gXi, 0, none⟩) Xi.1 (by decide) (.slice D9 (nw x8) d9)
          have WWn := WW.setCell (p := ⟨gXi, 0, none⟩) (by simp <;> omega) (.slice D9 (nw x8) d9)
          refine hK.out _ _ (⟨XPn.cell, XQn.cell⟩) (fun hHeld2 => ?_)
          clear hK K hHeld
          (try simp only [oq29_5_11, Act.put, List.setIfInBounds_toArray, List.set_cons_zero, List.set_cons_succ])
          generalize hV : V12.setCell ⟨gXi, 0, none⟩ (.slice D9 (nw x8) d9) = V13 at hHeld2 WWn XAn XPn XBn XQn XRn Xdn Xin O7n V8n O9n ⊢
          clear hV fz cz lz WW XA XP XB XQ XR Xd Xi O7 V8 O9
          have WW := WWn
          have XA := XAn
          have XP := XPn
          have XB := XBn
          have XQ := XQn
          have XR := XRn
          have Xd := Xdn
          have Xi := Xin
          have O7 := O7n
          have V8 := V8n
          have O9 := O9n
          have hHeld := hHeld2
          clear hHeld2
          clear WWn XAn XPn XBn XQn XRn Xdn Xin O7n V8n O9n
          refine AnyL_done (by kernel_rfl) ?_ _
          clear hHeld
          refine NoPanic.normal ?_
          exact ⟨rfl, gXd, gXi, D7, d7, D8, d8, D9, d9, x8, rfl, WW, XA, XP, XB, XQ, XR, Xd, Xi, O7, V8, O9, (by first | exact mXdXR | omega), (by first | exact mXiXR | omega), (by first | exact nXdXi | omega), hx1, hx2⟩
        refine ReadyL.cons (o := oq29_5_9) rfl (fun K hK => ?_) ReadyL.nil
        · delta oq29_5_9
          have lqXR : w.heap.size + 1 + 1 + 1 + 1 < V9.heap.size := XR.lt
          go_simp
          have ba := (Below.refl V9.heap.size V9).alloc (Nat.le_refl _) (.cells #[.slice none 0 0] 24)
          have XAn := XA.below ba
          have XPn := XP.below ba
          have XBn := XB.below ba
          have XQn := XQ.below ba
          have XRn := XR.below ba
          have O7n := O7.below ba (Nat.le_refl _)
          have V8n := V8.below ba (Nat.le_refl _)
          have O9n := O9.below ba (Nat.le_refl _)
          have bn := Blk.new V9 24 #[.slice none 0 0]
          have Xin := VB.mk (B := w.heap.size) (a := 0) bn (.inr (Own.nil _ _ _ _ (Nat.zero_le _))) ba WW.size WW.size
          have WWn := WW.trans (ba.mono WW.size)
          have sn : V9.heap.size < (V9.alloc (.cells #[.slice none 0 0] 24)).heap.size := bn.lt
          refine hK.out _ _ (⟨XPn.cell, XQn.cell⟩) (fun hHeld2 => ?_)
          clear hK K hHeld
          (try simp only [oq29_5_9, Act.put, List.setIfInBounds_toArray, List.set_cons_zero, List.set_cons_succ])
          generalize hV : V9.alloc (.cells #[.slice none 0 0] 24) = V10 at hHeld2 sn WWn XAn XPn XBn XQn XRn Xin O7n V8n O9n ⊢
          clear hV ba bn WW XA XP XB XQ XR O7 V8 O9
          have WW := WWn
          have XA := XAn
          have XP := XPn
          have XB := XBn
          have XQ := XQn
          have XR := XRn
          have Xi := Xin
          have O7 := O7n
          have V8 := V8n
          have O9 := O9n
          have sz10 := sn
          have hHeld := hHeld2
          clear sn hHeld2 WWn XAn XPn XBn XQn XRn Xin O7n V8n O9n
          obtain ⟨gXi, hg⟩ : ∃ x, x = V9.heap.size := ⟨_, rfl⟩
          have mXiXR : w.heap.size + 1 + 1 + 1 + 1 < gXi := by omega
          rw [← hg] at Xi sz10 ⊢
          clear hg lqXR
          refine AnyL_ready (rs := [8]) (by kernel_rfl) (by simp) ?_
          refine ReadyL.cons (o := oq29_5_8) rfl (fun K hK => ?_) ReadyL.nil
          delta oq29_5_8
          have lqXR : w.heap.size + 1 + 1 + 1 + 1 < V10.heap.size := XR.lt
          have lXi : gXi < V10.heap.size := Xi.lt
          go_simp
          have ba := (Below.refl V10.heap.size V10).alloc (Nat.le_refl _) (.cells #[.slice none 0 0] 24)
          have XAn := XA.below ba
          have XPn := XP.below ba
          have XBn := XB.below ba
          have XQn := XQ.below ba
          have XRn := XR.below ba
          have Xin := Xi.below ba
          have O7n := O7.below ba (Nat.le_refl _)
          have V8n := V8.below ba (Nat.le_refl _)
          have O9n := O9.below ba (Nat.le_refl _)
          have bn := Blk.new V10 24 #[.slice none 0 0]
          have Xdn := VB.mk (B := w.heap.size) (a := 0) bn (.inr (Own.nil _ _ _ _ (Nat.zero_le _))) ba WW.size WW.size
          have WWn := WW.trans (ba.mono WW.size)
          have sn : V10.heap.size < (V10.alloc (.cells #[.slice none 0 0] 24)).heap.size := bn.lt
          refine hK.out _ _ (⟨XPn.cell, XQn.cell⟩) (fun hHeld2 => ?_)
          clear hK K hHeld
          (try simp only [oq29_5_8, Act.put, List.setIfInBounds_toArray, List.set_cons_zero, List.set_cons_succ])
          generalize hV : V10.alloc (.cells #[.slice none 0 0] 24) = V11 at hHeld2 sn WWn XAn XPn XBn XQn XRn Xin Xdn O7n V8n O9n ⊢
          clear hV ba bn WW XA XP XB XQ XR Xi O7 V8 O9
          have WW := WWn
          have XA := XAn
          have XP := XPn
          have XB := XBn
          have XQ := XQn
          have XR := XRn
          have Xi := Xin
          have Xd := Xdn
          have O7 := O7n
          have V8 := V8n
          have O9 := O9n
          have sz11 := sn
          have hHeld := hHeld2
          clear sn hHeld2 WWn XAn XPn XBn XQn XRn Xin Xdn O7n V8n O9n
          obtain ⟨gXd, hg⟩ : ∃ x, x = V10.heap.size := ⟨_, rfl⟩
          have mXdXR : w.heap.size + 1 + 1 + 1 + 1 < gXd := by omega
          have nXiXd : gXi ≠ gXd := by omega
          rw [← hg] at Xd sz11 ⊢
          clear hg lqXR lXi
          refine AnyL_ready (rs := [10]) (by kernel_rfl) (by simp) ?_
          refine ReadyL.cons (o := oq29_5_10) rfl (fun K hK => ?_) ReadyL.nil
          delta oq29_5_10
          have fz := Xd.1.frozen 0
          have cz := Xd.cell
          have lz := Xd.lt
          go_simp
          have XAn := XA.far (p := ⟨gXd, 0, none⟩) Xd.1 Xd.2.2 (by simp <;> omega) (.slice D8 (nw g) d8)
          have XPn := XP.far (p := ⟨gXd, 0, none⟩) Xd.1 Xd.2.2 (by simp <;> omega) (.slice D8 (nw g) d8)
          have XBn := XB.far (p := ⟨gXd, 0, none⟩) Xd.1 Xd.2.2 (by simp <;> omega) (.slice D8 (nw g) d8)
          have XQn := XQ.far (p := ⟨gXd, 0, none⟩) Xd.1 Xd.2.2 (by simp <;> omega) (.slice D8 (nw g) d8)
          have XRn := XR.far (p := ⟨gXd, 0, none⟩) Xd.1 Xd.2.2 (by simp <;> omega) (.slice D8 (nw g) d8)
          have Xin := Xi.far (p := ⟨gXd, 0, none⟩) Xd.1 Xd.2.2 (by simp <;> omega) (.slice D8 (nw g) d8)
          have Xdn := Xd.set_ (A' := D8) (n' := (nw g)) (c' := d8) (a' := g) (V8.1)
          have O7n := O7.box (p := ⟨gXd, 0, none⟩) Xd.1 (by decide) (.slice D8 (nw g) d8)
          have V8n := V8.box (p := ⟨gXd, 0, none⟩) Xd.1 Xd.2.2 (.slice D8 (nw g) d8)
          have O9n := O9.box (p := ⟨gXd, 0, none⟩) Xd.1 (by decide) (.slice D8 (nw g) d8)
          have WWn := WW.setCell (p := ⟨gXd, 0, none⟩) (by simp <;> omega) (.slice D8 (nw g) d8)
          refine hK.out _ _ (⟨XPn.cell, XQn.cell⟩) (fun hHeld2 => ?_)
          clear hK K hHeld
          (try simp only [oq29_5_10, Act.put, List.setIfInBounds_toArray, List.set_cons_zero, List.set_cons_succ])
          generalize hV : V11.setCell ⟨gXd, 0, none⟩ (.slice D8 (nw g) d8) = V12 at hHeld2 WWn XAn XPn XBn XQn XRn Xin Xdn O7n V8n O9n ⊢
          clear hV fz cz lz WW XA XP XB XQ XR Xi Xd O7 V8 O9
          have WW := WWn
          have XA := XAn
          have XP := XPn
          have XB := XBn
          have XQ := XQn
          have XR := XRn
          have Xi := Xin
          have Xd := Xdn
          have O7 := O7n
          have V8 := V8n
          have O9 := O9n
          have hHeld := hHeld2
          clear hHeld2
          clear WWn XAn XPn XBn XQn XRn Xin Xdn O7n V8n O9n
          refine AnyL_ready (rs := [11]) (by kernel_rfl) (by simp) ?_
          refine ReadyL.cons (o := oq29_5_11) rfl (fun K hK => ?_) ReadyL.nil
          delta oq29_5_11
          have fz := Xi.1.frozen 0
          have cz := Xi.cell
          have lz := Xi.lt
          go_simp
          have XAn := XA.far (p := ⟨gXi, 0, none⟩) Xi.1 Xi.2.2 (by simp <;> omega) (.slice D9 (nw x8) d9)
          have XPn := XP.far (p := ⟨gXi, 0, none⟩) Xi.1 Xi.2.2 (by simp <;> omega) (.slice D9 (nw x8) d9)
          have XBn := XB.far (p := ⟨gXi, 0, none⟩) Xi.1 Xi.2.2 (by simp <;> omega) (.slice D9 (nw x8) d9)
          have XQn := XQ.far (p := ⟨gXi, 0, none⟩) Xi.1 Xi.2.2 (by simp <;> omega) (.slice D9 (nw x8) d9)
          have XRn := XR.far (p := ⟨gXi, 0, none⟩) Xi.1 Xi.2.2 (by simp <;> omega) (.slice D9 (nw x8) d9)
          have Xdn := Xd.far (p := ⟨gXi, 0, none⟩) Xi.1 Xi.2.2 (by simp <;> omega) (.slice D9 (nw x8) d9)
          have Xin := Xi.set_ (A' := D9) (n' := (nw x8)) (c' := d9) (a' := x8) (.inr O9)
          have O7n := O7.box (p := ⟨gXi, 0, none⟩) Xi.1 (by decide) (.slice D9 (nw x8) d9)
          have V8n := V8.box (p := ⟨gXi, 0, none⟩) Xi.1 Xi.2.2 (.slice D9 (nw x8) d9)
          have O9n := O9.box (p := ⟨gXi, 0, none⟩) Xi.1 (by decide) (.slice D9 (nw x8) d9)
          have WWn := WW.setCell (p := ⟨gXi, 0, none⟩) (by simp <;> omega) (.slice D9 (nw x8) d9)
          refine hK.out _ _ (⟨XPn.cell, XQn.cell⟩) (fun hHeld2 => ?_)
          clear hK K hHeld
          (try simp only [oq29_5_11, Act.put, List.setIfInBounds_toArray, List.set_cons_zero, List.set_cons_succ])
          generalize hV : V12.setCell ⟨gXi, 0, none⟩ (.slice D9 (nw x8) d9) = V13 at hHeld2 WWn XAn XPn XBn XQn XRn Xin Xdn O7n V8n O9n ⊢
          clear hV fz cz lz WW XA XP XB XQ XR Xi Xd O7 V8 O9
          have WW := WWn
          have XA := XAn
          have XP := XPn
          have XB := XBn
          have XQ := XQn
          have XR := XRn
          have Xi := Xin
          have Xd := Xdn
          have O7 := O7n
          have V8 := V8n
          have O9 := O9n
          have hHeld := hHeld2
          clear hHeld2
          clear WWn XAn XPn XBn XQn XRn Xin Xdn O7n V8n O9n
          refine AnyL_done (by kernel_rfl) ?_ _
          clear hHeld
          refine NoPanic.normal ?_
          exact ⟨rfl, gXd, gXi, D7, d7, D8, d8, D9, d9, x8, rfl, WW, XA, XP, XB, XQ, XR, Xd, Xi, O7, V8, O9, (by first | exact mXdXR | omega), (by first | exact mXiXR | omega), (by first | exact nXdXi | omega), hx1, hx2⟩
      refine ReadyL.cons (o := oq29_5_8) rfl (fun K hK => ?_) ?_
      · delta oq29_5_8
        have lqXR : w.heap.size + 1 + 1 + 1 + 1 < V8.heap.size := XR.lt
        go_simp
        have ba := (Below.refl V8.heap.size V8).alloc (Nat.le_refl _) (.cells #[.slice none 0 0] 24)
        have XAn := XA.below ba
        have XPn := XP.below ba
        have XBn := XB.below ba
        have XQn := XQ.below ba
        have XRn := XR.below ba
        have O7n := O7.below ba (Nat.le_refl _)
        have bn := Blk.new V8 24 #[.slice none 0 0]
        have Xdn := VB.mk (B := w.heap.size) (a := 0) bn (.inr (Own.nil _ _ _ _ (Nat.zero_le _))) ba WW.size WW.size
        have WWn := WW.trans (ba.mono WW.size)
        have sn : V8.heap.size < (V8.alloc (.cells #[.slice none 0 0] 24)).heap.size := bn.lt
        refine hK.out _ _ (⟨XPn.cell, XQn.cell⟩) (fun hHeld2 => ?_)
        clear hK K hHeld
        (try simp only [oq29_5_8, Act.put, List.setIfInBounds_toArray, List.set_cons_zero, List.set_cons_succ])
        generalize hV : V8.alloc (.cells #[.slice none 0 0] 24) = V9 at hHeld2 sn WWn XAn XPn XBn XQn XRn Xdn O7n ⊢
        clear hV ba bn WW XA XP XB XQ XR O7
        have WW := WWn
        have XA := XAn
        have XP := XPn
        have XB := XBn
        have XQ := XQn
        have XR := XRn
        have Xd := Xdn
        have O7 := O7n
        have sz9 := sn
        have hHeld := hHeld2
        clear sn hHeld2 WWn XAn XPn XBn XQn XRn Xdn O7n
        obtain ⟨gXd, hg⟩ : ∃ x, x = V8.heap.size := ⟨_, rfl⟩
        have mXdXR : w.heap.size + 1 + 1 + 1 + 1 < gXd := by omega
        rw [← hg] at Xd sz9 ⊢
        clear hg lqXR
        refine AnyL_ready (rs := [4, 9]) (by kernel_rfl) (by simp) ?_
        refine ReadyL.cons (o := oq29_5_4) rfl (fun K hK => ?_) ?_
        · delta oq29_5_4
          go_simp
          have hbs : w.heap.size ≤ V9.heap.size := WW.size
          have hc := euclid_any D7 A4 d7 c4 t q V9 O7.num XQ.num nq HTQ.out w.heap.size WW.size (.inr O7) XQ.2.1
          refine hc.mono ?_
          clear hc
          rintro e V10 ⟨D8, d8, u, x8, rfl, hvv, hu, hb, hx1, hx2⟩
          replace XA := XA.below hb
          replace XP := XP.below hb
          replace XB := XB.below hb
          replace XQ := XQ.below hb
          replace XR := XR.below hb
          replace Xd := Xd.below hb
          replace O7 := O7.below hb (Nat.le_refl _)
          replace WW := WW.trans (hb.mono WW.size)
          have sz10 := hb.size
          rw [← HG.out] at hvv hx2 ⊢
          obtain ⟨D9, d9, rfl, ho⟩ := hu
          have O9 := ho.weak (b := w.heap.size) hbs
          have V8 : VL w.heap.size V10 D8 (nw g) d8 g := ⟨hvv, Nat.le_trans hbs hb.size⟩
          clear ho hvv
          clear hb hbs
          refine hK.out _ _ (⟨XP.cell, XQ.cell⟩) (fun hHeld2 => ?_)
          clear hK K hHeld
          have hHeld := hHeld2
          clear hHeld2
          (try simp only [oq29_5_4, Act.put, List.setIfInBounds_toArray, List.set_cons_zero, List.set_cons_succ])
          refine AnyL_take (i := 5) (oi := oq29_5_5) (v := ?_) rfl (by kernel_rfl) (by kernel_rfl) (by kernel_rfl) (by kernel_rfl) (fun _ _ _ h => h) (Or.inl ⟨by rfl, ?_⟩) (by assumption) ?_
          rotate_left
          · (delta oq29_5_5; intro ws hSw; (try dsimp only at hSw); (try go_simp); (try with_reducible rfl))
          (try simp only [oq29_5_5, Act.put, List.setIfInBounds_toArray, List.set_cons_zero, List.set_cons_succ])
          refine AnyL_take (i := 6) (oi := oq29_5_6) (v := ?_) rfl (by kernel_rfl) (by kernel_rfl) (by kernel_rfl) (by kernel_rfl) (fun _ _ _ h => h) (Or.inl ⟨by rfl, ?_⟩) (by assumption) ?_
          rotate_left
          · (delta oq29_5_6; intro ws hSw; (try dsimp only at hSw); (try go_simp); (try with_reducible rfl))
          (try simp only [oq29_5_6, Act.put, List.setIfInBounds_toArray, List.set_cons_zero, List.set_cons_succ])
          refine AnyL_take (i := 7) (oi := oq29_5_7) (v := ?_) rfl (by kernel_rfl) (by kernel_rfl) (by kernel_rfl) (by kernel_rfl) (fun _ _ _ h => h) (Or.inl ⟨by rfl, ?_⟩) (by assumption) ?_
          rotate_left
          · (delta oq29_5_7; intro ws hSw; (try dsimp only at hSw); (try go_simp); (try with_reducible rfl))
          (try simp only [oq29_5_7, Act.put, List.setIfInBounds_toArray, List.set_cons_zero, List.set_cons_succ])
          refine AnyL_ready (rs := [9]) (by kernel_rfl) (by simp) ?_
          refine ReadyL.cons (o := oq29_5_9) rfl (fun K hK => ?_) ReadyL.nil
          delta oq29_5_9
          have lqXR : w.heap.size + 1 + 1 + 1 + 1 < V10.heap.size := XR.lt
          have lXd : gXd < V10.heap.size := Xd.lt
          go_simp
          have ba := (Below.refl V10.heap.size V10).alloc (Nat.le_refl _) (.cells #[.slice none 0 0] 24)
          have XAn := XA.below ba
          have XPn := XP.below ba
          have XBn := XB.below ba
          have XQn := XQ.below ba
          have XRn := XR.below ba
          have Xdn := Xd.below ba
          have O7n := O7.below ba (Nat.le_refl _)
          have V8n := V8.below ba (Nat.le_refl _)
          have O9n := O9.below ba (Nat.le_refl _)
          have bn := Blk.new V10 24 #[.slice none 0 0]
          have Xin := VB.mk (B := w.heap.size) (a := 0) bn (.inr (Own.nil _ _ _ _ (Nat.zero_le _))) ba WW.size WW.size
          have WWn := WW.trans (ba.mono WW.size)
          have sn : V10.heap.size < (V10.alloc (.cells #[.slice none 0 0] 24)).heap.size := bn.lt
          refine hK.out _ _ (⟨XPn.cell, XQn.cell⟩) (fun hHeld2 => ?_)
          clear hK K hHeld
          (try simp only [oq29_5_9, Act.put, List.setIfInBounds_toArray, List.set_cons_zero, List.set_cons_succ])
          generalize hV : V10.alloc (.cells #[.slice none 0 0] 24) = V11 at hHeld2 sn WWn XAn XPn XBn XQn XRn Xdn Xin O7n V8n O9n ⊢
          clear hV ba bn WW XA XP XB XQ XR Xd O7 V8 O9
          have WW := WWn
          have XA := XAn
          have XP := XPn
          have XB := XBn
          have XQ := XQn
          have XR := XRn
          have Xd := Xdn
          have Xi := Xin
          have O7 := O7n
          have V8 := V8n
          have O9 := O9n
          have sz11 := sn
          have hHeld := hHeld2
          clear sn hHeld2 WWn XAn XPn XBn XQn XRn Xdn Xin O7n V8n O9n
          obtain ⟨gXi, hg⟩ : ∃ x, x = V10.heap.size := ⟨_, rfl⟩
          have mXiXR : w.heap.size + 1 + 1 + 1 + 1 < gXi := by omega
          have nXdXi : gXd ≠ gXi := by omega
          rw [← hg] at Xi sz11 ⊢
          clear hg lqXR lXd
          refine AnyL_ready (rs := [10]) (by kernel_rfl) (by simp) ?_
          refine ReadyL.cons (o := oq29_5_10) rfl (fun K hK => ?_) ReadyL.nil
          delta oq29_5_10
          have fz := Xd.1.frozen 0
          have cz := Xd.cell
          have lz := Xd.lt
          go_simp
          have XAn := XA.far (p := ⟨gXd, 0, none⟩) Xd.1 Xd.2.2 (by simp <;> omega) (.slice D8 (nw g) d8)
          have XPn := XP.far (p := ⟨gXd, 0, none⟩) Xd.1 Xd.2.2 (by simp <;> omega) (.slice D8 (nw g) d8)
          have XBn := XB.far (p := ⟨gXd, 0, none⟩) Xd.1 Xd.2.2 (by simp <;> omega) (.slice D8 (nw g) d8)
          have XQn := XQ.far (p := ⟨gXd, 0, none⟩) Xd.1 Xd.2.2 (by simp <;> omega) (.slice D8 (nw g) d8)
          have XRn := XR.far (p := ⟨gXd, 0, none⟩) Xd.1 Xd.2.2 (by simp <;> omega) (.slice D8 (nw g) d8)
          have Xin := Xi.far (p := ⟨gXd, 0, none⟩) Xd.1 Xd.2.2 (by simp <;> omega) (.slice D8 (nw g) d8)
          have Xdn := Xd.set_ (A' := D8) (n' := (nw g)) (c' := d8) (a' := g) (V8.1)
          have O7n := O7.box (p := ⟨gXd, 0, none⟩) Xd.1 (by decide) (.slice D8 (nw g) d8)
          have V8n := V8.box (p := ⟨gXd, 0, none⟩) Xd.1 Xd.2.2 (.slice D8 (nw g) d8)
          have O9n := O9.box (p := ⟨gXd, 0, none⟩) Xd.1 (by decide) (.slice D8 (nw g) d8)
          have WWn := WW.setCell (p := ⟨gXd, 0, none⟩) (by simp <;> omega) (.slice D8 (nw g) d8)
          refine hK.out _ _ (⟨XPn.cell, XQn.cell⟩) (fun hHeld2 => ?_)
          clear hK K hHeld
          (try simp only [oq29_5_10, Act.put, List.setIfInBounds_toArray, List.set_cons_zero, List.set_cons_succ])
          generalize hV : V11.setCell ⟨gXd, 0, none⟩ (.slice D8 (nw g) d8) = V12 at hHeld2 WWn XAn XPn XBn XQn XRn Xdn Xin O7n V8n O9n ⊢
          clear hV fz cz lz WW XA XP XB XQ XR Xd Xi O7 V8 O9
          have WW := WWn
          have XA := XAn
          have XP := XPn
          have XB := XBn
          have XQ := XQn
          have XR := XRn
          have Xd := Xdn
          have Xi := Xin
          have O7 := O7n
          have V8 := V8n
          have O9 := O9n
          have hHeld := hHeld2
          clear hHeld2
          clear WWn XAn XPn XBn XQn XRn Xdn Xin O7n V8n O9n
          refine AnyL_ready (rs := [11]) (by kernel_rfl) (by simp) ?_
          refine ReadyL.cons (o := oq29_5_11) rfl (fun K hK => ?_) ReadyL.nil
          delta oq29_5_11
          have fz := Xi.1.frozen 0
          have cz := Xi.cell
          have lz := Xi.lt
          go_simp
          have XAn := XA.far (p := ⟨gXi, 0, none⟩) Xi.1 Xi.2.2 (by simp <;> omega) (.slice D9 (nw x8) d9)
          have XPn := XP.far (p := ⟨gXi, 0, none⟩) Xi.1 Xi.2.2 (by simp <;> omega) (.slice D9 (nw x8) d9)
          have XBn := XB.far (p := ⟨gXi, 0, none⟩) Xi.1 Xi.2.2 (by simp <;> omega) (.slice D9 (nw x8) d9)
          have XQn := XQ.far (p := ⟨gXi, 0, none⟩) Xi.1 Xi.2.2 (by simp <;> omega) (.slice D9 (nw x8) d9)
          have XRn := XR.far (p := ⟨gXi, 0, none⟩) Xi.1 Xi.2.2 (by simp <;> omega) (.slice D9 (nw x8) d9)
          have Xdn := Xd.far (p := ⟨gXi, 0, none⟩) Xi.1 Xi.2.2 (by simp <;> omega) (.slice D9 (nw x8) d9)
          have Xin := Xi.set_ (A' := D9) (n' := (nw x8)) (c' := d9) (a' := x8) (.inr O9)
          have O7n := O7.box (p := ⟨gXi, 0, none⟩) Xi.1 (by decide) (.slice D9 (nw x8) d9)
          have V8n := V8.box (p := ⟨gXi, 0, none⟩) Xi.1 Xi.2.2 (.slice D9 (nw x8) d9)
          have O9n := O9.box (p := ⟨gXi, 0, none⟩) Xi.1 (by decide) (.slice D9 (nw x8) d9)
          have WWn := WW.setCell (p := ⟨gXi, 0, none⟩) (by simp <;> omega) (.slice D9 (nw x8) d9)
          refine hK.out _ _ (⟨XPn.cell, XQn.cell⟩) (fun hHeld2 => ?_)
          clear hK K hHeld
          (try simp only [oq29_5_11, Act.put, List.setIfInBounds_toArray, List.set_cons_zero, List.set_cons_succ])
          generalize hV : V12.setCell ⟨gXi, 0, none⟩ (.slice D9 (nw x8) d9) = V13 at hHeld2 WWn XAn XPn XBn XQn XRn Xdn Xin O7n V8n O9n ⊢
          clear hV fz cz lz WW XA XP XB XQ XR Xd Xi O7 V8 O9
          have WW := WWn
          have XA := XAn
          have XP := XPn
          have XB := XBn
          have XQ := XQn
          have XR := XRn
          have Xd := Xdn
          have Xi := Xin
          have O7 := O7n
          have V8 := V8n
          have O9 := O9n
          have hHeld := hHeld2
          clear hHeld2
          clear WWn XAn XPn XBn XQn XRn Xdn Xin O7n V8n O9n
          refine AnyL_done (by kernel_rfl) ?_ _
          clear hHeld
          refine NoPanic.normal ?_
          exact ⟨rfl, gXd, gXi, D7, d7, D8, d8, D9, d9, x8, rfl, WW, XA, XP, XB, XQ, XR, Xd, Xi, O7, V8, O9, (by first | exact mXdXR | omega), (by first | exact mXiXR | omega), (by first | exact nXdXi | omega), hx1, hx2⟩
        refine ReadyL.cons (o := oq29_5_9) rfl (fun K hK => ?_) ReadyL.nil
        · delta oq29_5_9
          have lqXR : w.heap.size + 1 + 1 + 1 + 1 < V9.heap.size := XR.lt
          have lXd : gXd < V9.heap.size := Xd.lt
          go_simp
          have ba := (Below.refl V9.heap.size V9).alloc (Nat.le_refl _) (.cells #[.slice none 0 0] 24)
          have XAn := XA.below ba
          have XPn := XP.below ba
          have XBn := XB.below ba
          have XQn := XQ.below ba
          have XRn := XR.below ba
          have Xdn := Xd.below ba
          have O7n := O7.below ba (Nat.le_refl _)
          have bn := Blk.new V9 24 #[.slice none 0 0]
          have Xin := VB.mk (B := w.heap.size) (a := 0) bn (.inr (Own.nil _ _ _ _ (Nat.zero_le _))) ba WW.size WW.size
          have WWn := WW.trans (ba.mono WW.size)
          have sn : V9.heap.size < (V9.alloc (.cells #[.slice none 0 0] 24)).heap.size := bn.lt
          refine hK.out _ _ (⟨XPn.cell, XQn.cell⟩) (fun hHeld2 => ?_)
          clear hK K hHeld
          (try simp only [oq29_5_9, Act.put, List.setIfInBounds_toArray, List.set_cons_zero, List.set_cons_succ])
          generalize hV : V9.alloc (.cells #[.slice none 0 0] 24) = V10 at hHeld2 sn WWn XAn XPn XBn XQn XRn Xdn Xin O7n ⊢
          clear hV ba bn WW XA XP XB XQ XR Xd O7
          have WW := WWn
          have XA := XAn
          have XP := XPn
          have XB := XBn
          have XQ := XQn
          have XR := XRn
          have Xd := Xdn
          have Xi := Xin
          have O7 := O7n
          have sz10 := sn
          have hHeld := hHeld2
          clear sn hHeld2 WWn XAn XPn XBn XQn XRn Xdn Xin O7n
          obtain ⟨gXi, hg⟩ : ∃ x, x = V9.heap.size := ⟨_, rfl⟩
          have mXiXR : w.heap.size + 1 + 1 + 1 + 1 < gXi := by omega
          have nXdXi : gXd ≠ gXi := by omega
          rw [← hg] at Xi sz10 ⊢
          clear hg lqXR lXd
          refine AnyL_ready (rs := [4]) (by kernel_rfl) (by simp) ?_
          refine ReadyL.cons (o := oq29_5_4) rfl (fun K hK => ?_) ReadyL.nil
          delta oq29_5_4
          go_simp
          have hbs : w.heap.size ≤ V10.heap.size := WW.size
          have hc := euclid_any D7 A4 d7 c4 t q V10 O7.num XQ.num nq HTQ.out w.heap.size WW.size (.inr O7) XQ.2.1
          refine hc.mono ?_
          clear hc
          rintro e V11 ⟨D8, d8, u, x8, rfl, hvv, hu, hb, hx1, hx2⟩
          replace XA := XA.below hb
          replace XP := XP.below hb
          replace XB := XB.below hb
          replace XQ := XQ.below hb
          replace XR := XR.below hb
          replace Xd := Xd.below hb
          replace Xi := Xi.below hb
          replace O7 := O7.below hb (Nat.le_refl _)
          replace WW := WW.trans (hb.mono WW.size)
          have sz11 := hb.size
          rw [← HG.out] at hvv hx2 ⊢
          obtain ⟨D9, d9, rfl, ho⟩ := hu
          have O9 := ho.weak (b := w.heap.size) hbs
          have V8 : VL w.heap.size V11 D8 (nw g) d8 g := ⟨hvv, Nat.le_trans hbs hb.size⟩
          clear ho hvv
          clear hb hbs
          refine hK.out _ _ (⟨XP.cell, XQ.cell⟩) (fun hHeld2 => ?_)
          clear hK K hHeld
          have hHeld := hHeld2
          clear hHeld2
          (try simp only [oq29_5_4, Act.put, List.setIfInBounds_toArray, List.set_cons_zero, List.set_cons_succ])
          refine AnyL_take (i := 5) (oi := oq29_5_5) (v := ?_) rfl (by kernel_rfl) (by kernel_rfl) (by kernel_rfl) (by kernel_rfl) (fun _ _ _ h => h) (Or.inl ⟨by rfl, ?_⟩) (by assumption) ?_
          rotate_left
          · (delta oq29_5_5; intro ws hSw; (try dsimp only at hSw); (try go_simp); (try with_reducible rfl))
          (try simp only [oq29_5_5, Act.put, List.setIfInBounds_toArray, List.set_cons_zero, List.set_cons_succ])
          refine AnyL_take (i := 6) (oi := oq29_5_6) (v := ?_) rfl (by kernel_rfl) (by kernel_rfl) (by kernel_rfl) (by kernel_rfl) (fun _ _ _ h => h) (Or.inl ⟨by rfl, ?_⟩) (by assumption) ?_
          rotate_left
          · (delta oq29_5_6; intro ws hSw; (try dsimp only at hSw); (try go_simp); (try with_reducible rfl))
          (try simp only [oq29_5_6, Act.put, List.setIfInBounds_toArray, List.set_cons_zero, List.set_cons_succ])
          refine AnyL_take (i := 7) (oi := oq29_5_7) (v := ?_) rfl (by kernel_rfl) (by kernel_rfl) (by kernel_rfl) (by kernel_rfl) (fun _ _ _ h => h) (Or.inl ⟨by rfl, ?_⟩) (by assumption) ?_
          rotate_left
          · (delta oq29_5_7; intro ws hSw; (try dsimp only at hSw); (try go_simp); (try with_reducible rfl))
          (try simp only [oq29_5_7, Act.put, List.setIfInBounds_toArray, List.set_cons_zero, List.set_cons_succ])
          refine AnyL_ready (rs := [10]) (by kernel_rfl) (by simp) ?_
          refine ReadyL.cons (o := oq29_5_10) rfl (fun K hK => ?_) ReadyL.nil
          delta oq29_5_10
          have fz := Xd.1.frozen 0
          have cz := Xd.cell
          have lz := Xd.lt
          go_simp
          have XAn := XA.far (p := ⟨gXd, 0, none⟩) Xd.1 Xd.2.2 (by simp <;> omega) (.slice D8 (nw g) d8)
          have XPn := XP.far (p := ⟨gXd, 0, none⟩) Xd.1 Xd.2.2 (by simp <;> omega) (.slice D8 (nw g) d8)
          have XBn := XB.far (p := ⟨gXd, 0, none⟩) Xd.1 Xd.2.2 (by simp <;> omega) (.slice D8 (nw g) d8)
          have XQn := XQ.far (p := ⟨gXd, 0, none⟩) Xd.1 Xd.2.2 (by simp <;> omega) (.slice D8 (nw g) d8)
          have XRn := XR.far (p := ⟨gXd, 0, none⟩) Xd.1 Xd.2.2 (by simp <;> omega) (.slice D8 (nw g) d8)
          have Xin := Xi.far (p := ⟨gXd, 0, none⟩) Xd.1 Xd.2.2 (by simp <;> omega) (.slice D8 (nw g) d8)
          have Xdn := Xd.set_ (A' := D8) (n' := (nw g)) (c' := d8) (a' := g) (V8.1)
          have O7n := O7.box (p := ⟨gXd, 0, none⟩) Xd.1 (by decide) (.slice D8 (nw g) d8)
          have V8n := V8.box (p := ⟨gXd, 0, none⟩) Xd.1 Xd.2.2 (.slice D8 (nw g) d8)
          have O9n := O9.box (p := ⟨gXd, 0, none⟩) Xd.1 (by decide) (.slice D8 (nw g) d8)
          have WWn := WW.setCell (p := ⟨gXd, 0, none⟩) (by simp <;> omega) (.slice D8 (nw g) d8)
          refine hK.out _ _ (⟨XPn.cell, XQn.cell⟩) (fun hHeld2 => ?_)
          clear hK K hHeld
          (try simp only [oq29_5_10, Act.put, List.setIfInBounds_toArray, List.set_cons_zero, List.set_cons_succ])
          generalize hV : V11.setCell ⟨gXd, 0, none⟩ (.slice D8 (nw g) d8) = V12 at hHeld2 WWn XAn XPn XBn XQn XRn Xdn Xin O7n V8n O9n ⊢
          clear hV fz cz lz WW XA XP XB XQ XR Xd Xi O7 V8 O9
          have WW := WWn
          have XA := XAn
          have XP := XPn
          have XB := XBn
          have XQ := XQn
          have XR := XRn
          have Xd := Xdn
          have Xi := Xin
          have O7 := O7n
          have V8 := V8n
          have O9 := O9n
          have hHeld := hHeld2
          clear hHeld2
          clear WWn XAn XPn XBn XQn XRn Xdn Xin O7n V8n O9n
          refine AnyL_ready (rs := [11]) (by kernel_rfl) (by simp) ?_
          refine ReadyL.cons (o := oq29_5_11) rfl (fun K hK => ?_) ReadyL.nil
          delta oq29_5_11
          have fz := Xi.1.frozen 0
          have cz := Xi.cell
          have lz := Xi.lt
          go_simp
          have XAn := XA.far (p := ⟨gXi, 0, none⟩) Xi.1 Xi.2.2 (by simp <;> omega) (.slice D9 (nw x8) d9)
          have XPn := XP.far (p := ⟨gXi, 0, none⟩) Xi.1 Xi.2.2 (by simp <;> omega) (.slice D9 (nw x8) d9)
          have XBn := XB.far (p := ⟨gXi, 0, none⟩) Xi.1 Xi.2.2 (by simp <;> omega) (.slice D9 (nw x8) d9)
          have XQn := XQ.far (p := ⟨gXi, 0, none⟩) Xi.1 Xi.2.2 (by simp <;> omega) (.slice D9 (nw x8) d9)
          have XRn := XR.far (p := ⟨gXi, 0, none⟩) Xi.1 Xi.2.2 (by simp <;> omega) (.slice D9 (nw x8) d9)
          have Xdn := Xd.far (p := ⟨gXi, 0, none⟩) Xi.1 Xi.2.2 (by simp <;> omega) (.slice D9 (nw x8) d9)
          have Xin := Xi.set_ (A' := D9) (n' := (nw x8)) (c' := d9) (a' := x8) (.inr O9)
          have O7n := O7.box (p := ⟨gXi, 0, none⟩) Xi.1 (by decide) (.slice D9 (nw x8) d9)
          have V8n := V8.box (p := ⟨gXi, 0, none⟩) Xi.1 Xi.2.2 (.slice D9 (nw x8) d9)
          have O9n := O9.box (p := ⟨gXi, 0, none⟩) Xi.1 (by decide) (.slice D9 (nw x8) d9)
          have WWn := WW.setCell (p := ⟨gXi, 0, none⟩) (by simp <;> omega) (.slice D9 (nw x8) d9)
          refine hK.out _ _ (⟨XPn.cell, XQn.cell⟩) (fun hHeld2 => ?_)
          clear hK K hHeld
          (try simp only [oq29_5_11, Act.put, List.setIfInBounds_toArray, List.set_cons_zero, List.set_cons_succ])
          generalize hV : V12.setCell ⟨gXi, 0, none⟩ (.slice D9 (nw x8) d9) = V13 at hHeld2 WWn XAn XPn XBn XQn XRn Xdn Xin O7n V8n O9n ⊢
          clear hV fz cz lz WW XA XP XB XQ XR Xd Xi O7 V8 O9
          have WW := WWn
          have XA := XAn
          have XP := XPn
          have XB := XBn
          have XQ := XQn
          have XR := XRn
          have Xd := Xdn
          have Xi := Xin
          have O7 := O7n
          have V8 := V8n
          have O9 := O9n
          have hHeld := hHeld2
          clear hHeld2
          clear WWn XAn XPn XBn XQn XRn Xdn Xin O7n V8n O9n
          refine AnyL_done (by kernel_rfl) ?_ _
          clear hHeld
          refine NoPanic.normal ?_
          exact ⟨rfl, gXd, gXi, D7, d7, D8, d8, D9, d9, x8, rfl, WW, XA, XP, XB, XQ, XR, Xd, Xi, O7, V8, O9, (by first | exact mXdXR | omega), (by first | exact mXiXR | omega), (by first | exact nXdXi | omega), hx1, hx2⟩
      refine ReadyL.cons (o := oq29_5_9) rfl (fun K hK => ?_) ReadyL.nil
      · delta oq29_5_9
        have lqXR : w.heap.size + 1 + 1 + 1 + 1 < V8.heap.size := XR.lt
        go_simp
        have ba := (Below.refl V8.heap.size V8).alloc (Nat.le_refl _) (.cells #[.slice none 0 0] 24)
        have XAn := XA.below ba
        have XPn := XP.below ba
        have XBn := XB.below ba
        have XQn := XQ.below ba
        have XRn := XR.below ba
        have O7n := O7.below ba (Nat.le_refl _)
        have bn := Blk.new V8 24 #[.slice none 0 0]
        have Xin := VB.mk (B := w.heap.size) (a := 0) bn (.inr (Own.nil _ _ _ _ (Nat.zero_le _))) ba WW.size WW.size
        have WWn := WW.trans (ba.mono WW.size)
        have sn : V8.heap.size < (V8.alloc (.cells #[.slice none 0 0] 24)).heap.size := bn.lt
        refine hK.out _ _ (⟨XPn.cell, XQn.cell⟩) (fun hHeld2 => ?_)
        clear hK K hHeld
        (try simp only [oq29_5_9, Act.put, List.setIfInBounds_toArray, List.set_cons_zero, List.set_cons_succ])
        generalize hV : V8.alloc (.cells #[.slice none 0 0] 24) = V9 at hHeld2 sn WWn XAn XPn XBn XQn XRn Xin O7n ⊢
        clear hV ba bn WW XA XP XB XQ XR O7
        have WW := WWn
        have XA := XAn
        have XP := XPn
        have XB := XBn
        have XQ := XQn
        have XR := XRn
        have Xi := Xin
        have O7 := O7n
        have sz9 := sn
        have hHeld := hHeld2
        clear sn hHeld2 WWn XAn XPn XBn XQn XRn Xin O7n
        obtain ⟨gXi, hg⟩ : ∃ x, x = V8.heap.size := ⟨_, rfl⟩
        have mXiXR : w.heap.size + 1 + 1 + 1 + 1 < gXi := by omega
        rw [← hg] at Xi sz9 ⊢
        clear hg lqXR
        refine AnyL_ready (rs := [4, 8]) (by kernel_rfl) (by simp) ?_
        refine ReadyL.cons (o := oq29_5_4) rfl (fun K hK => ?_) ?_
        · delta oq29_5_4
          go_simp
          have hbs : w.heap.size ≤ V9.heap.size := WW.size
          have hc := euclid_any D7 A4 d7 c4 t q V9 O7.num XQ.num nq HTQ.out w.heap.size WW.size (.inr O7) XQ.2.1
          refine hc.mono ?_
          clear hc
          rintro e V10 ⟨D8, d8, u, x8, rfl, hvv, hu, hb, hx1, hx2⟩
          replace XA := XA.below hb
          replace XP := XP.below hb
          replace XB := XB.below hb
          replace XQ := XQ.below hb
          replace XR := XR.below hb
          replace Xi := Xi.below hb
          replace O7 := O7.below hb (Nat.le_refl _)
          replace WW := WW.trans (hb.mono WW.size)
          have sz10 := hb.size
          rw [← HG.out] at hvv hx2 ⊢
          obtain ⟨D9, d9, rfl, ho⟩ := hu
          have O9 := ho.weak (b := w.heap.size) hbs
          have V8 : VL w.heap.size V10 D8 (nw g) d8 g := ⟨hvv, Nat.le_trans hbs hb.size⟩
          clear ho hvv
          clear hb hbs
          refine hK.out _ _ (⟨XP.cell, XQ.cell⟩) (fun hHeld2 => ?_)
          clear hK K hHeld
          have hHeld := hHeld2
          clear hHeld2
          (try simp only [oq29_5_4, Act.put, List.setIfInBounds_toArray, List.set_cons_zero, List.set_cons_succ])
          refine AnyL_take (i := 5) (oi := oq29_5_5) (v := ?_) rfl (by kernel_rfl) (by kernel_rfl) (by kernel_rfl) (by kernel_rfl) (fun _ _ _ h => h) (Or.inl ⟨by rfl, ?_⟩) (by assumption) ?_
          rotate_left
          · (delta oq29_5_5; intro ws hSw; (try dsimp only at hSw); (try go_simp); (try with_reducible rfl))
          (try simp only [oq29_5_5, Act.put, List.setIfInBounds_toArray, List.set_cons_zero, List.set_cons_succ])
          refine AnyL_take (i := 6) (oi := oq29_5_6) (v := ?_) rfl (by kernel_rfl) (by kernel_rfl) (by kernel_rfl) (by kernel_rfl) (fun _ _ _ h => h) (Or.inl ⟨by rfl, ?_⟩) (by assumption) ?_
          rotate_left
          · (delta oq29_5_6; intro ws hSw; (try dsimp only at hSw); (try go_simp); (try with_reducible rfl))
          (try simp only [oq29_5_6, Act.put, List.setIfInBounds_toArray, List.set_cons_zero, List.set_cons_succ])
          refine AnyL_take (i := 7) (oi := oq29_5_7) (v := ?_) rfl (by kernel_rfl) (by kernel_rfl) (by kernel_rfl) (by kernel_rfl) (fun _ _ _ h => h) (Or.inl ⟨by rfl, ?_⟩) (by assumption) ?_
          rotate_left
          · (delta oq29_5_7; intro ws hSw; (try dsimp only at hSw); (try go_simp); (try with_reducible rfl))
          (try simp only [oq29_5_7, Act.put, List.setIfInBounds_toArray, List.set_cons_zero, List.set_cons_succ])
          refine AnyL_ready (rs := [8]) (by kernel_rfl) (by simp) ?_
          refine ReadyL.cons (o := oq29_5_8) rfl (fun K hK => ?_) ReadyL.nil
          delta oq29_5_8
          have lqXR : w.heap.size + 1 + 1 + 1 + 1 < V10.heap.size := XR.lt
          have lXi : gXi < V10.heap.size := Xi.lt
          go_simp
          have ba := (Below.refl V10.heap.size V10).alloc (Nat.le_refl _) (.cells #[.slice none 0 0] 24)
          have XAn := XA.below ba
          have XPn := XP.below ba
          have XBn := XB.below ba
          have XQn := XQ.below ba
          have XRn := XR.below ba
          have Xin := Xi.below ba
          have O7n := O7.below ba (Nat.le_refl _)
          have V8n := V8.below ba (Nat.le_refl _)
          have O9n := O9.below ba (Nat.le_refl _)
          have bn := Blk.new V10 24 #[.slice none 0 0]
          have Xdn := VB.mk (B := w.heap.size) (a := 0) bn (.inr (Own.nil _ _ _ _ (Nat.zero_le _))) ba WW.size WW.size
          have WWn := WW.trans (ba.mono WW.size)
          have sn : V10.heap.size < (V10.alloc (.cells #[.slice none 0 0] 24)).heap.size := bn.lt
          refine hK.out _ _ (⟨XPn.cell, XQn.cell⟩) (fun hHeld2 => ?_)
          clear hK K hHeld
          (try simp only [oq29_5_8, Act.put, List.setIfInBounds_toArray, List.set_cons_zero, List.set_cons_succ])
          generalize hV : V10.alloc (.cells #[.slice none 0 0] 24) = V11 at hHeld2 sn WWn XAn XPn XBn XQn XRn Xin Xdn O7n V8n O9n ⊢
          clear hV ba bn WW XA XP XB XQ XR Xi O7 V8 O9
          have WW := WWn
          have XA := XAn
          have XP := XPn
          have XB := XBn
          have XQ := XQn
          have XR := XRn
          have Xi := Xin
          have Xd := Xdn
          have O7 := O7n
          have V8 := V8n
          have O9 := O9n
          have sz11 := sn
          have hHeld := hHeld2
          clear sn hHeld2 WWn XAn XPn XBn XQn XRn Xin Xdn O7n V8n O9n
          obtain ⟨gXd, hg⟩ : ∃ x, x = V10.heap.size := ⟨_, rfl⟩
          have mXdXR : w.heap.size + 1 + 1 + 1 + 1 < gXd := by omega
          have nXiXd : gXi ≠ gXd := by omega
          rw [← hg] at Xd sz11 ⊢
          clear hg lqXR lXi
          refine AnyL_ready (rs := [10]) (by kernel_rfl) (by simp) ?_
          refine ReadyL.cons (o := oq29_5_10) rfl (fun K hK => ?_) ReadyL.nil
          delta oq29_5_10
          have fz := Xd.1.frozen 0
          have cz := Xd.cell
          have lz := Xd.lt
          go_simp
          have XAn := XA.far (p := ⟨gXd, 0, none⟩) Xd.1 Xd.2.2 (by simp <;> omega) (.slice D8 (nw g) d8)
          have XPn := XP.far (p := ⟨gXd, 0, none⟩) Xd.1 Xd.2.2 (by simp <;> omega) (.slice D8 (nw g) d8)
          have XBn := XB.far (p := ⟨gXd, 0, none⟩) Xd.1 Xd.2.2 (by simp <;> omega) (.slice D8 (nw g) d8)
          have XQn := XQ.far (p := ⟨gXd, 0, none⟩) Xd.1 Xd.2.2 (by simp <;> omega) (.slice D8 (nw g) d8)
          have XRn := XR.far (p := ⟨gXd, 0, none⟩) Xd.1 Xd.2.2 (by simp <;> omega) (.slice D8 (nw g) d8)
          have Xin := Xi.far (p := ⟨gXd, 0, none⟩) Xd.1 Xd.2.2 (by simp <;> omega) (.slice D8 (nw g) d8)
          have Xdn := Xd.set_ (A' := D8) (n' := (nw g)) (c' := d8) (a' := g) (V8.1)
          have O7n := O7.box (p := ⟨gXd, 0, none⟩) Xd.1 (by decide) (.slice D8 (nw g) d8)
          have V8n := V8.box (p := ⟨gXd, 0, none⟩) Xd.1 Xd.2.2 (.slice D8 (nw g) d8)
          have O9n := O9.box (p := ⟨gXd, 0, none⟩) Xd.1 (by decide) (.slice D8 (nw g) d8)
          have WWn := WW.setCell (p := ⟨gXd, 0, none⟩) (by simp <;> omega) (.slice D8 (nw g) d8)
          refine hK.out _ _ (⟨XPn.cell, XQn.cell⟩) (fun hHeld2 => ?_)
          clear hK K hHeld
          (try simp only [oq29_5_10, Act.put, List.setIfInBounds_toArray, List.set_cons_zero, List.set_cons_succ])
          generalize hV : V11.setCell ⟨gXd, 0, none⟩ (.slice D8 (nw g) d8) = V12 at hHeld2 WWn XAn XPn XBn XQn XRn Xin Xdn O7n V8n O9n ⊢
          clear hV fz cz lz WW XA XP XB XQ XR Xi Xd O7 V8 O9
          have WW := WWn
          have XA := XAn
          have XP := XPn
          have XB := XBn
          have XQ := XQn
          have XR := XRn
          have Xi := Xin
          have Xd := Xdn
          have O7 := O7n
          have V8 := V8n
          have O9 := O9n
          have hHeld := hHeld2
          clear hHeld2
          clear WWn XAn XPn XBn XQn XRn Xin Xdn O7n V8n O9n
          refine AnyL_ready (rs := [11]) (by kernel_rfl) (by simp) ?_
          refine ReadyL.cons (o := oq29_5_11) rfl (fun K hK => ?_) ReadyL.nil
          delta oq29_5_11
          have fz := Xi.1.frozen 0
          have cz := Xi.cell
          have lz := Xi.lt
          go_simp
          have XAn := XA.far (p := ⟨gXi, 0, none⟩) Xi.1 Xi.2.2 (by simp <;> omega) (.slice D9 (nw x8) d9)
          have XPn := XP.far (p := ⟨gXi, 0, none⟩) Xi.1 Xi.2.2 (by simp <;> omega) (.slice D9 (nw x8) d9)
          have XBn := XB.far (p := ⟨gXi, 0, none⟩) Xi.1 Xi.2.2 (by simp <;> omega) (.slice D9 (nw x8) d9)
          have XQn := XQ.far (p := ⟨gXi, 0, none⟩) Xi.1 Xi.2.2 (by simp <;> omega) (.slice D9 (nw x8) d9)
          have XRn := XR.far (p := ⟨gXi, 0, none⟩) Xi.1 Xi.2.2 (by simp <;> omega) (.slice D9 (nw x8) d9)
          have Xdn := Xd.far (p := ⟨gXi, 0, none⟩) Xi.1 Xi.2.2 (by simp <;> omega) (.slice D9 (nw x8) d9)
          have Xin := Xi.set_ (A' := D9) (n' := (nw x8)) (c' := d9) (a' := x8) (.inr O9)
          have O7n := O7.box (p := ⟨gXi, 0, none⟩) Xi.1 (by decide) (.slice D9 (nw x8) d9)
          have V8n := V8.box (p := ⟨gXi, 0, none⟩) Xi.1 Xi.2.2 (.slice D9 (nw x8) d9)
          have O9n := O9.box (p := ⟨gXi, 0, none⟩) Xi.1 (by decide) (.slice D9 (nw x8) d9)
          have WWn := WW.setCell (p := ⟨gXi, 0, none⟩) (by simp <;> omega) (.slice D9 (nw x8) d9)
          refine hK.out _ _ (⟨XPn.cell, XQn.cell⟩) (fun hHeld2 => ?_)
          clear hK K hHeld
          (try simp only [oq29_5_11, Act.put, List.setIfInBounds_toArray, List.set_cons_zero, List.set_cons_succ])
          generalize hV : V12.setCell ⟨gXi, 0, none⟩ (.slice D9 (nw x8) d9) = V13 at hHeld2 WWn XAn XPn XBn XQn XRn Xin Xdn O7n V8n O9n ⊢
          clear hV fz cz lz WW XA XP XB XQ XR Xi Xd O7 V8 O9
          have WW := WWn
          have XA := XAn
          have XP := XPn
          have XB := XBn
          have XQ := XQn
          have XR := XRn
          have Xi := Xin
          have Xd := Xdn
          have O7 := O7n
          have V8 := V8n
          have O9 := O9n
          have hHeld := hHeld2
          clear hHeld2
          clear WWn XAn XPn XBn XQn XRn Xin Xdn O7n V8n O9n
          refine AnyL_done (by kernel_rfl) ?_ _
          clear hHeld
          refine NoPanic.normal ?_
          exact ⟨rfl, gXd, gXi, D7, d7, D8, d8, D9, d9, x8, rfl, WW, XA, XP, XB, XQ, XR, Xd, Xi, O7, V8, O9, (by first | exact mXdXR | omega), (by first | exact mXiXR | omega), (by first | exact nXdXi | omega), hx1, hx2⟩
        refine ReadyL.cons (o := oq29_5_8) rfl (fun K hK => ?_) ReadyL.nil
        · delta oq29_5_8
          have lqXR : w.heap.size + 1 + 1 + 1 + 1 < V9.heap.size := XR.lt
          have lXi : gXi < V9.heap.size := Xi.lt
          go_simp
          have ba := (Below.refl V9.heap.size V9).alloc (Nat.le_refl _) (.cells #[.slice none 0 0] 24)
          have XAn := XA.below ba
          have XPn := XP.below ba
          have XBn := XB.below ba
          have XQn := XQ.below ba
          have XRn := XR.below ba
          have Xin := Xi.below ba
          have O7n := O7.below ba (Nat.le_refl _)
          have bn := Blk.new V9 24 #[.slice none 0 0]
          have Xdn := VB.mk (B := w.heap.size) (a := 0) bn (.inr (Own.nil _ _ _ _ (Nat.zero_le _))) ba WW.size WW.size
          have WWn := WW.trans (ba.mono WW.size)
          have sn : V9.heap.size < (V9.alloc (.cells #[.slice none 0 0] 24)).heap.size := bn.lt
          refine hK.out _ _ (⟨XPn.cell, XQn.cell⟩) (fun hHeld2 => ?_)
          clear hK K hHeld
          (try simp only [oq29_5_8, Act.put, List.setIfInBounds_toArray, List.set_cons_zero, List.set_cons_succ])
          generalize hV : V9.alloc (.cells #[.slice none 0 0] 24) = V10 at hHeld2 sn WWn XAn XPn XBn XQn XRn Xin Xdn O7n ⊢
          clear hV ba bn WW XA XP XB XQ XR Xi O7
          have WW := WWn
          have XA := XAn
          have XP := XPn
          have XB := XBn
          have XQ := XQn
          have XR := XRn
          have Xi := Xin
          have Xd := Xdn
          have O7 := O7n
          have sz10 := sn
          have hHeld := hHeld2
          clear sn hHeld2 WWn XAn XPn XBn XQn XRn Xin Xdn O7n
          obtain ⟨gXd, hg⟩ : ∃ x, x = V9.heap.size := ⟨_, rfl⟩
          have mXdXR : w.heap.size + 1 + 1 + 1 + 1 < gXd := by omega
          have nXiXd : gXi ≠ gXd := by omega
          rw [← hg] at Xd sz10 ⊢
          clear hg lqXR lXi
          refine AnyL_ready (rs := [4]) (by kernel_rfl) (by simp) ?_
          refine ReadyL.cons (o := oq29_5_4) rfl (fun K hK => ?_) ReadyL.nil
          delta oq29_5_4
          go_simp
          have hbs : w.heap.size ≤ V10.heap.size := WW.size
          have hc := euclid_any D7 A4 d7 c4 t q V10 O7.num XQ.num nq HTQ.out w.heap.size WW.size (.inr O7) XQ.2.1
          refine hc.mono ?_
          clear hc
          rintro e V11 ⟨D8, d8, u, x8, rfl, hvv, hu, hb, hx1, hx2⟩
          replace XA := XA.below hb
          replace XP := XP.below hb
          replace XB := XB.below hb
          replace XQ := XQ.below hb
          replace XR := XR.below hb
          replace Xi := Xi.below hb
          replace Xd := Xd.below hb
          replace O7 := O7.below hb (Nat.le_refl _)
          replace WW := WW.trans (hb.mono WW.size)
          have sz11 := hb.size
          rw [← HG.out] at hvv hx2 ⊢
          obtain ⟨D9, d9, rfl, ho⟩ := hu
          have O9 := ho.weak (b := w.heap.size) hbs
          have V8 : VL w.heap.size V11 D8 (nw g) d8 g := ⟨hvv, Nat.le_trans hbs hb.size⟩
          clear ho hvv
          clear hb hbs
          refine hK.out _ _ (⟨XP.cell, XQ.cell⟩) (fun hHeld2 => ?_)
          clear hK K hHeld
          have hHeld := hHeld2
          clear hHeld2
          (try simp only [oq29_5_4, Act.put, List.setIfInBounds_toArray, List.set_cons_zero, List.set_cons_succ])
          refine AnyL_take (i := 5) (oi := oq29_5_5) (v := ?_) rfl (by kernel_rfl) (by kernel_rfl) (by kernel_rfl) (by kernel_rfl) (fun _ _ _ h => h) (Or.inl ⟨by rfl, ?_⟩) (by assumption) ?_
          rotate_left
          · (delta oq29_5_5; intro ws hSw; (try dsimp only at hSw); (try go_simp); (try with_reducible rfl))
          (try simp only [oq29_5_5, Act.put, List.setIfInBounds_toArray, List.set_cons_zero, List.set_cons_succ])
          refine AnyL_take (i := 6) (oi := oq29_5_6) (v := ?_) rfl (by kernel_rfl) (by kernel_rfl) (by kernel_rfl) (by kernel_rfl) (fun _ _ _ h => h) (Or.inl ⟨by rfl, ?_⟩) (by assumption) ?_
          rotate_left
          · (delta oq29_5_6; intro ws hSw; (try dsimp only at hSw); (try go_simp); (try with_reducible rfl))
          (try simp only [oq29_5_6, Act.put, List.setIfInBounds_toArray, List.set_cons_zero, List.set_cons_succ])
          refine AnyL_take (i := 7) (oi := oq29_5_7) (v := ?_) rfl (by kernel_rfl) (by kernel_rfl) (by kernel_rfl) (by kernel_rfl) (fun _ _ _ h => h) (Or.inl ⟨by rfl, ?_⟩) (by assumption) ?_
          rotate_left
          · (delta oq29_5_7; intro ws hSw; (try dsimp only at hSw); (try go_simp); (try with_reducible rfl))
          (try simp only [oq29_5_7, Act.put, List.setIfInBounds_toArray, List.set_cons_zero, List.set_cons_succ])
          refine AnyL_ready (rs := [10]) (by kernel_rfl) (by simp) ?_
          refine ReadyL.cons (o := oq29_5_10) rfl (fun K hK => ?_) ReadyL.nil
          delta oq29_5_10
          have fz := Xd.1.frozen 0
          have cz := Xd.cell
          have lz := Xd.lt
          go_simp
          have XAn := XA.far (p := ⟨gXd, 0, none⟩) Xd.1 Xd.2.2 (by simp <;> omega) (.slice D8 (nw g) d8)
          have XPn := XP.far (p := ⟨gXd, 0, none⟩) Xd.1 Xd.2.2 (by simp <;> omega) (.slice D8 (nw g) d8)
          have XBn := XB.far (p := ⟨gXd, 0, none⟩) Xd.1 Xd.2.2 (by simp <;> omega) (.slice D8 (nw g) d8)
          have XQn := XQ.far (p := ⟨gXd, 0, none⟩) Xd.1 Xd.2.2 (by simp <;> omega) (.slice D8 (nw g) d8)
          have XRn := XR.far (p := ⟨gXd, 0, none⟩) Xd.1 Xd.2.2 (by simp <;> omega) (.slice D8 (nw g) d8)
          have Xin := Xi.far (p := ⟨gXd, 0, none⟩) Xd.1 Xd.2.2 (by simp <;> omega) (.slice D8 (nw g) d8)
          have Xdn := Xd.set_ (A' := D8) (n' := (nw g)) (c' := d8) (a' := g) (V8.1)
          have O7n := O7.box (p := ⟨gXd, 0, none⟩) Xd.1 (by decide) (.slice D8 (nw g) d8)
          have V8n := V8.box (p := ⟨gXd, 0, none⟩) Xd.1 Xd.2.2 (.slice D8 (nw g) d8)
          have O9n := O9.box (p := ⟨gXd, 0, none⟩) Xd.1 (by decide) (.slice D8 (nw g) d8)
          have WWn := WW.setCell (p := ⟨gXd, 0, none⟩) (by simp <;> omega) (.slice D8 (nw g) d8)
          refine hK.out _ _ (⟨XPn.cell, XQn.cell⟩) (fun hHeld2 => ?_)
          clear hK K hHeld
          (try simp only [oq29_5_10, Act.put, List.setIfInBounds_toArray, List.set_cons_zero, List.set_cons_succ])
          generalize hV : V11.setCell ⟨gXd, 0, none⟩ (.slice D8 (nw g) d8) = V12 at hHeld2 WWn XAn XPn XBn XQn XRn Xin Xdn O7n V8n O9n ⊢
          clear hV fz cz lz WW XA XP XB XQ XR Xi Xd O7 V8 O9
          have WW := WWn
          have XA := XAn
          have XP := XPn
          have XB := XBn
          have XQ := XQn
          have XR := XRn
          have Xi := Xin
          have Xd := Xdn
          have O7 := O7n
          have V8 := V8n
          have O9 := O9n
          have hHeld := hHeld2
          clear hHeld2
          clear WWn XAn XPn XBn XQn XRn Xin Xdn O7n V8n O9n
          refine AnyL_ready (rs := [11]) (by kernel_rfl) (by simp) ?_
          refine ReadyL.cons (o := oq29_5_11) rfl (fun K hK => ?_) ReadyL.nil
          delta oq29_5_11
          have fz := Xi.1.frozen 0
          have cz := Xi.cell
          have lz := Xi.lt
          go_simp
          have XAn := XA.far (p := ⟨gXi, 0, none⟩) Xi.1 Xi.2.2 (by simp <;> omega) (.slice D9 (nw x8) d9)
          have XPn := XP.far (p := ⟨gXi, 0, none⟩) Xi.1 Xi.2.2 (by simp <;> omega) (.slice D9 (nw x8) d9)
          have XBn := XB.far (p := ⟨gXi, 0, none⟩) Xi.1 Xi.2.2 (by simp <;> omega) (.slice D9 (nw x8) d9)
          have XQn := XQ.far (p := ⟨gXi, 0, none⟩) Xi.1 Xi.2.2 (by simp <;> omega) (.slice D9 (nw x8) d9)
          have XRn := XR.far (p := ⟨gXi, 0, none⟩) Xi.1 Xi.2.2 (by simp <;> omega) (.slice D9 (nw x8) d9)
          have Xdn := Xd.far (p := ⟨gXi, 0, none⟩) Xi.1 Xi.2.2 (by simp <;> omega) (.slice D9 (nw x8) d9)
          have Xin := Xi.set_ (A' := D9) (n' := (nw x8)) (c' := d9) (a' := x8) (.inr O9)
          have O7n := O7.box (p := ⟨gXi, 0, none⟩) Xi.1 (by decide) (.slice D9 (nw x8) d9)
          have V8n := V8.box (p := ⟨gXi, 0, none⟩) Xi.1 Xi.2.2 (.slice D9 (nw x8) d9)
          have O9n := O9.box (p := ⟨gXi, 0, none⟩) Xi.1 (by decide) (.slice D9 (nw x8) d9)
          have WWn := WW.setCell (p := ⟨gXi, 0, none⟩) (by simp <;> omega) (.slice D9 (nw x8) d9)
          refine hK.out _ _ (⟨XPn.cell, XQn.cell⟩) (fun hHeld2 => ?_)
          clear hK K hHeld
          (try simp only [oq29_5_11, Act.put, List.setIfInBounds_toArray, List.set_cons_zero, List.set_cons_succ])
          generalize hV : V12.setCell ⟨gXi, 0, none⟩ (.slice D9 (nw x8) d9) = V13 at hHeld2 WWn XAn XPn XBn XQn XRn Xin Xdn O7n V8n O9n ⊢
          clear hV fz cz lz WW XA XP XB XQ XR Xi Xd O7 V8 O9
          have WW := WWn
          have XA := XAn
          have XP := XPn
          have XB := XBn
          have XQ := XQn
          have XR := XRn
          have Xi := Xin
          have Xd := Xdn
          have O7 := O7n
          have V8 := V8n
          have O9 := O9n
          have hHeld := hHeld2
          clear hHeld2
          clear WWn XAn XPn XBn XQn XRn Xin Xdn O7n V8n O9n
          refine AnyL_done (by kernel_rfl) ?_ _
          clear hHeld
          refine NoPanic.normal ?_
          exact ⟨rfl, gXd, gXi, D7, d7, D8, d8, D9, d9, x8, rfl, WW, XA, XP, XB, XQ, XR, Xd, Xi, O7, V8, O9, (by first | exact mXdXR | omega), (by first | exact mXiXR | omega), (by first | exact nXdXi | omega), hx1, hx2⟩
    refine ReadyL.cons (o := oq29_5_8) rfl (fun K hK => ?_) ?_
    · delta oq29_5_8
      have lqXR : w.heap.size + 1 + 1 + 1 + 1 < U6x0.heap.size := XR.lt
      go_simp
      have ba := (Below.refl U6x0.heap.size U6x0).alloc (Nat.le_refl _) (.cells #[.slice none 0 0] 24)
      have XAn := XA.below ba
      have XPn := XP.below ba
      have XBn := XB.below ba
      have XQn := XQ.below ba
      have XRn := XR.below ba
      have bn := Blk.new U6x0 24 #[.slice none 0 0]
      have Xdn := VB.mk (B := w.heap.size) (a := 0) bn (.inr (Own.nil _ _ _ _ (Nat.zero_le _))) ba WW.size WW.size
      have WWn := WW.trans (ba.mono WW.size)
      have sn : U6x0.heap.size < (U6x0.alloc (.cells #[.slice none 0 0] 24)).heap.size := bn.lt
      refine hK.out _ _ (⟨XPn.cell, XQn.cell⟩) (fun hHeld2 => ?_)
      clear hK K hHeld
      (try simp only [oq29_5_8, Act.put, List.setIfInBounds_toArray, List.set_cons_zero, List.set_cons_succ])
      generalize hV : U6x0.alloc (.cells #[.slice none 0 0] 24) = V8 at hHeld2 sn WWn XAn XPn XBn XQn XRn Xdn ⊢
      clear hV ba bn WW XA XP XB XQ XR
      have WW := WWn
      have XA := XAn
      have XP := XPn
      have XB := XBn
      have XQ := XQn
      have XR := XRn
      have Xd := Xdn
      have sz8 := sn
      have hHeld := hHeld2
      clear sn hHeld2 WWn XAn XPn XBn XQn XRn Xdn
      obtain ⟨gXd, hg⟩ : ∃ x, x = U6x0.heap.size := ⟨_, rfl⟩
      have mXdXR : w.heap.size + 1 + 1 + 1 + 1 < gXd := by omega
      rw [← hg] at Xd sz8 ⊢
      clear hg lqXR
      refine AnyL_ready (rs := [2, 9]) (by kernel_rfl) (by simp) ?_
      refine ReadyL.cons (o := oq29_5_2) rfl (fun K hK => ?_) ?_
      · delta oq29_5_2
        go_simp
        have hbs : w.heap.size ≤ V8.heap.size := WW.size
        have hc := remainder_any A2 A4 c2 c4 p q V8 XP.num XQ.num (by omega) (by omega) hqn
        rw [← HT.out] at hc
        refine hc.mono ?_
        clear hc
        rintro e V9 ⟨v, rfl, hv, hb⟩
        replace XA := XA.below hb
        replace XP := XP.below hb
        replace XB := XB.below hb
        replace XQ := XQ.below hb
        replace XR := XR.below hb
        replace Xd := Xd.below hb
        replace WW := WW.trans (hb.mono WW.size)
        have sz9 := hb.size
        obtain ⟨D7, d7, rfl, ho⟩ := hv
        have O7 := ho.weak (b := w.heap.size) hbs
        clear ho
        clear hb hbs
        refine hK.out _ _ (⟨XP.cell, XQ.cell⟩) (fun hHeld2 => ?_)
        clear hK K hHeld
        have hHeld := hHeld2
        clear hHeld2
        (try simp only [oq29_5_2, Act.put, List.setIfInBounds_toArray, List.set_cons_zero, List.set_cons_succ])
        refine AnyL_ready (rs := [4, 9]) (by kernel_rfl) (by simp) ?_
        refine ReadyL.cons (o := oq29_5_4) rfl (fun K hK => ?_) ?_
        · delta oq29_5_4
          go_simp
          have hbs : w.heap.size ≤ V9.heap.size := WW.size
          have hc := euclid_any D7 A4 d7 c4 t q V9 O7.num XQ.num nq HTQ.out w.heap.size WW.size (.inr O7) XQ.2.1
          refine hc.mono ?_
          clear hc
          rintro e V10 ⟨D8, d8, u, x8, rfl, hvv, hu, hb, hx1, hx2⟩
          replace XA := XA.below hb
          replace XP := XP.below hb
          replace XB := XB.below hb
          replace XQ := XQ.below hb
          replace XR := XR.below hb
          replace Xd := Xd.below hb
          replace O7 := O7.below hb (Nat.le_refl _)
          replace WW := WW.trans (hb.mono WW.size)
          have sz10 := hb.size
          rw [← HG.out] at hvv hx2 ⊢
          obtain ⟨D9, d9, rfl, ho⟩ := hu
          have O9 := ho.weak (b := w.heap.size) hbs
          have V8 : VL w.heap.size V10 D8 (nw g) d8 g := ⟨hvv, Nat.le_trans hbs hb.size⟩
          clear ho hvv
          clear hb hbs
          refine hK.out _ _ (⟨XP.cell, XQ.cell⟩) (fun hHeld2 => ?_)
          clear hK K hHeld
          have hHeld := hHeld2
          clear hHeld2
          (try simp only [oq29_5_4, Act.put, List.setIfInBounds_toArray, List.set_cons_zero, List.set_cons_succ])
          refine AnyL_take (i := 5) (oi := oq29_5_5) (v := ?_) rfl (by kernel_rfl) (by kernel_rfl) (by kernel_rfl) (by kernel_rfl) (fun _ _ _ h => h) (Or.inl ⟨by rfl, ?_⟩) (by assumption) ?_
          rotate_left
          · (delta oq29_5_5; intro ws hSw; (try dsimp only at hSw); (try go_simp); (try with_reducible rfl))
          (try simp only [oq29_5_5, Act.put, List.setIfInBounds_toArray, List.set_cons_zero, List.set_cons_succ])
          refine AnyL_take (i := 6) (oi := oq29_5_6) (v := ?_) rfl (by kernel_rfl) (by kernel_rfl) (by kernel_rfl) (by kernel_rfl) (fun _ _ _ h => h) (Or.inl ⟨by rfl, ?_⟩) (by assumption) ?_
          rotate_left
          · (delta oq29_5_6; intro ws hSw; (try dsimp only at hSw); (try go_simp); (try with_reducible rfl))
          (try simp only [oq29_5_6, Act.put, List.setIfInBounds_toArray, List.set_cons_zero, List.set_cons_succ])
          refine AnyL_take (i := 7) (oi := oq29_5_7) (v := ?_) rfl (by kernel_rfl) (by kernel_rfl) (by kernel_rfl) (by kernel_rfl) (fun _ _ _ h => h) (Or.inl ⟨by rfl, ?_⟩) (by assumption) ?_
          rotate_left
          · (delta oq29_5_7; intro ws hSw; (try dsimp only at hSw); (try go_simp); (try with_reducible rfl))
          (try simp only [oq29_5_7, Act.put, List.setIfInBounds_toArray, List.set_cons_zero, List.set_cons_succ])
          refine AnyL_ready (rs := [9]) (by kernel_rfl) (by simp) ?_
          refine ReadyL.cons (o := oq29_5_9) rfl (fun K hK => ?_) ReadyL.nil
          delta oq29_5_9
          have lqXR : w.heap.size + 1 + 1 + 1 + 1 < V10.heap.size := XR.lt
          have lXd : gXd < V10.heap.size := Xd.lt
          go_simp
          have ba := (Below.refl V10.heap.size V10).alloc (Nat.le_refl _) (.cells #[.slice none 0 0] 24)
          have XAn := XA.below ba
          have XPn := XP.below ba
          have XBn := XB.below ba
          have XQn := XQ.below ba
          have XRn := XR.below ba
          have Xdn := Xd.below ba
          have O7n := O7.below ba (Nat.le_refl _)
          have V8n := V8.below ba (Nat.le_refl _)
          have O9n := O9.below ba (Nat.le_refl _)
          have bn := Blk.new V10 24 #[.slice none 0 0]
          have Xin := VB.mk (B := w.heap.size) (a := 0) bn (.inr (Own.nil _ _ _ _ (Nat.zero_le _))) ba WW.size WW.size
          have WWn := WW.trans (ba.mono WW.size)
          have sn : V10.heap.size < (V10.alloc (.cells #[.slice none 0 0] 24)).heap.size := bn.lt
          refine hK.out _ _ (⟨XPn.cell, XQn.cell⟩) (fun hHeld2 => ?_)
          clear hK K hHeld
          (try simp only [oq29_5_9, Act.put, List.setIfInBounds_toArray, List.set_cons_zero, List.set_cons_succ])
          generalize hV : V10.alloc (.cells #[.slice none 0 0] 24) = V11 at hHeld2 sn WWn XAn XPn XBn XQn XRn Xdn Xin O7n V8n O9n ⊢
          clear hV ba bn WW XA XP XB XQ XR Xd O7 V8 O9
          have WW := WWn
          have XA := XAn
          have XP := XPn
          have XB := XBn
          have XQ := XQn
          have XR := XRn
          have Xd := Xdn
          have Xi := Xin
          have O7 := O7n
          have V8 := V8n
          have O9 := O9n
          have sz11 := sn
          have hHeld := hHeld2
          clear sn hHeld2 WWn XAn XPn XBn XQn XRn Xdn Xin O7n V8n O9n
          obtain ⟨gXi, hg⟩ : ∃ x, x = V10.heap.size := ⟨_, rfl⟩
          have mXiXR : w.heap.size + 1 + 1 + 1 + 1 < gXi := by omega
          have nXdXi : gXd ≠ gXi := by omega
          rw [← hg] at Xi sz11 ⊢
          clear hg lqXR lXd
          refine AnyL_ready (rs := [10]) (by kernel_rfl) (by simp) ?_
          refine ReadyL.cons (o := oq29_5_10) rfl (fun K hK => ?_) ReadyL.nil
          delta oq29_5_10
          have fz := Xd.1.frozen 0
          have cz := Xd.cell
          have lz := Xd.lt
          go_simp
          have XAn := XA.far (p := ⟨gXd, 0, none⟩) Xd.1 Xd.2.2 (by simp <;> omega) (.slice D8 (nw g) d8)
          have XPn := XP.far (p := ⟨gXd, 0, none⟩) Xd.1 Xd.2.2 (by simp <;> omega) (.slice D8 (nw g) d8)
          have XBn := XB.far (p := ⟨gXd, 0, none⟩) Xd.1 Xd.2.2 (by simp <;> omega) (.slice D8 (nw g) d8)
          have XQn := XQ.far (p := ⟨gXd, 0, none⟩) Xd.1 Xd.2.2 (by simp <;> omega) (.slice D8 (nw g) d8)
          have XRn := XR.far (p := ⟨gXd, 0, none⟩) Xd.1 Xd.2.2 (by simp <;> omega) (.slice D8 (nw g) d8)
          have Xin := Xi.far (p := ⟨gXd, 0, none⟩) Xd.1 Xd.2.2 (by simp <;> omega) (.slice D8 (nw g) d8)
          have Xdn := Xd.set_ (A' := D8) (n' := (nw g)) (c' := d8) (a' := g) (V8.1)
          have O7n := O7.box (p := ⟨gXd, 0, none⟩) Xd.1 (by decide) (.slice D8 (nw g) d8)
          have V8n := V8.box (p := ⟨gXd, 0, none⟩) Xd.1 Xd.2.2 (.slice D8 (nw g) d8)
          have O9n := O9.box (p := ⟨gXd, 0, none⟩) Xd.1 (by decide) (.slice D8 (nw g) d8)
          have WWn := WW.setCell (p := ⟨gXd, 0, none⟩) (by simp <;> omega) (.slice D8 (nw g) d8)
          refine hK.out _ _ (⟨XPn.cell, XQn.cell⟩) (fun hHeld2 => ?_)
          clear hK K hHeld
          (try simp only [oq29_5_10, Act.put, List.setIfInBounds_toArray, List.set_cons_zero, List.set_cons_succ])
          generalize hV : V11.setCell ⟨gXd, 0, none⟩ (.slice D8 (nw g) d8) = V12 at hHeld2 WWn XAn XPn XBn XQn XRn Xdn Xin O7n V8n O9n ⊢
          clear hV fz cz lz WW XA XP XB XQ XR Xd Xi O7 V8 O9
          have WW := WWn
          have XA := XAn
          have XP := XPn
          have XB := XBn
          have XQ := XQn
          have XR := XRn
          have Xd := Xdn
          have Xi := Xin
          have O7 := O7n
          have V8 := V8n
          have O9 := O9n
          have hHeld := hHeld2
          clear hHeld2
          clear WWn XAn XPn XBn XQn XRn Xdn Xin O7n V8n O9n
          refine AnyL_ready (rs := [11]) (by kernel_rfl) (by simp) ?_
          refine ReadyL.cons (o := oq29_5_11) rfl (fun K hK => ?_) ReadyL.nil
          delta oq29_5_11
          have fz := Xi.1.frozen 0
          have cz := Xi.cell
          have lz := Xi.lt
          go_simp
          have XAn := XA.far (p := ⟨gXi, 0, none⟩) Xi.1 Xi.2.2 (by simp <;> omega) (.slice D9 (nw x8) d9)
          have XPn := XP.far (p := ⟨gXi, 0, none⟩) Xi.1 Xi.2.2 (by simp <;> omega) (.slice D9 (nw x8) d9)
          have XBn := XB.far (p := ⟨gXi, 0, none⟩) Xi.1 Xi.2.2 (by simp <;> omega) (.slice D9 (nw x8) d9)
          have XQn := XQ.far (p := ⟨gXi, 0, none⟩) Xi.1 Xi.2.2 (by simp <;> omega) (.slice D9 (nw x8) d9)
          have XRn := XR.far (p := ⟨gXi, 0, none⟩) Xi.1 Xi.2.2 (by simp <;> omega) (.slice D9 (nw x8) d9)
          have Xdn := Xd.far (p := ⟨gXi, 0, none⟩) Xi.1 Xi.2.2 (by simp <;> omega) (.slice D9 (nw x8) d9)
          have Xin := Xi.set_ (A' := D9) (n' := (nw x8)) (c' := d9) (a' := x8) (.inr O9)
          have O7n := O7.box (p := ⟨gXi, 0, none⟩) Xi.1 (by decide) (.slice D9 (nw x8) d9)
          have V8n := V8.box (p := ⟨gXi, 0, none⟩) Xi.1 Xi.2.2 (.slice D9 (nw x8) d9)
          have O9n := O9.box (p := ⟨gXi, 0, none⟩) Xi.1 (by decide) (.slice D9 (nw x8) d9)
          have WWn := WW.setCell (p := ⟨gXi, 0, none⟩) (by simp <;> omega) (.slice D9 (nw x8) d9)
          refine hK.out _ _ (⟨XPn.cell, XQn.cell⟩) (fun hHeld2 => ?_)
          clear hK K hHeld
          (try simp only [oq29_5_11, Act.put, List.setIfInBounds_toArray, List.set_cons_zero, List.set_cons_succ])
          generalize hV : V12.setCell ⟨gXi, 0, none⟩ (.slice D9 (nw x8) d9) = V13 at hHeld2 WWn XAn XPn XBn XQn XRn Xdn Xin O7n V8n O9n ⊢
          clear hV fz cz lz WW XA XP XB XQ XR Xd Xi O7 V8 O9
          have WW := WWn
          have XA := XAn
          have XP := XPn
          have XB := XBn
          have XQ := XQn
          have XR := XRn
          have Xd := Xdn
          have Xi := Xin
          have O7 := O7n
          have V8 := V8n
          have O9 := O9n
          have hHeld := hHeld2
          clear hHeld2
          clear WWn XAn XPn XBn XQn XRn Xdn Xin O7n V8n O9n
          refine AnyL_done (by kernel_rfl) ?_ _
          clear hHeld
          refine NoPanic.normal ?_
          exact ⟨rfl, gXd, gXi, D7, d7, D8, d8, D9, d9, x8, rfl, WW, XA, XP, XB, XQ, XR, Xd, Xi, O7, V8, O9, (by first | exact mXdXR | omega), (by first | exact mXiXR | omega), (by first | exact nXdXi | omega), hx1, hx2⟩
        refine ReadyL.cons (o := oq29_5_9) rfl (fun K hK => ?_) ReadyL.nil
        · delta oq29_5_9
          have lqXR : w.heap.size + 1 + 1 + 1 + 1 < V9.heap.size := XR.lt
          have lXd : gXd < V9.heap.size := Xd.lt
          go_simp
          have ba := (Below.refl V9.heap.size V9).alloc (Nat.le_refl _) (.cells #[.slice none 0 0] 24)
          have XAn := XA.below ba
          have XPn := XP.below ba
          have XBn := XB.below ba
          have XQn := XQ.below ba
          have XRn := XR.below ba
          have Xdn := Xd.below ba
          have O7n := O7.below ba (Nat.le_refl _)
          have bn := Blk.new V9 24 #[.slice none 0 0]
          have Xin := VB.mk (B := w.heap.size) (a := 0) bn (.inr (Own.nil _ _ _ _ (Nat.zero_le _))) ba WW.size WW.size
          have WWn := WW.trans (ba.mono WW.size)
          have sn : V9.heap.size < (V9.alloc (.cells #[.slice none 0 0] 24)).heap.size := bn.lt
          refine hK.out _ _ (⟨XPn.cell, XQn.cell⟩) (fun hHeld2 => ?_)
          clear hK K hHeld
          (try simp only [oq29_5_9, Act.put, List.setIfInBounds_toArray, List.set_cons_zero, List.set_cons_succ])
          generalize hV : V9.alloc (.cells #[.slice none 0 0] 24) = V10 at hHeld2 sn WWn XAn XPn XBn XQn XRn Xdn Xin O7n ⊢
          clear hV ba bn WW XA XP XB XQ XR Xd O7
          have WW := WWn
          have XA := XAn
          have XP := XPn
          have XB := XBn
          have XQ := XQn
          have XR := XRn
          have Xd := Xdn
          have Xi := Xin
          have O7 := O7n
          have sz10 := sn
          have hHeld := hHeld2
          clear sn hHeld2 WWn XAn XPn XBn XQn XRn Xdn Xin O7n
          obtain ⟨gXi, hg⟩ : ∃ x, x = V9.heap.size := ⟨_, rfl⟩
          have mXiXR : w.heap.size + 1 + 1 + 1 + 1 < gXi := by omega
          have nXdXi : gXd ≠ gXi := by omega
          rw [← hg] at Xi sz10 ⊢
          clear hg lqXR lXd
          refine AnyL_ready (rs := [4]) (by kernel_rfl) (by simp) ?_
          refine ReadyL.cons (o := oq29_5_4) rfl (fun K hK => ?_) ReadyL.nil
          delta oq29_5_4
          go_simp
          have hbs : w.heap.size ≤ V10.heap.size := WW.size
          have hc := euclid_any D7 A4 d7 c4 t q V10 O7.num XQ.num nq HTQ.out w.heap.size WW.size (.inr O7) XQ.2.1
          refine hc.mono ?_
          clear hc
          rintro e V11 ⟨D8, d8, u, x8, rfl, hvv, hu, hb, hx1, hx2⟩
          replace XA := XA.below hb
          replace XP := XP.below hb
          replace XB := XB.below hb
          replace XQ := XQ.below hb
          replace XR := XR.below hb
          replace Xd := Xd.below hb
          replace Xi := Xi.below hb
          replace O7 := O7.below hb (Nat.le_refl _)
          replace WW := WW.trans (hb.mono WW.size)
          have sz11 := hb.size
          rw [← HG.out] at hvv hx2 ⊢
          obtain ⟨D9, d9, rfl, ho⟩ := hu
          have O9 := ho.weak (b := w.heap.size) hbs
          have V8 : VL w.heap.size V11 D8 (nw g) d8 g := ⟨hvv, Nat.le_trans hbs hb.size⟩
          clear ho hvv
          clear hb hbs
          refine hK.out _ _ (⟨XP.cell, XQ.cell⟩) (fun hHeld2 => ?_)
          clear hK K hHeld
          have hHeld := hHeld2
          clear hHeld2
          (try simp only [oq29_5_4, Act.put, List.setIfInBounds_toArray, List.set_cons_zero, List.set_cons_succ])
          refine AnyL_take (i := 5) (oi := oq29_5_5) (v := ?_) rfl (by kernel_rfl) (by kernel_rfl) (by kernel_rfl) (by kernel_rfl) (fun _ _ _ h => h) (Or.inl ⟨by rfl, ?_⟩) (by assumption) ?_
          rotate_left
          · (delta oq29_5_5; intro ws hSw; (try dsimp only at hSw); (try go_simp); (try with_reducible rfl))
          (try simp only [oq29_5_5, Act.put, List.setIfInBounds_toArray, List.set_cons_zero, List.set_cons_succ])
          refine AnyL_take (i := 6) (oi := oq29_5_6) (v := ?_) rfl (by kernel_rfl) (by kernel_rfl) (by kernel_rfl) (by kernel_rfl) (fun _ _ _ h => h) (Or.inl ⟨by rfl, ?_⟩) (by assumption) ?_
          rotate_left
          · (delta oq29_5_6; intro ws hSw; (try dsimp only at hSw); (try go_simp); (try with_reducible rfl))
          (try simp only [oq29_5_6, Act.put, List.setIfInBounds_toArray, List.set_cons_zero, List.set_cons_succ])
          refine AnyL_take (i := 7) (oi := oq29_5_7) (v := ?_) rfl (by kernel_rfl) (by kernel_rfl) (by kernel_rfl) (by kernel_rfl) (fun _ _ _ h => h) (Or.inl ⟨by rfl, ?_⟩) (by assumption) ?_
          rotate_left
          · (delta oq29_5_7; intro ws hSw; (try dsimp only at hSw); (try go_simp); (try with_reducible rfl))
          (try simp only [oq29_5_7, Act.put, List.setIfInBounds_toArray, List.set_cons_zero, List.set_cons_succ])
          refine AnyL_ready (rs := [10]) (by kernel_rfl) (by simp) ?_
          refine ReadyL.cons (o := oq29_5_10) rfl (fun K hK => ?_) ReadyL.nil
          delta oq29_5_10
          have fz := Xd.1.frozen 0
          have cz := Xd.cell
          have lz := Xd.lt
          go_simp
          have XAn := XA.far (p := ⟨gXd, 0, none⟩) Xd.1 Xd.2.2 (by simp <;> omega) (.slice D8 (nw g) d8)
          have XPn := XP.far (p := ⟨gXd, 0, none⟩) Xd.1 Xd.2.2 (by simp <;> omega) (.slice D8 (nw g) d8)
          have XBn := XB.far (p := ⟨gXd, 0, none⟩) Xd.1 Xd.2.2 (by simp <;> omega) (.slice D8 (nw g) d8)
          have XQn := XQ.far (p := ⟨gXd, 0, none⟩) Xd.1 Xd.2.2 (by simp <;> omega) (.slice D8 (nw g) d8)
          have XRn := XR.far (p := ⟨gXd, 0, none⟩) Xd.1 Xd.2.2 (by simp <;> omega) (.slice D8 (nw g) d8)
          have Xin := Xi.far (p := ⟨gXd, 0, none⟩) Xd.1 Xd.2.2 (by simp <;> omega) (.slice D8 (nw g) d8)
          have Xdn := Xd.set_ (A' := D8) (n' := (nw g)) (c' := d8) (a' := g) (V8.1)
          have O7n := O7.box (p := ⟨gXd, 0, none⟩) Xd.1 (by decide) (.slice D8 (nw g) d8)
          have V8n := V8.box (p := ⟨gXd, 0, none⟩) Xd.1 Xd.2.2 (.slice D8 (nw g) d8)
          have O9n := O9.box (p := ⟨gXd, 0, none⟩) Xd.1 (by decide) (.slice D8 (nw g) d8)
          have WWn := WW.setCell (p := ⟨gXd, 0, none⟩) (by simp <;> omega) (.slice D8 (nw g) d8)
          refine hK.out _ _ (⟨XPn.cell, XQn.cell⟩) (fun hHeld2 => ?_)
          clear hK K hHeld
          (try simp only [oq29_5_10, Act.put, List.setIfInBounds_toArray, List.set_cons_zero, List.set_cons_succ])
          generalize hV : V11.setCell ⟨gXd, 0, none⟩ (.slice D8 (nw g) d8) = V12 at hHeld2 WWn XAn XPn XBn XQn XRn Xdn Xin O7n V8n O9n ⊢
          clear hV fz cz lz WW XA XP XB XQ XR Xd Xi O7 V8 O9
          have WW := WWn
          have XA := XAn
          have XP := XPn
          have XB := XBn
          have XQ := XQn
          have XR := XRn
          have Xd := Xdn
          have Xi := Xin
          have O7 := O7n
          have V8 := V8n
          have O9 := O9n
          have hHeld := hHeld2
          clear hHeld2
          clear WWn XAn XPn XBn XQn XRn Xdn Xin O7n V8n O9n
          refine AnyL_ready (rs := [11]) (by kernel_rfl) (by simp) ?_
          refine ReadyL.cons (o := oq29_5_11) rfl (fun K hK => ?_) ReadyL.nil
          delta oq29_5_11
          have fz := Xi.1.frozen 0
          have cz := Xi.cell
          have lz := Xi.lt
          go_simp
          have XAn := XA.far (p := ⟨gXi, 0, none⟩) Xi.1 Xi.2.2 (by simp <;> omega) (.slice D9 (nw x8) d9)
          have XPn := XP.far (p := ⟨gXi, 0, none⟩) Xi.1 Xi.2.2 (by simp <;> omega) (.slice D9 (nw x8) d9)
          have XBn := XB.far (p := ⟨gXi, 0, none⟩) Xi.1 Xi.2.2 (by simp <;> omega) (.slice D9 (nw x8) d9)
          have XQn := XQ.far (p := ⟨gXi, 0, none⟩) Xi.1 Xi.2.2 (by simp <;> omega) (.slice D9 (nw x8) d9)
          have XRn := XR.far (p := ⟨gXi, 0, none⟩) Xi.1 Xi.2.2 (by simp <;> omega) (.slice D9 (nw x8) d9)
          have Xdn := Xd.far (p := ⟨gXi, 0, none⟩) Xi.1 Xi.2.2 (by simp <;> omega) (.slice D9 (nw x8) d9)
          have Xin := Xi.set_ (A' := D9) (n' := (nw x8)) (c' := d9) (a' := x8) (.inr O9)
          have O7n := O7.box (p := ⟨gXi, 0, none⟩) Xi.1 (by decide) (.slice D9 (nw x8) d9)
          have V8n := V8.box (p := ⟨gXi, 0, none⟩) Xi.1 Xi.2.2 (.slice D9 (nw x8) d9)
          have O9n := O9.box (p := ⟨gXi, 0, none⟩) Xi.1 (by decide) (.slice D9 (nw x8) d9)
          have WWn := WW.setCell (p := ⟨gXi, 0, none⟩) (by simp <;> omega) (.slice D9 (nw x8) d9)
          refine hK.out _ _ (⟨XPn.cell, XQn.cell⟩) (fun hHeld2 => ?_)
          clear hK K hHeld
          (try simp only [oq29_5_11, Act.put, List.setIfInBounds_toArray, List.set_cons_zero, List.set_cons_succ])
          generalize hV : V12.setCell ⟨gXi, 0, none⟩ (.slice D9 (nw x8) d9) = V13 at hHeld2 WWn XAn XPn XBn XQn XRn Xdn Xin O7n V8n O9n ⊢
          clear hV fz cz lz WW XA XP XB XQ XR Xd Xi O7 V8 O9
          have WW := WWn
          have XA := XAn
          have XP := XPn
          have XB := XBn
          have XQ := XQn
          have XR := XRn
          have Xd := Xdn
          have Xi := Xin
          have O7 := O7n
          have V8 := V8n
          have O9 := O9n
          have hHeld := hHeld2
          clear hHeld2
          clear WWn XAn XPn XBn XQn XRn Xdn Xin O7n V8n O9n
          refine AnyL_done (by kernel_rfl) ?_ _
          clear hHeld
          refine NoPanic.normal ?_
          exact ⟨rfl, gXd, gXi, D7, d7, D8, d8, D9, d9, x8, rfl, WW, XA, XP, XB, XQ, XR, Xd, Xi, O7, V8, O9, (by first | exact mXdXR | omega), (by first | exact mXiXR | omega), (by first | exact nXdXi | omega), hx1, hx2⟩
      refine ReadyL.cons (o := oq29_5_9) rfl (fun K hK => ?_) ReadyL.nil
      · delta oq29_5_9
        have lqXR : w.heap.size + 1 + 1 + 1 + 1 < V8.heap.size := XR.lt
        have lXd : gXd < V8.heap.size := Xd.lt
        go_simp
        have ba := (Below.refl V8.heap.size V8).alloc (Nat.le_refl _) (.cells #[.slice none 0 0] 24)
        have XAn := XA.below ba
        have XPn := XP.below ba
        have XBn := XB.below ba
        have XQn := XQ.below ba
        have XRn := XR.below ba
        have Xdn := Xd.below ba
        have bn := Blk.new V8 24 #[.slice none 0 0]
        have Xin := VB.mk (B := w.heap.size) (a := 0) bn (.inr (Own.nil _ _ _ _ (Nat.zero_le _))) ba WW.size WW.size
        have WWn := WW.trans (ba.mono WW.size)
        have sn : V8.heap.size < (V8.alloc (.cells #[.slice none 0 0] 24)).heap.size := bn.lt
        refine hK.out _ _ (⟨XPn.cell, XQn.cell⟩) (fun hHeld2 => ?_)
        clear hK K hHeld
        (try simp only [oq29_5_9, Act.put, List.setIfInBounds_toArray, List.set_cons_zero, List.set_cons_succ])
        generalize hV : V8.alloc (.cells #[.slice none 0 0] 24) = V9 at hHeld2 sn WWn XAn XPn XBn XQn XRn Xdn Xin ⊢
        clear hV ba bn WW XA XP XB XQ XR Xd
        have WW := WWn
        have XA := XAn
        have XP := XPn
        have XB := XBn
        have XQ := XQn
        have XR := XRn
        have Xd := Xdn
        have Xi := Xin
        have sz9 := sn
        have hHeld := hHeld2
        clear sn hHeld2 WWn XAn XPn XBn XQn XRn Xdn Xin
        obtain ⟨gXi, hg⟩ : ∃ x, x = V8.heap.size := ⟨_, rfl⟩
        have mXiXR : w.heap.size + 1 + 1 + 1 + 1 < gXi := by omega
        have nXdXi : gXd ≠ gXi := by omega
        rw [← hg] at Xi sz9 ⊢
        clear hg lqXR lXd
        refine AnyL_ready (rs := [2]) (by kernel_rfl) (by simp) ?_
        refine ReadyL.cons (o := oq29_5_2) rfl (fun K hK => ?_) ReadyL.nil
        delta oq29_5_2
        go_simp
        have hbs : w.heap.size ≤ V9.heap.size := WW.size
        have hc := remainder_any A2 A4 c2 c4 p q V9 XP.num XQ.num (by omega) (by omega) hqn
        rw [← HT.out] at hc
        refine hc.mono ?_
        clear hc
        rintro e V10 ⟨v, rfl, hv, hb⟩
        replace XA := XA.below hb
        replace XP := XP.below hb
        replace XB := XB.below hb
        replace XQ := XQ.below hb
        replace XR := XR.below hb
        replace Xd := Xd.below hb
        replace Xi := Xi.below hb
        replace WW := WW.trans (hb.mono WW.size)
        have sz10 := hb.size
        obtain ⟨D7, d7, rfl, ho⟩ := hv
        have O7 := ho.weak (b := w.heap.size) hbs
        clear ho
        clear hb hbs
        refine hK.out _ _ (⟨XP.cell, XQ.cell⟩) (fun hHeld2 => ?_)
        clear hK K hHeld
        have hHeld := hHeld2
        clear hHeld2
        (try simp only [oq29_5_2, Act.put, List.setIfInBounds_toArray, List.set_cons_zero, List.set_cons_succ])
        refine AnyL_ready (rs := [4]) (by kernel_rfl) (by simp) ?_
        refine ReadyL.cons (o := oq29_5_4) rfl (fun K hK => ?_) ReadyL.nil
        delta oq29_5_4
        go_simp
        have hbs : w.heap.size ≤ V10.heap.size := WW.size
        have hc := euclid_any D7 A4 d7 c4 t q V10 O7.num XQ.num nq HTQ.out w.heap.size WW.size (.inr O7) XQ.2.1
        refine hc.mono ?_
        clear hc
        rintro e V11 ⟨D8, d8, u, x8, rfl, hvv, hu, hb, hx1, hx2⟩
        replace XA := XA.below hb
        replace XP := XP.below hb
        replace XB := XB.below hb
        replace XQ := XQ.below hb
        replace XR := XR.below hb
        replace Xd := Xd.below hb
        replace Xi := Xi.below hb
        replace O7 := O7.below hb (Nat.le_refl _)
        replace WW := WW.trans (hb.mono WW.size)
        have sz11 := hb.size
        rw [← HG.out] at hvv hx2 ⊢
        obtain ⟨D9, d9, rfl, ho⟩ := hu
        have O9 := ho.weak (b := w.heap.size) hbs
        have V8 : VL w.heap.size V11 D8 (nw g) d8 g := ⟨hvv, Nat.le_trans hbs hb.size⟩
        clear ho hvv
        clear hb hbs
        refine hK.out _ _ (⟨XP.cell, XQ.cell⟩) (fun hHeld2 => ?_)
        clear hK K hHeld
        have hHeld := hHeld2
        clear hHeld2
        (try simp only [oq29_5_4, Act.put, List.setIfInBounds_toArray, List.set_cons_zero, List.set_cons_succ])
        refine AnyL_take (i := 5) (oi := oq29_5_5) (v := ?_) rfl (by kernel_rfl) (by kernel_rfl) (by kernel_rfl) (by kernel_rfl) (fun _ _ _ h => h) (Or.inl ⟨by rfl, ?_⟩) (by assumption) ?_
        rotate_left
        · (delta oq29_5_5; intro ws hSw; (try dsimp only at hSw); (try go_simp); (try with_reducible rfl))
        (try simp only [oq29_5_5, Act.put, List.setIfInBounds_toArray, List.set_cons_zero, List.set_cons_succ])
        refine AnyL_take (i := 6) (oi := oq29_5_6) (v := ?_) rfl (by kernel_rfl) (by kernel_rfl) (by kernel_rfl) (by kernel_rfl) (fun _ _ _ h => h) (Or.inl ⟨by rfl, ?_⟩) (by assumption) ?_
        rotate_left
        · (delta oq29_5_6; intro ws hSw; (try dsimp only at hSw); (try go_simp); (try with_reducible rfl))
        (try simp only [oq29_5_6, Act.put, List.setIfInBounds_toArray, List.set_cons_zero, List.set_cons_succ])
        refine AnyL_take (i := 7) (oi := oq29_5_7) (v := ?_) rfl (by kernel_rfl) (by kernel_rfl) (by kernel_rfl) (by kernel_rfl) (fun _ _ _ h => h) (Or.inl ⟨by rfl, ?_⟩) (by assumption) ?_
        rotate_left
        · (delta oq29_5_7; intro ws hSw; (try dsimp only at hSw); (try go_simp); (try with_reducible rfl))
        (try simp only [oq29_5_7, Act.put, List.setIfInBounds_toArray, List.set_cons_zero, List.set_cons_succ])
        refine AnyL_ready (rs := [10]) (by kernel_rfl) (by simp) ?_
        refine ReadyL.cons (o := oq29_5_10) rfl (fun K hK => ?_) ReadyL.nil
        delta oq29_5_10
        have fz := Xd.1.frozen 0
        have cz := Xd.cell
        have lz := Xd.lt
        go_simp
        have XAn := XA.far (p := ⟨gXd, 0, none⟩) Xd.1 Xd.2.2 (by simp <;> omega) (.slice D8 (nw g) d8)
        have XPn := XP.far (p := ⟨gXd, 0, none⟩) Xd.1 Xd.2.2 (by simp <;> omega) (.slice D8 (nw g) d8)
        have XBn := XB.far (p := ⟨gXd, 0, none⟩) Xd.1 Xd.2.2 (by simp <;> omega) (.slice D8 (nw g) d8)
        have XQn := XQ.far (p := ⟨gXd, 0, none⟩) Xd.1 Xd.2.2 (by simp <;> omega) (.slice D8 (nw g) d8)
        have XRn := XR.far (p := ⟨gXd, 0, none⟩) Xd.1 Xd.2.2 (by simp <;> omega) (.slice D8 (nw g) d8)
        have Xin := Xi.far (p := ⟨gXd, 0, none⟩) Xd.1 Xd.2.2 (by simp <;> omega) (.slice D8 (nw g) d8)
        have Xdn := Xd.set_ (A' := D8) (n' := (nw g)) (c' := d8) (a' := g) (V8.1)
        have O7n := O7.box (p := ⟨gXd, 0, none⟩) Xd.1 (by decide) (.slice D8 (nw g) d8)
        have V8n := V8.box (p := ⟨gXd, 0, none⟩) Xd.1 Xd.2.2 (.slice D8 (nw g) d8)
        have O9n := O9.box (p := ⟨gXd, 0, none⟩) Xd.1 (by decide) (.slice D8 (nw g) d8)
        have WWn := WW.setCell (p := ⟨gXd, 0, none⟩) (by simp <;> omega) (.slice D8 (nw g) d8)
        refine hK.out _ _ (⟨XPn.cell, XQn.cell⟩) (fun hHeld2 => ?_)
        clear hK K hHeld
        (try simp only [oq29_5_10, Act.put, List.setIfInBounds_toArray, List.set_cons_zero, List.set_cons_succ])
        generalize hV : V11.setCell ⟨gXd, 0, none⟩ (.slice D8 (nw g) d8) = V12 at hHeld2 WWn XAn XPn XBn XQn XRn Xdn Xin O7n V8n O9n ⊢
        clear hV fz cz lz WW XA XP XB XQ XR Xd Xi O7 V8 O9
        have WW := WWn
        have XA := XAn
        have XP := XPn
        have XB := XBn
        have XQ := XQn
        have XR := XRn
        have Xd := Xdn
        have Xi := Xin
        have O7 := O7n
        have V8 := V8n
        have O9 := O9n
        have hHeld := hHeld2
        clear hHeld2
        clear WWn XAn XPn XBn XQn XRn Xdn Xin O7n V8n O9n
        refine AnyL_ready (rs := [11]) (by kernel_rfl) (by simp) ?_
        refine ReadyL.cons (o := oq29_5_11) rfl (fun K hK => ?_) ReadyL.nil
        delta oq29_5_11
        have fz := Xi.1.frozen 0
        have cz := Xi.cell
        have lz := Xi.lt
        go_simp
        have XAn := XA.far (p := ⟨gXi, 0, none⟩) Xi.1 Xi.2.2 (by simp <;> omega) (.slice D9 (nw x8) d9)
        have XPn := XP.far (p := ⟨gXi, 0, none⟩) Xi.1 Xi.2.2 (by simp <;> omega) (.slice D9 (nw x8) d9)
        have XBn := XB.far (p := ⟨gXi, 0, none⟩) Xi.1 Xi.2.2 (by simp <;> omega) (.slice D9 (nw x8) d9)
        have XQn := XQ.far (p := ⟨gXi, 0, none⟩) Xi.1 Xi.2.2 (by simp <;> omega) (.slice D9 (nw x8) d9)
        have XRn := XR.far (p := ⟨gXi, 0, none⟩) Xi.1 Xi.2.2 (by simp <;> omega) (.slice D9 (nw x8) d9)
        have Xdn := Xd.far (p := ⟨gXi, 0, none⟩) Xi.1 Xi.2.2 (by simp <;> omega) (.slice D9 (nw x8) d9)
        have Xin := Xi.set_ (A' := D9) (n' := (nw x8)) (c' := d9) (a' := x8) (.inr O9)
        have O7n := O7.box (p := ⟨gXi, 0, none⟩) Xi.1 (by decide) (.slice D9 (nw x8) d9)
        have V8n := V8.box (p := ⟨gXi, 0, none⟩) Xi.1 Xi.2.2 (.slice D9 (nw x8) d9)
        have O9n := O9.box (p := ⟨gXi, 0, none⟩) Xi.1 (by decide) (.slice D9 (nw x8) d9)
        have WWn := WW.setCell (p := ⟨gXi, 0, none⟩) (by simp <;> omega) (.slice D9 (nw x8) d9)
        refine hK.out _ _ (⟨XPn.cell, XQn.cell⟩) (fun hHeld2 => ?_)
        clear hK K hHeld
        (try simp only [oq29_5_11, Act.put, List.setIfInBounds_toArray, List.set_cons_zero, List.set_cons_succ])
        generalize hV : V12.setCell ⟨gXi, 0, none⟩ (.slice D9 (nw x8) d9) = V13 at hHeld2 WWn XAn XPn XBn XQn XRn Xdn Xin O7n V8n O9n ⊢
        clear hV fz cz lz WW XA XP XB XQ XR Xd Xi O7 V8 O9
        have WW := WWn
        have XA := XAn
        have XP := XPn
        have XB := XBn
        have XQ := XQn
        have XR := XRn
        have Xd := Xdn
        have Xi := Xin
        have O7 := O7n
        have V8 := V8n
        have O9 := O9n
        have hHeld := hHeld2
        clear hHeld2
        clear WWn XAn XPn XBn XQn XRn Xdn Xin O7n V8n O9n
        refine AnyL_done (by kernel_rfl) ?_ _
        clear hHeld
        refine NoPanic.normal ?_
        exact ⟨rfl, gXd, gXi, D7, d7, D8, d8, D9, d9, x8, rfl, WW, XA, XP, XB, XQ, XR, Xd, Xi, O7, V8, O9, (by first | exact mXdXR | omega), (by first | exact mXiXR | omega), (by first | exact nXdXi | omega), hx1, hx2⟩
    refine ReadyL.cons (o := oq29_5_9) rfl (fun K hK => ?_) ReadyL.nil
    · delta oq29_5_9
      have lqXR : w.heap.size + 1 + 1 + 1 + 1 < U6x0.heap.size := XR.lt
      go_simp
      have ba := (Below.refl U6x0.heap.size U6x0).alloc (Nat.le_refl _) (.cells #[.slice none 0 0] 24)
      have XAn := XA.below ba
      have XPn := XP.below ba
      have XBn := XB.below ba
      have XQn := XQ.below ba
      have XRn := XR.below ba
      have bn := Blk.new U6x0 24 #[.slice none 0 0]
      have Xin := VB.mk (B := w.heap.size) (a := 0) bn (.inr (Own.nil _ _ _ _ (Nat.zero_le _))) ba WW.size WW.size
      have WWn := WW.trans (ba.mono WW.size)
      have sn : U6x0.heap.size < (U6x0.alloc (.cells #[.slice none 0 0] 24)).heap.size := bn.lt
      refine hK.out _ _ (⟨XPn.cell, XQn.cell⟩) (fun hHeld2 => ?_)
      clear hK K hHeld
      (try simp only [oq29_5_9, Act.put, List.setIfInBounds_toArray, List.set_cons_zero, List.set_cons_succ])
      generalize hV : U6x0.alloc (.cells #[.slice none 0 0] 24) = V8 at hHeld2 sn WWn XAn XPn XBn XQn XRn Xin ⊢
      clear hV ba bn WW XA XP XB XQ XR
      have WW := WWn
      have XA := XAn
      have XP := XPn
      have XB := XBn
      have XQ := XQn
      have XR := XRn
      have Xi := Xin
      have sz8 := sn
      have hHeld := hHeld2
      clear sn hHeld2 WWn XAn XPn XBn XQn XRn Xin
      obtain ⟨gXi, hg⟩ : ∃ x, x = U6x0.heap.size := ⟨_, rfl⟩
      have mXiXR : w.heap.size + 1 + 1 + 1 + 1 < gXi := by omega
      rw [← hg] at Xi sz8 ⊢
      clear hg lqXR
      refine AnyL_ready (rs := [2, 8]) (by kernel_rfl) (by simp) ?_
      refine ReadyL.cons (o := oq29_5_2) rfl (fun K hK => ?_) ?_
      · delta oq29_5_2
        go_simp
        have hbs : w.heap.size ≤ V8.heap.size := WW.size
        have hc := remainder_any A2 A4 c2 c4 p q V8 XP.num XQ.num (by omega) (by omega) hqn
        rw [← HT.out] at hc
        refine hc.mono ?_
        clear hc
        rintro e V9 ⟨v, rfl, hv, hb⟩
        replace XA := XA.below hb
        replace XP := XP.below hb
        replace XB := XB.below hb
        replace XQ := XQ.below hb
        replace XR := XR.below hb
        replace Xi := Xi.below hb
        replace WW := WW.trans (hb.mono WW.size)
        have sz9 := hb.size
        obtain ⟨D7, d7, rfl, ho⟩ := hv
        have O7 := ho.weak (b := w.heap.size) hbs
        clear ho
        clear hb hbs
        refine hK.out _ _ (⟨XP.cell, XQ.cell⟩) (fun hHeld2 => ?_)
        clear hK K hHeld
        have hHeld := hHeld2
        clear hHeld2
        (try simp only [oq29_5_2, Act.put, List.setIfInBounds_toArray, List.set_cons_zero, List.set_cons_succ])
        refine AnyL_ready (rs := [4, 8]) (by kernel_rfl) (by simp) ?_
        refine ReadyL.cons (o := oq29_5_4) rfl (fun K hK => ?_) ?_
        · delta oq29_5_4
          go_simp
          have hbs : w.heap.size ≤ V9.heap.size := WW.size
          have hc := euclid_any D7 A4 d7 c4 t q V9 O7.num XQ.num nq HTQ.out w.heap.size WW.size (.inr O7) XQ.2.1
          refine hc.mono ?_
          clear hc
          rintro e V10 ⟨D8, d8, u, x8, rfl, hvv, hu, hb, hx1, hx2⟩
          replace XA := XA.below hb
          replace XP := XP.below hb
          replace XB := XB.below hb
          replace XQ := XQ.below hb
          replace XR := XR.below hb
          replace Xi := Xi.below hb
          replace O7 := O7.below hb (Nat.le_refl _)
          replace WW := WW.trans (hb.mono WW.size)
          have sz10 := hb.size
          rw [← HG.out] at hvv hx2 ⊢
          obtain ⟨D9, d9, rfl, ho⟩ := hu
          have O9 := ho.weak (b := w.heap.size) hbs
          have V8 : VL w.heap.size V10 D8 (nw g) d8 g := ⟨hvv, Nat.le_trans hbs hb.size⟩
          clear ho hvv
          clear hb hbs
          refine hK.out _ _ (⟨XP.cell, XQ.cell⟩) (fun hHeld2 => ?_)
          clear hK K hHeld
          have hHeld := hHeld2
          clear hHeld2
          (try simp only [oq29_5_4, Act.put, List.setIfInBounds_toArray, List.set_cons_zero, List.set_cons_succ])
          refine AnyL_take (i := 5) (oi := oq29_5_5) (v := ?_) rfl (by kernel_rfl) (by kernel_rfl) (by kernel_rfl) (by kernel_rfl) (fun _ _ _ h => h) (Or.inl ⟨by rfl, ?_⟩) (by assumption) ?_
          rotate_left
          · (delta oq29_5_5; intro ws hSw; (try dsimp only at hSw); (try go_simp); (try with_reducible rfl))
          (try simp only [oq29_5_5, Act.put, List.setIfInBounds_toArray, List.set_cons_zero, List.set_cons_succ])
          refine AnyL_take (i := 6) (oi := oq29_5_6) (v := ?_) rfl (by kernel_rfl) (by kernel_rfl) (by kernel_rfl) (by kernel_rfl) (fun _ _ _ h => h) (Or.inl ⟨by rfl, ?_⟩) (by assumption) ?_
          rotate_left
          · (delta oq29_5_6; intro ws hSw; (try dsimp only at hSw); (try go_simp); (try with_reducible rfl))
          (try simp only [oq29_5_6, Act.put, List.setIfInBounds_toArray, List.set_cons_zero, List.set_cons_succ])
          refine AnyL_take (i := 7) (oi := oq29_5_7) (v := ?_) rfl (by kernel_rfl) (by kernel_rfl) (by kernel_rfl) (by kernel_rfl) (fun _ _ _ h => h) (Or.inl ⟨by rfl, ?_⟩) (by assumption) ?_
          rotate_left
          · (delta oq29_5_7; intro ws hSw; (try dsimp only at hSw); (try go_simp); (try with_reducible rfl))
          (try simp only [oq29_5_7, Act.put, List.setIfInBounds_toArray, List.set_cons_zero, List.set_cons_succ])
          refine AnyL_ready (rs := [8]) (by kernel_rfl) (by simp) ?_
          refine ReadyL.cons (o := oq29_5_8) rfl (fun K hK => ?_) ReadyL.nil
          delta oq29_5_8
          have lqXR : w.heap.size + 1 + 1 + 1 + 1 < V10.heap.size := XR.lt
          have lXi : gXi < V10.heap.size := Xi.lt
          go_simp
          have ba := (Below.refl V10.heap.size V10).alloc (Nat.le_refl _) (.cells #[.slice none 0 0] 24)
          have XAn := XA.below ba
          have XPn := XP.below ba
          have XBn := XB.below ba
          have XQn := XQ.below ba
          have XRn := XR.below ba
          have Xin := Xi.below ba
          have O7n := O7.below ba (Nat.le_refl _)
          have V8n := V8.below ba (Nat.le_refl _)
          have O9n := O9.below ba (Nat.le_refl _)
          have bn := Blk.new V10 24 #[.slice none 0 0]
          have Xdn := VB.mk (B := w.heap.size) (a := 0) bn (.inr (Own.nil _ _ _ _ (Nat.zero_le _))) ba WW.size WW.size
          have WWn := WW.trans (ba.mono WW.size)
          have sn : V10.heap.size < (V10.alloc (.cells #[.slice none 0 0] 24)).heap.size := bn.lt
          refine hK.out _ _ (⟨XPn.cell, XQn.cell⟩) (fun hHeld2 => ?_)
          clear hK K hHeld
          (try simp only [oq29_5_8, Act.put, List.setIfInBounds_toArray, List.set_cons_zero, List.set_cons_succ])
          generalize hV : V10.alloc (.cells #[.slice none 0 0] 24) = V11 at hHeld2 sn WWn XAn XPn XBn XQn XRn Xin Xdn O7n V8n O9n ⊢
          clear hV ba bn WW XA XP XB XQ XR Xi O7 V8 O9
          have WW := WWn
          have XA := XAn
          have XP := XPn
          have XB := XBn
          have XQ := XQn
          have XR := XRn
          have Xi := Xin
          have Xd := Xdn
          have O7 := O7n
          have V8 := V8n
          have O9 := O9n
          have sz11 := sn
          have hHeld := hHeld2
          clear sn hHeld2 WWn XAn XPn XBn XQn XRn Xin Xdn O7n V8n O9n
          obtain ⟨gXd, hg⟩ : ∃ x, x = V10.heap.size := ⟨_, rfl⟩
          have mXdXR : w.heap.size + 1 + 1 + 1 + 1 < gXd := by omega
          have nXiXd : gXi ≠ gXd := by omega
          rw [← hg] at Xd sz11 ⊢
          clear hg lqXR lXi
          refine AnyL_ready (rs := [10]) (by kernel_rfl) (by simp) ?_
          refine ReadyL.cons (o := oq29_5_10) rfl (fun K hK => ?_) ReadyL.nil
          delta oq29_5_10
          have fz := Xd.1.frozen 0
          have cz := Xd.cell
          have lz := Xd.lt
          go_simp
          have XAn := XA.far (p := ⟨gXd, 0, none⟩) Xd.1 Xd.2.2 (by simp <;> omega) (.slice D8 (nw g) d8)
          have XPn := XP.far (p := ⟨gXd, 0, none⟩) Xd.1 Xd.2.2 (by simp <;> omega) (.slice D8 (nw g) d8)
          have XBn := XB.far (p := ⟨gXd, 0, none⟩) Xd.1 Xd.2.2 (by simp <;> omega) (.slice D8 (nw g) d8)
          have XQn := XQ.far (p := ⟨gXd, 0, none⟩) Xd.1 Xd.2.2 (by simp <;> omega) (.slice D8 (nw g) d8)
          have XRn := XR.far (p := ⟨gXd, 0, none⟩) Xd.1 Xd.2.2 (by simp <;> omega) (.slice D8 (nw g) d8)
          have Xin := Xi.far (p := ⟨gXd, 0, none⟩) Xd.1 Xd.2.2 (by simp <;> omega) (.slice D8 (nw g) d8)
          have Xdn := Xd.set_ (A' := D8) (n' := (nw g)) (c' := d8) (a' := g) (V8.1)
          have O7n := O7.box (p := ⟨gXd, 0, none⟩) Xd.1 (by decide) (.slice D8 (nw g) d8)
          have V8n := V8.box (p := ⟨gXd, 0, none⟩) Xd.1 Xd.2.2 (.slice D8 (nw g) d8)
          have O9n := O9.box (p := ⟨gXd, 0, none⟩) Xd.1 (by decide) (.slice D8 (nw g) d8)
          have WWn := WW.setCell (p := ⟨gXd, 0, none⟩) (by simp <;> omega) (.slice D8 (nw g) d8)
          refine hK.out _ _ (⟨XPn.cell, XQn.cell⟩) (fun hHeld2 => ?_)
          clear hK K hHeld
          (try simp only [oq29_5_10, Act.put, List.setIfInBounds_toArray, List.set_cons_zero, List.set_cons_succ])
          generalize hV : V11.setCell ⟨gXd, 0, none⟩ (.slice D8 (nw g) d8) = V12 at hHeld2 WWn XAn XPn XBn XQn XRn Xin Xdn O7n V8n O9n ⊢
          clear hV fz cz lz WW XA XP XB XQ XR Xi Xd O7 V8 O9
          have WW := WWn
          have XA := XAn
          have XP := XPn
          have XB := XBn
          have XQ := XQn
          have XR := XRn
          have Xi := Xin
          have Xd := Xdn
          have O7 := O7n
          have V8 := V8n
          have O9 := O9n
          have hHeld := hHeld2
          clear hHeld2
          clear WWn XAn XPn XBn XQn XRn Xin Xdn O7n V8n O9n
          refine AnyL_ready (rs := [11]) (by kernel_rfl) (by simp) ?_
          refine ReadyL.cons (o := oq29_5_11) rfl (fun K hK => ?_) ReadyL.nil
          delta oq29_5_11
          have fz := Xi.1.frozen 0
          have cz := Xi.cell
          have lz := Xi.lt
          go_simp
          have XAn := XA.far (p := ⟨gXi, 0, none⟩) Xi.1 Xi.2.2 (by simp <;> omega) (.slice D9 (nw x8) d9)
          have XPn := XP.far (p := ⟨gXi, 0, none⟩) Xi.1 Xi.2.2 (by simp <;> omega) (.slice D9 (nw x8) d9)
          have XBn := XB.far (p := ⟨gXi, 0, none⟩) Xi.1 Xi.2.2 (by simp <;> omega) (.slice D9 (nw x8) d9)
          have XQn := XQ.far (p := ⟨gXi, 0, none⟩) Xi.1 Xi.2.2 (by simp <;> omega) (.slice D9 (nw x8) d9)
          have XRn := XR.far (p := ⟨gXi, 0, none⟩) Xi.1 Xi.2.2 (by simp <;> omega) (.slice D9 (nw x8) d9)
          have Xdn := Xd.far (p := ⟨gXi, 0, none⟩) Xi.1 Xi.2.2 (by simp <;> omega) (.slice D9 (nw x8) d9)
          have Xin := Xi.set_ (A' := D9) (n' := (nw x8)) (c' := d9) (a' := x8) (.inr O9)
          have O7n := O7.box (p := ⟨gXi, 0, none⟩) Xi.1 (by decide) (.slice D9 (nw x8) d9)
          have V8n := V8.box (p := ⟨gXi, 0, none⟩) Xi.1 Xi.2.2 (.slice D9 (nw x8) d9)
          have O9n := O9.box (p := ⟨gXi, 0, none⟩) Xi.1 (by decide) (.slice D9 (nw x8) d9)
          have WWn := WW.setCell (p := ⟨gXi, 0, none⟩) (by simp <;> omega) (.slice D9 (nw x8) d9)
          refine hK.out _ _ (⟨XPn.cell, XQn.cell⟩) (fun hHeld2 => ?_)
          clear hK K hHeld
          (try simp only [oq29_5_11, Act.put, List.setIfInBounds_toArray, List.set_cons_zero, List.set_cons_succ])
          generalize hV : V12.setCell ⟨gXi, 0, none⟩ (.slice D9 (nw x8) d9) = V13 at hHeld2 WWn XAn XPn XBn XQn XRn Xin Xdn O7n V8n O9n ⊢
          clear hV fz cz lz WW XA XP XB XQ XR Xi Xd O7 V8 O9
          have WW := WWn
          have XA := XAn
          have XP := XPn
          have XB := XBn
          have XQ := XQn
          have XR := XRn
          have Xi := Xin
          have Xd := Xdn
          have O7 := O7n
          have V8 := V8n
          have O9 := O9n
          have hHeld := hHeld2
          clear hHeld2
          clear WWn XAn XPn XBn XQn XRn Xin Xdn O7n V8n O9n
          refine AnyL_done (by kernel_rfl) ?_ _
          clear hHeld
          refine NoPanic.normal ?_
          exact ⟨rfl, gXd, gXi, D7, d7, D8, d8, D9, d9, x8, rfl, WW, XA, XP, XB, XQ, XR, Xd, Xi, O7, V8, O9, (by first | exact mXdXR | omega), (by first | exact mXiXR | omega), (by first | exact nXdXi | omega), hx1, hx2⟩
        refine ReadyL.cons (o := oq29_5_8) rfl (fun K hK => ?_) ReadyL.nil
        · delta oq29_5_8
          have lqXR : w.heap.size + 1 + 1 + 1 + 1 < V9.heap.size := XR.lt
          have lXi : gXi < V9.heap.size := Xi.lt
          go_simp
          have ba := (Below.refl V9.heap.size V9).alloc (Nat.le_refl _) (.cells #[.slice none 0 0] 24)
          have XAn := XA.below ba
          have XPn := XP.below ba
          have XBn := XB.below ba
          have XQn := XQ.below ba
          have XRn := XR.below ba
          have Xin := Xi.below ba
          have O7n := O7.below ba (Nat.le_refl _)
          have bn := Blk.new V9 24 #[.slice none 0 0]
          have Xdn := VB.mk (B := w.heap.size) (a := 0) bn (.inr (Own.nil _ _ _ _ (Nat.zero_le _))) ba WW.size WW.size
          have WWn := WW.trans (ba.mono WW.size)
          have sn : V9.heap.size < (V9.alloc (.cells #[.slice none 0 0] 24)).heap.size := bn.lt
          refine hK.out _ _ (⟨XPn.cell, XQn.cell⟩) (fun hHeld2 => ?_)
          clear hK K hHeld
          (try simp only [oq29_5_8, Act.put, List.setIfInBounds_toArray, List.set_cons_zero, List.set_cons_succ])
          generalize hV : V9.alloc (.cells #[.slice none 0 0] 24) = V10 at hHeld2 sn WWn XAn XPn XBn XQn XRn Xin Xdn O7n ⊢
          clear hV ba bn WW XA XP XB XQ XR Xi O7
          have WW := WWn
          have XA := XAn
          have XP := XPn
          have XB := XBn
          have XQ := XQn
          have XR := XRn
          have Xi := Xin
          have Xd := Xdn
          have O7 := O7n
          have sz10 := sn
          have hHeld := hHeld2
          clear sn hHeld2 WWn XAn XPn XBn XQn XRn Xin Xdn O7n
          obtain ⟨gXd, hg⟩ : ∃ x, x = V9.heap.size := ⟨_, rfl⟩
          have mXdXR : w.heap.size + 1 + 1 + 1 + 1 < gXd := by omega
          have nXiXd : gXi ≠ gXd := by omega
          rw [← hg] at Xd sz10 ⊢
          clear hg lqXR lXi
          refine AnyL_ready (rs := [4]) (by kernel_rfl) (by simp) ?_
          refine ReadyL.cons (o := oq29_5_4) rfl (fun K hK => ?_) ReadyL.nil
          delta oq29_5_4
          go_simp
          have hbs : w.heap.size ≤ V10.heap.size := WW.size
          have hc := euclid_any D7 A4 d7 c4 t q V10 O7.num XQ.num nq HTQ.out w.heap.size WW.size (.inr O7) XQ.2.1
          refine hc.mono ?_
          clear hc
          rintro e V11 ⟨D8, d8, u, x8, rfl, hvv, hu, hb, hx1, hx2⟩
          replace XA := XA.below hb
          replace XP := XP.below hb
          replace XB := XB.below hb
          replace XQ := XQ.below hb
          replace XR := XR.below hb
          replace Xi := Xi.below hb
          replace Xd := Xd.below hb
          replace O7 := O7.below hb (Nat.le_refl _)
          replace WW := WW.trans (hb.mono WW.size)
          have sz11 := hb.size
          rw [← HG.out] at hvv hx2 ⊢
          obtain ⟨D9, d9, rfl, ho⟩ := hu
          have O9 := ho.weak (b := w.heap.size) hbs
          have V8 : VL w.heap.size V11 D8 (nw g) d8 g := ⟨hvv, Nat.le_trans hbs hb.size⟩
          clear ho hvv
          clear hb hbs
          refine hK.out _ _ (⟨XP.cell, XQ.cell⟩) (fun hHeld2 => ?_)
          clear hK K hHeld
          have hHeld := hHeld2
          clear hHeld2
          (try simp only [oq29_5_4, Act.put, List.setIfInBounds_toArray, List.set_cons_zero, List.set_cons_succ])
          refine AnyL_take (i := 5) (oi := oq29_5_5) (v := ?_) rfl (by kernel_rfl) (by kernel_rfl) (by kernel_rfl) (by kernel_rfl) (fun _ _ _ h => h) (Or.inl ⟨by rfl, ?_⟩) (by assumption) ?_
          rotate_left
          · (delta oq29_5_5; intro ws hSw; (try dsimp only at hSw); (try go_simp); (try with_reducible rfl))
          (try simp only [oq29_5_5, Act.put, List.setIfInBounds_toArray, List.set_cons_zero, List.set_cons_succ])
          refine AnyL_take (i := 6) (oi := oq29_5_6) (v := ?_) rfl (by kernel_rfl) (by kernel_rfl) (by kernel_rfl) (by kernel_rfl) (fun _ _ _ h => h) (Or.inl ⟨by rfl, ?_⟩) (by assumption) ?_
          rotate_left
          · (delta oq29_5_6; intro ws hSw; (try dsimp only at hSw); (try go_simp); (try with_reducible rfl))
          (try simp only [oq29_5_6, Act.put, List.setIfInBounds_toArray, List.set_cons_zero, List.set_cons_succ])
          refine AnyL_take (i := 7) (oi := oq29_5_7) (v := ?_) rfl (by kernel_rfl) (by kernel_rfl) (by kernel_rfl) (by kernel_rfl) (fun _ _ _ h => h) (Or.inl ⟨by rfl, ?_⟩) (by assumption) ?_
          rotate_left
          · (delta oq29_5_7; intro ws hSw; (try dsimp only at hSw); (try go_simp); (try with_reducible rfl))
          (try simp only [oq29_5_7, Act.put, List.setIfInBounds_toArray, List.set_cons_zero, List.set_cons_succ])
          refine AnyL_ready (rs := [10]) (by kernel_rfl) (by simp) ?_
          refine ReadyL.cons (o := oq29_5_10) rfl (fun K hK => ?_) ReadyL.nil
          delta oq29_5_10
          have fz := Xd.1.frozen 0
          have cz := Xd.cell
          have lz := Xd.lt
          go_simp
          have XAn := XA.far (p := ⟨gXd, 0, none⟩) Xd.1 Xd.2.2 (by simp <;> omega) (.slice D8 (nw g) d8)
          have XPn := XP.far (p := ⟨gXd, 0, none⟩) Xd.1 Xd.2.2 (by simp <;> omega) (.slice D8 (nw g) d8)
          have XBn := XB.far (p := ⟨gXd, 0, none⟩) Xd.1 Xd.2.2 (by simp <;> omega) (.slice D8 (nw g) d8)
          have XQn := XQ.far (p := ⟨gXd, 0, none⟩) Xd.1 Xd.2.2 (by simp <;> omega) (.slice D8 (nw g) d8)
          have XRn := XR.far (p := ⟨gXd, 0, none⟩) Xd.1 Xd.2.2 (by simp <;> omega) (.slice D8 (nw g) d8)
          have Xin := Xi.far (p := ⟨gXd, 0, none⟩) Xd.1 Xd.2.2 (by simp <;> omega) (.slice D8 (nw g) d8)
          have Xdn := Xd.set_ (A' := D8) (n' := (nw g)) (c' := d8) (a' := g) (V8.1)
          have O7n := O7.box (p := ⟨gXd, 0, none⟩) Xd.1 (by decide) (.slice D8 (nw g) d8)
          have V8n := V8.box (p := ⟨gXd, 0, none⟩) Xd.1 Xd.2.2 (.slice D8 (nw g) d8)
          have O9n := O9.box (p := ⟨gXd, 0, none⟩) Xd.1 (by decide) (.slice D8 (nw g) d8)
          have WWn := WW.setCell (p := ⟨gXd, 0, none⟩) (by simp <;> omega) (.slice D8 (nw g) d8)
          refine hK.out _ _ (⟨XPn.cell, XQn.cell⟩) (fun hHeld2 => ?_)
          clear hK K hHeld
          (try simp only [oq29_5_10, Act.put, List.setIfInBounds_toArray, List.set_cons_zero, List.set_cons_succ])
          generalize hV : V11.setCell ⟨gXd, 0, none⟩ (.slice D8 (nw g) d8) = V12 at hHeld2 WWn XAn XPn XBn XQn XRn Xin Xdn O7n V8n O9n ⊢
          clear hV fz cz lz WW XA XP XB XQ XR Xi Xd O7 V8 O9
          have WW := WWn
          have XA := XAn
          have XP := XPn
          have XB := XBn
          have XQ := XQn
          have XR := XRn
          have Xi := Xin
          have Xd := Xdn
          have O7 := O7n
          have V8 := V8n
          have O9 := O9n
          have hHeld := hHeld2
          clear hHeld2
          clear WWn XAn XPn XBn XQn XRn Xin Xdn O7n V8n O9n
          refine AnyL_ready (rs := [11]) (by kernel_rfl) (by simp) ?_
          refine ReadyL.cons (o := oq29_5_11) rfl (fun K hK => ?_) ReadyL.nil
          delta oq29_5_11
          have fz := Xi.1.frozen 0
          have cz := Xi.cell
          have lz := Xi.lt
          go_simp
          have XAn := XA.far (p := ⟨gXi, 0, none⟩) Xi.1 Xi.2.2 (by simp <;> omega) (.slice D9 (nw x8) d9)
          have XPn := XP.far (p := ⟨gXi, 0, none⟩) Xi.1 Xi.2.2 (by simp <;> omega) (.slice D9 (nw x8) d9)
          have XBn := XB.far (p := ⟨gXi, 0, none⟩) Xi.1 Xi.2.2 (by simp <;> omega) (.slice D9 (nw x8) d9)
          have XQn := XQ.far (p := ⟨gXi, 0, none⟩) Xi.1 Xi.2.2 (by simp <;> omega) (.slice D9 (nw x8) d9)
          have XRn := XR.far (p := ⟨gXi, 0, none⟩) Xi.1 Xi.2.2 (by simp <;> omega) (.slice D9 (nw x8) d9)
          have Xdn := Xd.far (p := ⟨gXi, 0, none⟩) Xi.1 Xi.2.2 (by simp <;> omega) (.slice D9 (nw x8) d9)
          have Xin := Xi.set_ (A' := D9) (n' := (nw x8)) (c' := d9) (a' := x8) (.inr O9)
          have O7n := O7.box (p := ⟨gXi, 0, none⟩) Xi.1 (by decide) (.slice D9 (nw x8) d9)
          have V8n := V8.box (p := ⟨gXi, 0, none⟩) Xi.1 Xi.2.2 (.slice D9 (nw x8) d9)
          have O9n := O9.box (p := ⟨gXi, 0, none⟩) Xi.1 (by decide) (.slice D9 (nw x8) d9)
          have WWn := WW.setCell (p := ⟨gXi, 0, none⟩) (by simp <;> omega) (.slice D9 (nw x8) d9)
          refine hK.out _ _ (⟨XPn.cell, XQn.cell⟩) (fun hHeld2 => ?_)
          clear hK K hHeld
          (try simp only [oq29_5_11, Act.put, List.setIfInBounds_toArray, List.set_cons_zero, List.set_cons_succ])
          generalize hV : V12.setCell ⟨gXi, 0, none⟩ (.slice D9 (nw x8) d9) = V13 at hHeld2 WWn XAn XPn XBn XQn XRn Xin Xdn O7n V8n O9n ⊢
          clear hV fz cz lz WW XA XP XB XQ XR Xi Xd O7 V8 O9
          have WW := WWn
          have XA := XAn
          have XP := XPn
          have XB := XBn
          have XQ := XQn
          have XR := XRn
          have Xi := Xin
          have Xd := Xdn
          have O7 := O7n
          have V8 := V8n
          have O9 := O9n
          have hHeld := hHeld2
          clear hHeld2
          clear WWn XAn XPn XBn XQn XRn Xin Xdn O7n V8n O9n
          refine AnyL_done (by kernel_rfl) ?_ _
          clear hHeld
          refine NoPanic.normal ?_
          exact ⟨rfl, gXd, gXi, D7, d7, D8, d8, D9, d9, x8, rfl, WW, XA, XP, XB, XQ, XR, Xd, Xi, O7, V8, O9, (by first | exact mXdXR | omega), (by first | exact mXiXR | omega), (by first | exact nXdXi | omega), hx1, hx2⟩
      refine ReadyL.cons (o := oq29_5_8) rfl (fun K hK => ?_) ReadyL.nil
      · delta oq29_5_8
        have lqXR : w.heap.size + 1 + 1 + 1 + 1 < V8.heap.size := XR.lt
        have lXi : gXi < V8.heap.size := Xi.lt
        go_simp
        have ba := (Below.refl V8.heap.size V8).alloc (Nat.le_refl _) (.cells #[.slice none 0 0] 24)
        have XAn := XA.below ba
        have XPn := XP.below ba
        have XBn := XB.below ba
        have XQn := XQ.below ba
        have XRn := XR.below ba
        have Xin := Xi.below ba
        have bn := Blk.new V8 24 #[.slice none 0 0]
        have Xdn := VB.mk (B := w.heap.size) (a := 0) bn (.inr (Own.nil _ _ _ _ (Nat.zero_le _))) ba WW.size WW.size
        have WWn := WW.trans (ba.mono WW.size)
        have sn : V8.heap.size < (V8.alloc (.cells #[.slice none 0 0] 24)).heap.size := bn.lt
        refine hK.out _ _ (⟨XPn.cell, XQn.cell⟩) (fun hHeld2 => ?_)
        clear hK K hHeld
        (try simp only [oq29_5_8, Act.put, List.setIfInBounds_toArray, List.set_cons_zero, List.set_cons_succ])
        generalize hV : V8.alloc (.cells #[.slice none 0 0] 24) = V9 at hHeld2 sn WWn XAn XPn XBn XQn XRn Xin Xdn ⊢
        clear hV ba bn WW XA XP XB XQ XR Xi
        have WW := WWn
        have XA := XAn
        have XP := XPn
        have XB := XBn
        have XQ := XQn
        have XR := XRn
        have Xi := Xin
        have Xd := Xdn
        have sz9 := sn
        have hHeld := hHeld2
        clear sn hHeld2 WWn XAn XPn XBn XQn XRn Xin Xdn
        obtain ⟨gXd, hg⟩ : ∃ x, x = V8.heap.size := ⟨_, rfl⟩
        have mXdXR : w.heap.size + 1 + 1 + 1 + 1 < gXd := by omega
        have nXiXd : gXi ≠ gXd := by omega
        rw [← hg] at Xd sz9 ⊢
        clear hg lqXR lXi
        refine AnyL_ready (rs := [2]) (by kernel_rfl) (by simp) ?_
        refine ReadyL.cons (o := oq29_5_2) rfl (fun K hK => ?_) ReadyL.nil
        delta oq29_5_2
        go_simp
        have hbs : w.heap.size ≤ V9.heap.size := WW.size
        have hc := remainder_any A2 A4 c2 c4 p q V9 XP.num XQ.num (by omega) (by omega) hqn
        rw [← HT.out] at hc
        refine hc.mono ?_
        clear hc
        rintro e V10 ⟨v, rfl, hv, hb⟩
        replace XA := XA.below hb
        replace XP := XP.below hb
        replace XB := XB.below hb
        replace XQ := XQ.below hb
        replace XR := XR.below hb
        replace Xi := Xi.below hb
        replace Xd := Xd.below hb
        replace WW := WW.trans (hb.mono WW.size)
        have sz10 := hb.size
        obtain ⟨D7, d7, rfl, ho⟩ := hv
        have O7 := ho.weak (b := w.heap.size) hbs
        clear ho
        clear hb hbs
        refine hK.out _ _ (⟨XP.cell, XQ.cell⟩) (fun hHeld2 => ?_)
        clear hK K hHeld
        have hHeld := hHeld2
        clear hHeld2
        (try simp only [oq29_5_2, Act.put, List.setIfInBounds_toArray, List.set_cons_zero, List.set_cons_succ])
        refine AnyL_ready (rs := [4]) (by kernel_rfl) (by simp) ?_
        refine ReadyL.cons (o := oq29_5_4) rfl (fun K hK => ?_) ReadyL.nil
        delta oq29_5_4
        go_simp
        have hbs : w.heap.size ≤ V10.heap.size := WW.size
        have hc := euclid_any D7 A4 d7 c4 t q V10 O7.num XQ.num nq HTQ.out w.heap.size WW.size (.inr O7) XQ.2.1
        refine hc.mono ?_
        clear hc
        rintro e V11 ⟨D8, d8, u, x8, rfl, hvv, hu, hb, hx1, hx2⟩
        replace XA := XA.below hb
        replace XP := XP.below hb
        replace XB := XB.below hb
        replace XQ := XQ.below hb
        replace XR := XR.below hb
        replace Xi := Xi.below hb
        replace Xd := Xd.below hb
        replace O7 := O7.below hb (Nat.le_refl _)
        replace WW := WW.trans (hb.mono WW.size)
        have sz11 := hb.size
        rw [← HG.out] at hvv hx2 ⊢
        obtain ⟨D9, d9, rfl, ho⟩ := hu
        have O9 := ho.weak (b := w.heap.size) hbs
        have V8 : VL w.heap.size V11 D8 (nw g) d8 g := ⟨hvv, Nat.le_trans hbs hb.size⟩
        clear ho hvv
        clear hb hbs
        refine hK.out _ _ (⟨XP.cell, XQ.cell⟩) (fun hHeld2 => ?_)
        clear hK K hHeld
        have hHeld := hHeld2
        clear hHeld2
        (try simp only [oq29_5_4, Act.put, List.setIfInBounds_toArray, List.set_cons_zero, List.set_cons_succ])
        refine AnyL_take (i := 5) (oi := oq29_5_5) (v := ?_) rfl (by kernel_rfl) (by kernel_rfl) (by kernel_rfl) (by kernel_rfl) (fun _ _ _ h => h) (Or.inl ⟨by rfl, ?_⟩) (by assumption) ?_
        rotate_left
        · (delta oq29_5_5; intro ws hSw; (try dsimp only at hSw); (try go_simp); (try with_reducible rfl))
        (try simp only [oq29_5_5, Act.put, List.setIfInBounds_toArray, List.set_cons_zero, List.set_cons_succ])
        refine AnyL_take (i := 6) (oi := oq29_5_6) (v := ?_) rfl (by kernel_rfl) (by kernel_rfl) (by kernel_rfl) (by kernel_rfl) (fun _ _ _ h => h) (Or.inl ⟨by rfl, ?_⟩) (by assumption) ?_
        rotate_left
        · (delta oq29_5_6; intro ws hSw; (try dsimp only at hSw); (try go_simp); (try with_reducible rfl))
        (try simp only [oq29_5_6, Act.put, List.setIfInBounds_toArray, List.set_cons_zero, List.set_cons_succ])
        refine AnyL_take (i := 7) (oi := oq29_5_7) (v := ?_) rfl (by kernel_rfl) (by kernel_rfl) (by kernel_rfl) (by kernel_rfl) (fun _ _ _ h => h) (Or.inl ⟨by rfl, ?_⟩) (by assumption) ?_
        rotate_left
        · (delta oq29_5_7; intro ws hSw; (try dsimp only at hSw); (try go_simp); (try with_reducible rfl))
        (try simp only [oq29_5_7, Act.put, List.setIfInBounds_toArray, List.set_cons_zero, List.set_cons_succ])
        refine AnyL_ready (rs := [10]) (by kernel_rfl) (by simp) ?_
        refine ReadyL.cons (o := oq29_5_10) rfl (fun K hK => ?_) ReadyL.nil
        delta oq29_5_10
        have fz := Xd.1.frozen 0
        have cz := Xd.cell
        have lz := Xd.lt
        go_simp
        have XAn := XA.far (p := ⟨gXd, 0, none⟩) Xd.1 Xd.2.2 (by simp <;> omega) (.slice D8 (nw g) d8)
        have XPn := XP.far (p := ⟨gXd, 0, none⟩) Xd.1 Xd.2.2 (by simp <;> omega) (.slice D8 (nw g) d8)
        have XBn := XB.far (p := ⟨gXd, 0, none⟩) Xd.1 Xd.2.2 (by simp <;> omega) (.slice D8 (nw g) d8)
        have XQn := XQ.far (p := ⟨gXd, 0, none⟩) Xd.1 Xd.2.2 (by simp <;> omega) (.slice D8 (nw g) d8)
        have XRn := XR.far (p := ⟨gXd, 0, none⟩) Xd.1 Xd.2.2 (by simp <;> omega) (.slice D8 (nw g) d8)
        have Xin := Xi.far (p := ⟨gXd, 0, none⟩) Xd.1 Xd.2.2 (by simp <;> omega) (.slice D8 (nw g) d8)
        have Xdn := Xd.set_ (A' := D8) (n' := (nw g)) (c' := d8) (a' := g) (V8.1)
        have O7n := O7.box (p := ⟨gXd, 0, none⟩) Xd.1 (by decide) (.slice D8 (nw g) d8)
        have V8n := V8.box (p := ⟨gXd, 0, none⟩) Xd.1 Xd.2.2 (.slice D8 (nw g) d8)
        have O9n := O9.box (p := ⟨gXd, 0, none⟩) Xd.1 (by decide) (.slice D8 (nw g) d8)
        have WWn := WW.setCell (p := ⟨gXd, 0, none⟩) (by simp <;> omega) (.slice D8 (nw g) d8)
        refine hK.out _ _ (⟨XPn.cell, XQn.cell⟩) (fun hHeld2 => ?_)
        clear hK K hHeld
        (try simp only [oq29_5_10, Act.put, List.setIfInBounds_toArray, List.set_cons_zero, List.set_cons_succ])
        generalize hV : V11.setCell ⟨gXd, 0, none⟩ (.slice D8 (nw g) d8) = V12 at hHeld2 WWn XAn XPn XBn XQn XRn Xin Xdn O7n V8n O9n ⊢
        clear hV fz cz lz WW XA XP XB XQ XR Xi Xd O7 V8 O9
        have WW := WWn
        have XA := XAn
        have XP := XPn
        have XB := XBn
        have XQ := XQn
        have XR := XRn
        have Xi := Xin
        have Xd := Xdn
        have O7 := O7n
        have V8 := V8n
        have O9 := O9n
        have hHeld := hHeld2
        clear hHeld2
        clear WWn XAn XPn XBn XQn XRn Xin Xdn O7n V8n O9n
        refine AnyL_ready (rs := [11]) (by kernel_rfl) (by simp) ?_
        refine ReadyL.cons (o := oq29_5_11) rfl (fun K hK => ?_) ReadyL.nil
        delta oq29_5_11
        have fz := Xi.1.frozen 0
        have cz := Xi.cell
        have lz := Xi.lt
        go_simp
        have XAn := XA.far (p := ⟨gXi, 0, none⟩) Xi.1 Xi.2.2 (by simp <;> omega) (.slice D9 (nw x8) d9)
        have XPn := XP.far (p := ⟨gXi, 0, none⟩) Xi.1 Xi.2.2 (by simp <;> omega) (.slice D9 (nw x8) d9)
        have XBn := XB.far (p := ⟨gXi, 0, none⟩) Xi.1 Xi.2.2 (by simp <;> omega) (.slice D9 (nw x8) d9)
        have XQn := XQ.far (p := ⟨gXi, 0, none⟩) Xi.1 Xi.2.2 (by simp <;> omega) (.slice D9 (nw x8) d9)
        have XRn := XR.far (p := ⟨gXi, 0, none⟩) Xi.1 Xi.2.2 (by simp <;> omega) (.slice D9 (nw x8) d9)
        have Xdn := Xd.far (p := ⟨gXi, 0, none⟩) Xi.1 Xi.2.2 (by simp <;> omega) (.slice D9 (nw x8) d9)
        have Xin := Xi.set_ (A' := D9) (n' := (nw x8)) (c' := d9) (a' := x8) (.inr O9)
        have O7n := O7.box (p := ⟨gXi, 0, none⟩) Xi.1 (by decide) (.slice D9 (nw x8) d9)
        have V8n := V8.box (p := ⟨gXi, 0, none⟩) Xi.1 Xi.2.2 (.slice D9 (nw x8) d9)
        have O9n := O9.box (p := ⟨gXi, 0, none⟩) Xi.1 (by decide) (.slice D9 (nw x8) d9)
        have WWn := WW.setCell (p := ⟨gXi, 0, none⟩) (by simp <;> omega) (.slice D9 (nw x8) d9)
        refine hK.out _ _ (⟨XPn.cell, XQn.cell⟩) (fun hHeld2 => ?_)
        clear hK K hHeld
        (try simp only [oq29_5_11, Act.put, List.setIfInBounds_toArray, List.set_cons_zero, List.set_cons_succ])
        generalize hV : V12.setCell ⟨gXi, 0, none⟩ (.slice D9 (nw x8) d9) = V13 at hHeld2 WWn XAn XPn XBn XQn XRn Xin Xdn O7n V8n O9n ⊢
        clear hV fz cz lz WW XA XP XB XQ XR Xi Xd O7 V8 O9
        have WW := WWn
        have XA := XAn
        have XP := XPn
        have XB := XBn
        have XQ := XQn
        have XR := XRn
        have Xi := Xin
        have Xd := Xdn
        have O7 := O7n
        have V8 := V8n
        have O9 := O9n
        have hHeld := hHeld2
        clear hHeld2
        clear WWn XAn XPn XBn XQn XRn Xin Xdn O7n V8n O9n
        refine AnyL_done (by kernel_rfl) ?_ _
        clear hHeld
        refine NoPanic.normal ?_
        exact ⟨rfl, gXd, gXi, D7, d7, D8, d8, D9, d9, x8, rfl, WW, XA, XP, XB, XQ, XR, Xd, Xi, O7, V8, O9, (by first | exact mXdXR | omega), (by first | exact mXiXR | omega), (by first | exact nXdXi | omega), hx1, hx2⟩
  rintro gXd gXi D7 d7 D8 d8 D9 d9 x8 V56 ⟨WW, XA, XP, XB, XQ, XR, Xd, Xi, O7, V8, O9, mXdXR, mXiXR, nXdXi, hx1, hx2⟩
  have kXA := XA.cell
  have zXA := XA.lt
  have kXP := XP.cell
  have zXP := XP.lt
  have kXB := XB.cell
  have zXB := XB.lt
  have kXQ := XQ.cell
  have zXQ := XQ.lt
  have kXR := XR.cell
  have zXR := XR.lt
  have kXd := Xd.cell
  have zXd := Xd.lt
  have kXi := Xi.cell
  have zXi := Xi.lt
  have HX1 := hid hx1
  have HX2 := hid hx2
  have n8 : nw x8 ≤ 32 := Nat.le_trans (nw_mono (Nat.le_of_lt hx1)) nq
  clear hx1 hx2
  go_wp2_with fail
  have hbs : w.heap.size ≤ V56.heap.size := WW.size
  have hc := mul_any A2 A4 _ _ c2 c4 p q V56 XP.num XQ.num (by omega) (by omega)
  rw [bothS_yes K3.out K4.out] at hc
  rw [← HPQ.out] at hc
  rw [LPQ.out] at hc
  refine hc.mono ?_
  clear hc
  rintro e V57 ⟨v, rfl, hv, hb⟩
  clear kXA zXA kXP zXP kXB zXB kXQ zXQ kXR zXR kXd zXd kXi zXi
  replace XA := XA.below hb
  replace XP := XP.below hb
  replace XB := XB.below hb
  replace XQ := XQ.below hb
  replace XR := XR.below hb
  replace Xd := Xd.below hb
  replace Xi := Xi.below hb
  replace O7 := O7.below hb (Nat.le_refl _)
  replace V8 := V8.below hb (Nat.le_refl _)
  replace O9 := O9.below hb (Nat.le_refl _)
  replace WW := WW.trans (hb.mono WW.size)
  obtain ⟨D12, d12, rfl, ho⟩ := hv
  have O12 := ho.weak (b := w.heap.size) hbs
  clear ho
  have kXA := XA.cell
  have zXA := XA.lt
  have kXP := XP.cell
  have zXP := XP.lt
  have kXB := XB.cell
  have zXB := XB.lt
  have kXQ := XQ.cell
  have zXQ := XQ.lt
  have kXR := XR.cell
  have zXR := XR.lt
  have kXd := Xd.cell
  have zXd := Xd.lt
  have kXi := Xi.cell
  have zXi := Xi.lt
  clear hb hbs
  go_wp2_with fail
  obtain ⟨b0, bw⟩ := boxes1 V57 (.slice D12 (nw pq) d12)
  have hbs := WW.size
  clear kXA zXA kXP zXP kXB zXB kXQ zXQ kXR zXR kXd zXd kXi zXi
  have qXd58 := Xd.lt
  have qXi58 := Xi.lt
  have qXR58 := XR.lt
  have X12 := VB.mk (B := w.heap.size) (a := pq) b0 (.inr O12) bw hbs (by omega)
  replace XA := XA.below bw
  replace XP := XP.below bw
  replace XB := XB.below bw
  replace XQ := XQ.below bw
  replace XR := XR.below bw
  replace Xd := Xd.below bw
  replace Xi := Xi.below bw
  replace O7 := O7.below bw (Nat.le_refl _)
  replace V8 := V8.below bw (Nat.le_refl _)
  replace O9 := O9.below bw (Nat.le_refl _)
  replace O12 := O12.below bw (Nat.le_refl _)
  replace WW := WW.trans (bw.mono WW.size)
  clear bw hbs b0
  generalize hV : (V57.alloc (.cells #[.slice D12 (nw pq) d12] 24)) = V58 at XA XP XB XQ XR Xd Xi X12 O7 V8 O9 O12 WW ⊢
  clear hV
  have kXA := XA.cell
  have zXA := XA.lt
  have kXP := XP.cell
  have zXP := XP.lt
  have kXB := XB.cell
  have zXB := XB.lt
  have kXQ := XQ.cell
  have zXQ := XQ.lt
  have kXR := XR.cell
  have zXR := XR.lt
  have kXd := Xd.cell
  have zXd := Xd.lt
  have kXi := Xi.cell
  have zXi := Xi.lt
  have kX12 := X12.cell
  have zX12 := X12.lt
  by_cases h7 : Nat.gcd p q = 1
  · have HG1 := hid h7
    have OD : Hid (ordN g 1 = 0) := ordN_zero.2 (by rw [HGP.out]; exact h7)
    clear h7
    have WWd := WW.drew
    have XAd := XA.drew
    have XPd := XP.drew
    have XBd := XB.drew
    have XQd := XQ.drew
    have XRd := XR.drew
    have Xdd := Xd.drew
    have Xid := Xi.drew
    have X12d := X12.drew
    have O7d := O7.drew
    have V8d := V8.drew
    have O9d := O9.drew
    have O12d := O12.drew
    have hst : (fun w' => w'.cell? ⟨gXd, 0, none⟩ = some (.slice D8 (nw g) d8)) V58.drew := Xd.cell
    clear WW kXA zXA kXP zXP kXB zXB kXQ zXQ kXR zXR kXd zXd kXi zXi kX12 zX12 XA XP XB XQ XR Xd Xi X12 O7 V8 O9 O12
    have qq0 := X12d.lt
    refine region_L 12 (fun w' => w'.cell? ⟨gXd, 0, none⟩ = some (.slice D8 (nw g) d8)) (by kernel_rfl) hst (fun hHeld => ?_)
    clear hst
    generalize hV : V58.drew = U58x0 at hHeld WWd qq0 XAd XPd XBd XQd XRd Xdd Xid X12d O7d V8d O9d O12d ⊢
    clear hV
    have WW := WWd
    have XA := XAd
    have XP := XPd
    have XB := XBd
    have XQ := XQd
    have XR := XRd
    have Xd := Xdd
    have Xi := Xid
    have X12 := X12d
    have O7 := O7d
    have V8 := V8d
    have O9 := O9d
    have O12 := O12d
    clear WWd XAd XPd XBd XQd XRd Xdd Xid X12d O7d V8d O9d O12d
    refine AnyL_take (i := 0) (oi := oq29_7_0) (v := ?_) rfl (by kernel_rfl) (by kernel_rfl) (by kernel_rfl) (by kernel_rfl) (fun _ _ _ h => h) (Or.inl ⟨by rfl, ?_⟩) (by assumption) ?_
    rotate_left
    · (delta oq29_7_0; intro ws hSw; (try dsimp only at hSw); (try go_simp); (try with_reducible rfl))
    (try simp only [oq29_7_0, Act.put, List.setIfInBounds_toArray, List.set_cons_zero, List.set_cons_succ])
    refine AnyL_ready (rs := [1]) (by kernel_rfl) (by simp) ?_
    refine ReadyL.cons (o := oq29_7_1) rfl (fun K hK => ?_) ReadyL.nil
    delta oq29_7_1
    go_simp
    have hbs : w.heap.size ≤ U58x0.heap.size := WW.size
    have hc := one_any U58x0
    refine hc.mono ?_
    clear hc
    rintro e V60 ⟨v, rfl, hv, hb⟩
    replace XA := XA.below hb
    replace XP := XP.below hb
    replace XB := XB.below hb
    replace XQ := XQ.below hb
    replace XR := XR.below hb
    replace Xd := Xd.below hb
    replace Xi := Xi.below hb
    replace X12 := X12.below hb
    replace O7 := O7.below hb (Nat.le_refl _)
    replace V8 := V8.below hb (Nat.le_refl _)
    replace O9 := O9.below hb (Nat.le_refl _)
    replace O12 := O12.below hb (Nat.le_refl _)
    replace WW := WW.trans (hb.mono WW.size)
    have sz60 := hb.size
    obtain ⟨D13, d13, rfl, ho⟩ := hv
    have O13 := ho.weak (b := w.heap.size) hbs
    clear ho
    clear hb hbs
    refine hK.out _ _ (Xd.cell) (fun hHeld2 => ?_)
    clear hK K hHeld
    have hHeld := hHeld2
    clear hHeld2
    (try simp only [oq29_7_1, Act.put, List.setIfInBounds_toArray, List.set_cons_zero, List.set_cons_succ])
    refine AnyL_ready (rs := [2]) (by kernel_rfl) (by simp) ?_
    refine ReadyL.cons (o := oq29_7_2) rfl (fun K hK => ?_) ReadyL.nil
    delta oq29_7_2
    go_simp
    have hbs : w.heap.size ≤ V60.heap.size := WW.size
    have hc := cmp_any D8 D13 _ _ d8 d13 g 1 V60 Xd.num O13.num (by omega) (by decide)
    rw [bothC_yes K1.out K2.out] at hc
    rw [OD.out] at hc
    refine hc.mono ?_
    clear hc
    rintro e V61 ⟨rfl, hb⟩
    replace XA := XA.below hb
    replace XP := XP.below hb
    replace XB := XB.below hb
    replace XQ := XQ.below hb
    replace XR := XR.below hb
    replace Xd := Xd.below hb
    replace Xi := Xi.below hb
    replace X12 := X12.below hb
    replace O7 := O7.below hb (Nat.le_refl _)
    replace V8 := V8.below hb (Nat.le_refl _)
    replace O9 := O9.below hb (Nat.le_refl _)
    replace O12 := O12.below hb (Nat.le_refl _)
    replace O13 := O13.below hb (Nat.le_refl _)
    replace WW := WW.trans (hb.mono WW.size)
    have sz61 := hb.size
    clear hb hbs
    refine hK.out _ _ (Xd.cell) (fun hHeld2 => ?_)
    clear hK K hHeld
    have hHeld := hHeld2
    clear hHeld2
    (try simp only [oq29_7_2, Act.put, List.setIfInBounds_toArray, List.set_cons_zero, List.set_cons_succ])
    refine AnyL_take (i := 3) (oi := oq29_7_3) (v := ?_) rfl (by kernel_rfl) (by kernel_rfl) (by kernel_rfl) (by kernel_rfl) (fun _ _ _ h => h) (Or.inl ⟨by rfl, ?_⟩) (by assumption) ?_
    rotate_left
    · (delta oq29_7_3; intro ws hSw; (try dsimp only at hSw); (try go_simp); (try with_reducible rfl))
    (try simp only [oq29_7_3, Act.put, List.setIfInBounds_toArray, List.set_cons_zero, List.set_cons_succ])
    refine AnyL_take (i := 4) (oi := oq29_7_4) (v := ?_) rfl (by kernel_rfl) (by kernel_rfl) (by kernel_rfl) (by kernel_rfl) (fun _ _ _ h => h) (Or.inl ⟨by rfl, ?_⟩) (by assumption) ?_
    rotate_left
    · (delta oq29_7_4; intro ws hSw; (try dsimp only at hSw); (try go_simp); (try with_reducible rfl))
    (try simp only [oq29_7_4, Act.put, List.setIfInBounds_toArray, List.set_cons_zero, List.set_cons_succ])
    refine AnyL_done (by kernel_rfl) ?_ _
    clear hHeld
    have kXA := XA.cell
    have zXA := XA.lt
    have kXP := XP.cell
    have zXP := XP.lt
    have kXB := XB.cell
    have zXB := XB.lt
    have kXQ := XQ.cell
    have zXQ := XQ.lt
    have kXR := XR.cell
    have zXR := XR.lt
    have kXd := Xd.cell
    have zXd := Xd.lt
    have kXi := Xi.cell
    have zXi := Xi.lt
    have kX12 := X12.cell
    have zX12 := X12.lt
    go_wp2_with fail
    by_cases h8 : nw (p * q) ≤ 32
    · have HPQ32 := hid h8
      have M3 : Hid (modB (nw pq) pq = true) := modB_nw (by rw [HPQ.out]; exact Nat.mul_pos HP0.out HQ0.out) (by rw [HPQ.out]; exact h8)
      have hinv : invN t q = x8 := invN_eq HX1.out (by have h := HX2.out; rw [HGP.out, HG1.out] at h; exact h)
      have npq2 : nw pq ≤ 32 := by rw [HPQ.out]; exact h8
      obtain ⟨r1, hr1⟩ : ∃ z, z = a % q := ⟨_, rfl⟩
      have HR1 := hid hr1
      have r1q : r1 ≤ q := by rw [hr1]; exact Nat.le_of_lt (Nat.mod_lt _ HQ0.out)
      have n1 : nw r1 ≤ 32 := Nat.le_trans (nw_mono r1q) nq
      have hbs1 : nw (b + (q - r1)) ≤ 64 := Nat.le_trans (nw_sum (k := 32) nb (Nat.le_trans (nw_mono (Nat.sub_le _ _)) nq)) (by omega)
      obtain ⟨s1, hs1⟩ : ∃ z, z = (b + (q - r1)) % q := ⟨_, rfl⟩
      have HS1 := hid hs1
      have s1q : s1 ≤ q := by rw [hs1]; exact Nat.le_of_lt (Nat.mod_lt _ HQ0.out)
      have n2 : nw s1 ≤ 32 := Nat.le_trans (nw_mono s1q) nq
      have hsx : nw (s1 * x8) ≤ 64 := nw_prod (j := 32) (k := 32) n2 n8
      obtain ⟨k1, hk1⟩ : ∃ z, z = s1 * x8 % q := ⟨_, rfl⟩
      have HK1 := hid hk1
      have k1q : k1 ≤ q := by rw [hk1]; exact Nat.le_of_lt (Nat.mod_lt _ HQ0.out)
      have n3 : nw k1 ≤ 32 := Nat.le_trans (nw_mono k1q) nq
      obtain ⟨u1, hu1⟩ : ∃ z, z = p * k1 := ⟨_, rfl⟩
      have HU1 := hid hu1
      have n4 : nw u1 ≤ 32 := Nat.le_trans (nw_mono (by rw [hu1, HPQ.out]; exact Nat.mul_le_mul_left p k1q)) npq2
      have LU1 := hid (limS_ok (Nat.le_trans n4 (show 32 ≤ 64 by omega)))
      obtain ⟨v1, hv1⟩ : ∃ z, z = a + u1 := ⟨_, rfl⟩
      have HV1 := hid hv1
      have n5 : nw v1 ≤ 64 := by rw [hv1]; exact Nat.le_trans (nw_sum (k := 32) na n4) (by omega)
      have LV1 := hid (limS_ok n5)
      have K5 := hid (okB_nw (Nat.le_trans n3 (show 32 ≤ 64 by omega)))
      have K6 := hid (okB_nw (Nat.le_trans n4 (show 32 ≤ 64 by omega)))
      have HRES : Hid (crtN a p b q = v1) := (show crtN a p b q = v1 by unfold crtN; rw [hv1, hu1, hk1, hs1, hr1, ← hinv, HT.out])
      clear hr1 hs1 hk1 hu1 hv1 h8 hinv
      have hbs : w.heap.size ≤ V61.heap.size := WW.size
      have hc := modulus_any D12 _ d12 pq V61 X12.num (by omega)
      rw [M3.out] at hc
      refine hc.mono ?_
      clear hc
      rintro e V62 ⟨rfl, hb⟩
      clear kXA zXA kXP zXP kXB zXB kXQ zXQ kXR zXR kXd zXd kXi zXi kX12 zX12
      replace XA := XA.below hb
      replace XP := XP.below hb
      replace XB := XB.below hb
      replace XQ := XQ.below hb
      replace XR := XR.below hb
      replace Xd := Xd.below hb
      replace Xi := Xi.below hb
      replace X12 := X12.below hb
      replace O7 := O7.below hb (Nat.le_refl _)
      replace V8 := V8.below hb (Nat.le_refl _)
      replace O9 := O9.below hb (Nat.le_refl _)
      replace O12 := O12.below hb (Nat.le_refl _)
      replace O13 := O13.below hb (Nat.le_refl _)
      replace WW := WW.trans (hb.mono WW.size)
      have kXA := XA.cell
      have zXA := XA.lt
      have kXP := XP.cell
      have zXP := XP.lt
      have kXB := XB.cell
      have zXB := XB.lt
      have kXQ := XQ.cell
      have zXQ := XQ.lt
      have kXR := XR.cell
      have zXR := XR.lt
      have kXd := Xd.cell
      have zXd := Xd.lt
      have kXi := Xi.cell
      have zXi := Xi.lt
      have kX12 := X12.cell
      have zX12 := X12.lt
      clear hb hbs
      go_wp2_with fail
      clear kXA zXA kXP zXP kXB zXB kXQ zXQ kXR zXR kXd zXd kXi zXi kX12 zX12
      apply wp_landW (R := fun gXk D1 d1 D2 d2 D3 d3 w1 => Below w.heap.size w w1 ∧ VB w.heap.size w1 (w.heap.size) A (nw a) c1 a ∧ VB w.heap.size w1 (w.heap.size + 1) A2 (nw p) c2 p ∧ VB w.heap.size w1 (w.heap.size + 1 + 1) A3 (nw b) c3 b ∧ VB w.heap.size w1 (w.heap.size + 1 + 1 + 1) A4 (nw q) c4 q ∧ VB w.heap.size w1 (w.heap.size + 1 + 1 + 1 + 1) none 0 0 0 ∧ VB w.heap.size w1 (gXd) D8 (nw g) d8 g ∧ VB w.heap.size w1 (gXi) D9 (nw x8) d9 x8 ∧ VB w.heap.size w1 (V57.heap.size) D12 (nw pq) d12 pq ∧ VB w.heap.size w1 (gXk) D3 (nw k1) d3 k1 ∧ Own w1 w.heap.size D7 (nw t) d7 t ∧ VL w.heap.size w1 D8 (nw g) d8 g ∧ Own w1 w.heap.size D9 (nw x8) d9 x8 ∧ Own w1 w.heap.size D12 (nw pq) d12 pq ∧ Own w1 w.heap.size D13 (nw 1) d13 1 ∧ Own w1 w.heap.size D1 (nw r1) d1 r1 ∧ Own w1 w.heap.size D2 (nw s1) d2 s1 ∧ Own w1 w.heap.size D3 (nw k1) d3 k1 ∧ gXd < gXk ∧ gXi < gXk ∧ V57.heap.size < gXk ∧ w.heap.size + 1 + 1 + 1 + 1 < gXk)
      case hreg =>
        refine wp_region_noPanic ?_
        have WWd := WW.drew
        have XAd := XA.drew
        have XPd := XP.drew
        have XBd := XB.drew
        have XQd := XQ.drew
        have XRd := XR.drew
        have Xdd := Xd.drew
        have Xid := Xi.drew
        have X12d := X12.drew
        have O7d := O7.drew
        have V8d := V8.drew
        have O9d := O9.drew
        have O12d := O12.drew
        have O13d := O13.drew
        have hst : (fun w' => w'.cell? ⟨w.heap.size, 0, none⟩ = some (.slice A (nw a) c1) ∧ w'.cell? ⟨w.heap.size + 1 + 1, 0, none⟩ = some (.slice A3 (nw b) c3) ∧ w'.cell? ⟨w.heap.size + 1 + 1 + 1, 0, none⟩ = some (.slice A4 (nw q) c4) ∧ w'.cell? ⟨gXi, 0, none⟩ = some (.slice D9 (nw x8) d9)) V62.drew := ⟨XA.cell, XB.cell, XQ.cell, Xi.cell⟩
        have qq0 := X12d.lt
        refine region_L 18 (fun w' => w'.cell? ⟨w.heap.size, 0, none⟩ = some (.slice A (nw a) c1) ∧ w'.cell? ⟨w.heap.size + 1 + 1, 0, none⟩ = some (.slice A3 (nw b) c3) ∧ w'.cell? ⟨w.heap.size + 1 + 1 + 1, 0, none⟩ = some (.slice A4 (nw q) c4) ∧ w'.cell? ⟨gXi, 0, none⟩ = some (.slice D9 (nw x8) d9)) (by kernel_rfl) hst (fun hHeld => ?_)
        clear hst
        generalize hV : V62.drew = U62x0 at hHeld WWd qq0 XAd XPd XBd XQd XRd Xdd Xid X12d O7d V8d O9d O12d O13d ⊢
        clear hV
        have WW := WWd
        have XA := XAd
        have XP := XPd
        have XB := XBd
        have XQ := XQd
        have XR := XRd
        have Xd := Xdd
        have Xi := Xid
        have X12 := X12d
        have O7 := O7d
        have V8 := V8d
        have O9 := O9d
        have O12 := O12d
        have O13 := O13d
        clear WWd XAd XPd XBd XQd XRd Xdd Xid X12d O7d V8d O9d O12d O13d
        refine AnyL_take (i := 0) (oi := oq29_11_0) (v := ?_) rfl (by kernel_rfl) (by kernel_rfl) (by kernel_rfl) (by kernel_rfl) (fun _ _ _ h => h) (Or.inl ⟨by rfl, ?_⟩) (by assumption) ?_
        rotate_left
        · (delta oq29_11_0; intro ws hSw; (try dsimp only at hSw); (try go_simp); (try with_reducible rfl))
        (try simp only [oq29_11_0, Act.put, List.setIfInBounds_toArray, List.set_cons_zero, List.set_cons_succ])
        refine AnyL_take (i := 1) (oi := oq29_11_1) (v := ?_) rfl (by kernel_rfl) (by kernel_rfl) (by kernel_rfl) (by kernel_rfl) (fun _ _ _ h => h) (Or.inl ⟨by rfl, ?_⟩) (by assumption) ?_
        rotate_left
        · (delta oq29_11_1; intro ws hSw; (try dsimp only at hSw); (try go_simp); (try with_reducible rfl))
        (try simp only [oq29_11_1, Act.put, List.setIfInBounds_toArray, List.set_cons_zero, List.set_cons_succ])
        refine AnyL_take (i := 2) (oi := oq29_11_2) (v := ?_) rfl (by kernel_rfl) (by kernel_rfl) (by kernel_rfl) (by kernel_rfl) (fun _ _ _ h => h) (Or.inl ⟨by rfl, ?_⟩) (by assumption) ?_
        rotate_left
        · (delta oq29_11_2; intro ws hSw; (try dsimp only at hSw); (try go_simp); (try with_reducible rfl))
        (try simp only [oq29_11_2, Act.put, List.setIfInBounds_toArray, List.set_cons_zero, List.set_cons_succ])
        refine AnyL_take (i := 4) (oi := oq29_11_4) (v := ?_) rfl (by kernel_rfl) (by kernel_rfl) (by kernel_rfl) (by kernel_rfl) (fun _ _ _ h => h) (Or.inl ⟨by rfl, ?_⟩) (by assumption) ?_
        rotate_left
        · (delta oq29_11_4; intro ws hSw; (try dsimp only at hSw); (try go_simp); (try with_reducible rfl))
        (try simp only [oq29_11_4, Act.put, List.setIfInBounds_toArray, List.set_cons_zero, List.set_cons_succ])
        refine AnyL_take (i := 6) (oi := oq29_11_6) (v := ?_) rfl (by kernel_rfl) (by kernel_rfl) (by kernel_rfl) (by kernel_rfl) (fun _ _ _ h => h) (Or.inl ⟨by rfl, ?_⟩) (by assumption) ?_
        rotate_left
        · (delta oq29_11_6; intro ws hSw; (try dsimp only at hSw); (try go_simp); (try with_reducible rfl))
        (try simp only [oq29_11_6, Act.put, List.setIfInBounds_toArray, List.set_cons_zero, List.set_cons_succ])
        refine AnyL_take (i := 7) (oi := oq29_11_7) (v := ?_) rfl (by kernel_rfl) (by kernel_rfl) (by kernel_rfl) (by kernel_rfl) (fun _ _ _ h => h) (Or.inl ⟨by rfl, ?_⟩) (by assumption) ?_
        rotate_left
        · (delta oq29_11_7; intro ws hSw; (try dsimp only at hSw); (try go_simp); (try with_reducible rfl))
        (try simp only [oq29_11_7, Act.put, List.setIfInBounds_toArray, List.set_cons_zero, List.set_cons_succ])
        refine AnyL_ready (rs := [3, 9]) (by kernel_rfl) (by simp) ?_
        refine ReadyL.cons (o := oq29_11_3) rfl (fun K hK => ?_) ?_
        · delta oq29_11_3
          go_simp
          have hbs : w.heap.size ≤ U62x0.heap.size := WW.size
          have hc := remainder_any A A4 c1 c4 a q U62x0 XA.num XQ.num (by omega) (by omega) hqn
          rw [← HR1.out] at hc
          refine hc.mono ?_
          clear hc
          rintro e V64 ⟨v, rfl, hv, hb⟩
          replace XA := XA.below hb
          replace XP := XP.below hb
          replace XB := XB.below hb
          replace XQ := XQ.below hb
          replace XR := XR.below hb
          replace Xd := Xd.below hb
          replace Xi := Xi.below hb
          replace X12 := X12.below hb
          replace O7 := O7.below hb (Nat.le_refl _)
          replace V8 := V8.below hb (Nat.le_refl _)
          replace O9 := O9.below hb (Nat.le_refl _)
          replace O12 := O12.below hb (Nat.le_refl _)
          replace O13 := O13.below hb (Nat.le_refl _)
          replace WW := WW.trans (hb.mono WW.size)
          have sz64 := hb.size
          obtain ⟨D1, d1, rfl, ho⟩ := hv
          have O1 := ho.weak (b := w.heap.size) hbs
          clear ho
          clear hb hbs
          refine hK.out _ _ (⟨XA.cell, XB.cell, XQ.cell, Xi.cell⟩) (fun hHeld2 => ?_)
          clear hK K hHeld
          have hHeld := hHeld2
          clear hHeld2
          (try simp only [oq29_11_3, Act.put, List.setIfInBounds_toArray, List.set_cons_zero, List.set_cons_succ])
          refine AnyL_ready (rs := [5, 9]) (by kernel_rfl) (by simp) ?_
          refine ReadyL.cons (o := oq29_11_5) rfl (fun K hK => ?_) ?_
          · delta oq29_11_5
            go_simp
            have hbs : w.heap.size ≤ V64.heap.size := WW.size
            have hc := difference2_any A3 D1 A4 c3 d1 c4 b r1 q V64 XB.num O1.num XQ.num (by omega) (by omega) (by omega) hqn r1q hbs1
            rw [← HS1.out] at hc
            refine hc.mono ?_
            clear hc
            rintro e V65 ⟨v, rfl, hv, hb⟩
            replace XA := XA.below hb
            replace XP := XP.below hb
            replace XB := XB.below hb
            replace XQ := XQ.below hb
            replace XR := XR.below hb
            replace Xd := Xd.below hb
            replace Xi := Xi.below hb
            replace X12 := X12.below hb
            replace O7 := O7.below hb (Nat.le_refl _)
            replace V8 := V8.below hb (Nat.le_refl _)
            replace O9 := O9.below hb (Nat.le_refl _)
            replace O12 := O12.below hb (Nat.le_refl _)
            replace O13 := O13.below hb (Nat.le_refl _)
            replace O1 := O1.below hb (Nat.le_refl _)
            replace WW := WW.trans (hb.mono WW.size)
            have sz65 := hb.size
            obtain ⟨D2, d2, rfl, ho⟩ := hv
            have O2 := ho.weak (b := w.heap.size) hbs
            clear ho
            clear hb hbs
            refine hK.out _ _ (⟨XA.cell, XB.cell, XQ.cell, Xi.cell⟩) (fun hHeld2 => ?_)
            clear hK K hHeld
            have hHeld := hHeld2
            clear hHeld2
            (try simp only [oq29_11_5, Act.put, List.setIfInBounds_toArray, List.set_cons_zero, List.set_cons_succ])
            refine AnyL_ready (rs := [8, 9]) (by kernel_rfl) (by simp) ?_
            refine ReadyL.cons (o := oq29_11_8) rfl (fun K hK => ?_) ?_
            · delta oq29_11_8
              go_simp
              have hbs : w.heap.size ≤ V65.heap.size := WW.size
              have hc := product2_any D2 D9 A4 d2 d9 c4 s1 x8 q V65 O2.num Xi.num XQ.num (by omega) (by omega) (by omega) hqn hsx
              rw [← HK1.out] at hc
              refine hc.mono ?_
              clear hc
              rintro e V66 ⟨v, rfl, hv, hb⟩
              replace XA := XA.below hb
              replace XP := XP.below hb
              replace XB := XB.below hb
              replace XQ := XQ.below hb
              replace XR := XR.below hb
              replace Xd := Xd.below hb
              replace Xi := Xi.below hb
              replace X12 := X12.below hb
              replace O7 := O7.below hb (Nat.le_refl _)
              replace V8 := V8.below hb (Nat.le_refl _)
              replace O9 := O9.below hb (Nat.le_refl _)
              replace O12 := O12.below hb (Nat.le_refl _)
              replace O13 := O13.below hb (Nat.le_refl _)
              replace O1 := O1.below hb (Nat.le_refl _)
              replace O2 := O2.below hb (Nat.le_refl _)
              replace WW := WW.trans (hb.mono WW.size)
              have sz66 := hb.size
              obtain ⟨D3, d3, rfl, ho⟩ := hv
              have O3 := ho.weak (b := w.heap.size) hbs
              clear ho
              clear hb hbs
              refine hK.out _ _ (⟨XA.cell, XB.cell, XQ.cell, Xi.cell⟩) (fun hHeld2 => ?_)
              clear hK K hHeld
              have hHeld := hHeld2
              clear hHeld2
              (try simp only [oq29_11_8, Act.put, List.setIfInBounds_toArray, List.set_cons_zero, List.set_cons_succ])
              refine AnyL_ready (rs := [9]) (by kernel_rfl) (by simp) ?_
              refine ReadyL.cons (o := oq29_11_9) rfl (fun K hK => ?_) ReadyL.nil
              delta oq29_11_9
              have lqXd : gXd < V66.heap.size := Xd.lt
              have lqXi : gXi < V66.heap.size := Xi.lt
              have lqX12 : V57.heap.size < V66.heap.size := X12.lt
              have lqXR : w.heap.size + 1 + 1 + 1 + 1 < V66.heap.size := XR.lt
              go_simp
              have ba := (Below.refl V66.heap.size V66).alloc (Nat.le_refl _) (.cells #[.slice none 0 0] 24)
              have XAn := XA.below ba
              have XPn := XP.below ba
              have XBn := XB.below ba
              have XQn := XQ.below ba
              have XRn := XR.below ba
              have Xdn := Xd.below ba
              have Xin := Xi.below ba
              have X12n := X12.below ba
              have O7n := O7.below ba (Nat.le_refl _)
              have V8n := V8.below ba (Nat.le_refl _)
              have O9n := O9.below ba (Nat.le_refl _)
              have O12n := O12.below ba (Nat.le_refl _)
              have O13n := O13.below ba (Nat.le_refl _)
              have O1n := O1.below ba (Nat.le_refl _)
              have O2n := O2.below ba (Nat.le_refl _)
              have O3n := O3.below ba (Nat.le_refl _)
              have bn := Blk.new V66 24 #[.slice none 0 0]
              have Xkn := VB.mk (B := w.heap.size) (a := 0) bn (.inr (Own.nil _ _ _ _ (Nat.zero_le _))) ba WW.size WW.size
              have WWn := WW.trans (ba.mono WW.size)
              have sn : V66.heap.size < (V66.alloc (.cells #[.slice none 0 0] 24)).heap.size := bn.lt
              refine hK.out _ _ (⟨XAn.cell, XBn.cell, XQn.cell, Xin.cell⟩) (fun hHeld2 => ?_)
              clear hK K hHeld
              (try simp only [oq29_11_9, Act.put, List.setIfInBounds_toArray, List.set_cons_zero, List.set_cons_succ])
              generalize hV : V66.alloc (.cells #[.slice none 0 0] 24) = V67 at hHeld2 sn WWn XAn XPn XBn XQn XRn Xdn Xin X12n Xkn O7n V8n O9n O12n O13n O1n O2n O3n ⊢
              clear hV ba bn WW XA XP XB XQ XR Xd Xi X12 O7 V8 O9 O12 O13 O1 O2 O3
              have WW := WWn
              have XA := XAn
              have XP := XPn
              have XB := XBn
              have XQ := XQn
              have XR := XRn
              have Xd := Xdn
              have Xi := Xin
              have X12 := X12n
              have Xk := Xkn
              have O7 := O7n
              have V8 := V8n
              have O9 := O9n
              have O12 := O12n
              have O13 := O13n
              have O1 := O1n
              have O2 := O2n
              have O3 := O3n
              have sz67 := sn
              have hHeld := hHeld2
              clear sn hHeld2 WWn XAn XPn XBn XQn XRn Xdn Xin X12n Xkn O7n V8n O9n O12n O13n O1n O2n O3n
              obtain ⟨gXk, hg⟩ : ∃ x, x = V66.heap.size := ⟨_, rfl⟩
              have mXkXd : gXd < gXk := by omega
              have mXkXi : gXi < gXk := by omega
              have mXkX12 : V57.heap.size < gXk := by omega
              have mXkXR : w.heap.size + 1 + 1 + 1 + 1 < gXk := by omega
              rw [← hg] at Xk sz67 ⊢
              clear hg lqXd lqXi lqX12 lqXR
              refine AnyL_ready (rs := [10]) (by kernel_rfl) (by simp) ?_
              refine ReadyL.cons (o := oq29_11_10) rfl (fun K hK => ?_) ReadyL.nil
              delta oq29_11_10
              have fz := Xk.1.frozen 0
              have cz := Xk.cell
              have lz := Xk.lt
              go_simp
              have XAn := XA.far (p := ⟨gXk, 0, none⟩) Xk.1 Xk.2.2 (by simp <;> omega) (.slice D3 (nw k1) d3)
              have XPn := XP.far (p := ⟨gXk, 0, none⟩) Xk.1 Xk.2.2 (by simp <;> omega) (.slice D3 (nw k1) d3)
              have XBn := XB.far (p := ⟨gXk, 0, none⟩) Xk.1 Xk.2.2 (by simp <;> omega) (.slice D3 (nw k1) d3)
              have XQn := XQ.far (p := ⟨gXk, 0, none⟩) Xk.1 Xk.2.2 (by simp <;> omega) (.slice D3 (nw k1) d3)
              have XRn := XR.far (p := ⟨gXk, 0, none⟩) Xk.1 Xk.2.2 (by simp <;> omega) (.slice D3 (nw k1) d3)
              have Xdn := Xd.far (p := ⟨gXk, 0, none⟩) Xk.1 Xk.2.2 (by simp <;> omega) (.slice D3 (nw k1) d3)
              have Xin := Xi.far (p := ⟨gXk, 0, none⟩) Xk.1 Xk.2.2 (by simp <;> omega) (.slice D3 (nw k1) d3)
              have X12n := X12.far (p := ⟨gXk, 0, none⟩) Xk.1 Xk.2.2 (by simp <;> omega) (.slice D3 (nw k1) d3)
              have Xkn := Xk.set_ (A' := D3) (n' := (nw k1)) (c' := d3) (a' := k1) (.inr O3)
              have O7n := O7.box (p := ⟨gXk, 0, none⟩) Xk.1 (by decide) (.slice D3 (nw k1) d3)
              have V8n := V8.box (p := ⟨gXk, 0, none⟩) Xk.1 Xk.2.2 (.slice D3 (nw k1) d3)
              have O9n := O9.box (p := ⟨gXk, 0, none⟩) Xk.1 (by decide) (.slice D3 (nw k1) d3)
              have O12n := O12.box (p := ⟨gXk, 0, none⟩) Xk.1 (by decide) (.slice D3 (nw k1) d3)
              have O13n := O13.box (p := ⟨gXk, 0, none⟩) Xk.1 (by decide) (.slice D3 (nw k1) d3)
              have O1n := O1.box (p := ⟨gXk, 0, none⟩) Xk.1 (by decide) (.slice D3 (nw k1) d3)
              have O2n := O2.box (p := ⟨gXk, 0, none⟩) Xk.1 (by decide) (.slice D3 (nw k1) d3)
              have O3n := O3.box (p := ⟨gXk, 0, none⟩) Xk.1 (by decide) (.slice D3 (nw k1) d3)
              have WWn := WW.setCell (p := ⟨gXk, 0, none⟩) (by simp <;> omega) (.slice D3 (nw k1) d3)
              refine hK.out _ _ (⟨XAn.cell, XBn.cell, XQn.cell, Xin.cell⟩) (fun hHeld2 => ?_)
              clear hK K hHeld
              (try simp only [oq29_11_10, Act.put, List.setIfInBounds_toArray, List.set_cons_zero, List.set_cons_succ])
              generalize hV : V67.setCell ⟨gXk, 0, none⟩ (.slice D3 (nw k1) d3) = V68 at hHeld2 WWn XAn XPn XBn XQn XRn Xdn Xin X12n Xkn O7n V8n O9n O12n O13n O1n O2n O3n ⊢
              clear hV fz cz lz WW XA XP XB XQ XR Xd Xi X12 Xk O7 V8 O9 O12 O13 O1 O2 O3
              have WW := WWn
              have XA := XAn
              have XP := XPn
              have XB := XBn
              have XQ := XQn
              have XR := XRn
              have Xd := Xdn
              have Xi := Xin
              have X12 := X12n
              have Xk := Xkn
              have O7 := O7n
              have V8 := V8n
              have O9 := O9n
              have O12 := O12n
              have O13 := O13n
              have O1 := O1n
              have O2 := O2n
              have O3 := O3n
              have hHeld := hHeld2
              clear hHeld2
              clear WWn XAn XPn XBn XQn XRn Xdn Xin X12n Xkn O7n V8n O9n O12n O13n O1n O2n O3n
              refine AnyL_done (by kernel_rfl) ?_ _
              clear hHeld
              refine NoPanic.normal ?_
              exact ⟨rfl, gXk, D1, d1, D2, d2, D3, d3, rfl, WW, XA, XP, XB, XQ, XR, Xd, Xi, X12, Xk, O7, V8, O9, O12, O13, O1, O2, O3, (by first | exact mXkXd | omega), (by first | exact mXkXi | omega), (by first | exact mXkX12 | omega), (by first | exact mXkXR | omega)⟩
            refine ReadyL.cons (o := oq29_11_9) rfl (fun K hK => ?_) ReadyL.nil
            · delta oq29_11_9
              have lqXd : gXd < V65.heap.size := Xd.lt
              have lqXi : gXi < V65.heap.size := Xi.lt
              have lqX12 : V57.heap.size < V65.heap.size := X12.lt
              have lqXR : w.heap.size + 1 + 1 + 1 + 1 < V65.heap.size := XR.lt
              go_simp
              have ba := (Below.refl V65.heap.size V65).alloc (Nat.le_refl _) (.cells #[.slice none 0 0] 24)
              have XAn := XA.below ba
              have XPn := XP.below ba
              have XBn := XB.below ba
              have XQn := XQ.below ba
              have XRn := XR.below ba
              have Xdn := Xd.below ba
              have Xin := Xi.below ba
              have X12n := X12.below ba
              have O7n := O7.below ba (Nat.le_refl _)
              have V8n := V8.below ba (Nat.le_refl _)
              have O9n := O9.below ba (Nat.le_refl _)
              have O12n := O12.below ba (Nat.le_refl _)
              have O13n := O13.below ba (Nat.le_refl _)
              have O1n := O1.below ba (Nat.le_refl _)
              have O2n := O2.below ba (Nat.le_refl _)
              have bn := Blk.new V65 24 #[.slice none 0 0]
              have Xkn := VB.mk (B := w.heap.size) (a := 0) bn (.inr (Own.nil _ _ _ _ (Nat.zero_le _))) ba WW.size WW.size
              have WWn := WW.trans (ba.mono WW.size)
              have sn : V65.heap.size < (V65.alloc (.cells #[.slice none 0 0] 24)).heap.size := bn.lt
              refine hK.out _ _ (⟨XAn.cell, XBn.cell, XQn.cell, Xin.cell⟩) (fun hHeld2 => ?_)
              clear hK K hHeld
              (try simp only [oq29_11_9, Act.put, List.setIfInBounds_toArray, List.set_cons_zero, List.set_cons_succ])
              generalize hV : V65.alloc (.cells #[.slice none 0 0] 24) = V66 at hHeld2 sn WWn XAn XPn XBn XQn XRn Xdn Xin X12n Xkn O7n V8n O9n O12n O13n O1n O2n ⊢
              clear hV ba bn WW XA XP XB XQ XR Xd Xi X12 O7 V8 O9 O12 O13 O1 O2
              have WW := WWn
              have XA := XAn
              have XP := XPn
              have XB := XBn
              have XQ := XQn
              have XR := XRn
              have Xd := Xdn
              have Xi := Xin
              have X12 := X12n
              have Xk := Xkn
              have O7 := O7n
              have V8 := V8n
              have O9 := O9n
              have O12 := O12n
              have O13 := O13n
              have O1 := O1n
              have O2 := O2n
              have sz66 := sn
              have hHeld := hHeld2
              clear sn hHeld2 WWn XAn XPn XBn XQn XRn Xdn Xin X12n Xkn O7n V8n O9n O12n O13n O1n O2n
              obtain ⟨gXk, hg⟩ : ∃ x, x = V65.heap.size := ⟨_, rfl⟩
              have mXkXd : gXd < gXk := by omega
              have mXkXi : gXi < gXk := by omega
              have mXkX12 : V57.heap.size < gXk := by omega
              have mXkXR : w.heap.size + 1 + 1 + 1 + 1 < gXk := by omega
              rw [← hg] at Xk sz66 ⊢
              clear hg lqXd lqXi lqX12 lqXR
              refine AnyL_ready (rs := [8]) (by kernel_rfl) (by simp) ?_
              refine ReadyL.cons (o := oq29_11_8) rfl (fun K hK => ?_) ReadyL.nil
              delta oq29_11_8
              go_simp
              have hbs : w.heap.size ≤ V66.heap.size := WW.size
              have hc := product2_any D2 D9 A4 d2 d9 c4 s1 x8 q V66 O2.num Xi.num XQ.num (by omega) (by omega) (by omega) hqn hsx
              rw [← HK1.out] at hc
              refine hc.mono ?_
              clear hc
              rintro e V67 ⟨v, rfl, hv, hb⟩
              replace XA := XA.below hb
              replace XP := XP.below hb
              replace XB := XB.below hb
              replace XQ := XQ.below hb
              replace XR := XR.below hb
              replace Xd := Xd.below hb
              replace Xi := Xi.below hb
              replace X12 := X12.below hb
              replace Xk := Xk.below hb
              replace O7 := O7.below hb (Nat.le_refl _)
              replace V8 := V8.below hb (Nat.le_refl _)
              replace O9 := O9.below hb (Nat.le_refl _)
              replace O12 := O12.below hb (Nat.le_refl _)
              replace O13 := O13.below hb (Nat.le_refl _)
              replace O1 := O1.below hb (Nat.le_refl _)
              replace O2 := O2.below hb (Nat.le_refl _)
              replace WW := WW.trans (hb.mono WW.size)
              have sz67 := hb.size
              obtain ⟨D3, d3, rfl, ho⟩ := hv
              have O3 := ho.weak (b := w.heap.size) hbs
              clear ho
              clear hb hbs
              refine hK.out _ _ (⟨XA.cell, XB.cell, XQ.cell, Xi.cell⟩) (fun hHeld2 => ?_)
              clear hK K hHeld
              have hHeld := hHeld2
              clear hHeld2
              (try simp only [oq29_11_8, Act.put, List.setIfInBounds_toArray, List.set_cons_zero, List.set_cons_succ])
              refine AnyL_ready (rs := [10]) (by kernel_rfl) (by simp) ?_
              refine ReadyL.cons (o := oq29_11_10) rfl (fun K hK => ?_) ReadyL.nil
              delta oq29_11_10
              have fz := Xk.1.frozen 0
              have cz := Xk.cell
              have lz := Xk.lt
              go_simp
              have XAn := XA.far (p := ⟨gXk, 0, none⟩) Xk.1 Xk.2.2 (by simp <;> omega) (.slice D3 (nw k1) d3)
              have XPn := XP.far (p := ⟨gXk, 0, none⟩) Xk.1 Xk.2.2 (by simp <;> omega) (.slice D3 (nw k1) d3)
              have XBn := XB.far (p := ⟨gXk, 0, none⟩) Xk.1 Xk.2.2 (by simp <;> omega) (.slice D3 (nw k1) d3)
              have XQn := XQ.far (p := ⟨gXk, 0, none⟩) Xk.1 Xk.2.2 (by simp <;> omega) (.slice D3 (nw k1) d3)
              have XRn := XR.far (p := ⟨gXk, 0, none⟩) Xk.1 Xk.2.2 (by simp <;> omega) (.slice D3 (nw k1) d3)
              have Xdn := Xd.far (p := ⟨gXk, 0, none⟩) Xk.1 Xk.2.2 (by simp <;> omega) (.slice D3 (nw k1) d3)
              have Xin := Xi.far (p := ⟨gXk, 0, none⟩) Xk.1 Xk.2.2 (by simp <;> omega) (.slice D3 (nw k1) d3)
              have X12n := X12.far (p := ⟨gXk, 0, none⟩) Xk.1 Xk.2.2 (by simp <;> omega) (.slice D3 (nw k1) d3)
              have Xkn := Xk.set_ (A' := D3) (n' := (nw k1)) (c' := d3) (a' := k1) (.inr O3)
              have O7n := O7.box (p := ⟨gXk, 0, none⟩) Xk.1 (by decide) (.slice D3 (nw k1) d3)
              have V8n := V8.box (p := ⟨gXk, 0, none⟩) Xk.1 Xk.2.2 (.slice D3 (nw k1) d3)
              have O9n := O9.box (p := ⟨gXk, 0, none⟩) Xk.1 (by decide) (.slice D3 (nw k1) d3)
              have O12n := O12.box (p := ⟨gXk, 0, none⟩) Xk.1 (by decide) (.slice D3 (nw k1) d3)
              have O13n := O13.box (p := ⟨gXk, 0, none⟩) Xk.1 (by decide) (.slice D3 (nw k1) d3)
              have O1n := O1.box (p := ⟨gXk, 0, none⟩) Xk.1 (by decide) (.slice D3 (nw k1) d3)
              have O2n := O2.box (p := ⟨gXk, 0, none⟩) Xk.1 (by decide) (.slice D3 (nw k1) d3)
              have O3n := O3.box (p := ⟨gXk, 0, none⟩) Xk.1 (by decide) (.slice D3 (nw k1) d3)
              have WWn := WW.setCell (p := ⟨gXk, 0, none⟩) (by simp <;> omega) (.slice D3 (nw k1) d3)
              refine hK.out _ _ (⟨XAn.cell, XBn.cell, XQn.cell, Xin.cell⟩) (fun hHeld2 => ?_)
              clear hK K hHeld
              (try simp only [oq29_11_10, Act.put, List.setIfInBounds_toArray, List.set_cons_zero, List.set_cons_succ])
              generalize hV : V67.setCell ⟨gXk, 0, none⟩ (.slice D3 (nw k1) d3) = V68 at hHeld2 WWn XAn XPn XBn XQn XRn Xdn Xin X12n Xkn O7n V8n O9n O12n O13n O1n O2n O3n ⊢
              clear hV fz cz lz WW XA XP XB XQ XR Xd Xi X12 Xk O7 V8 O9 O12 O13 O1 O2 O3
              have WW := WWn
              have XA := XAn
              have XP := XPn
              have XB := XBn
              have XQ := XQn
              have XR := XRn
              have Xd := Xdn
              have Xi := Xin
              have X12 := X12n
              have Xk := Xkn
              have O7 := O7n
              have V8 := V8n
              have O9 := O9n
              have O12 := O12n
              have O13 := O13n
              have O1 := O1n
              have O2 := O2n
              have O3 := O3n
              have hHeld := hHeld2
              clear hHeld2
              clear WWn XAn XPn XBn XQn XRn Xdn Xin X12n Xkn O7n V8n O9n O12n O13n O1n O2n O3n
              refine AnyL_done (by kernel_rfl) ?_ _
              clear hHeld
              refine NoPanic.normal ?_
              exact ⟨rfl, gXk, D1, d1, D2, d2, D3, d3, rfl, WW, XA, XP, XB, XQ, XR, Xd, Xi, X12, Xk, O7, V8, O9, O12, O13, O1, O2, O3, (by first | exact mXkXd | omega), (by first | exact mXkXi | omega), (by first | exact mXkX12 | omega), (by first | exact mXkXR | omega)⟩
          refine ReadyL.cons (o := oq29_11_9) rfl (fun K hK => ?_) ReadyL.nil
          · delta oq29_11_9
            have lqXd : gXd < V64.heap.size := Xd.lt
            have lqXi : gXi < V64.heap.size := Xi.lt
            have lqX12 : V57.heap.size < V64.heap.size := X12.lt
            have lqXR : w.heap.size + 1 + 1 + 1 + 1 < V64.heap.size := XR.lt
            go_simp
            have ba := (Below.refl V64.heap.size V64).alloc (Nat.le_refl _) (.cells #[.slice none 0 0] 24)
            have XAn := XA.below ba
            have XPn := XP.below ba
            have XBn := XB.below ba
            have XQn := XQ.below ba
            have XRn := XR.below ba
            have Xdn := Xd.below ba
            have Xin := Xi.below ba
            have X12n := X12.below ba
            have O7n := O7.below ba (Nat.le_refl _)
            have V8n := V8.below ba (Nat.le_refl _)
            have O9n := O9.below ba (Nat.le_refl _)
            have O12n := O12.below ba (Nat.le_refl _)
            have O13n := O13.below ba (Nat.le_refl _)
            have O1n := O1.below ba (Nat.le_refl _)
            have bn := Blk.new V64 24 #[.slice none 0 0]
            have Xkn := VB.mk (B := w.heap.size) (a := 0) bn (.inr (Own.nil _ _ _ _ (Nat.zero_le _))) ba WW.size WW.size
            have WWn := WW.trans (ba.mono WW.size)
            have sn : V64.heap.size < (V64.alloc (.cells #[.slice none 0 0] 24)).heap.size := bn.lt
            refine hK.out _ _ (⟨XAn.cell, XBn.cell, XQn.cell, Xin.cell⟩) (fun hHeld2 => ?_)
            clear hK K hHeld
            (try simp only [oq29_11_9, Act.put, List.setIfInBounds_toArray, List.set_cons_zero, List.set_cons_succ])
            generalize hV : V64.alloc (.cells #[.slice none 0 0] 24) = V65 at hHeld2 sn WWn XAn XPn XBn XQn XRn Xdn Xin X12n Xkn O7n V8n O9n O12n O13n O1n ⊢
            clear hV ba bn WW XA XP XB XQ XR Xd Xi X12 O7 V8 O9 O12 O13 O1
            have WW := WWn
            have XA := XAn
            have XP := XPn
            have XB := XBn
            have XQ := XQn
            have XR := XRn
            have Xd := Xdn
            have Xi := Xin
            have X12 := X12n
            have Xk := Xkn
            have O7 := O7n
            have V8 := V8n
            have O9 := O9n
            have O12 := O12n
            have O13 := O13n
            have O1 := O1n
            have sz65 := sn
            have hHeld := hHeld2
            clear sn hHeld2 WWn XAn XPn XBn XQn XRn Xdn Xin X12n Xkn O7n V8n O9n O12n O13n O1n
            obtain ⟨gXk, hg⟩ : ∃ x, x = V64.heap.size := ⟨_, rfl⟩
            have mXkXd : gXd < gXk := by omega
            have mXkXi : gXi < gXk := by omega
            have mXkX12 : V57.heap.size < gXk := by omega
            have mXkXR : w.heap.size + 1 + 1 + 1 + 1 < gXk := by omega
            rw [← hg] at Xk sz65 ⊢
            clear hg lqXd lqXi lqX12 lqXR
            refine AnyL_ready (rs := [5]) (by kernel_rfl) (by simp) ?_
            refine ReadyL.cons (o := oq29_11_5) rfl (fun K hK => ?_) ReadyL.nil
            delta oq29_11_5
            go_simp
            have hbs : w.heap.size ≤ V65.heap.size := WW.size
            have hc := difference2_any A3 D1 A4 c3 d1 c4 b r1 q V65 XB.num O1.num XQ.num (by omega) (by omega) (by omega) hqn r1q hbs1
            rw [← HS1.out] at hc
            refine hc.mono ?_
            clear hc
            rintro e V66 ⟨v, rfl, hv, hb⟩
            replace XA := XA.below hb
            replace XP := XP.below hb
            replace XB := XB.below hb
            replace XQ := XQ.below hb
            replace XR := XR.below hb
            replace Xd := Xd.below hb
            replace Xi := Xi.below hb
            replace X12 := X12.below hb
            replace Xk := Xk.below hb
            replace O7 := O7.below hb (Nat.le_refl _)
            replace V8 := V8.below hb (Nat.le_refl _)
            replace O9 := O9.below hb (Nat.le_refl _)
            replace O12 := O12.below hb (Nat.le_refl _)
            replace O13 := O13.below hb (Nat.le_refl _)
            replace O1 := O1.below hb (Nat.le_refl _)
            replace WW := WW.trans (hb.mono WW.size)
            have sz66 := hb.size
            obtain ⟨D2, d2, rfl, ho⟩ := hv
            have O2 := ho.weak (b := w.heap.size) hbs
            clear ho
            clear hb hbs
            refine hK.out _ _ (⟨XA.cell, XB.cell, XQ.cell, Xi.cell⟩) (fun hHeld2 => ?_)
            clear hK K hHeld
            have hHeld := hHeld2
            clear hHeld2
            (try simp only [oq29_11_5, Act.put, List.setIfInBounds_toArray, List.set_cons_zero, List.set_cons_succ])
            refine AnyL_ready (rs := [8]) (by kernel_rfl) (by simp) ?_
            refine ReadyL.cons (o := oq29_11_8) rfl (fun K hK => ?_) ReadyL.nil
            delta oq29_11_8
            go_simp
            have hbs : w.heap.size ≤ V66.heap.size := WW.size
            have hc := product2_any D2 D9 A4 d2 d9 c4 s1 x8 q V66 O2.num Xi.num XQ.num (by omega) (by omega) (by omega) hqn hsx
            rw [← HK1.out] at hc
            refine hc.mono ?_
            clear hc
            rintro e V67 ⟨v, rfl, hv, hb⟩
            replace XA := XA.below hb
            replace XP := XP.below hb
            replace XB := XB.below hb
            replace XQ := XQ.below hb
            replace XR := XR.below hb
            replace Xd := Xd.below hb
            replace Xi := Xi.below hb
            replace X12 := X12.below hb
            replace Xk := Xk.below hb
            replace O7 := O7.below hb (Nat.le_refl _)
            replace V8 := V8.below hb (Nat.le_refl _)
            replace O9 := O9.below hb (Nat.le_refl _)
            replace O12 := O12.below hb (Nat.le_refl _)
            replace O13 := O13.below hb (Nat.le_refl _)
            replace O1 := O1.below hb (Nat.le_refl _)
            replace O2 := O2.below hb (Nat.le_refl _)
            replace WW := WW.trans (hb.mono WW.size)
            have sz67 := hb.size
            obtain ⟨D3, d3, rfl, ho⟩ := hv
            have O3 := ho.weak (b := w.heap.size) hbs
            clear ho
            clear hb hbs
            refine hK.out _ _ (⟨XA.cell, XB.cell, XQ.cell, Xi.cell⟩) (fun hHeld2 => ?_)
            clear hK K hHeld
            have hHeld := hHeld2
            clear hHeld2
            (try simp only [oq29_11_8, Act.put, List.setIfInBounds_toArray, List.set_cons_zero, List.set_cons_succ])
            refine AnyL_ready (rs := [10]) (by kernel_rfl) (by simp) ?_
            refine ReadyL.cons (o := oq29_11_10) rfl (fun K hK => ?_) ReadyL.nil
            delta oq29_11_10
            have fz := Xk.1.frozen 0
            have cz := Xk.cell
            have lz := Xk.lt
            go_simp
            have XAn := XA.far (p := ⟨gXk, 0, none⟩) Xk.1 Xk.2.2 (by simp <;> omega) (.slice D3 (nw k1) d3)
            have XPn := XP.far (p := ⟨gXk, 0, none⟩) Xk.1 Xk.2.2 (by simp <;> omega) (.slice D3 (nw k1) d3)
            have XBn := XB.far (p := ⟨gXk, 0, none⟩) Xk.1 Xk.2.2 (by simp <;> omega) (.slice D3 (nw k1) d3)
            have XQn := XQ.far (p := ⟨gXk, 0, none⟩) Xk.1 Xk.2.2 (by simp <;> omega) (.slice D3 (nw k1) d3)
            have XRn := XR.far (p := ⟨gXk, 0, none⟩) Xk.1 Xk.2.2 (by simp <;> omega) (.slice D3 (nw k1) d3)
            have Xdn := Xd.far (p := ⟨gXk, 0, none⟩) Xk.1 Xk.2.2 (by simp <;> omega) (.slice D3 (nw k1) d3)
            have Xin := Xi.far (p := ⟨gXk, 0, none⟩) Xk.1 Xk.2.2 (by simp <;> omega) (.slice D3 (nw k1) d3)
            have X12n := X12.far (p := ⟨gXk, 0, none⟩) Xk.1 Xk.2.2 (by simp <;> omega) (.slice D3 (nw k1) d3)
            have Xkn := Xk.set_ (A' := D3) (n' := (nw k1)) (c' := d3) (a' := k1) (.inr O3)
            have O7n := O7.box (p := ⟨gXk, 0, none⟩) Xk.1 (by decide) (.slice D3 (nw k1) d3)
            have V8n := V8.box (p := ⟨gXk, 0, none⟩) Xk.1 Xk.2.2 (.slice D3 (nw k1) d3)
            have O9n := O9.box (p := ⟨gXk, 0, none⟩) Xk.1 (by decide) (.slice D3 (nw k1) d3)
            have O12n := O12.box (p := ⟨gXk, 0, none⟩) Xk.1 (by decide) (.slice D3 (nw k1) d3)
            have O13n := O13.box (p := ⟨gXk, 0, none⟩) Xk.1 (by decide) (.slice D3 (nw k1) d3)
            have O1n := O1.box (p := ⟨gXk, 0, none⟩) Xk.1 (by decide) (.slice D3 (nw k1) d3)
            have O2n := O2.box (p := ⟨gXk, 0, none⟩) Xk.1 (by decide) (.slice D3 (nw k1) d3)
            have O3n := O3.box (p := ⟨gXk, 0, none⟩) Xk.1 (by decide) (.slice D3 (nw k1) d3)
            have WWn := WW.setCell (p := ⟨gXk, 0, none⟩) (by simp <;> omega) (.slice D3 (nw k1) d3)
            refine hK.out _ _ (⟨XAn.cell, XBn.cell, XQn.cell, Xin.cell⟩) (fun hHeld2 => ?_)
            clear hK K hHeld
            (try simp only [oq29_11_10, Act.put, List.setIfInBounds_toArray, List.set_cons_zero, List.set_cons_succ])
            generalize hV : V67.setCell ⟨gXk, 0, none⟩ (.slice D3 (nw k1) d3) = V68 at hHeld2 WWn XAn XPn XBn XQn XRn Xdn Xin X12n Xkn O7n V8n O9n O12n O13n O1n O2n O3n ⊢
            clear hV fz cz lz WW XA XP XB XQ XR Xd Xi X12 Xk O7 V8 O9 O12 O13 O1 O2 O3
            have WW := WWn
            have XA := XAn
            have XP := XPn
            have XB := XBn
            have XQ := XQn
            have XR := XRn
            have Xd := Xdn
            have Xi := Xin
            have X12 := X12n
            have Xk := Xkn
            have O7 := O7n
            have V8 := V8n
            have O9 := O9n
            have O12 := O12n
            have O13 := O13n
            have O1 := O1n
            have O2 := O2n
            have O3 := O3n
            have hHeld := hHeld2
            clear hHeld2
            clear WWn XAn XPn XBn XQn XRn Xdn Xin X12n Xkn O7n V8n O9n O12n O13n O1n O2n O3n
            refine AnyL_done (by kernel_rfl) ?_ _
            clear hHeld
            refine NoPanic.normal ?_
            exact ⟨rfl, gXk, D1, d1, D2, d2, D3, d3, rfl, WW, XA, XP, XB, XQ, XR, Xd, Xi, X12, Xk, O7, V8, O9, O12, O13, O1, O2, O3, (by first | exact mXkXd | omega), (by first | exact mXkXi | omega), (by first | exact mXkX12 | omega), (by first | exact mXkXR | omega)⟩
        refine ReadyL.cons (o := oq29_11_9) rfl (fun K hK => ?_) ReadyL.nil
        · delta oq29_11_9
          have lqXd : gXd < U62x0.heap.size := Xd.lt
          have lqXi : gXi < U62x0.heap.size := Xi.lt
          have lqX12 : V57.heap.size < U62x0.heap.size := X12.lt
          have lqXR : w.heap.size + 1 + 1 + 1 + 1 < U62x0.heap.size := XR.lt
          go_simp
          have ba := (Below.refl U62x0.heap.size U62x0).alloc (Nat.le_refl _) (.cells #[.slice none 0 0] 24)
          have XAn := XA.below ba
          have XPn := XP.below ba
          have XBn := XB.below ba
          have XQn := XQ.below ba
          have XRn := XR.below ba
          have Xdn := Xd.below ba
          have Xin := Xi.below ba
          have X12n := X12.below ba
          have O7n := O7.below ba (Nat.le_refl _)
          have V8n := V8.below ba (Nat.le_refl _)
          have O9n := O9.below ba (Nat.le_refl _)
          have O12n := O12.below ba (Nat.le_refl _)
          have O13n := O13.below ba (Nat.le_refl _)
          have bn := Blk.new U62x0 24 #[.slice none 0 0]
          have Xkn := VB.mk (B := w.heap.size) (a := 0) bn (.inr (Own.nil _ _ _ _ (Nat.zero_le _))) ba WW.size WW.size
          have WWn := WW.trans (ba.mono WW.size)
          have sn : U62x0.heap.size < (U62x0.alloc (.cells #[.slice none 0 0] 24)).heap.size := bn.lt
          refine hK.out _ _ (⟨XAn.cell, XBn.cell, XQn.cell, Xin.cell⟩) (fun hHeld2 => ?_)
          clear hK K hHeld
          (try simp only [oq29_11_9, Act.put, List.setIfInBounds_toArray, List.set_cons_zero, List.set_cons_succ])
          generalize hV : U62x0.alloc (.cells #[.slice none 0 0] 24) = V64 at hHeld2 sn WWn XAn XPn XBn XQn XRn Xdn Xin X12n Xkn O7n V8n O9n O12n O13n ⊢
          clear hV ba bn WW XA XP XB XQ XR Xd Xi X12 O7 V8 O9 O12 O13
          have WW := WWn
          have XA := XAn
          have XP := XPn
          have XB := XBn
          have XQ := XQn
          have XR := XRn
          have Xd := Xdn
          have Xi := Xin
          have X12 := X12n
          have Xk := Xkn
          have O7 := O7n
          have V8 := V8n
          have O9 := O9n
          have O12 := O12n
          have O13 := O13n
          have sz64 := sn
          have hHeld := hHeld2
          clear sn hHeld2 WWn XAn XPn XBn XQn XRn Xdn Xin X12n Xkn O7n V8n O9n O12n O13n
          obtain ⟨gXk, hg⟩ : ∃ x, x = U62x0.heap.size := ⟨_, rfl⟩
          have mXkXd : gXd < gXk := by omega
          have mXkXi : gXi < gXk := by omega
          have mXkX12 : V57.heap.size < gXk := by omega
          have mXkXR : w.heap.size + 1 + 1 + 1 + 1 < gXk := by omega
          rw [← hg] at Xk sz64 ⊢
          clear hg lqXd lqXi lqX12 lqXR
          refine AnyL_ready (rs := [3]) (by kernel_rfl) (by simp) ?_
          refine ReadyL.cons (o := oq29_11_3) rfl (fun K hK => ?_) ReadyL.nil
          delta oq29_11_3
          go_simp
          have hbs : w.heap.size ≤ V64.heap.size := WW.size
          have hc := remainder_any A A4 c1 c4 a q V64 XA.num XQ.num (by omega) (by omega) hqn
          rw [← HR1.out] at hc
          refine hc.mono ?_
          clear hc
          rintro e V65 ⟨v, rfl, hv, hb⟩
          replace XA := XA.below hb
          replace XP := XP.below hb
          replace XB := XB.below hb
          replace XQ := XQ.below hb
          replace XR := XR.below hb
          replace Xd := Xd.below hb
          replace Xi := Xi.below hb
          replace X12 := X12.below hb
          replace Xk := Xk.below hb
          replace O7 := O7.below hb (Nat.le_refl _)
          replace V8 := V8.below hb (Nat.le_refl _)
          replace O9 := O9.below hb (Nat.le_refl _)
          replace O12 := O12.below hb (Nat.le_refl _)
          replace O13 := O13.below hb (Nat.le_refl _)
          replace WW := WW.trans (hb.mono WW.size)
          have sz65 := hb.size
          obtain ⟨D1, d1, rfl, ho⟩ := hv
          have O1 := ho.weak (b := w.heap.size) hbs
          clear ho
          clear hb hbs
          refine hK.out _ _ (⟨XA.cell, XB.cell, XQ.cell, Xi.cell⟩) (fun hHeld2 => ?_)
          clear hK K hHeld
          have hHeld := hHeld2
          clear hHeld2
          (try simp only [oq29_11_3, Act.put, List.setIfInBounds_toArray, List.set_cons_zero, List.set_cons_succ])
          refine AnyL_ready (rs := [5]) (by kernel_rfl) (by simp) ?_
          refine ReadyL.cons (o := oq29_11_5) rfl (fun K hK => ?_) ReadyL.nil
          delta oq29_11_5
          go_simp
          have hbs : w.heap.size ≤ V65.heap.size := WW.size
          have hc := difference2_any A3 D1 A4 c3 d1 c4 b r1 q V65 XB.num O1.num XQ.num (by omega) (by omega) (by omega) hqn r1q hbs1
          rw [← HS1.out] at hc
          refine hc.mono ?_
          clear hc
          rintro e V66 ⟨v, rfl, hv, hb⟩
          replace XA := XA.below hb
          replace XP := XP.below hb
          replace XB := XB.below hb
          replace XQ := XQ.below hb
          replace XR := XR.below hb
          replace Xd := Xd.below hb
          replace Xi := Xi.below hb
          replace X12 := X12.below hb
          replace Xk := Xk.below hb
          replace O7 := O7.below hb (Nat.le_refl _)
          replace V8 := V8.below hb (Nat.le_refl _)
          replace O9 := O9.below hb (Nat.le_refl _)
          replace O12 := O12.below hb (Nat.le_refl _)
          replace O13 := O13.below hb (Nat.le_refl _)
          replace O1 := O1.below hb (Nat.le_refl _)
          replace WW := WW.trans (hb.mono WW.size)
          have sz66 := hb.size
          obtain ⟨D2, d2, rfl, ho⟩ := hv
          have O2 := ho.weak (b := w.heap.size) hbs
          clear ho
          clear hb hbs
          refine hK.out _ _ (⟨XA.cell, XB.cell, XQ.cell, Xi.cell⟩) (fun hHeld2 => ?_)
          clear hK K hHeld
          have hHeld := hHeld2
          clear hHeld2
          (try simp only [oq29_11_5, Act.put, List.setIfInBounds_toArray, List.set_cons_zero, List.set_cons_succ])
          refine AnyL_ready (rs := [8]) (by kernel_rfl) (by simp) ?_
          refine ReadyL.cons (o := oq29_11_8) rfl (fun K hK => ?_) ReadyL.nil
          delta oq29_11_8
          go_simp
          have hbs : w.heap.size ≤ V66.heap.size := WW.size
          have hc := product2_any D2 D9 A4 d2 d9 c4 s1 x8 q V66 O2.num Xi.num XQ.num (by omega) (by omega) (by omega) hqn hsx
          rw [← HK1.out] at hc
          refine hc.mono ?_
          clear hc
          rintro e V67 ⟨v, rfl, hv, hb⟩
          replace XA := XA.below hb
          replace XP := XP.below hb
          replace XB := XB.below hb
          replace XQ := XQ.below hb
          replace XR := XR.below hb
          replace Xd := Xd.below hb
          replace Xi := Xi.below hb
          replace X12 := X12.below hb
          replace Xk := Xk.below hb
          replace O7 := O7.below hb (Nat.le_refl _)
          replace V8 := V8.below hb (Nat.le_refl _)
          replace O9 := O9.below hb (Nat.le_refl _)
          replace O12 := O12.below hb (Nat.le_refl _)
          replace O13 := O13.below hb (Nat.le_refl _)
          replace O1 := O1.below hb (Nat.le_refl _)
          replace O2 := O2.below hb (Nat.le_refl _)
          replace WW := WW.trans (hb.mono WW.size)
          have sz67 := hb.size
          obtain ⟨D3, d3, rfl, ho⟩ := hv
          have O3 := ho.weak (b := w.heap.size) hbs
          clear ho
          clear hb hbs
          refine hK.out _ _ (⟨XA.cell, XB.cell, XQ.cell, Xi.cell⟩) (fun hHeld2 => ?_)
          clear hK K hHeld
          have hHeld := hHeld2
          clear hHeld2
          (try simp only [oq29_11_8, Act.put, List.setIfInBounds_toArray, List.set_cons_zero, List.set_cons_succ])
          refine AnyL_ready (rs := [10]) (by kernel_rfl) (by simp) ?_
          refine ReadyL.cons (o := oq29_11_10) rfl (fun K hK => ?_) ReadyL.nil
          delta oq29_11_10
          have fz := Xk.1.frozen 0
          have cz := Xk.cell
          have lz := Xk.lt
          go_simp
          have XAn := XA.far (p := ⟨gXk, 0, none⟩) Xk.1 Xk.2.2 (by simp <;> omega) (.slice D3 (nw k1) d3)
          have XPn := XP.far (p := ⟨gXk, 0, none⟩) Xk.1 Xk.2.2 (by simp <;> omega) (.slice D3 (nw k1) d3)
          have XBn := XB.far (p := ⟨gXk, 0, none⟩) Xk.1 Xk.2.2 (by simp <;> omega) (.slice D3 (nw k1) d3)
          have XQn := XQ.far (p := ⟨gXk, 0, none⟩) Xk.1 Xk.2.2 (by simp <;> omega) (.slice D3 (nw k1) d3)
          have XRn := XR.far (p := ⟨gXk, 0, none⟩) Xk.1 Xk.2.2 (by simp <;> omega) (.slice D3 (nw k1) d3)
          have Xdn := Xd.far (p := ⟨gXk, 0, none⟩) Xk.1 Xk.2.2 (by simp <;> omega) (.slice D3 (nw k1) d3)
          have Xin := Xi.far (p := ⟨gXk, 0, none⟩) Xk.1 Xk.2.2 (by simp <;> omega) (.slice D3 (nw k1) d3)
          have X12n := X12.far (p := ⟨gXk, 0, none⟩) Xk.1 Xk.2.2 (by simp <;> omega) (.slice D3 (nw k1) d3)
          have Xkn := Xk.set_ (A' := D3) (n' := (nw k1)) (c' := d3) (a' := k1) (.inr O3)
          have O7n := O7.box (p := ⟨gXk, 0, none⟩) Xk.1 (by decide) (.slice D3 (nw k1) d3)
          have V8n := V8.box (p := ⟨gXk, 0, none⟩) Xk.1 Xk.2.2 (.slice D3 (nw k1) d3)
          have O9n := O9.box (p := ⟨gXk, 0, none⟩) Xk.1 (by decide) (.slice D3 (nw k1) d3)
          have O12n := O12.box (p := ⟨gXk, 0, none⟩) Xk.1 (by decide) (.slice D3 (nw k1) d3)
          have O13n := O13.box (p := ⟨gXk, 0, none⟩) Xk.1 (by decide) (.slice D3 (nw k1) d3)
          have O1n := O1.box (p := ⟨gXk, 0, none⟩) Xk.1 (by decide) (.slice D3 (nw k1) d3)
          have O2n := O2.box (p := ⟨gXk, 0, none⟩) Xk.1 (by decide) (.slice D3 (nw k1) d3)
          have O3n := O3.box (p := ⟨gXk, 0, none⟩) Xk.1 (by decide) (.slice D3 (nw k1) d3)
          have WWn := WW.setCell (p := ⟨gXk, 0, none⟩) (by simp <;> omega) (.slice D3 (nw k1) d3)
          refine hK.out _ _ (⟨XAn.cell, XBn.cell, XQn.cell, Xin.cell⟩) (fun hHeld2 => ?_)
          clear hK K hHeld
          (try simp only [oq29_11_10, Act.put, List.setIfInBounds_toArray, List.set_cons_zero, List.set_cons_succ])
          generalize hV : V67.setCell ⟨gXk, 0, none⟩ (.slice D3 (nw k1) d3) = V68 at hHeld2 WWn XAn XPn XBn XQn XRn Xdn Xin X12n Xkn O7n V8n O9n O12n O13n O1n O2n O3n ⊢
          clear hV fz cz lz WW XA XP XB XQ XR Xd Xi X12 Xk O7 V8 O9 O12 O13 O1 O2 O3
          have WW := WWn
          have XA := XAn
          have XP := XPn
          have XB := XBn
          have XQ := XQn
          have XR := XRn
          have Xd := Xdn
          have Xi := Xin
          have X12 := X12n
          have Xk := Xkn
          have O7 := O7n
          have V8 := V8n
          have O9 := O9n
          have O12 := O12n
          have O13 := O13n
          have O1 := O1n
          have O2 := O2n
          have O3 := O3n
          have hHeld := hHeld2
          clear hHeld2
          clear WWn XAn XPn XBn XQn XRn Xdn Xin X12n Xkn O7n V8n O9n O12n O13n O1n O2n O3n
          refine AnyL_done (by kernel_rfl) ?_ _
          clear hHeld
          refine NoPanic.normal ?_
          exact ⟨rfl, gXk, D1, d1, D2, d2, D3, d3, rfl, WW, XA, XP, XB, XQ, XR, Xd, Xi, X12, Xk, O7, V8, O9, O12, O13, O1, O2, O3, (by first | exact mXkXd | omega), (by first | exact mXkXi | omega), (by first | exact mXkX12 | omega), (by first | exact mXkXR | omega)⟩
      rintro gXk D1 d1 D2 d2 D3 d3 V112 ⟨WW, XA, XP, XB, XQ, XR, Xd, Xi, X12, Xk, O7, V8, O9, O12, O13, O1, O2, O3, mXkXd, mXkXi, mXkX12, mXkXR⟩
      have kXA := XA.cell
      have zXA := XA.lt
      have kXP := XP.cell
      have zXP := XP.lt
      have kXB := XB.cell
      have zXB := XB.lt
      have kXQ := XQ.cell
      have zXQ := XQ.lt
      have kXR := XR.cell
      have zXR := XR.lt
      have kXd := Xd.cell
      have zXd := Xd.lt
      have kXi := Xi.cell
      have zXi := Xi.lt
      have kX12 := X12.cell
      have zX12 := X12.lt
      have kXk := Xk.cell
      have zXk := Xk.lt
      go_wp2_with fail
      have hbs : w.heap.size ≤ V112.heap.size := WW.size
      have hc := mul_any A2 D3 _ _ c2 d3 p k1 V112 XP.num Xk.num (by omega) (by omega)
      rw [bothS_yes K3.out K5.out] at hc
      rw [← HU1.out] at hc
      rw [LU1.out] at hc
      refine hc.mono ?_
      clear hc
      rintro e V113 ⟨v, rfl, hv, hb⟩
      clear kXA zXA kXP zXP kXB zXB kXQ zXQ kXR zXR kXd zXd kXi zXi kX12 zX12 kXk zXk
      replace XA := XA.below hb
      replace XP := XP.below hb
      replace XB := XB.below hb
      replace XQ := XQ.below hb
      replace XR := XR.below hb
      replace Xd := Xd.below hb
      replace Xi := Xi.below hb
      replace X12 := X12.below hb
      replace Xk := Xk.below hb
      replace O7 := O7.below hb (Nat.le_refl _)
      replace V8 := V8.below hb (Nat.le_refl _)
      replace O9 := O9.below hb (Nat.le_refl _)
      replace O12 := O12.below hb (Nat.le_refl _)
      replace O13 := O13.below hb (Nat.le_refl _)
      replace O1 := O1.below hb (Nat.le_refl _)
      replace O2 := O2.below hb (Nat.le_refl _)
      replace O3 := O3.below hb (Nat.le_refl _)
      replace WW := WW.trans (hb.mono WW.size)
      obtain ⟨D4, d4, rfl, ho⟩ := hv
      have O4 := ho.weak (b := w.heap.size) hbs
      clear ho
      have kXA := XA.cell
      have zXA := XA.lt
      have kXP := XP.cell
      have zXP := XP.lt
      have kXB := XB.cell
      have zXB := XB.lt
      have kXQ := XQ.cell
      have zXQ := XQ.lt
      have kXR := XR.cell
      have zXR := XR.lt
      have kXd := Xd.cell
      have zXd := Xd.lt
      have kXi := Xi.cell
      have zXi := Xi.lt
      have kX12 := X12.cell
      have zX12 := X12.lt
      have kXk := Xk.cell
      have zXk := Xk.lt
      clear hb hbs
      go_wp2_with fail
      obtain ⟨b0, bw⟩ := boxes1 V113 (.slice D4 (nw u1) d4)
      have hbs := WW.size
      clear kXA zXA kXP zXP kXB zXB kXQ zXQ kXR zXR kXd zXd kXi zXi kX12 zX12 kXk zXk
      have qXd114 := Xd.lt
      have qXi114 := Xi.lt
      have qX12114 := X12.lt
      have qXk114 := Xk.lt
      have qXR114 := XR.lt
      have X4 := VB.mk (B := w.heap.size) (a := u1) b0 (.inr O4) bw hbs (by omega)
      replace XA := XA.below bw
      replace XP := XP.below bw
      replace XB := XB.below bw
      replace XQ := XQ.below bw
      replace XR := XR.below bw
      replace Xd := Xd.below bw
      replace Xi := Xi.below bw
      replace X12 := X12.below bw
      replace Xk := Xk.below bw
      replace O7 := O7.below bw (Nat.le_refl _)
      replace V8 := V8.below bw (Nat.le_refl _)
      replace O9 := O9.below bw (Nat.le_refl _)
      replace O12 := O12.below bw (Nat.le_refl _)
      replace O13 := O13.below bw (Nat.le_refl _)
      replace O1 := O1.below bw (Nat.le_refl _)
      replace O2 := O2.below bw (Nat.le_refl _)
      replace O3 := O3.below bw (Nat.le_refl _)
      replace O4 := O4.below bw (Nat.le_refl _)
      replace WW := WW.trans (bw.mono WW.size)
      clear bw hbs b0
      generalize hV : (V113.alloc (.cells #[.slice D4 (nw u1) d4] 24)) = V114 at XA XP XB XQ XR Xd Xi X12 Xk X4 O7 V8 O9 O12 O13 O1 O2 O3 O4 WW ⊢
      clear hV
      have kXA := XA.cell
      have zXA := XA.lt
      have kXP := XP.cell
      have zXP := XP.lt
      have kXB := XB.cell
      have zXB := XB.lt
      have kXQ := XQ.cell
      have zXQ := XQ.lt
      have kXR := XR.cell
      have zXR := XR.lt
      have kXd := Xd.cell
      have zXd := Xd.lt
      have kXi := Xi.cell
      have zXi := Xi.lt
      have kX12 := X12.cell
      have zX12 := X12.lt
      have kXk := Xk.cell
      have zXk := Xk.lt
      have kX4 := X4.cell
      have zX4 := X4.lt
      have hbs : w.heap.size ≤ V114.heap.size := WW.size
      have hc := add_any A D4 _ _ c1 d4 a u1 V114 XA.num X4.num (by omega) (by omega)
      rw [bothS_yes G1.out K6.out] at hc
      rw [← HV1.out] at hc
      rw [LV1.out] at hc
      refine hc.mono ?_
      clear hc
      rintro e V115 ⟨v, rfl, hv, hb⟩
      clear kXA zXA kXP zXP kXB zXB kXQ zXQ kXR zXR kXd zXd kXi zXi kX12 zX12 kXk zXk kX4 zX4
      replace XA := XA.below hb
      replace XP := XP.below hb
      replace XB := XB.below hb
      replace XQ := XQ.below hb
      replace XR := XR.below hb
      replace Xd := Xd.below hb
      replace Xi := Xi.below hb
      replace X12 := X12.below hb
      replace Xk := Xk.below hb
      replace X4 := X4.below hb
      replace O7 := O7.below hb (Nat.le_refl _)
      replace V8 := V8.below hb (Nat.le_refl _)
      replace O9 := O9.below hb (Nat.le_refl _)
      replace O12 := O12.below hb (Nat.le_refl _)
      replace O13 := O13.below hb (Nat.le_refl _)
      replace O1 := O1.below hb (Nat.le_refl _)
      replace O2 := O2.below hb (Nat.le_refl _)
      replace O3 := O3.below hb (Nat.le_refl _)
      replace O4 := O4.below hb (Nat.le_refl _)
      replace WW := WW.trans (hb.mono WW.size)
      obtain ⟨D5, d5, rfl, ho⟩ := hv
      have O5 := ho.weak (b := w.heap.size) hbs
      clear ho
      have kXA := XA.cell
      have zXA := XA.lt
      have kXP := XP.cell
      have zXP := XP.lt
      have kXB := XB.cell
      have zXB := XB.lt
      have kXQ := XQ.cell
      have zXQ := XQ.lt
      have kXR := XR.cell
      have zXR := XR.lt
      have kXd := Xd.cell
      have zXd := Xd.lt
      have kXi := Xi.cell
      have zXi := Xi.lt
      have kX12 := X12.cell
      have zX12 := X12.lt
      have kXk := Xk.cell
      have zXk := Xk.lt
      have kX4 := X4.cell
      have zX4 := X4.lt
      clear hb hbs
      have fXR := XR.1.frozen 0
      go_wp2_with fail
      have ho2 := (O5.box (p := ⟨w.heap.size + 1 + 1 + 1 + 1, 0, none⟩) XR.1 (by decide) (.slice D5 (nw v1) d5)).alloc (.cells #[.slice D5 (nw v1) d5] 24)
      have hw2 := WW.setCell (p := ⟨w.heap.size + 1 + 1 + 1 + 1, 0, none⟩) (by simp <;> omega) (.slice D5 (nw v1) d5)
      have hk : ((V115.setCell ⟨w.heap.size + 1 + 1 + 1 + 1, 0, none⟩ (.slice D5 (nw v1) d5)).alloc (.cells #[.slice D5 (nw v1) d5] 24)).cell? ⟨w.heap.size + 1 + 1 + 1 + 1, 0, none⟩ = some (.slice D5 (nw v1) d5) := (((XR.1.set_ 0 (.slice D5 (nw v1) d5)).alloc _).cell 0).trans rfl
      exact bodyPost_ret (v := .tuple #[.agg #[.slice D5 (nw v1) d5], .int .i64 0]) (by simp [results, Try.results29, go_sem, hk]) rfl (by show RetTwo _ _ _ _ _ _; rw [HV.out, if_pos HG1.out, if_pos HPQ32.out, HRES.out]; exact ⟨_, rfl, ⟨D5, d5, rfl, ho2⟩, hw2.alloc hw2.size _⟩)
    · have HPQ32 := hid h8
      have M3 : Hid (modB (nw pq) pq = false) := modB_not (by rw [HPQ.out]; exact h8)
      clear h8
      have hbs : w.heap.size ≤ V61.heap.size := WW.size
      have hc := modulus_any D12 _ d12 pq V61 X12.num (by omega)
      rw [M3.out] at hc
      refine hc.mono ?_
      clear hc
      rintro e V62 ⟨rfl, hb⟩
      clear kXA zXA kXP zXP kXB zXB kXQ zXQ kXR zXR kXd zXd kXi zXi kX12 zX12
      replace XA := XA.below hb
      replace XP := XP.below hb
      replace XB := XB.below hb
      replace XQ := XQ.below hb
      replace XR := XR.below hb
      replace Xd := Xd.below hb
      replace Xi := Xi.below hb
      replace X12 := X12.below hb
      replace O7 := O7.below hb (Nat.le_refl _)
      replace V8 := V8.below hb (Nat.le_refl _)
      replace O9 := O9.below hb (Nat.le_refl _)
      replace O12 := O12.below hb (Nat.le_refl _)
      replace O13 := O13.below hb (Nat.le_refl _)
      replace WW := WW.trans (hb.mono WW.size)
      have fXR := XR.1.frozen 0
      have kXA := XA.cell
      have zXA := XA.lt
      have kXP := XP.cell
      have zXP := XP.lt
      have kXB := XB.cell
      have zXB := XB.lt
      have kXQ := XQ.cell
      have zXQ := XQ.lt
      have kXR := XR.cell
      have zXR := XR.lt
      have kXd := Xd.cell
      have zXd := Xd.lt
      have kXi := Xi.cell
      have zXi := Xi.lt
      have kX12 := X12.cell
      have zX12 := X12.lt
      clear hb hbs
      go_wp2_with fail
      exact bodyPost_ret (v := .tuple #[.agg #[.slice none 0 0], .int .i64 9]) (by simp [results, Try.results29, go_sem, kXR, zXR]) rfl (by show RetTwo _ _ _ _ _ _; rw [HV.out, if_pos HG1.out, if_neg HPQ32.out]; exact ⟨_, rfl, NatV.nil _ _, WW.setCell (by simp <;> omega) _⟩)
  · have HG1 := hid h7
    have HO : Hid (ordN g 1 ≠ 0) := (show ordN g 1 ≠ 0 from fun h => h7 (by rw [← HGP.out]; exact ordN_zero.1 h))
    obtain ⟨od, hod⟩ : ∃ x, ordN g 1 = x := ⟨_, rfl⟩
    rw [hod] at HO
    have OD := hid hod
    have hz1 : (od != 0) = true := by simpa using HO.out
    have hob := ordN_bd g 1
    rw [hod] at hob
    clear hod h7
    have WWd := WW.drew
    have XAd := XA.drew
    have XPd := XP.drew
    have XBd := XB.drew
    have XQd := XQ.drew
    have XRd := XR.drew
    have Xdd := Xd.drew
    have Xid := Xi.drew
    have X12d := X12.drew
    have O7d := O7.drew
    have V8d := V8.drew
    have O9d := O9.drew
    have O12d := O12.drew
    have hst : (fun w' => w'.cell? ⟨gXd, 0, none⟩ = some (.slice D8 (nw g) d8)) V58.drew := Xd.cell
    clear WW kXA zXA kXP zXP kXB zXB kXQ zXQ kXR zXR kXd zXd kXi zXi kX12 zX12 XA XP XB XQ XR Xd Xi X12 O7 V8 O9 O12
    have qq0 := X12d.lt
    refine region_L 12 (fun w' => w'.cell? ⟨gXd, 0, none⟩ = some (.slice D8 (nw g) d8)) (by kernel_rfl) hst (fun hHeld => ?_)
    clear hst
    generalize hV : V58.drew = U58x0 at hHeld WWd qq0 XAd XPd XBd XQd XRd Xdd Xid X12d O7d V8d O9d O12d ⊢
    clear hV
    have WW := WWd
    have XA := XAd
    have XP := XPd
    have XB := XBd
    have XQ := XQd
    have XR := XRd
    have Xd := Xdd
    have Xi := Xid
    have X12 := X12d
    have O7 := O7d
    have V8 := V8d
    have O9 := O9d
    have O12 := O12d
    clear WWd XAd XPd XBd XQd XRd Xdd Xid X12d O7d V8d O9d O12d
    refine AnyL_take (i := 0) (oi := oq29_7_0) (v := ?_) rfl (by kernel_rfl) (by kernel_rfl) (by kernel_rfl) (by kernel_rfl) (fun _ _ _ h => h) (Or.inl ⟨by rfl, ?_⟩) (by assumption) ?_
    rotate_left
    · (delta oq29_7_0; intro ws hSw; (try dsimp only at hSw); (try go_simp); (try with_reducible rfl))
    (try simp only [oq29_7_0, Act.put, List.setIfInBounds_toArray, List.set_cons_zero, List.set_cons_succ])
    refine AnyL_ready (rs := [1]) (by kernel_rfl) (by simp) ?_
    refine ReadyL.cons (o := oq29_7_1) rfl (fun K hK => ?_) ReadyL.nil
    delta oq29_7_1
    go_simp
    have hbs : w.heap.size ≤ U58x0.heap.size := WW.size
    have hc := one_any U58x0
    refine hc.mono ?_
    clear hc
    rintro e V60 ⟨v, rfl, hv, hb⟩
    replace XA := XA.below hb
    replace XP := XP.below hb
    replace XB := XB.below hb
    replace XQ := XQ.below hb
    replace XR := XR.below hb
    replace Xd := Xd.below hb
    replace Xi := Xi.below hb
    replace X12 := X12.below hb
    replace O7 := O7.below hb (Nat.le_refl _)
    replace V8 := V8.below hb (Nat.le_refl _)
    replace O9 := O9.below hb (Nat.le_refl _)
    replace O12 := O12.below hb (Nat.le_refl _)
    replace WW := WW.trans (hb.mono WW.size)
    have sz60 := hb.size
    obtain ⟨D13, d13, rfl, ho⟩ := hv
    have O13 := ho.weak (b := w.heap.size) hbs
    clear ho
    clear hb hbs
    refine hK.out _ _ (Xd.cell) (fun hHeld2 => ?_)
    clear hK K hHeld
    have hHeld := hHeld2
    clear hHeld2
    (try simp only [oq29_7_1, Act.put, List.setIfInBounds_toArray, List.set_cons_zero, List.set_cons_succ])
    refine AnyL_ready (rs := [2]) (by kernel_rfl) (by simp) ?_
    refine ReadyL.cons (o := oq29_7_2) rfl (fun K hK => ?_) ReadyL.nil
    delta oq29_7_2
    go_simp
    have hbs : w.heap.size ≤ V60.heap.size := WW.size
    have hc := cmp_any D8 D13 _ _ d8 d13 g 1 V60 Xd.num O13.num (by omega) (by decide)
    rw [bothC_yes K1.out K2.out] at hc
    rw [OD.out] at hc
    refine hc.mono ?_
    clear hc
    rintro e V61 ⟨rfl, hb⟩
    replace XA := XA.below hb
    replace XP := XP.below hb
    replace XB := XB.below hb
    replace XQ := XQ.below hb
    replace XR := XR.below hb
    replace Xd := Xd.below hb
    replace Xi := Xi.below hb
    replace X12 := X12.below hb
    replace O7 := O7.below hb (Nat.le_refl _)
    replace V8 := V8.below hb (Nat.le_refl _)
    replace O9 := O9.below hb (Nat.le_refl _)
    replace O12 := O12.below hb (Nat.le_refl _)
    replace O13 := O13.below hb (Nat.le_refl _)
    replace WW := WW.trans (hb.mono WW.size)
    have sz61 := hb.size
    clear hb hbs
    refine hK.out _ _ (Xd.cell) (fun hHeld2 => ?_)
    clear hK K hHeld
    have hHeld := hHeld2
    clear hHeld2
    (try simp only [oq29_7_2, Act.put, List.setIfInBounds_toArray, List.set_cons_zero, List.set_cons_succ])
    refine AnyL_take (i := 3) (oi := oq29_7_3) (v := ?_) rfl (by kernel_rfl) (by kernel_rfl) (by kernel_rfl) (by kernel_rfl) (fun _ _ _ h => h) (Or.inl ⟨by rfl, ?_⟩) (by assumption) ?_
    rotate_left
    · (delta oq29_7_3; intro ws hSw; (try dsimp only at hSw); (try go_simp); (try with_reducible rfl))
    (try simp only [oq29_7_3, Act.put, List.setIfInBounds_toArray, List.set_cons_zero, List.set_cons_succ])
    refine AnyL_take (i := 4) (oi := oq29_7_4) (v := ?_) rfl (by kernel_rfl) (by kernel_rfl) (by kernel_rfl) (by kernel_rfl) (fun _ _ _ h => h) (Or.inl ⟨by rfl, ?_⟩) (by assumption) ?_
    rotate_left
    · (delta oq29_7_4; intro ws hSw; (try dsimp only at hSw); (try go_simp); (try with_reducible rfl))
    (try simp only [oq29_7_4, Act.put, List.setIfInBounds_toArray, List.set_cons_zero, List.set_cons_succ])
    refine AnyL_done (by kernel_rfl) ?_ _
    clear hHeld
    have kXA := XA.cell
    have zXA := XA.lt
    have kXP := XP.cell
    have zXP := XP.lt
    have kXB := XB.cell
    have zXB := XB.lt
    have kXQ := XQ.cell
    have zXQ := XQ.lt
    have kXR := XR.cell
    have zXR := XR.lt
    have kXd := Xd.cell
    have zXd := Xd.lt
    have kXi := Xi.cell
    have zXi := Xi.lt
    have kX12 := X12.cell
    have zX12 := X12.lt
    have fXR := XR.1.frozen 0
    go_wp2_with fail
    exact bodyPost_ret (v := .tuple #[.agg #[.slice none 0 0], .int .i64 10]) (by simp [results, Try.results29, go_sem, kXR, zXR]) rfl (by show RetTwo _ _ _ _ _ _; rw [HV.out, if_neg HG1.out]; exact ⟨_, rfl, NatV.nil _ _, WW.setCell (by simp <;> omega) _⟩)

theorem ncrt_any (A A2 A3 A4 : Option Addr) (n k j l c1 c2 c3 c4 a p b q : Nat) (w : World) (hA : Num w w.heap.size A n a) (hP : Num w w.heap.size A2 k p) (hB : Num w w.heap.size A3 j b) (hQ : Num w w.heap.size A4 l q) (hn : n ≤ 9223372036854775807) (hk : k ≤ 9223372036854775807) (hj : j ≤ 9223372036854775807) (hl : l ≤ 9223372036854775807) :
    Calls Try.prog 29 #[.agg #[.slice A n c1], .agg #[.slice A2 k c2], .agg #[.slice A3 j c3], .agg #[.slice A4 l c4]] w (RetTwo w.heap.size (crtV n a k p j b l q).1 (crtV n a k p j b l q).2 w) := by
  cases h1 : okB n a
  · exact ncrt_a1 A A2 A3 A4 n k j l c1 c2 c3 c4 a p b q w hA hP hB hQ hn hk hj hl h1
  cases h2 : okB j b
  · exact ncrt_a2 A A2 A3 A4 n k j l c1 c2 c3 c4 a p b q w hA hP hB hQ hn hk hj hl h1 h2
  cases h3 : modB k p
  · exact ncrt_a3 A A2 A3 A4 n k j l c1 c2 c3 c4 a p b q w hA hP hB hQ hn hk hj hl h1 h2 h3
  cases h4 : modB l q
  · exact ncrt_a4 A A2 A3 A4 n k j l c1 c2 c3 c4 a p b q w hA hP hB hQ hn hk hj hl h1 h2 h3 h4
  by_cases h5 : a < p
  · by_cases h6 : b < q
    · obtain ⟨e1, na⟩ := okB_yes.1 h1
      obtain ⟨e2, nb⟩ := okB_yes.1 h2
      obtain ⟨e3, np, hp0⟩ := modB_yes h3
      obtain ⟨e4, nq, hq0⟩ := modB_yes h4
      subst e1 e2 e3 e4
      exact ncrt_deep A A2 A3 A4 c1 c2 c3 c4 a p b q w hA hP hB hQ np nq h5 h6
    · exact ncrt_r2 A A2 A3 A4 n k j l c1 c2 c3 c4 a p b q w hA hP hB hQ hn hk hj hl h1 h2 h3 h4 h5 h6
  · exact ncrt_r1 A A2 A3 A4 n k j l c1 c2 c3 c4 a p b q w hA hP hB hQ hn hk hj hl h1 h2 h3 h4 h5

theorem crt_ok (A A2 A3 A4 : Option Addr) (c1 c2 c3 c4 a p b q : Nat) (w : World) (hA : Num w w.heap.size A (nw a) a) (hP : Num w w.heap.size A2 (nw p) p) (hB : Num w w.heap.size A3 (nw b) b) (hQ : Num w w.heap.size A4 (nw q) q) (hp32 : nw p ≤ 32) (hq32 : nw q ≤ 32) (hap : a < p) (hbq : b < q) (hg : Nat.gcd p q = 1) (hpq : nw (p * q) ≤ 32) :
    Calls Try.prog 29 #[.agg #[.slice A (nw a) c1], .agg #[.slice A2 (nw p) c2], .agg #[.slice A3 (nw b) c3], .agg #[.slice A4 (nw q) c4]] w (RetTwo w.heap.size (crtN a p b q) 0 w) := by
  have h := ncrt_deep A A2 A3 A4 c1 c2 c3 c4 a p b q w hA hP hB hQ hp32 hq32 hap hbq
  rw [crtV_deep hp32 hq32 hap hbq, if_pos hg, if_pos hpq] at h
  exact h
end Go.Proofs.Ytckajjapockonaa
