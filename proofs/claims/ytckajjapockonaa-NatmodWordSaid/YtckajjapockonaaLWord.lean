/- NatmodWord: the walk. -/
import Derived.Test.YtckajjapockonaaWlaw
set_option linter.unusedVariables false
set_option linter.unusedSimpArgs false
namespace Go.Proofs.Ytckajjapockonaa
open Go.RowKit

def oq11_3_0 : Oper := { dst := some 37, op := Op.move (Operand.tmp 0), type := 42, pos := "law.go:227", after := #[], guard := none }
def oq11_3_1 : Oper := { dst := some 38, op := Op.move (Operand.tmp 2), type := 42, pos := "law.go:227", after := #[], guard := none }
def oq11_3_2 : Oper := { dst := some 39, op := Op.binOp BinOp.rem 42 (Operand.tmp 37) (Operand.tmp 38) 42, type := 42, pos := "law.go:227", after := #[{ on := 0, ground := Ground.data }, { on := 1, ground := Ground.data }], guard := none }
def oq11_3_3 : Oper := { dst := some 40, op := Op.convert 42 3 (Operand.tmp 39), type := 3, pos := "law.go:227", after := #[{ on := 2, ground := Ground.data }], guard := none }
def oq11_3_4 : Oper := { dst := some 41, op := Op.move (Operand.tmp 1), type := 42, pos := "law.go:227", after := #[{ on := 10, ground := Ground.gcOnly Departure.lateStores }], guard := none }
def oq11_3_5 : Oper := { dst := some 42, op := Op.move (Operand.tmp 2), type := 42, pos := "law.go:227", after := #[{ on := 10, ground := Ground.gcOnly Departure.lateStores }], guard := none }
def oq11_3_6 : Oper := { dst := some 43, op := Op.binOp BinOp.rem 42 (Operand.tmp 41) (Operand.tmp 42) 42, type := 42, pos := "law.go:227", after := #[{ on := 4, ground := Ground.data }, { on := 5, ground := Ground.data }, { on := 10, ground := Ground.gcOnly Departure.lateStores }], guard := none }
def oq11_3_7 : Oper := { dst := some 44, op := Op.convert 42 3 (Operand.tmp 43), type := 3, pos := "law.go:227", after := #[{ on := 6, ground := Ground.data }, { on := 10, ground := Ground.gcOnly Departure.lateStores }], guard := none }
def oq11_3_8 : Oper := { dst := some 45, op := Op.move (Operand.tmp 2), type := 42, pos := "law.go:227", after := #[{ on := 11, ground := Ground.gcOnly Departure.lateStores }], guard := none }
def oq11_3_9 : Oper := { dst := some 46, op := Op.convert 42 3 (Operand.tmp 45), type := 3, pos := "law.go:227", after := #[{ on := 8, ground := Ground.data }, { on := 11, ground := Ground.gcOnly Departure.lateStores }], guard := none }
def oq11_3_10 : Oper := { dst := some 7, op := Op.assign (Operand.tmp 40), type := 3, pos := "law.go:227", after := #[{ on := 3, ground := Ground.data }, { on := 0, ground := Ground.phase }, { on := 1, ground := Ground.phase }, { on := 2, ground := Ground.phase }, { on := 3, ground := Ground.phase }, { on := 4, ground := Ground.textOnly Departure.lateStores }, { on := 5, ground := Ground.textOnly Departure.lateStores }, { on := 6, ground := Ground.textOnly Departure.lateStores }, { on := 7, ground := Ground.textOnly Departure.lateStores }, { on := 8, ground := Ground.textOnly Departure.lateStores }, { on := 9, ground := Ground.textOnly Departure.lateStores }], guard := none }
def oq11_3_11 : Oper := { dst := some 8, op := Op.assign (Operand.tmp 44), type := 3, pos := "law.go:227", after := #[{ on := 7, ground := Ground.data }, { on := 10, ground := Ground.chain }, { on := 0, ground := Ground.phase }, { on := 1, ground := Ground.phase }, { on := 2, ground := Ground.phase }, { on := 3, ground := Ground.phase }, { on := 4, ground := Ground.phase }, { on := 5, ground := Ground.phase }, { on := 6, ground := Ground.phase }, { on := 7, ground := Ground.phase }, { on := 8, ground := Ground.textOnly Departure.lateStores }, { on := 9, ground := Ground.textOnly Departure.lateStores }, { on := 10, ground := Ground.phase }], guard := none }
def oq11_3_12 : Oper := { dst := some 9, op := Op.assign (Operand.tmp 46), type := 3, pos := "law.go:227", after := #[{ on := 9, ground := Ground.data }, { on := 11, ground := Ground.chain }, { on := 0, ground := Ground.phase }, { on := 1, ground := Ground.phase }, { on := 2, ground := Ground.phase }, { on := 3, ground := Ground.phase }, { on := 4, ground := Ground.phase }, { on := 5, ground := Ground.phase }, { on := 6, ground := Ground.phase }, { on := 7, ground := Ground.phase }, { on := 8, ground := Ground.phase }, { on := 9, ground := Ground.phase }, { on := 10, ground := Ground.phase }, { on := 11, ground := Ground.phase }], guard := none }
def oq11_4_0 : Oper := { dst := some 47, op := Op.move (Operand.tmp 0), type := 42, pos := "law.go:228", after := #[], guard := none }
def oq11_4_1 : Oper := { dst := some 48, op := Op.move (Operand.tmp 2), type := 42, pos := "law.go:228", after := #[], guard := none }
def oq11_4_2 : Oper := { dst := some 49, op := Op.binOp BinOp.rem 42 (Operand.tmp 47) (Operand.tmp 48) 42, type := 42, pos := "law.go:228", after := #[{ on := 0, ground := Ground.data }, { on := 1, ground := Ground.data }], guard := none }
def oq11_4_3 : Oper := { dst := some 50, op := Op.call { callee := Callee.value (Operand.func 32), args := #[Operand.tmp 49], argTypes := #[42] }, type := 24, pos := "law.go:228", after := #[{ on := 2, ground := Ground.data }], guard := none }
def oq11_4_4 : Oper := { dst := some 51, op := Op.move (Operand.tmp 1), type := 42, pos := "law.go:228", after := #[], guard := none }
def oq11_4_5 : Oper := { dst := some 52, op := Op.move (Operand.tmp 2), type := 42, pos := "law.go:228", after := #[], guard := none }
def oq11_4_6 : Oper := { dst := some 53, op := Op.binOp BinOp.rem 42 (Operand.tmp 51) (Operand.tmp 52) 42, type := 42, pos := "law.go:228", after := #[{ on := 4, ground := Ground.data }, { on := 5, ground := Ground.data }], guard := none }
def oq11_4_7 : Oper := { dst := some 54, op := Op.call { callee := Callee.value (Operand.func 32), args := #[Operand.tmp 53], argTypes := #[42] }, type := 24, pos := "law.go:228", after := #[{ on := 6, ground := Ground.data }, { on := 3, ground := Ground.chain }], guard := none }
def oq11_4_8 : Oper := { dst := some 55, op := Op.move (Operand.tmp 2), type := 42, pos := "law.go:228", after := #[], guard := none }
def oq11_4_9 : Oper := { dst := some 56, op := Op.call { callee := Callee.value (Operand.func 32), args := #[Operand.tmp 55], argTypes := #[42] }, type := 24, pos := "law.go:228", after := #[{ on := 8, ground := Ground.data }, { on := 7, ground := Ground.chain }], guard := none }
def oq11_4_10 : Oper := { dst := some 10, op := Op.alloc 24, type := 0, pos := "law.go:228", after := #[], guard := none }
def oq11_4_11 : Oper := { dst := some 11, op := Op.alloc 24, type := 0, pos := "law.go:228", after := #[], guard := none }
def oq11_4_12 : Oper := { dst := some 12, op := Op.alloc 24, type := 0, pos := "law.go:228", after := #[], guard := none }
def oq11_4_13 : Oper := { dst := none, op := Op.store 24 (Operand.tmp 10) (Operand.tmp 50), type := 0, pos := "law.go:228", after := #[{ on := 10, ground := Ground.data }, { on := 3, ground := Ground.data }, { on := 9, ground := Ground.chain }, { on := 0, ground := Ground.phase }, { on := 1, ground := Ground.phase }, { on := 2, ground := Ground.phase }, { on := 3, ground := Ground.phase }, { on := 4, ground := Ground.textOnly Departure.lateStores }, { on := 5, ground := Ground.textOnly Departure.lateStores }, { on := 6, ground := Ground.textOnly Departure.lateStores }, { on := 7, ground := Ground.textOnly Departure.lateStoresUnsure }, { on := 8, ground := Ground.textOnly Departure.lateStores }, { on := 9, ground := Ground.textOnly Departure.lateStoresUnsure }, { on := 10, ground := Ground.phase }, { on := 11, ground := Ground.phase }, { on := 12, ground := Ground.phase }], guard := none }
def oq11_4_14 : Oper := { dst := none, op := Op.store 24 (Operand.tmp 11) (Operand.tmp 54), type := 0, pos := "law.go:228", after := #[{ on := 11, ground := Ground.data }, { on := 7, ground := Ground.data }, { on := 13, ground := Ground.chain }, { on := 0, ground := Ground.phase }, { on := 1, ground := Ground.phase }, { on := 2, ground := Ground.phase }, { on := 3, ground := Ground.phase }, { on := 4, ground := Ground.phase }, { on := 5, ground := Ground.phase }, { on := 6, ground := Ground.phase }, { on := 7, ground := Ground.phase }, { on := 8, ground := Ground.textOnly Departure.lateStores }, { on := 9, ground := Ground.textOnly Departure.lateStoresUnsure }, { on := 10, ground := Ground.phase }, { on := 11, ground := Ground.phase }, { on := 12, ground := Ground.phase }, { on := 13, ground := Ground.phase }], guard := none }
def oq11_4_15 : Oper := { dst := none, op := Op.store 24 (Operand.tmp 12) (Operand.tmp 56), type := 0, pos := "law.go:228", after := #[{ on := 12, ground := Ground.data }, { on := 9, ground := Ground.data }, { on := 14, ground := Ground.chain }, { on := 0, ground := Ground.phase }, { on := 1, ground := Ground.phase }, { on := 2, ground := Ground.phase }, { on := 3, ground := Ground.phase }, { on := 4, ground := Ground.phase }, { on := 5, ground := Ground.phase }, { on := 6, ground := Ground.phase }, { on := 7, ground := Ground.phase }, { on := 8, ground := Ground.phase }, { on := 9, ground := Ground.phase }, { on := 10, ground := Ground.phase }, { on := 11, ground := Ground.phase }, { on := 12, ground := Ground.phase }, { on := 13, ground := Ground.phase }, { on := 14, ground := Ground.phase }], guard := none }
theorem cut_nnnananan {P : Program} {md : Region.Mode} {ops : Array Oper} {Q : Exit → Act → World → Prop} {t : Nat} {S : World → Prop} {n n' : Nat} {l l' : Array Bool} {a : Act} {w : World} {F : Nat → Nat → Nat → Option Addr → Nat → Option Addr → Nat → Option Addr → Nat → Act} (R : Nat → Nat → Nat → Option Addr → Nat → Option Addr → Nat → Option Addr → Nat → World → Prop)
    (h1 : (∀ x0 x1 x2 x3 x4 x5 x6 x7 x8 W, R x0 x1 x2 x3 x4 x5 x6 x7 x8 W → AnyL P md ops Q t S n l (F x0 x1 x2 x3 x4 x5 x6 x7 x8) W) → AnyL P md ops Q t S n' l' a w) (h2 : ∀ x0 x1 x2 x3 x4 x5 x6 x7 x8 W, R x0 x1 x2 x3 x4 x5 x6 x7 x8 W → AnyL P md ops Q t S n l (F x0 x1 x2 x3 x4 x5 x6 x7 x8) W) : AnyL P md ops Q t S n' l' a w := h1 h2
theorem cut_nnnanan {P : Program} {md : Region.Mode} {ops : Array Oper} {Q : Exit → Act → World → Prop} {t : Nat} {S : World → Prop} {n n' : Nat} {l l' : Array Bool} {a : Act} {w : World} {F : Nat → Nat → Nat → Option Addr → Nat → Option Addr → Nat → Act} (R : Nat → Nat → Nat → Option Addr → Nat → Option Addr → Nat → World → Prop)
    (h1 : (∀ x0 x1 x2 x3 x4 x5 x6 W, R x0 x1 x2 x3 x4 x5 x6 W → AnyL P md ops Q t S n l (F x0 x1 x2 x3 x4 x5 x6) W) → AnyL P md ops Q t S n' l' a w) (h2 : ∀ x0 x1 x2 x3 x4 x5 x6 W, R x0 x1 x2 x3 x4 x5 x6 W → AnyL P md ops Q t S n l (F x0 x1 x2 x3 x4 x5 x6) W) : AnyL P md ops Q t S n' l' a w := h1 h2
theorem cut_nnananan {P : Program} {md : Region.Mode} {ops : Array Oper} {Q : Exit → Act → World → Prop} {t : Nat} {S : World → Prop} {n n' : Nat} {l l' : Array Bool} {a : Act} {w : World} {F : Nat → Nat → Option Addr → Nat → Option Addr → Nat → Option Addr → Nat → Act} (R : Nat → Nat → Option Addr → Nat → Option Addr → Nat → Option Addr → Nat → World → Prop)
    (h1 : (∀ x0 x1 x2 x3 x4 x5 x6 x7 W, R x0 x1 x2 x3 x4 x5 x6 x7 W → AnyL P md ops Q t S n l (F x0 x1 x2 x3 x4 x5 x6 x7) W) → AnyL P md ops Q t S n' l' a w) (h2 : ∀ x0 x1 x2 x3 x4 x5 x6 x7 W, R x0 x1 x2 x3 x4 x5 x6 x7 W → AnyL P md ops Q t S n l (F x0 x1 x2 x3 x4 x5 x6 x7) W) : AnyL P md ops Q t S n' l' a w := h1 h2
theorem cut_nnnan {P : Program} {md : Region.Mode} {ops : Array Oper} {Q : Exit → Act → World → Prop} {t : Nat} {S : World → Prop} {n n' : Nat} {l l' : Array Bool} {a : Act} {w : World} {F : Nat → Nat → Nat → Option Addr → Nat → Act} (R : Nat → Nat → Nat → Option Addr → Nat → World → Prop)
    (h1 : (∀ x0 x1 x2 x3 x4 W, R x0 x1 x2 x3 x4 W → AnyL P md ops Q t S n l (F x0 x1 x2 x3 x4) W) → AnyL P md ops Q t S n' l' a w) (h2 : ∀ x0 x1 x2 x3 x4 W, R x0 x1 x2 x3 x4 W → AnyL P md ops Q t S n l (F x0 x1 x2 x3 x4) W) : AnyL P md ops Q t S n' l' a w := h1 h2
theorem cut_nnanan {P : Program} {md : Region.Mode} {ops : Array Oper} {Q : Exit → Act → World → Prop} {t : Nat} {S : World → Prop} {n n' : Nat} {l l' : Array Bool} {a : Act} {w : World} {F : Nat → Nat → Option Addr → Nat → Option Addr → Nat → Act} (R : Nat → Nat → Option Addr → Nat → Option Addr → Nat → World → Prop)
    (h1 : (∀ x0 x1 x2 x3 x4 x5 W, R x0 x1 x2 x3 x4 x5 W → AnyL P md ops Q t S n l (F x0 x1 x2 x3 x4 x5) W) → AnyL P md ops Q t S n' l' a w) (h2 : ∀ x0 x1 x2 x3 x4 x5 W, R x0 x1 x2 x3 x4 x5 W → AnyL P md ops Q t S n l (F x0 x1 x2 x3 x4 x5) W) : AnyL P md ops Q t S n' l' a w := h1 h2
theorem cut_nananan {P : Program} {md : Region.Mode} {ops : Array Oper} {Q : Exit → Act → World → Prop} {t : Nat} {S : World → Prop} {n n' : Nat} {l l' : Array Bool} {a : Act} {w : World} {F : Nat → Option Addr → Nat → Option Addr → Nat → Option Addr → Nat → Act} (R : Nat → Option Addr → Nat → Option Addr → Nat → Option Addr → Nat → World → Prop)
    (h1 : (∀ x0 x1 x2 x3 x4 x5 x6 W, R x0 x1 x2 x3 x4 x5 x6 W → AnyL P md ops Q t S n l (F x0 x1 x2 x3 x4 x5 x6) W) → AnyL P md ops Q t S n' l' a w) (h2 : ∀ x0 x1 x2 x3 x4 x5 x6 W, R x0 x1 x2 x3 x4 x5 x6 W → AnyL P md ops Q t S n l (F x0 x1 x2 x3 x4 x5 x6) W) : AnyL P md ops Q t S n' l' a w := h1 h2
theorem cut_nnn {P : Program} {md : Region.Mode} {ops : Array Oper} {Q : Exit → Act → World → Prop} {t : Nat} {S : World → Prop} {n n' : Nat} {l l' : Array Bool} {a : Act} {w : World} {F : Nat → Nat → Nat → Act} (R : Nat → Nat → Nat → World → Prop)
    (h1 : (∀ x0 x1 x2 W, R x0 x1 x2 W → AnyL P md ops Q t S n l (F x0 x1 x2) W) → AnyL P md ops Q t S n' l' a w) (h2 : ∀ x0 x1 x2 W, R x0 x1 x2 W → AnyL P md ops Q t S n l (F x0 x1 x2) W) : AnyL P md ops Q t S n' l' a w := h1 h2
theorem cut_nnan {P : Program} {md : Region.Mode} {ops : Array Oper} {Q : Exit → Act → World → Prop} {t : Nat} {S : World → Prop} {n n' : Nat} {l l' : Array Bool} {a : Act} {w : World} {F : Nat → Nat → Option Addr → Nat → Act} (R : Nat → Nat → Option Addr → Nat → World → Prop)
    (h1 : (∀ x0 x1 x2 x3 W, R x0 x1 x2 x3 W → AnyL P md ops Q t S n l (F x0 x1 x2 x3) W) → AnyL P md ops Q t S n' l' a w) (h2 : ∀ x0 x1 x2 x3 W, R x0 x1 x2 x3 W → AnyL P md ops Q t S n l (F x0 x1 x2 x3) W) : AnyL P md ops Q t S n' l' a w := h1 h2
theorem cut_nanan {P : Program} {md : Region.Mode} {ops : Array Oper} {Q : Exit → Act → World → Prop} {t : Nat} {S : World → Prop} {n n' : Nat} {l l' : Array Bool} {a : Act} {w : World} {F : Nat → Option Addr → Nat → Option Addr → Nat → Act} (R : Nat → Option Addr → Nat → Option Addr → Nat → World → Prop)
    (h1 : (∀ x0 x1 x2 x3 x4 W, R x0 x1 x2 x3 x4 W → AnyL P md ops Q t S n l (F x0 x1 x2 x3 x4) W) → AnyL P md ops Q t S n' l' a w) (h2 : ∀ x0 x1 x2 x3 x4 W, R x0 x1 x2 x3 x4 W → AnyL P md ops Q t S n l (F x0 x1 x2 x3 x4) W) : AnyL P md ops Q t S n' l' a w := h1 h2
theorem cut_nn {P : Program} {md : Region.Mode} {ops : Array Oper} {Q : Exit → Act → World → Prop} {t : Nat} {S : World → Prop} {n n' : Nat} {l l' : Array Bool} {a : Act} {w : World} {F : Nat → Nat → Act} (R : Nat → Nat → World → Prop)
    (h1 : (∀ x0 x1 W, R x0 x1 W → AnyL P md ops Q t S n l (F x0 x1) W) → AnyL P md ops Q t S n' l' a w) (h2 : ∀ x0 x1 W, R x0 x1 W → AnyL P md ops Q t S n l (F x0 x1) W) : AnyL P md ops Q t S n' l' a w := h1 h2
theorem cut_nan {P : Program} {md : Region.Mode} {ops : Array Oper} {Q : Exit → Act → World → Prop} {t : Nat} {S : World → Prop} {n n' : Nat} {l l' : Array Bool} {a : Act} {w : World} {F : Nat → Option Addr → Nat → Act} (R : Nat → Option Addr → Nat → World → Prop)
    (h1 : (∀ x0 x1 x2 W, R x0 x1 x2 W → AnyL P md ops Q t S n l (F x0 x1 x2) W) → AnyL P md ops Q t S n' l' a w) (h2 : ∀ x0 x1 x2 W, R x0 x1 x2 W → AnyL P md ops Q t S n l (F x0 x1 x2) W) : AnyL P md ops Q t S n' l' a w := h1 h2
theorem wp_landWd {P : Program} {c : Code} {Q : Exit → Act → World → Prop} {a : Act} {w : World} {F : Nat → Nat → Nat → Option Addr → Nat → Option Addr → Nat → Option Addr → Nat → Act} (R : Nat → Nat → Nat → Option Addr → Nat → Option Addr → Nat → Option Addr → Nat → World → Prop)
    (hreg : c.wp P (fun e a1 w1 => e = Exit.normal ∧ ∃ x0 x1 x2 x3 x4 x5 x6 x7 x8, a1 = F x0 x1 x2 x3 x4 x5 x6 x7 x8 ∧ R x0 x1 x2 x3 x4 x5 x6 x7 x8 w1) a w) (himp : ∀ x0 x1 x2 x3 x4 x5 x6 x7 x8 w1, R x0 x1 x2 x3 x4 x5 x6 x7 x8 w1 → Q Exit.normal (F x0 x1 x2 x3 x4 x5 x6 x7 x8) w1) : c.wp P Q a w :=
  Code.wp_mono (fun e a1 w1 h => by obtain ⟨rfl, x0, x1, x2, x3, x4, x5, x6, x7, x8, rfl, hR⟩ := h; exact himp _ _ _ _ _ _ _ _ _ w1 hR) hreg
set_option maxHeartbeats 16000000 in
set_option maxRecDepth 100000 in
theorem wordl_lo (a b m : Int) (w : World) (ha : 0 ≤ a ∧ a ≤ 18446744073709551615) (hb : 0 ≤ b ∧ b ≤ 18446744073709551615) (hm : 0 ≤ m ∧ m ≤ 18446744073709551615) (h1 : m < 1) :
    Calls Try.prog 11 #[.int .u64 a, .int .u64 b, .int .u64 m] w (RetB (.bool true) w) := by
  have WW := Below.refl w.heap.size w
  go_enter Try.func11, Try.ntmps11
  go_wp2_with fail
  obtain ⟨V0, hV⟩ : ∃ V, V = w := ⟨_, rfl⟩
  rw [← hV]
  replace WW : Below w.heap.size w V0 := by rw [hV]; exact WW
  clear hV
  have hbs : w.heap.size ≤ V0.heap.size := WW.size
  have hc := awake_any V0
  refine hc.mono ?_
  clear hc
  rintro e V1 ⟨rfl, hb⟩
  replace WW := WW.trans (hb.mono WW.size)
  clear hb hbs
  go_wp2_with fail
  have hbs : w.heap.size ≤ V1.heap.size := WW.size
  have hc := awake_any V1
  refine hc.mono ?_
  clear hc
  rintro e V2 ⟨rfl, hb⟩
  replace WW := WW.trans (hb.mono WW.size)
  clear hb hbs
  go_wp2_with fail
  go_ret
  exact ⟨rfl, WW⟩

set_option maxHeartbeats 16000000 in
set_option maxRecDepth 100000 in
theorem wordl_hi (a b m : Int) (w : World) (ha : 0 ≤ a ∧ a ≤ 18446744073709551615) (hb : 0 ≤ b ∧ b ≤ 18446744073709551615) (hm : 0 ≤ m ∧ m ≤ 18446744073709551615) (h1 : ¬ m < 1) (h2 : 2305843009213693952 ≤ m) :
    Calls Try.prog 11 #[.int .u64 a, .int .u64 b, .int .u64 m] w (RetB (.bool true) w) := by
  have WW := Below.refl w.heap.size w
  go_enter Try.func11, Try.ntmps11
  go_wp2_with fail
  obtain ⟨V0, hV⟩ : ∃ V, V = w := ⟨_, rfl⟩
  rw [← hV]
  replace WW : Below w.heap.size w V0 := by rw [hV]; exact WW
  clear hV
  have hbs : w.heap.size ≤ V0.heap.size := WW.size
  have hc := awake_any V0
  refine hc.mono ?_
  clear hc
  rintro e V1 ⟨rfl, hb⟩
  replace WW := WW.trans (hb.mono WW.size)
  clear hb hbs
  go_wp2_with fail
  have hbs : w.heap.size ≤ V1.heap.size := WW.size
  have hc := awake_any V1
  refine hc.mono ?_
  clear hc
  rintro e V2 ⟨rfl, hb⟩
  replace WW := WW.trans (hb.mono WW.size)
  clear hb hbs
  go_wp2_with fail
  go_ret
  exact ⟨rfl, WW⟩

set_option maxHeartbeats 16000000 in
set_option maxRecDepth 100000 in
theorem wordl_ok (X Y M : Nat) (a b m x y : Int) (w : World) (ha : 0 ≤ a) (ha1 : a ≤ 18446744073709551615) (hb0 : 0 ≤ b) (hb1 : b ≤ 18446744073709551615) (m4 : 1 ≤ m) (m3 : m < 2305843009213693952) (hX : a % m = x) (hY : b % m = y) (eM : Hid (m = (M : Int))) (eX : Hid (x = (X : Int))) (eY : Hid (y = (Y : Int))) (x0 : 0 ≤ x) (x1 : x < m) (y0 : 0 ≤ y) (y1 : y < m) (hg : Nat.gcd X M = 1) :
    Calls Try.prog 11 #[.int .u64 a, .int .u64 b, .int .u64 m] w (RetB (.bool true) w) := by
  have H1 : Hid (1 ≤ M ∧ M < 2305843009213693952) := (show 1 ≤ M ∧ M < 2305843009213693952 by have := eM.out; omega)
  have lX : X < M := by have := eM.out; have := eX.out; omega
  have lY : Y < M := by have := eM.out; have := eY.out; omega
  have m1 : ¬ (m < 1) := by omega
  have m2 : ¬ ((2305843009213693952 : Int) ≤ m) := by omega
  have m5 : (m == 0) = false := by simp; omega
  have m6 : ¬ (m = 0) := by omega
  have tX : Int.tmod a m = x := by rw [Int.tmod_eq_emod_of_nonneg ha]; exact hX
  have tY : Int.tmod b m = y := by rw [Int.tmod_eq_emod_of_nonneg hb0]; exact hY
  have wX : IntKind.i64.wrap x = x := IntWalk.i64_in _ (by omega)
  have wY : IntKind.i64.wrap y = y := IntWalk.i64_in _ (by omega)
  have wM : IntKind.i64.wrap m = m := IntWalk.i64_in _ (by omega)
  have nM : nw M ≤ 2 := nw_le (by show M < 18446744073709551616; have := H1.out; omega)
  have nX : nw X ≤ 2 := Nat.le_trans (nw_mono (Nat.le_of_lt lX)) nM
  have nY : nw Y ≤ 2 := Nat.le_trans (nw_mono (Nat.le_of_lt lY)) nM
  have np := nw_pos (show M ≠ 0 by omega)
  have BX : Hid (X ≤ 18446744073709551615) := (show X ≤ 18446744073709551615 by have := H1.out; omega)
  have BY : Hid (Y ≤ 18446744073709551615) := (show Y ≤ 18446744073709551615 by have := H1.out; omega)
  have BM : Hid (M ≤ 18446744073709551615) := (show M ≤ 18446744073709551615 by have := H1.out; omega)
  have HC : Hid (chkS (nw X) X (nw Y) Y (nw M) M = 0) := chk_ok rfl rfl rfl (by omega) (by omega) ⟨np, by omega⟩ lX lY
  have HC0 : chkS (nw X) X 0 0 (nw M) M = 0 := chk_ok rfl rfl rfl (by omega) (by omega) ⟨np, by omega⟩ lX (by omega)
  obtain ⟨s, hs⟩ : ∃ z, z = (X + Y) % M := ⟨_, rfl⟩
  have HS := hid hs
  obtain ⟨t, ht⟩ : ∃ z, z = X * Y % M := ⟨_, rfl⟩
  have HT := hid ht
  have ls : Hid (s < 2305843009213693952) := (show s < 2305843009213693952 by have h := Nat.mod_lt (X + Y) (show 0 < M by omega); rw [← hs] at h; have := H1.out; omega)
  have lt : Hid (t < 2305843009213693952) := (show t < 2305843009213693952 by have h := Nat.mod_lt (X * Y) (show 0 < M by omega); rw [← ht] at h; have := H1.out; omega)
  have M1 := hid (modS_ok s)
  have M2 := hid (modS_ok t)
  obtain ⟨si, hsi⟩ : ∃ z, z = ((s : Nat) : Int) := ⟨_, rfl⟩
  obtain ⟨ti, hti⟩ : ∃ z, z = ((t : Nat) : Int) := ⟨_, rfl⟩
  have CS : Hid ((x + y) % m = si) := (show _ = _ by rw [hsi, hs, eX.out, eY.out, eM.out, Int.natCast_emod, Int.natCast_add])
  have CT : Hid (x * y % m = ti) := (show _ = _ by rw [hti, ht, eX.out, eY.out, eM.out, Int.natCast_emod, Int.natCast_mul])
  have ES := hid hsi
  have ET := hid hti
  obtain ⟨v, hv⟩ : ∃ z, z = invN X M := ⟨_, rfl⟩
  have HV := hid hv
  obtain ⟨vi, hvi⟩ : ∃ z, z = ((v : Nat) : Int) := ⟨_, rfl⟩
  have EV := hid hvi
  have lv : Hid (v < 2305843009213693952) := (show v < 2305843009213693952 by have h := invN_lt (a := X) (show 0 < M by omega); rw [← hv] at h; have := H1.out; omega)
  have WI : Hid (winvS X M = (vi, 0)) := (show winvS X M = _ by unfold winvS; rw [if_pos hg, hvi, hv])
  have NI : Hid (invS (chkS (nw X) X 0 0 (nw M) M) X M = (v, 0)) := (show _ = (v, 0) by rw [HC0]; unfold invS; rw [if_pos rfl, if_pos hg, hv])
  clear hv hvi
  clear HC0 hs ht hg hX hY hsi hti
  have WW := Below.refl w.heap.size w
  go_enter Try.func11, Try.ntmps11
  go_wp2_with fail
  obtain ⟨V0, hV⟩ : ∃ V, V = w := ⟨_, rfl⟩
  rw [← hV]
  replace WW : Below w.heap.size w V0 := by rw [hV]; exact WW
  clear hV
  have hbs : w.heap.size ≤ V0.heap.size := WW.size
  have hc := awake_any V0
  refine hc.mono ?_
  clear hc
  rintro e V1 ⟨rfl, hb⟩
  replace WW := WW.trans (hb.mono WW.size)
  clear hb hbs
  go_wp2_with fail
  have hst : (fun w' => True) V1.drew := trivial
  replace WW := WW.drew
  refine region_L 20 (fun w' => True) (by kernel_rfl) hst (fun hHeld => ?_)
  clear hst
  generalize hV : V1.drew = U1x0 at hHeld WW  ⊢
  clear hV
  refine AnyL_take (i := 0) (oi := oq11_3_0) (v := ?_) rfl (by kernel_rfl) (by kernel_rfl) (by kernel_rfl) (by kernel_rfl) (fun _ _ _ h => h) (Or.inl ⟨by rfl, ?_⟩) (by assumption) ?_
  rotate_left
  · (delta oq11_3_0; intro ws hSw; (try dsimp only at hSw); (try go_simp); (try with_reducible rfl))
  (try simp only [oq11_3_0, Act.put, List.setIfInBounds_toArray, List.set_cons_zero, List.set_cons_succ])
  refine AnyL_take (i := 1) (oi := oq11_3_1) (v := ?_) rfl (by kernel_rfl) (by kernel_rfl) (by kernel_rfl) (by kernel_rfl) (fun _ _ _ h => h) (Or.inl ⟨by rfl, ?_⟩) (by assumption) ?_
  rotate_left
  · (delta oq11_3_1; intro ws hSw; (try dsimp only at hSw); (try go_simp); (try with_reducible rfl))
  (try simp only [oq11_3_1, Act.put, List.setIfInBounds_toArray, List.set_cons_zero, List.set_cons_succ])
  refine AnyL_take (i := 2) (oi := oq11_3_2) (v := ?_) rfl (by kernel_rfl) (by kernel_rfl) (by kernel_rfl) (by kernel_rfl) (fun _ _ _ h => h) (Or.inl ⟨by rfl, ?_⟩) (by assumption) ?_
  rotate_left
  · (delta oq11_3_2; intro ws hSw; (try dsimp only at hSw); (try go_simp); (try with_reducible rfl))
  (try simp only [oq11_3_2, Act.put, List.setIfInBounds_toArray, List.set_cons_zero, List.set_cons_succ])
  refine AnyL_take (i := 3) (oi := oq11_3_3) (v := ?_) rfl (by kernel_rfl) (by kernel_rfl) (by kernel_rfl) (by kernel_rfl) (fun _ _ _ h => h) (Or.inl ⟨by rfl, ?_⟩) (by assumption) ?_
  rotate_left
  · (delta oq11_3_3; intro ws hSw; (try dsimp only at hSw); (try go_simp); (try with_reducible rfl))
  (try simp only [oq11_3_3, Act.put, List.setIfInBounds_toArray, List.set_cons_zero, List.set_cons_succ])
  refine AnyL_take (i := 4) (oi := oq11_3_4) (v := ?_) rfl (by kernel_rfl) (by kernel_rfl) (by kernel_rfl) (by kernel_rfl) (fun _ _ _ h => h) (Or.inl ⟨by rfl, ?_⟩) (by assumption) ?_
  rotate_left
  · (delta oq11_3_4; intro ws hSw; (try dsimp only at hSw); (try go_simp); (try with_reducible rfl))
  (try simp only [oq11_3_4, Act.put, List.setIfInBounds_toArray, List.set_cons_zero, List.set_cons_succ])
  refine AnyL_take (i := 5) (oi := oq11_3_5) (v := ?_) rfl (by kernel_rfl) (by kernel_rfl) (by kernel_rfl) (by kernel_rfl) (fun _ _ _ h => h) (Or.inl ⟨by rfl, ?_⟩) (by assumption) ?_
  rotate_left
  · (delta oq11_3_5; intro ws hSw; (try dsimp only at hSw); (try go_simp); (try with_reducible rfl))
  (try simp only [oq11_3_5, Act.put, List.setIfInBounds_toArray, List.set_cons_zero, List.set_cons_succ])
  refine AnyL_take (i := 6) (oi := oq11_3_6) (v := ?_) rfl (by kernel_rfl) (by kernel_rfl) (by kernel_rfl) (by kernel_rfl) (fun _ _ _ h => h) (Or.inl ⟨by rfl, ?_⟩) (by assumption) ?_
  rotate_left
  · (delta oq11_3_6; intro ws hSw; (try dsimp only at hSw); (try go_simp); (try with_reducible rfl))
  (try simp only [oq11_3_6, Act.put, List.setIfInBounds_toArray, List.set_cons_zero, List.set_cons_succ])
  refine AnyL_take (i := 7) (oi := oq11_3_7) (v := ?_) rfl (by kernel_rfl) (by kernel_rfl) (by kernel_rfl) (by kernel_rfl) (fun _ _ _ h => h) (Or.inl ⟨by rfl, ?_⟩) (by assumption) ?_
  rotate_left
  · (delta oq11_3_7; intro ws hSw; (try dsimp only at hSw); (try go_simp); (try with_reducible rfl))
  (try simp only [oq11_3_7, Act.put, List.setIfInBounds_toArray, List.set_cons_zero, List.set_cons_succ])
  refine AnyL_take (i := 8) (oi := oq11_3_8) (v := ?_) rfl (by kernel_rfl) (by kernel_rfl) (by kernel_rfl) (by kernel_rfl) (fun _ _ _ h => h) (Or.inl ⟨by rfl, ?_⟩) (by assumption) ?_
  rotate_left
  · (delta oq11_3_8; intro ws hSw; (try dsimp only at hSw); (try go_simp); (try with_reducible rfl))
  (try simp only [oq11_3_8, Act.put, List.setIfInBounds_toArray, List.set_cons_zero, List.set_cons_succ])
  refine AnyL_take (i := 9) (oi := oq11_3_9) (v := ?_) rfl (by kernel_rfl) (by kernel_rfl) (by kernel_rfl) (by kernel_rfl) (fun _ _ _ h => h) (Or.inl ⟨by rfl, ?_⟩) (by assumption) ?_
  rotate_left
  · (delta oq11_3_9; intro ws hSw; (try dsimp only at hSw); (try go_simp); (try with_reducible rfl))
  (try simp only [oq11_3_9, Act.put, List.setIfInBounds_toArray, List.set_cons_zero, List.set_cons_succ])
  refine AnyL_take (i := 10) (oi := oq11_3_10) (v := ?_) rfl (by kernel_rfl) (by kernel_rfl) (by kernel_rfl) (by kernel_rfl) (fun _ _ _ h => h) (Or.inl ⟨by rfl, ?_⟩) (by assumption) ?_
  rotate_left
  · (delta oq11_3_10; intro ws hSw; (try dsimp only at hSw); (try go_simp); (try with_reducible rfl))
  (try simp only [oq11_3_10, Act.put, List.setIfInBounds_toArray, List.set_cons_zero, List.set_cons_succ])
  refine AnyL_take (i := 11) (oi := oq11_3_11) (v := ?_) rfl (by kernel_rfl) (by kernel_rfl) (by kernel_rfl) (by kernel_rfl) (fun _ _ _ h => h) (Or.inl ⟨by rfl, ?_⟩) (by assumption) ?_
  rotate_left
  · (delta oq11_3_11; intro ws hSw; (try dsimp only at hSw); (try go_simp); (try with_reducible rfl))
  (try simp only [oq11_3_11, Act.put, List.setIfInBounds_toArray, List.set_cons_zero, List.set_cons_succ])
  refine AnyL_take (i := 12) (oi := oq11_3_12) (v := ?_) rfl (by kernel_rfl) (by kernel_rfl) (by kernel_rfl) (by kernel_rfl) (fun _ _ _ h => h) (Or.inl ⟨by rfl, ?_⟩) (by assumption) ?_
  rotate_left
  · (delta oq11_3_12; intro ws hSw; (try dsimp only at hSw); (try go_simp); (try with_reducible rfl))
  (try simp only [oq11_3_12, Act.put, List.setIfInBounds_toArray, List.set_cons_zero, List.set_cons_succ])
  refine AnyL_done (by kernel_rfl) ?_ _
  clear hHeld
  go_wp2_with fail
  apply wp_landWd (R := fun gXp gXq gXn D1 d1 D2 d2 D3 d3 w1 => Below w.heap.size w w1 ∧ VB w.heap.size w1 (gXp) D1 (nw X) d1 X ∧ VB w.heap.size w1 (gXq) D2 (nw Y) d2 Y ∧ VB w.heap.size w1 (gXn) D3 (nw M) d3 M ∧ Own w1 w.heap.size D1 (nw X) d1 X ∧ Own w1 w.heap.size D2 (nw Y) d2 Y ∧ Own w1 w.heap.size D3 (nw M) d3 M ∧ gXp ≠ gXq ∧ gXp ≠ gXn ∧ gXq ≠ gXn)
  case hreg =>
    refine wp_region_noPanic ?_
    have hst : (fun w' => True) U1x0.drew := trivial
    replace WW := WW.drew
    refine region_L 23 (fun w' => True) (by kernel_rfl) hst (fun hHeld => ?_)
    clear hst
    generalize hV : U1x0.drew = U2x0 at hHeld WW  ⊢
    clear hV
    apply cut_nnnananan (n := 3) (l := #[true, true, true, true, true, true, true, true, true, true, true, true, true, false, false, false]) (R := fun gXp gXq gXn D1 d1 D2 d2 D3 d3 W => Below w.heap.size w W ∧ VB w.heap.size W (gXp) none 0 0 0 ∧ VB w.heap.size W (gXq) none 0 0 0 ∧ VB w.heap.size W (gXn) none 0 0 0 ∧ Own W w.heap.size D1 (nw X) d1 X ∧ Own W w.heap.size D2 (nw Y) d2 Y ∧ Own W w.heap.size D3 (nw M) d3 M ∧ gXp ≠ gXq ∧ gXp ≠ gXn ∧ gXq ≠ gXn ∧ (fun w' => True) W)
    intro hst24
    apply cut_nnnanan (n := 4) (l := #[true, true, true, true, true, true, true, true, true, false, true, true, true, false, false, false]) (R := fun gXp gXq gXn D1 d1 D2 d2 W => Below w.heap.size w W ∧ VB w.heap.size W (gXp) none 0 0 0 ∧ VB w.heap.size W (gXq) none 0 0 0 ∧ VB w.heap.size W (gXn) none 0 0 0 ∧ Own W w.heap.size D1 (nw X) d1 X ∧ Own W w.heap.size D2 (nw Y) d2 Y ∧ gXp ≠ gXq ∧ gXp ≠ gXn ∧ gXq ≠ gXn ∧ (fun w' => True) W)
    intro hst23
    apply cut_nnananan (n := 4) (l := #[true, true, true, true, true, true, true, true, true, true, false, true, true, false, false, false]) (R := fun gXq gXn D1 d1 D2 d2 D3 d3 W => Below w.heap.size w W ∧ VB w.heap.size W (gXq) none 0 0 0 ∧ VB w.heap.size W (gXn) none 0 0 0 ∧ Own W w.heap.size D1 (nw X) d1 X ∧ Own W w.heap.size D2 (nw Y) d2 Y ∧ Own W w.heap.size D3 (nw M) d3 M ∧ gXq ≠ gXn ∧ (fun w' => True) W)
    intro hst22
    apply cut_nnananan (n := 4) (l := #[true, true, true, true, true, true, true, true, true, true, true, false, true, false, false, false]) (R := fun gXp gXn D1 d1 D2 d2 D3 d3 W => Below w.heap.size w W ∧ VB w.heap.size W (gXp) none 0 0 0 ∧ VB w.heap.size W (gXn) none 0 0 0 ∧ Own W w.heap.size D1 (nw X) d1 X ∧ Own W w.heap.size D2 (nw Y) d2 Y ∧ Own W w.heap.size D3 (nw M) d3 M ∧ gXp ≠ gXn ∧ (fun w' => True) W)
    intro hst21
    apply cut_nnananan (n := 4) (l := #[true, true, true, true, true, true, true, true, true, true, true, true, false, false, false, false]) (R := fun gXp gXq D1 d1 D2 d2 D3 d3 W => Below w.heap.size w W ∧ VB w.heap.size W (gXp) none 0 0 0 ∧ VB w.heap.size W (gXq) none 0 0 0 ∧ Own W w.heap.size D1 (nw X) d1 X ∧ Own W w.heap.size D2 (nw Y) d2 Y ∧ Own W w.heap.size D3 (nw M) d3 M ∧ gXp ≠ gXq ∧ (fun w' => True) W)
    intro hst20
    apply cut_nnnan (n := 5) (l := #[true, true, true, true, true, true, true, false, true, false, true, true, true, false, false, false]) (R := fun gXp gXq gXn D1 d1 W => Below w.heap.size w W ∧ VB w.heap.size W (gXp) none 0 0 0 ∧ VB w.heap.size W (gXq) none 0 0 0 ∧ VB w.heap.size W (gXn) none 0 0 0 ∧ Own W w.heap.size D1 (nw X) d1 X ∧ gXp ≠ gXq ∧ gXp ≠ gXn ∧ gXq ≠ gXn ∧ (fun w' => True) W)
    intro hst19
    apply cut_nnanan (n := 5) (l := #[true, true, true, true, true, true, true, true, true, false, false, true, true, false, false, false]) (R := fun gXq gXn D1 d1 D2 d2 W => Below w.heap.size w W ∧ VB w.heap.size W (gXq) none 0 0 0 ∧ VB w.heap.size W (gXn) none 0 0 0 ∧ Own W w.heap.size D1 (nw X) d1 X ∧ Own W w.heap.size D2 (nw Y) d2 Y ∧ gXq ≠ gXn ∧ (fun w' => True) W)
    intro hst18
    apply cut_nnanan (n := 5) (l := #[true, true, true, true, true, true, true, true, true, false, true, false, true, false, false, false]) (R := fun gXp gXn D1 d1 D2 d2 W => Below w.heap.size w W ∧ VB w.heap.size W (gXp) none 0 0 0 ∧ VB w.heap.size W (gXn) none 0 0 0 ∧ Own W w.heap.size D1 (nw X) d1 X ∧ Own W w.heap.size D2 (nw Y) d2 Y ∧ gXp ≠ gXn ∧ (fun w' => True) W)
    intro hst17
    apply cut_nnanan (n := 5) (l := #[true, true, true, true, true, true, true, true, true, false, true, true, false, false, false, false]) (R := fun gXp gXq D1 d1 D2 d2 W => Below w.heap.size w W ∧ VB w.heap.size W (gXp) none 0 0 0 ∧ VB w.heap.size W (gXq) none 0 0 0 ∧ Own W w.heap.size D1 (nw X) d1 X ∧ Own W w.heap.size D2 (nw Y) d2 Y ∧ gXp ≠ gXq ∧ (fun w' => True) W)
    intro hst16
    apply cut_nananan (n := 5) (l := #[true, true, true, true, true, true, true, true, true, true, false, false, true, false, false, false]) (R := fun gXn D1 d1 D2 d2 D3 d3 W => Below w.heap.size w W ∧ VB w.heap.size W (gXn) none 0 0 0 ∧ Own W w.heap.size D1 (nw X) d1 X ∧ Own W w.heap.size D2 (nw Y) d2 Y ∧ Own W w.heap.size D3 (nw M) d3 M ∧ (fun w' => True) W)
    intro hst15
    apply cut_nananan (n := 5) (l := #[true, true, true, true, true, true, true, true, true, true, false, true, false, false, false, false]) (R := fun gXq D1 d1 D2 d2 D3 d3 W => Below w.heap.size w W ∧ VB w.heap.size W (gXq) none 0 0 0 ∧ Own W w.heap.size D1 (nw X) d1 X ∧ Own W w.heap.size D2 (nw Y) d2 Y ∧ Own W w.heap.size D3 (nw M) d3 M ∧ (fun w' => True) W)
    intro hst14
    apply cut_nananan (n := 5) (l := #[true, true, true, true, true, true, true, true, true, true, true, false, false, false, false, false]) (R := fun gXp D1 d1 D2 d2 D3 d3 W => Below w.heap.size w W ∧ VB w.heap.size W (gXp) none 0 0 0 ∧ Own W w.heap.size D1 (nw X) d1 X ∧ Own W w.heap.size D2 (nw Y) d2 Y ∧ Own W w.heap.size D3 (nw M) d3 M ∧ (fun w' => True) W)
    intro hst13
    apply cut_nnn (n := 6) (l := #[true, true, true, false, true, true, true, false, true, false, true, true, true, false, false, false]) (R := fun gXp gXq gXn W => Below w.heap.size w W ∧ VB w.heap.size W (gXp) none 0 0 0 ∧ VB w.heap.size W (gXq) none 0 0 0 ∧ VB w.heap.size W (gXn) none 0 0 0 ∧ gXp ≠ gXq ∧ gXp ≠ gXn ∧ gXq ≠ gXn ∧ (fun w' => True) W)
    intro hst12
    apply cut_nnan (n := 6) (l := #[true, true, true, true, true, true, true, false, true, false, false, true, true, false, false, false]) (R := fun gXq gXn D1 d1 W => Below w.heap.size w W ∧ VB w.heap.size W (gXq) none 0 0 0 ∧ VB w.heap.size W (gXn) none 0 0 0 ∧ Own W w.heap.size D1 (nw X) d1 X ∧ gXq ≠ gXn ∧ (fun w' => True) W)
    intro hst11
    apply cut_nnan (n := 6) (l := #[true, true, true, true, true, true, true, false, true, false, true, false, true, false, false, false]) (R := fun gXp gXn D1 d1 W => Below w.heap.size w W ∧ VB w.heap.size W (gXp) none 0 0 0 ∧ VB w.heap.size W (gXn) none 0 0 0 ∧ Own W w.heap.size D1 (nw X) d1 X ∧ gXp ≠ gXn ∧ (fun w' => True) W)
    intro hst10
    apply cut_nnan (n := 6) (l := #[true, true, true, true, true, true, true, false, true, false, true, true, false, false, false, false]) (R := fun gXp gXq D1 d1 W => Below w.heap.size w W ∧ VB w.heap.size W (gXp) none 0 0 0 ∧ VB w.heap.size W (gXq) none 0 0 0 ∧ Own W w.heap.size D1 (nw X) d1 X ∧ gXp ≠ gXq ∧ (fun w' => True) W)
    intro hst9
    apply cut_nanan (n := 6) (l := #[true, true, true, true, true, true, true, true, true, false, false, false, true, false, false, false]) (R := fun gXn D1 d1 D2 d2 W => Below w.heap.size w W ∧ VB w.heap.size W (gXn) none 0 0 0 ∧ Own W w.heap.size D1 (nw X) d1 X ∧ Own W w.heap.size D2 (nw Y) d2 Y ∧ (fun w' => True) W)
    intro hst8
    apply cut_nanan (n := 6) (l := #[true, true, true, true, true, true, true, true, true, false, false, true, false, false, false, false]) (R := fun gXq D1 d1 D2 d2 W => Below w.heap.size w W ∧ VB w.heap.size W (gXq) none 0 0 0 ∧ Own W w.heap.size D1 (nw X) d1 X ∧ Own W w.heap.size D2 (nw Y) d2 Y ∧ (fun w' => True) W)
    intro hst7
    apply cut_nanan (n := 6) (l := #[true, true, true, true, true, true, true, true, true, false, true, false, false, false, false, false]) (R := fun gXp D1 d1 D2 d2 W => Below w.heap.size w W ∧ VB w.heap.size W (gXp) none 0 0 0 ∧ Own W w.heap.size D1 (nw X) d1 X ∧ Own W w.heap.size D2 (nw Y) d2 Y ∧ (fun w' => True) W)
    intro hst6
    apply cut_nn (n := 7) (l := #[true, true, true, false, true, true, true, false, true, false, false, true, true, false, false, false]) (R := fun gXq gXn W => Below w.heap.size w W ∧ VB w.heap.size W (gXq) none 0 0 0 ∧ VB w.heap.size W (gXn) none 0 0 0 ∧ gXq ≠ gXn ∧ (fun w' => True) W)
    intro hst5
    apply cut_nn (n := 7) (l := #[true, true, true, false, true, true, true, false, true, false, true, false, true, false, false, false]) (R := fun gXp gXn W => Below w.heap.size w W ∧ VB w.heap.size W (gXp) none 0 0 0 ∧ VB w.heap.size W (gXn) none 0 0 0 ∧ gXp ≠ gXn ∧ (fun w' => True) W)
    intro hst4
    apply cut_nn (n := 7) (l := #[true, true, true, false, true, true, true, false, true, false, true, true, false, false, false, false]) (R := fun gXp gXq W => Below w.heap.size w W ∧ VB w.heap.size W (gXp) none 0 0 0 ∧ VB w.heap.size W (gXq) none 0 0 0 ∧ gXp ≠ gXq ∧ (fun w' => True) W)
    intro hst3
    apply cut_nan (n := 7) (l := #[true, true, true, true, true, true, true, false, true, false, false, false, true, false, false, false]) (R := fun gXn D1 d1 W => Below w.heap.size w W ∧ VB w.heap.size W (gXn) none 0 0 0 ∧ Own W w.heap.size D1 (nw X) d1 X ∧ (fun w' => True) W)
    intro hst2
    apply cut_nan (n := 7) (l := #[true, true, true, true, true, true, true, false, true, false, false, true, false, false, false, false]) (R := fun gXq D1 d1 W => Below w.heap.size w W ∧ VB w.heap.size W (gXq) none 0 0 0 ∧ Own W w.heap.size D1 (nw X) d1 X ∧ (fun w' => True) W)
    intro hst1
    apply cut_nan (n := 7) (l := #[true, true, true, true, true, true, true, false, true, false, true, false, false, false, false, false]) (R := fun gXp D1 d1 W => Below w.heap.size w W ∧ VB w.heap.size W (gXp) none 0 0 0 ∧ Own W w.heap.size D1 (nw X) d1 X ∧ (fun w' => True) W)
    intro hst0
    · refine AnyL_name (fun W' => Below w.heap.size w W' ∧ (fun w' => True) W') ⟨WW, hHeld⟩ ?_
      rintro Z3 ⟨WW, hHeld⟩
      refine AnyL_take (i := 0) (oi := oq11_4_0) (v := ?_) rfl (by kernel_rfl) (by kernel_rfl) (by kernel_rfl) (by kernel_rfl) (fun _ _ _ h => h) (Or.inl ⟨by rfl, ?_⟩) (by assumption) ?_
      rotate_left
      · (delta oq11_4_0; intro ws hSw; (try dsimp only at hSw); (try go_simp); (try with_reducible rfl))
      (try simp only [oq11_4_0, Act.put, List.setIfInBounds_toArray, List.set_cons_zero, List.set_cons_succ])
      refine AnyL_take (i := 1) (oi := oq11_4_1) (v := ?_) rfl (by kernel_rfl) (by kernel_rfl) (by kernel_rfl) (by kernel_rfl) (fun _ _ _ h => h) (Or.inl ⟨by rfl, ?_⟩) (by assumption) ?_
      rotate_left
      · (delta oq11_4_1; intro ws hSw; (try dsimp only at hSw); (try go_simp); (try with_reducible rfl))
      (try simp only [oq11_4_1, Act.put, List.setIfInBounds_toArray, List.set_cons_zero, List.set_cons_succ])
      refine AnyL_take (i := 2) (oi := oq11_4_2) (v := ?_) rfl (by kernel_rfl) (by kernel_rfl) (by kernel_rfl) (by kernel_rfl) (fun _ _ _ h => h) (Or.inl ⟨by rfl, ?_⟩) (by assumption) ?_
      rotate_left
      · (delta oq11_4_2; intro ws hSw; (try dsimp only at hSw); (try go_simp); (try with_reducible rfl))
      (try simp only [oq11_4_2, Act.put, List.setIfInBounds_toArray, List.set_cons_zero, List.set_cons_succ])
      refine AnyL_take (i := 4) (oi := oq11_4_4) (v := ?_) rfl (by kernel_rfl) (by kernel_rfl) (by kernel_rfl) (by kernel_rfl) (fun _ _ _ h => h) (Or.inl ⟨by rfl, ?_⟩) (by assumption) ?_
      rotate_left
      · (delta oq11_4_4; intro ws hSw; (try dsimp only at hSw); (try go_simp); (try with_reducible rfl))
      (try simp only [oq11_4_4, Act.put, List.setIfInBounds_toArray, List.set_cons_zero, List.set_cons_succ])
      refine AnyL_take (i := 5) (oi := oq11_4_5) (v := ?_) rfl (by kernel_rfl) (by kernel_rfl) (by kernel_rfl) (by kernel_rfl) (fun _ _ _ h => h) (Or.inl ⟨by rfl, ?_⟩) (by assumption) ?_
      rotate_left
      · (delta oq11_4_5; intro ws hSw; (try dsimp only at hSw); (try go_simp); (try with_reducible rfl))
      (try simp only [oq11_4_5, Act.put, List.setIfInBounds_toArray, List.set_cons_zero, List.set_cons_succ])
      refine AnyL_take (i := 6) (oi := oq11_4_6) (v := ?_) rfl (by kernel_rfl) (by kernel_rfl) (by kernel_rfl) (by kernel_rfl) (fun _ _ _ h => h) (Or.inl ⟨by rfl, ?_⟩) (by assumption) ?_
      rotate_left
      · (delta oq11_4_6; intro ws hSw; (try dsimp only at hSw); (try go_simp); (try with_reducible rfl))
      (try simp only [oq11_4_6, Act.put, List.setIfInBounds_toArray, List.set_cons_zero, List.set_cons_succ])
      refine AnyL_take (i := 8) (oi := oq11_4_8) (v := ?_) rfl (by kernel_rfl) (by kernel_rfl) (by kernel_rfl) (by kernel_rfl) (fun _ _ _ h => h) (Or.inl ⟨by rfl, ?_⟩) (by assumption) ?_
      rotate_left
      · (delta oq11_4_8; intro ws hSw; (try dsimp only at hSw); (try go_simp); (try with_reducible rfl))
      (try simp only [oq11_4_8, Act.put, List.setIfInBounds_toArray, List.set_cons_zero, List.set_cons_succ])
      refine AnyL_ready (rs := [3, 10, 11, 12]) (by kernel_rfl) (by simp) ?_
      refine ReadyL.cons (o := oq11_4_3) rfl (fun K hK => ?_) ?_
      · delta oq11_4_3
        go_simp
        have hbs : w.heap.size ≤ Z3.heap.size := WW.size
        have hc := of3_z X x Z3 BX.out eX.out
        refine hc.mono ?_
        clear hc
        rintro e V4 ⟨v, rfl, hv, hb⟩
        replace WW := WW.trans (hb.mono WW.size)
        have sz4 := hb.size
        obtain ⟨D1, d1, rfl, ho⟩ := hv
        have O1 := ho.weak (b := w.heap.size) hbs
        clear ho
        clear hb hbs
        refine hK.out _ _ (trivial) (fun hHeld2 => ?_)
        clear hK K hHeld
        have hHeld := hHeld2
        clear hHeld2
        (try simp only [oq11_4_3, Act.put, List.setIfInBounds_toArray, List.set_cons_zero, List.set_cons_succ])
        refine AnyL_ready (rs := [7, 10, 11, 12]) (by kernel_rfl) (by simp) ?_
        refine ReadyL.cons (o := oq11_4_7) rfl (fun K hK => ?_) ?_
        · delta oq11_4_7
          go_simp
          have hbs : w.heap.size ≤ V4.heap.size := WW.size
          have hc := of3_z Y y V4 BY.out eY.out
          refine hc.mono ?_
          clear hc
          rintro e V5 ⟨v, rfl, hv, hb⟩
          replace O1 := O1.below hb (Nat.le_refl _)
          replace WW := WW.trans (hb.mono WW.size)
          have sz5 := hb.size
          obtain ⟨D2, d2, rfl, ho⟩ := hv
          have O2 := ho.weak (b := w.heap.size) hbs
          clear ho
          clear hb hbs
          refine hK.out _ _ (trivial) (fun hHeld2 => ?_)
          clear hK K hHeld
          have hHeld := hHeld2
          clear hHeld2
          (try simp only [oq11_4_7, Act.put, List.setIfInBounds_toArray, List.set_cons_zero, List.set_cons_succ])
          refine AnyL_ready (rs := [9, 10, 11, 12]) (by kernel_rfl) (by simp) ?_
          refine ReadyL.cons (o := oq11_4_9) rfl (fun K hK => ?_) ?_
          · delta oq11_4_9
            go_simp
            have hbs : w.heap.size ≤ V5.heap.size := WW.size
            have hc := of3_z M m V5 BM.out eM.out
            refine hc.mono ?_
            clear hc
            rintro e V6 ⟨v, rfl, hv, hb⟩
            replace O1 := O1.below hb (Nat.le_refl _)
            replace O2 := O2.below hb (Nat.le_refl _)
            replace WW := WW.trans (hb.mono WW.size)
            have sz6 := hb.size
            obtain ⟨D3, d3, rfl, ho⟩ := hv
            have O3 := ho.weak (b := w.heap.size) hbs
            clear ho
            clear hb hbs
            refine hK.out _ _ (trivial) (fun hHeld2 => ?_)
            clear hK K hHeld
            have hHeld := hHeld2
            clear hHeld2
            (try simp only [oq11_4_9, Act.put, List.setIfInBounds_toArray, List.set_cons_zero, List.set_cons_succ])
            refine AnyL_ready (rs := [10, 11, 12]) (by kernel_rfl) (by simp) ?_
            refine ReadyL.cons (o := oq11_4_10) rfl (fun K hK => ?_) ?_
            · delta oq11_4_10
              go_simp
              have ba := (Below.refl V6.heap.size V6).alloc (Nat.le_refl _) (.cells #[.slice none 0 0] 24)
              replace O1 := O1.below ba (Nat.le_refl _)
              replace O2 := O2.below ba (Nat.le_refl _)
              replace O3 := O3.below ba (Nat.le_refl _)
              have bn := Blk.new V6 24 #[.slice none 0 0]
              have Xp := VB.mk (B := w.heap.size) (a := 0) bn (.inr (Own.nil _ _ _ _ (Nat.zero_le _))) ba WW.size WW.size
              replace WW := WW.trans (ba.mono WW.size)
              have sz7 : V6.heap.size < (V6.alloc (.cells #[.slice none 0 0] 24)).heap.size := bn.lt
              refine hK.out _ _ (trivial) (fun hHeld2 => ?_)
              clear hK K hHeld
              (try simp only [oq11_4_10, Act.put, List.setIfInBounds_toArray, List.set_cons_zero, List.set_cons_succ])
              generalize hV : V6.alloc (.cells #[.slice none 0 0] 24) = V7 at hHeld2 sz7 WW Xp O1 O2 O3 ⊢
              clear hV ba bn
              have hHeld := hHeld2
              clear hHeld2
              obtain ⟨gXp, hg⟩ : ∃ x, x = V6.heap.size := ⟨_, rfl⟩
              rw [← hg] at Xp sz7 ⊢
              clear hg 
              exact hst13 gXp D1 d1 D2 d2 D3 d3 V7 ⟨WW, Xp, O1, O2, O3, hHeld⟩
            refine ReadyL.cons (o := oq11_4_11) rfl (fun K hK => ?_) ?_
            · delta oq11_4_11
              go_simp
              have ba := (Below.refl V6.heap.size V6).alloc (Nat.le_refl _) (.cells #[.slice none 0 0] 24)
              replace O1 := O1.below ba (Nat.le_refl _)
              replace O2 := O2.below ba (Nat.le_refl _)
              replace O3 := O3.below ba (Nat.le_refl _)
              have bn := Blk.new V6 24 #[.slice none 0 0]
              have Xq := VB.mk (B := w.heap.size) (a := 0) bn (.inr (Own.nil _ _ _ _ (Nat.zero_le _))) ba WW.size WW.size
              replace WW := WW.trans (ba.mono WW.size)
              have sz7 : V6.heap.size < (V6.alloc (.cells #[.slice none 0 0] 24)).heap.size := bn.lt
              refine hK.out _ _ (trivial) (fun hHeld2 => ?_)
              clear hK K hHeld
              (try simp only [oq11_4_11, Act.put, List.setIfInBounds_toArray, List.set_cons_zero, List.set_cons_succ])
              generalize hV : V6.alloc (.cells #[.slice none 0 0] 24) = V7 at hHeld2 sz7 WW Xq O1 O2 O3 ⊢
              clear hV ba bn
              have hHeld := hHeld2
              clear hHeld2
              obtain ⟨gXq, hg⟩ : ∃ x, x = V6.heap.size := ⟨_, rfl⟩
              rw [← hg] at Xq sz7 ⊢
              clear hg 
              exact hst14 gXq D1 d1 D2 d2 D3 d3 V7 ⟨WW, Xq, O1, O2, O3, hHeld⟩
            refine ReadyL.cons (o := oq11_4_12) rfl (fun K hK => ?_) ReadyL.nil
            · delta oq11_4_12
              go_simp
              have ba := (Below.refl V6.heap.size V6).alloc (Nat.le_refl _) (.cells #[.slice none 0 0] 24)
              replace O1 := O1.below ba (Nat.le_refl _)
              replace O2 := O2.below ba (Nat.le_refl _)
              replace O3 := O3.below ba (Nat.le_refl _)
              have bn := Blk.new V6 24 #[.slice none 0 0]
              have Xn := VB.mk (B := w.heap.size) (a := 0) bn (.inr (Own.nil _ _ _ _ (Nat.zero_le _))) ba WW.size WW.size
              replace WW := WW.trans (ba.mono WW.size)
              have sz7 : V6.heap.size < (V6.alloc (.cells #[.slice none 0 0] 24)).heap.size := bn.lt
              refine hK.out _ _ (trivial) (fun hHeld2 => ?_)
              clear hK K hHeld
              (try simp only [oq11_4_12, Act.put, List.setIfInBounds_toArray, List.set_cons_zero, List.set_cons_succ])
              generalize hV : V6.alloc (.cells #[.slice none 0 0] 24) = V7 at hHeld2 sz7 WW Xn O1 O2 O3 ⊢
              clear hV ba bn
              have hHeld := hHeld2
              clear hHeld2
              obtain ⟨gXn, hg⟩ : ∃ x, x = V6.heap.size := ⟨_, rfl⟩
              rw [← hg] at Xn sz7 ⊢
              clear hg 
              exact hst15 gXn D1 d1 D2 d2 D3 d3 V7 ⟨WW, Xn, O1, O2, O3, hHeld⟩
          refine ReadyL.cons (o := oq11_4_10) rfl (fun K hK => ?_) ?_
          · delta oq11_4_10
            go_simp
            have ba := (Below.refl V5.heap.size V5).alloc (Nat.le_refl _) (.cells #[.slice none 0 0] 24)
            replace O1 := O1.below ba (Nat.le_refl _)
            replace O2 := O2.below ba (Nat.le_refl _)
            have bn := Blk.new V5 24 #[.slice none 0 0]
            have Xp := VB.mk (B := w.heap.size) (a := 0) bn (.inr (Own.nil _ _ _ _ (Nat.zero_le _))) ba WW.size WW.size
            replace WW := WW.trans (ba.mono WW.size)
            have sz6 : V5.heap.size < (V5.alloc (.cells #[.slice none 0 0] 24)).heap.size := bn.lt
            refine hK.out _ _ (trivial) (fun hHeld2 => ?_)
            clear hK K hHeld
            (try simp only [oq11_4_10, Act.put, List.setIfInBounds_toArray, List.set_cons_zero, List.set_cons_succ])
            generalize hV : V5.alloc (.cells #[.slice none 0 0] 24) = V6 at hHeld2 sz6 WW Xp O1 O2 ⊢
            clear hV ba bn
            have hHeld := hHeld2
            clear hHeld2
            obtain ⟨gXp, hg⟩ : ∃ x, x = V5.heap.size := ⟨_, rfl⟩
            rw [← hg] at Xp sz6 ⊢
            clear hg 
            exact hst6 gXp D1 d1 D2 d2 V6 ⟨WW, Xp, O1, O2, hHeld⟩
          refine ReadyL.cons (o := oq11_4_11) rfl (fun K hK => ?_) ?_
          · delta oq11_4_11
            go_simp
            have ba := (Below.refl V5.heap.size V5).alloc (Nat.le_refl _) (.cells #[.slice none 0 0] 24)
            replace O1 := O1.below ba (Nat.le_refl _)
            replace O2 := O2.below ba (Nat.le_refl _)
            have bn := Blk.new V5 24 #[.slice none 0 0]
            have Xq := VB.mk (B := w.heap.size) (a := 0) bn (.inr (Own.nil _ _ _ _ (Nat.zero_le _))) ba WW.size WW.size
            replace WW := WW.trans (ba.mono WW.size)
            have sz6 : V5.heap.size < (V5.alloc (.cells #[.slice none 0 0] 24)).heap.size := bn.lt
            refine hK.out _ _ (trivial) (fun hHeld2 => ?_)
            clear hK K hHeld
            (try simp only [oq11_4_11, Act.put, List.setIfInBounds_toArray, List.set_cons_zero, List.set_cons_succ])
            generalize hV : V5.alloc (.cells #[.slice none 0 0] 24) = V6 at hHeld2 sz6 WW Xq O1 O2 ⊢
            clear hV ba bn
            have hHeld := hHeld2
            clear hHeld2
            obtain ⟨gXq, hg⟩ : ∃ x, x = V5.heap.size := ⟨_, rfl⟩
            rw [← hg] at Xq sz6 ⊢
            clear hg 
            exact hst7 gXq D1 d1 D2 d2 V6 ⟨WW, Xq, O1, O2, hHeld⟩
          refine ReadyL.cons (o := oq11_4_12) rfl (fun K hK => ?_) ReadyL.nil
          · delta oq11_4_12
            go_simp
            have ba := (Below.refl V5.heap.size V5).alloc (Nat.le_refl _) (.cells #[.slice none 0 0] 24)
            replace O1 := O1.below ba (Nat.le_refl _)
            replace O2 := O2.below ba (Nat.le_refl _)
            have bn := Blk.new V5 24 #[.slice none 0 0]
            have Xn := VB.mk (B := w.heap.size) (a := 0) bn (.inr (Own.nil _ _ _ _ (Nat.zero_le _))) ba WW.size WW.size
            replace WW := WW.trans (ba.mono WW.size)
            have sz6 : V5.heap.size < (V5.alloc (.cells #[.slice none 0 0] 24)).heap.size := bn.lt
            refine hK.out _ _ (trivial) (fun hHeld2 => ?_)
            clear hK K hHeld
            (try simp only [oq11_4_12, Act.put, List.setIfInBounds_toArray, List.set_cons_zero, List.set_cons_succ])
            generalize hV : V5.alloc (.cells #[.slice none 0 0] 24) = V6 at hHeld2 sz6 WW Xn O1 O2 ⊢
            clear hV ba bn
            have hHeld := hHeld2
            clear hHeld2
            obtain ⟨gXn, hg⟩ : ∃ x, x = V5.heap.size := ⟨_, rfl⟩
            rw [← hg] at Xn sz6 ⊢
            clear hg 
            exact hst8 gXn D1 d1 D2 d2 V6 ⟨WW, Xn, O1, O2, hHeld⟩
        refine ReadyL.cons (o := oq11_4_10) rfl (fun K hK => ?_) ?_
        · delta oq11_4_10
          go_simp
          have ba := (Below.refl V4.heap.size V4).alloc (Nat.le_refl _) (.cells #[.slice none 0 0] 24)
          replace O1 := O1.below ba (Nat.le_refl _)
          have bn := Blk.new V4 24 #[.slice none 0 0]
          have Xp := VB.mk (B := w.heap.size) (a := 0) bn (.inr (Own.nil _ _ _ _ (Nat.zero_le _))) ba WW.size WW.size
          replace WW := WW.trans (ba.mono WW.size)
          have sz5 : V4.heap.size < (V4.alloc (.cells #[.slice none 0 0] 24)).heap.size := bn.lt
          refine hK.out _ _ (trivial) (fun hHeld2 => ?_)
          clear hK K hHeld
          (try simp only [oq11_4_10, Act.put, List.setIfInBounds_toArray, List.set_cons_zero, List.set_cons_succ])
          generalize hV : V4.alloc (.cells #[.slice none 0 0] 24) = V5 at hHeld2 sz5 WW Xp O1 ⊢
          clear hV ba bn
          have hHeld := hHeld2
          clear hHeld2
          obtain ⟨gXp, hg⟩ : ∃ x, x = V4.heap.size := ⟨_, rfl⟩
          rw [← hg] at Xp sz5 ⊢
          clear hg 
          exact hst0 gXp D1 d1 V5 ⟨WW, Xp, O1, hHeld⟩
        refine ReadyL.cons (o := oq11_4_11) rfl (fun K hK => ?_) ?_
        · delta oq11_4_11
          go_simp
          have ba := (Below.refl V4.heap.size V4).alloc (Nat.le_refl _) (.cells #[.slice none 0 0] 24)
          replace O1 := O1.below ba (Nat.le_refl _)
          have bn := Blk.new V4 24 #[.slice none 0 0]
          have Xq := VB.mk (B := w.heap.size) (a := 0) bn (.inr (Own.nil _ _ _ _ (Nat.zero_le _))) ba WW.size WW.size
          replace WW := WW.trans (ba.mono WW.size)
          have sz5 : V4.heap.size < (V4.alloc (.cells #[.slice none 0 0] 24)).heap.size := bn.lt
          refine hK.out _ _ (trivial) (fun hHeld2 => ?_)
          clear hK K hHeld
          (try simp only [oq11_4_11, Act.put, List.setIfInBounds_toArray, List.set_cons_zero, List.set_cons_succ])
          generalize hV : V4.alloc (.cells #[.slice none 0 0] 24) = V5 at hHeld2 sz5 WW Xq O1 ⊢
          clear hV ba bn
          have hHeld := hHeld2
          clear hHeld2
          obtain ⟨gXq, hg⟩ : ∃ x, x = V4.heap.size := ⟨_, rfl⟩
          rw [← hg] at Xq sz5 ⊢
          clear hg 
          exact hst1 gXq D1 d1 V5 ⟨WW, Xq, O1, hHeld⟩
        refine ReadyL.cons (o := oq11_4_12) rfl (fun K hK => ?_) ReadyL.nil
        · delta oq11_4_12
          go_simp
          have ba := (Below.refl V4.heap.size V4).alloc (Nat.le_refl _) (.cells #[.slice none 0 0] 24)
          replace O1 := O1.below ba (Nat.le_refl _)
          have bn := Blk.new V4 24 #[.slice none 0 0]
          have Xn := VB.mk (B := w.heap.size) (a := 0) bn (.inr (Own.nil _ _ _ _ (Nat.zero_le _))) ba WW.size WW.size
          replace WW := WW.trans (ba.mono WW.size)
          have sz5 : V4.heap.size < (V4.alloc (.cells #[.slice none 0 0] 24)).heap.size := bn.lt
          refine hK.out _ _ (trivial) (fun hHeld2 => ?_)
          clear hK K hHeld
          (try simp only [oq11_4_12, Act.put, List.setIfInBounds_toArray, List.set_cons_zero, List.set_cons_succ])
          generalize hV : V4.alloc (.cells #[.slice none 0 0] 24) = V5 at hHeld2 sz5 WW Xn O1 ⊢
          clear hV ba bn
          have hHeld := hHeld2
          clear hHeld2
          obtain ⟨gXn, hg⟩ : ∃ x, x = V4.heap.size := ⟨_, rfl⟩
          rw [← hg] at Xn sz5 ⊢
          clear hg 
          exact hst2 gXn D1 d1 V5 ⟨WW, Xn, O1, hHeld⟩
      refine ReadyL.cons (o := oq11_4_10) rfl (fun K hK => ?_) ?_
      · delta oq11_4_10
        go_simp
        have ba := (Below.refl Z3.heap.size Z3).alloc (Nat.le_refl _) (.cells #[.slice none 0 0] 24)
        have bn := Blk.new Z3 24 #[.slice none 0 0]
        have Xp := VB.mk (B := w.heap.size) (a := 0) bn (.inr (Own.nil _ _ _ _ (Nat.zero_le _))) ba WW.size WW.size
        replace WW := WW.trans (ba.mono WW.size)
        have sz4 : Z3.heap.size < (Z3.alloc (.cells #[.slice none 0 0] 24)).heap.size := bn.lt
        refine hK.out _ _ (trivial) (fun hHeld2 => ?_)
        clear hK K hHeld
        (try simp only [oq11_4_10, Act.put, List.setIfInBounds_toArray, List.set_cons_zero, List.set_cons_succ])
        generalize hV : Z3.alloc (.cells #[.slice none 0 0] 24) = V4 at hHeld2 sz4 WW Xp ⊢
        clear hV ba bn
        have hHeld := hHeld2
        clear hHeld2
        obtain ⟨gXp, hg⟩ : ∃ x, x = Z3.heap.size := ⟨_, rfl⟩
        rw [← hg] at Xp sz4 ⊢
        clear hg 
        refine AnyL_ready (rs := [3, 11, 12]) (by kernel_rfl) (by simp) ?_
        refine ReadyL.cons (o := oq11_4_3) rfl (fun K hK => ?_) ?_
        · delta oq11_4_3
          go_simp
          have hbs : w.heap.size ≤ V4.heap.size := WW.size
          have hc := of3_z X x V4 BX.out eX.out
          refine hc.mono ?_
          clear hc
          rintro e V5 ⟨v, rfl, hv, hb⟩
          replace Xp := Xp.below hb
          replace WW := WW.trans (hb.mono WW.size)
          have sz5 := hb.size
          obtain ⟨D1, d1, rfl, ho⟩ := hv
          have O1 := ho.weak (b := w.heap.size) hbs
          clear ho
          clear hb hbs
          refine hK.out _ _ (trivial) (fun hHeld2 => ?_)
          clear hK K hHeld
          have hHeld := hHeld2
          clear hHeld2
          (try simp only [oq11_4_3, Act.put, List.setIfInBounds_toArray, List.set_cons_zero, List.set_cons_succ])
          exact hst0 gXp D1 d1 V5 ⟨WW, Xp, O1, hHeld⟩
        refine ReadyL.cons (o := oq11_4_11) rfl (fun K hK => ?_) ?_
        · delta oq11_4_11
          have lXp : gXp < V4.heap.size := Xp.lt
          go_simp
          have ba := (Below.refl V4.heap.size V4).alloc (Nat.le_refl _) (.cells #[.slice none 0 0] 24)
          replace Xp := Xp.below ba
          have bn := Blk.new V4 24 #[.slice none 0 0]
          have Xq := VB.mk (B := w.heap.size) (a := 0) bn (.inr (Own.nil _ _ _ _ (Nat.zero_le _))) ba WW.size WW.size
          replace WW := WW.trans (ba.mono WW.size)
          have sz5 : V4.heap.size < (V4.alloc (.cells #[.slice none 0 0] 24)).heap.size := bn.lt
          refine hK.out _ _ (trivial) (fun hHeld2 => ?_)
          clear hK K hHeld
          (try simp only [oq11_4_11, Act.put, List.setIfInBounds_toArray, List.set_cons_zero, List.set_cons_succ])
          generalize hV : V4.alloc (.cells #[.slice none 0 0] 24) = V5 at hHeld2 sz5 WW Xp Xq ⊢
          clear hV ba bn
          have hHeld := hHeld2
          clear hHeld2
          obtain ⟨gXq, hg⟩ : ∃ x, x = V4.heap.size := ⟨_, rfl⟩
          have nXpXq : gXp ≠ gXq := by omega
          rw [← hg] at Xq sz5 ⊢
          clear hg lXp
          exact hst3 gXp gXq V5 ⟨WW, Xp, Xq, (by first | exact nXpXq | omega), hHeld⟩
        refine ReadyL.cons (o := oq11_4_12) rfl (fun K hK => ?_) ReadyL.nil
        · delta oq11_4_12
          have lXp : gXp < V4.heap.size := Xp.lt
          go_simp
          have ba := (Below.refl V4.heap.size V4).alloc (Nat.le_refl _) (.cells #[.slice none 0 0] 24)
          replace Xp := Xp.below ba
          have bn := Blk.new V4 24 #[.slice none 0 0]
          have Xn := VB.mk (B := w.heap.size) (a := 0) bn (.inr (Own.nil _ _ _ _ (Nat.zero_le _))) ba WW.size WW.size
          replace WW := WW.trans (ba.mono WW.size)
          have sz5 : V4.heap.size < (V4.alloc (.cells #[.slice none 0 0] 24)).heap.size := bn.lt
          refine hK.out _ _ (trivial) (fun hHeld2 => ?_)
          clear hK K hHeld
          (try simp only [oq11_4_12, Act.put, List.setIfInBounds_toArray, List.set_cons_zero, List.set_cons_succ])
          generalize hV : V4.alloc (.cells #[.slice none 0 0] 24) = V5 at hHeld2 sz5 WW Xp Xn ⊢
          clear hV ba bn
          have hHeld := hHeld2
          clear hHeld2
          obtain ⟨gXn, hg⟩ : ∃ x, x = V4.heap.size := ⟨_, rfl⟩
          have nXpXn : gXp ≠ gXn := by omega
          rw [← hg] at Xn sz5 ⊢
          clear hg lXp
          exact hst4 gXp gXn V5 ⟨WW, Xp, Xn, (by first | exact nXpXn | omega), hHeld⟩
      refine ReadyL.cons (o := oq11_4_11) rfl (fun K hK => ?_) ?_
      · delta oq11_4_11
        go_simp
        have ba := (Below.refl Z3.heap.size Z3).alloc (Nat.le_refl _) (.cells #[.slice none 0 0] 24)
        have bn := Blk.new Z3 24 #[.slice none 0 0]
        have Xq := VB.mk (B := w.heap.size) (a := 0) bn (.inr (Own.nil _ _ _ _ (Nat.zero_le _))) ba WW.size WW.size
        replace WW := WW.trans (ba.mono WW.size)
        have sz4 : Z3.heap.size < (Z3.alloc (.cells #[.slice none 0 0] 24)).heap.size := bn.lt
        refine hK.out _ _ (trivial) (fun hHeld2 => ?_)
        clear hK K hHeld
        (try simp only [oq11_4_11, Act.put, List.setIfInBounds_toArray, List.set_cons_zero, List.set_cons_succ])
        generalize hV : Z3.alloc (.cells #[.slice none 0 0] 24) = V4 at hHeld2 sz4 WW Xq ⊢
        clear hV ba bn
        have hHeld := hHeld2
        clear hHeld2
        obtain ⟨gXq, hg⟩ : ∃ x, x = Z3.heap.size := ⟨_, rfl⟩
        rw [← hg] at Xq sz4 ⊢
        clear hg 
        refine AnyL_ready (rs := [3, 10, 12]) (by kernel_rfl) (by simp) ?_
        refine ReadyL.cons (o := oq11_4_3) rfl (fun K hK => ?_) ?_
        · delta oq11_4_3
          go_simp
          have hbs : w.heap.size ≤ V4.heap.size := WW.size
          have hc := of3_z X x V4 BX.out eX.out
          refine hc.mono ?_
          clear hc
          rintro e V5 ⟨v, rfl, hv, hb⟩
          replace Xq := Xq.below hb
          replace WW := WW.trans (hb.mono WW.size)
          have sz5 := hb.size
          obtain ⟨D1, d1, rfl, ho⟩ := hv
          have O1 := ho.weak (b := w.heap.size) hbs
          clear ho
          clear hb hbs
          refine hK.out _ _ (trivial) (fun hHeld2 => ?_)
          clear hK K hHeld
          have hHeld := hHeld2
          clear hHeld2
          (try simp only [oq11_4_3, Act.put, List.setIfInBounds_toArray, List.set_cons_zero, List.set_cons_succ])
          exact hst1 gXq D1 d1 V5 ⟨WW, Xq, O1, hHeld⟩
        refine ReadyL.cons (o := oq11_4_10) rfl (fun K hK => ?_) ?_
        · delta oq11_4_10
          have lXq : gXq < V4.heap.size := Xq.lt
          go_simp
          have ba := (Below.refl V4.heap.size V4).alloc (Nat.le_refl _) (.cells #[.slice none 0 0] 24)
          replace Xq := Xq.below ba
          have bn := Blk.new V4 24 #[.slice none 0 0]
          have Xp := VB.mk (B := w.heap.size) (a := 0) bn (.inr (Own.nil _ _ _ _ (Nat.zero_le _))) ba WW.size WW.size
          replace WW := WW.trans (ba.mono WW.size)
          have sz5 : V4.heap.size < (V4.alloc (.cells #[.slice none 0 0] 24)).heap.size := bn.lt
          refine hK.out _ _ (trivial) (fun hHeld2 => ?_)
          clear hK K hHeld
          (try simp only [oq11_4_10, Act.put, List.setIfInBounds_toArray, List.set_cons_zero, List.set_cons_succ])
          generalize hV : V4.alloc (.cells #[.slice none 0 0] 24) = V5 at hHeld2 sz5 WW Xq Xp ⊢
          clear hV ba bn
          have hHeld := hHeld2
          clear hHeld2
          obtain ⟨gXp, hg⟩ : ∃ x, x = V4.heap.size := ⟨_, rfl⟩
          have nXqXp : gXq ≠ gXp := by omega
          rw [← hg] at Xp sz5 ⊢
          clear hg lXq
          exact hst3 gXp gXq V5 ⟨WW, Xp, Xq, (by first | exact nXpXq | omega), hHeld⟩
        refine ReadyL.cons (o := oq11_4_12) rfl (fun K hK => ?_) ReadyL.nil
        · delta oq11_4_12
          have lXq : gXq < V4.heap.size := Xq.lt
          go_simp
          have ba := (Below.refl V4.heap.size V4).alloc (Nat.le_refl _) (.cells #[.slice none 0 0] 24)
          replace Xq := Xq.below ba
          have bn := Blk.new V4 24 #[.slice none 0 0]
          have Xn := VB.mk (B := w.heap.size) (a := 0) bn (.inr (Own.nil _ _ _ _ (Nat.zero_le _))) ba WW.size WW.size
          replace WW := WW.trans (ba.mono WW.size)
          have sz5 : V4.heap.size < (V4.alloc (.cells #[.slice none 0 0] 24)).heap.size := bn.lt
          refine hK.out _ _ (trivial) (fun hHeld2 => ?_)
          clear hK K hHeld
          (try simp only [oq11_4_12, Act.put, List.setIfInBounds_toArray, List.set_cons_zero, List.set_cons_succ])
          generalize hV : V4.alloc (.cells #[.slice none 0 0] 24) = V5 at hHeld2 sz5 WW Xq Xn ⊢
          clear hV ba bn
          have hHeld := hHeld2
          clear hHeld2
          obtain ⟨gXn, hg⟩ : ∃ x, x = V4.heap.size := ⟨_, rfl⟩
          have nXqXn : gXq ≠ gXn := by omega
          rw [← hg] at Xn sz5 ⊢
          clear hg lXq
          exact hst5 gXq gXn V5 ⟨WW, Xq, Xn, (by first | exact nXqXn | omega), hHeld⟩
      refine ReadyL.cons (o := oq11_4_12) rfl (fun K hK => ?_) ReadyL.nil
      · delta oq11_4_12
        go_simp
        have ba := (Below.refl Z3.heap.size Z3).alloc (Nat.le_refl _) (.cells #[.slice none 0 0] 24)
        have bn := Blk.new Z3 24 #[.slice none 0 0]
        have Xn := VB.mk (B := w.heap.size) (a := 0) bn (.inr (Own.nil _ _ _ _ (Nat.zero_le _))) ba WW.size WW.size
        replace WW := WW.trans (ba.mono WW.size)
        have sz4 : Z3.heap.size < (Z3.alloc (.cells #[.slice none 0 0] 24)).heap.size := bn.lt
        refine hK.out _ _ (trivial) (fun hHeld2 => ?_)
        clear hK K hHeld
        (try simp only [oq11_4_12, Act.put, List.setIfInBounds_toArray, List.set_cons_zero, List.set_cons_succ])
        generalize hV : Z3.alloc (.cells #[.slice none 0 0] 24) = V4 at hHeld2 sz4 WW Xn ⊢
        clear hV ba bn
        have hHeld := hHeld2
        clear hHeld2
        obtain ⟨gXn, hg⟩ : ∃ x, x = Z3.heap.size := ⟨_, rfl⟩
        rw [← hg] at Xn sz4 ⊢
        clear hg 
        refine AnyL_ready (rs := [3, 10, 11]) (by kernel_rfl) (by simp) ?_
        refine ReadyL.cons (o := oq11_4_3) rfl (fun K hK => ?_) ?_
        · delta oq11_4_3
          go_simp
          have hbs : w.heap.size ≤ V4.heap.size := WW.size
          have hc := of3_z X x V4 BX.out eX.out
          refine hc.mono ?_
          clear hc
          rintro e V5 ⟨v, rfl, hv, hb⟩
          replace Xn := Xn.below hb
          replace WW := WW.trans (hb.mono WW.size)
          have sz5 := hb.size
          obtain ⟨D1, d1, rfl, ho⟩ := hv
          have O1 := ho.weak (b := w.heap.size) hbs
          clear ho
          clear hb hbs
          refine hK.out _ _ (trivial) (fun hHeld2 => ?_)
          clear hK K hHeld
          have hHeld := hHeld2
          clear hHeld2
          (try simp only [oq11_4_3, Act.put, List.setIfInBounds_toArray, List.set_cons_zero, List.set_cons_succ])
          exact hst2 gXn D1 d1 V5 ⟨WW, Xn, O1, hHeld⟩
        refine ReadyL.cons (o := oq11_4_10) rfl (fun K hK => ?_) ?_
        · delta oq11_4_10
          have lXn : gXn < V4.heap.size := Xn.lt
          go_simp
          have ba := (Below.refl V4.heap.size V4).alloc (Nat.le_refl _) (.cells #[.slice none 0 0] 24)
          replace Xn := Xn.below ba
          have bn := Blk.new V4 24 #[.slice none 0 0]
          have Xp := VB.mk (B := w.heap.size) (a := 0) bn (.inr (Own.nil _ _ _ _ (Nat.zero_le _))) ba WW.size WW.size
          replace WW := WW.trans (ba.mono WW.size)
          have sz5 : V4.heap.size < (V4.alloc (.cells #[.slice none 0 0] 24)).heap.size := bn.lt
          refine hK.out _ _ (trivial) (fun hHeld2 => ?_)
          clear hK K hHeld
          (try simp only [oq11_4_10, Act.put, List.setIfInBounds_toArray, List.set_cons_zero, List.set_cons_succ])
          generalize hV : V4.alloc (.cells #[.slice none 0 0] 24) = V5 at hHeld2 sz5 WW Xn Xp ⊢
          clear hV ba bn
          have hHeld := hHeld2
          clear hHeld2
          obtain ⟨gXp, hg⟩ : ∃ x, x = V4.heap.size := ⟨_, rfl⟩
          have nXnXp : gXn ≠ gXp := by omega
          rw [← hg] at Xp sz5 ⊢
          clear hg lXn
          exact hst4 gXp gXn V5 ⟨WW, Xp, Xn, (by first | exact nXpXn | omega), hHeld⟩
        refine ReadyL.cons (o := oq11_4_11) rfl (fun K hK => ?_) ReadyL.nil
        · delta oq11_4_11
          have lXn : gXn < V4.heap.size := Xn.lt
          go_simp
          have ba := (Below.refl V4.heap.size V4).alloc (Nat.le_refl _) (.cells #[.slice none 0 0] 24)
          replace Xn := Xn.below ba
          have bn := Blk.new V4 24 #[.slice none 0 0]
          have Xq := VB.mk (B := w.heap.size) (a := 0) bn (.inr (Own.nil _ _ _ _ (Nat.zero_le _))) ba WW.size WW.size
          replace WW := WW.trans (ba.mono WW.size)
          have sz5 : V4.heap.size < (V4.alloc (.cells #[.slice none 0 0] 24)).heap.size := bn.lt
          refine hK.out _ _ (trivial) (fun hHeld2 => ?_)
          clear hK K hHeld
          (try simp only [oq11_4_11, Act.put, List.setIfInBounds_toArray, List.set_cons_zero, List.set_cons_succ])
          generalize hV : V4.alloc (.cells #[.slice none 0 0] 24) = V5 at hHeld2 sz5 WW Xn Xq ⊢
          clear hV ba bn
          have hHeld := hHeld2
          clear hHeld2
          obtain ⟨gXq, hg⟩ : ∃ x, x = V4.heap.size := ⟨_, rfl⟩
          have nXnXq : gXn ≠ gXq := by omega
          rw [← hg] at Xq sz5 ⊢
          clear hg lXn
          exact hst5 gXq gXn V5 ⟨WW, Xq, Xn, (by first | exact nXqXn | omega), hHeld⟩
    case h1.h1.h1.h1.h1.h1.h1.h1.h1.h1.h1.h1.h1.h1.h1.h1.h1.h1.h1.h1.h1.h1.h1.h1.h2 =>
      rintro gXp D1 d1 Y3_25 ⟨WW, Xp, O1, hHeld⟩
      refine AnyL_ready (rs := [7, 11, 12]) (by kernel_rfl) (by simp) ?_
      refine ReadyL.cons (o := oq11_4_7) rfl (fun K hK => ?_) ?_
      · delta oq11_4_7
        go_simp
        have hbs : w.heap.size ≤ Y3_25.heap.size := WW.size
        have hc := of3_z Y y Y3_25 BY.out eY.out
        refine hc.mono ?_
        clear hc
        rintro e V329 ⟨v, rfl, hv, hb⟩
        replace Xp := Xp.below hb
        replace O1 := O1.below hb (Nat.le_refl _)
        replace WW := WW.trans (hb.mono WW.size)
        have sz329 := hb.size
        obtain ⟨D2, d2, rfl, ho⟩ := hv
        have O2 := ho.weak (b := w.heap.size) hbs
        clear ho
        clear hb hbs
        refine hK.out _ _ (trivial) (fun hHeld2 => ?_)
        clear hK K hHeld
        have hHeld := hHeld2
        clear hHeld2
        (try simp only [oq11_4_7, Act.put, List.setIfInBounds_toArray, List.set_cons_zero, List.set_cons_succ])
        exact hst6 gXp D1 d1 D2 d2 V329 ⟨WW, Xp, O1, O2, hHeld⟩
      refine ReadyL.cons (o := oq11_4_11) rfl (fun K hK => ?_) ?_
      · delta oq11_4_11
        have lXp : gXp < Y3_25.heap.size := Xp.lt
        go_simp
        have ba := (Below.refl Y3_25.heap.size Y3_25).alloc (Nat.le_refl _) (.cells #[.slice none 0 0] 24)
        replace Xp := Xp.below ba
        replace O1 := O1.below ba (Nat.le_refl _)
        have bn := Blk.new Y3_25 24 #[.slice none 0 0]
        have Xq := VB.mk (B := w.heap.size) (a := 0) bn (.inr (Own.nil _ _ _ _ (Nat.zero_le _))) ba WW.size WW.size
        replace WW := WW.trans (ba.mono WW.size)
        have sz329 : Y3_25.heap.size < (Y3_25.alloc (.cells #[.slice none 0 0] 24)).heap.size := bn.lt
        refine hK.out _ _ (trivial) (fun hHeld2 => ?_)
        clear hK K hHeld
        (try simp only [oq11_4_11, Act.put, List.setIfInBounds_toArray, List.set_cons_zero, List.set_cons_succ])
        generalize hV : Y3_25.alloc (.cells #[.slice none 0 0] 24) = V329 at hHeld2 sz329 WW Xp Xq O1 ⊢
        clear hV ba bn
        have hHeld := hHeld2
        clear hHeld2
        obtain ⟨gXq, hg⟩ : ∃ x, x = Y3_25.heap.size := ⟨_, rfl⟩
        have nXpXq : gXp ≠ gXq := by omega
        rw [← hg] at Xq sz329 ⊢
        clear hg lXp
        exact hst9 gXp gXq D1 d1 V329 ⟨WW, Xp, Xq, O1, (by first | exact nXpXq | omega), hHeld⟩
      refine ReadyL.cons (o := oq11_4_12) rfl (fun K hK => ?_) ReadyL.nil
      · delta oq11_4_12
        have lXp : gXp < Y3_25.heap.size := Xp.lt
        go_simp
        have ba := (Below.refl Y3_25.heap.size Y3_25).alloc (Nat.le_refl _) (.cells #[.slice none 0 0] 24)
        replace Xp := Xp.below ba
        replace O1 := O1.below ba (Nat.le_refl _)
        have bn := Blk.new Y3_25 24 #[.slice none 0 0]
        have Xn := VB.mk (B := w.heap.size) (a := 0) bn (.inr (Own.nil _ _ _ _ (Nat.zero_le _))) ba WW.size WW.size
        replace WW := WW.trans (ba.mono WW.size)
        have sz329 : Y3_25.heap.size < (Y3_25.alloc (.cells #[.slice none 0 0] 24)).heap.size := bn.lt
        refine hK.out _ _ (trivial) (fun hHeld2 => ?_)
        clear hK K hHeld
        (try simp only [oq11_4_12, Act.put, List.setIfInBounds_toArray, List.set_cons_zero, List.set_cons_succ])
        generalize hV : Y3_25.alloc (.cells #[.slice none 0 0] 24) = V329 at hHeld2 sz329 WW Xp Xn O1 ⊢
        clear hV ba bn
        have hHeld := hHeld2
        clear hHeld2
        obtain ⟨gXn, hg⟩ : ∃ x, x = Y3_25.heap.size := ⟨_, rfl⟩
        have nXpXn : gXp ≠ gXn := by omega
        rw [← hg] at Xn sz329 ⊢
        clear hg lXp
        exact hst10 gXp gXn D1 d1 V329 ⟨WW, Xp, Xn, O1, (by first | exact nXpXn | omega), hHeld⟩
    case h1.h1.h1.h1.h1.h1.h1.h1.h1.h1.h1.h1.h1.h1.h1.h1.h1.h1.h1.h1.h1.h1.h1.h2 =>
      rintro gXq D1 d1 Y3_29 ⟨WW, Xq, O1, hHeld⟩
      refine AnyL_ready (rs := [7, 10, 12]) (by kernel_rfl) (by simp) ?_
      refine ReadyL.cons (o := oq11_4_7) rfl (fun K hK => ?_) ?_
      · delta oq11_4_7
        go_simp
        have hbs : w.heap.size ≤ Y3_29.heap.size := WW.size
        have hc := of3_z Y y Y3_29 BY.out eY.out
        refine hc.mono ?_
        clear hc
        rintro e V333 ⟨v, rfl, hv, hb⟩
        replace Xq := Xq.below hb
        replace O1 := O1.below hb (Nat.le_refl _)
        replace WW := WW.trans (hb.mono WW.size)
        have sz333 := hb.size
        obtain ⟨D2, d2, rfl, ho⟩ := hv
        have O2 := ho.weak (b := w.heap.size) hbs
        clear ho
        clear hb hbs
        refine hK.out _ _ (trivial) (fun hHeld2 => ?_)
        clear hK K hHeld
        have hHeld := hHeld2
        clear hHeld2
        (try simp only [oq11_4_7, Act.put, List.setIfInBounds_toArray, List.set_cons_zero, List.set_cons_succ])
        exact hst7 gXq D1 d1 D2 d2 V333 ⟨WW, Xq, O1, O2, hHeld⟩
      refine ReadyL.cons (o := oq11_4_10) rfl (fun K hK => ?_) ?_
      · delta oq11_4_10
        have lXq : gXq < Y3_29.heap.size := Xq.lt
        go_simp
        have ba := (Below.refl Y3_29.heap.size Y3_29).alloc (Nat.le_refl _) (.cells #[.slice none 0 0] 24)
        replace Xq := Xq.below ba
        replace O1 := O1.below ba (Nat.le_refl _)
        have bn := Blk.new Y3_29 24 #[.slice none 0 0]
        have Xp := VB.mk (B := w.heap.size) (a := 0) bn (.inr (Own.nil _ _ _ _ (Nat.zero_le _))) ba WW.size WW.size
        replace WW := WW.trans (ba.mono WW.size)
        have sz333 : Y3_29.heap.size < (Y3_29.alloc (.cells #[.slice none 0 0] 24)).heap.size := bn.lt
        refine hK.out _ _ (trivial) (fun hHeld2 => ?_)
        clear hK K hHeld
        (try simp only [oq11_4_10, Act.put, List.setIfInBounds_toArray, List.set_cons_zero, List.set_cons_succ])
        generalize hV : Y3_29.alloc (.cells #[.slice none 0 0] 24) = V333 at hHeld2 sz333 WW Xq Xp O1 ⊢
        clear hV ba bn
        have hHeld := hHeld2
        clear hHeld2
        obtain ⟨gXp, hg⟩ : ∃ x, x = Y3_29.heap.size := ⟨_, rfl⟩
        have nXqXp : gXq ≠ gXp := by omega
        rw [← hg] at Xp sz333 ⊢
        clear hg lXq
        exact hst9 gXp gXq D1 d1 V333 ⟨WW, Xp, Xq, O1, (by first | exact nXpXq | omega), hHeld⟩
      refine ReadyL.cons (o := oq11_4_12) rfl (fun K hK => ?_) ReadyL.nil
      · delta oq11_4_12
        have lXq : gXq < Y3_29.heap.size := Xq.lt
        go_simp
        have ba := (Below.refl Y3_29.heap.size Y3_29).alloc (Nat.le_refl _) (.cells #[.slice none 0 0] 24)
        replace Xq := Xq.below ba
        replace O1 := O1.below ba (Nat.le_refl _)
        have bn := Blk.new Y3_29 24 #[.slice none 0 0]
        have Xn := VB.mk (B := w.heap.size) (a := 0) bn (.inr (Own.nil _ _ _ _ (Nat.zero_le _))) ba WW.size WW.size
        replace WW := WW.trans (ba.mono WW.size)
        have sz333 : Y3_29.heap.size < (Y3_29.alloc (.cells #[.slice none 0 0] 24)).heap.size := bn.lt
        refine hK.out _ _ (trivial) (fun hHeld2 => ?_)
        clear hK K hHeld
        (try simp only [oq11_4_12, Act.put, List.setIfInBounds_toArray, List.set_cons_zero, List.set_cons_succ])
        generalize hV : Y3_29.alloc (.cells #[.slice none 0 0] 24) = V333 at hHeld2 sz333 WW Xq Xn O1 ⊢
        clear hV ba bn
        have hHeld := hHeld2
        clear hHeld2
        obtain ⟨gXn, hg⟩ : ∃ x, x = Y3_29.heap.size := ⟨_, rfl⟩
        have nXqXn : gXq ≠ gXn := by omega
        rw [← hg] at Xn sz333 ⊢
        clear hg lXq
        exact hst11 gXq gXn D1 d1 V333 ⟨WW, Xq, Xn, O1, (by first | exact nXqXn | omega), hHeld⟩
    case h1.h1.h1.h1.h1.h1.h1.h1.h1.h1.h1.h1.h1.h1.h1.h1.h1.h1.h1.h1.h1.h1.h2 =>
      rintro gXn D1 d1 Y3_33 ⟨WW, Xn, O1, hHeld⟩
      refine AnyL_ready (rs := [7, 10, 11]) (by kernel_rfl) (by simp) ?_
      refine ReadyL.cons (o := oq11_4_7) rfl (fun K hK => ?_) ?_
      · delta oq11_4_7
        go_simp
        have hbs : w.heap.size ≤ Y3_33.heap.size := WW.size
        have hc := of3_z Y y Y3_33 BY.out eY.out
        refine hc.mono ?_
        clear hc
        rintro e V337 ⟨v, rfl, hv, hb⟩
        replace Xn := Xn.below hb
        replace O1 := O1.below hb (Nat.le_refl _)
        replace WW := WW.trans (hb.mono WW.size)
        have sz337 := hb.size
        obtain ⟨D2, d2, rfl, ho⟩ := hv
        have O2 := ho.weak (b := w.heap.size) hbs
        clear ho
        clear hb hbs
        refine hK.out _ _ (trivial) (fun hHeld2 => ?_)
        clear hK K hHeld
        have hHeld := hHeld2
        clear hHeld2
        (try simp only [oq11_4_7, Act.put, List.setIfInBounds_toArray, List.set_cons_zero, List.set_cons_succ])
        exact hst8 gXn D1 d1 D2 d2 V337 ⟨WW, Xn, O1, O2, hHeld⟩
      refine ReadyL.cons (o := oq11_4_10) rfl (fun K hK => ?_) ?_
      · delta oq11_4_10
        have lXn : gXn < Y3_33.heap.size := Xn.lt
        go_simp
        have ba := (Below.refl Y3_33.heap.size Y3_33).alloc (Nat.le_refl _) (.cells #[.slice none 0 0] 24)
        replace Xn := Xn.below ba
        replace O1 := O1.below ba (Nat.le_refl _)
        have bn := Blk.new Y3_33 24 #[.slice none 0 0]
        have Xp := VB.mk (B := w.heap.size) (a := 0) bn (.inr (Own.nil _ _ _ _ (Nat.zero_le _))) ba WW.size WW.size
        replace WW := WW.trans (ba.mono WW.size)
        have sz337 : Y3_33.heap.size < (Y3_33.alloc (.cells #[.slice none 0 0] 24)).heap.size := bn.lt
        refine hK.out _ _ (trivial) (fun hHeld2 => ?_)
        clear hK K hHeld
        (try simp only [oq11_4_10, Act.put, List.setIfInBounds_toArray, List.set_cons_zero, List.set_cons_succ])
        generalize hV : Y3_33.alloc (.cells #[.slice none 0 0] 24) = V337 at hHeld2 sz337 WW Xn Xp O1 ⊢
        clear hV ba bn
        have hHeld := hHeld2
        clear hHeld2
        obtain ⟨gXp, hg⟩ : ∃ x, x = Y3_33.heap.size := ⟨_, rfl⟩
        have nXnXp : gXn ≠ gXp := by omega
        rw [← hg] at Xp sz337 ⊢
        clear hg lXn
        exact hst10 gXp gXn D1 d1 V337 ⟨WW, Xp, Xn, O1, (by first | exact nXpXn | omega), hHeld⟩
      refine ReadyL.cons (o := oq11_4_11) rfl (fun K hK => ?_) ReadyL.nil
      · delta oq11_4_11
        have lXn : gXn < Y3_33.heap.size := Xn.lt
        go_simp
        have ba := (Below.refl Y3_33.heap.size Y3_33).alloc (Nat.le_refl _) (.cells #[.slice none 0 0] 24)
        replace Xn := Xn.below ba
        replace O1 := O1.below ba (Nat.le_refl _)
        have bn := Blk.new Y3_33 24 #[.slice none 0 0]
        have Xq := VB.mk (B := w.heap.size) (a := 0) bn (.inr (Own.nil _ _ _ _ (Nat.zero_le _))) ba WW.size WW.size
        replace WW := WW.trans (ba.mono WW.size)
        have sz337 : Y3_33.heap.size < (Y3_33.alloc (.cells #[.slice none 0 0] 24)).heap.size := bn.lt
        refine hK.out _ _ (trivial) (fun hHeld2 => ?_)
        clear hK K hHeld
        (try simp only [oq11_4_11, Act.put, List.setIfInBounds_toArray, List.set_cons_zero, List.set_cons_succ])
        generalize hV : Y3_33.alloc (.cells #[.slice none 0 0] 24) = V337 at hHeld2 sz337 WW Xn Xq O1 ⊢
        clear hV ba bn
        have hHeld := hHeld2
        clear hHeld2
        obtain ⟨gXq, hg⟩ : ∃ x, x = Y3_33.heap.size := ⟨_, rfl⟩
        have nXnXq : gXn ≠ gXq := by omega
        rw [← hg] at Xq sz337 ⊢
        clear hg lXn
        exact hst11 gXq gXn D1 d1 V337 ⟨WW, Xq, Xn, O1, (by first | exact nXqXn | omega), hHeld⟩
    case h1.h1.h1.h1.h1.h1.h1.h1.h1.h1.h1.h1.h1.h1.h1.h1.h1.h1.h1.h1.h1.h2 =>
      rintro gXp gXq Y3_37 ⟨WW, Xp, Xq, nXpXq, hHeld⟩
      refine AnyL_ready (rs := [3, 12]) (by kernel_rfl) (by simp) ?_
      refine ReadyL.cons (o := oq11_4_3) rfl (fun K hK => ?_) ?_
      · delta oq11_4_3
        go_simp
        have hbs : w.heap.size ≤ Y3_37.heap.size := WW.size
        have hc := of3_z X x Y3_37 BX.out eX.out
        refine hc.mono ?_
        clear hc
        rintro e V341 ⟨v, rfl, hv, hb⟩
        replace Xp := Xp.below hb
        replace Xq := Xq.below hb
        replace WW := WW.trans (hb.mono WW.size)
        have sz341 := hb.size
        obtain ⟨D1, d1, rfl, ho⟩ := hv
        have O1 := ho.weak (b := w.heap.size) hbs
        clear ho
        clear hb hbs
        refine hK.out _ _ (trivial) (fun hHeld2 => ?_)
        clear hK K hHeld
        have hHeld := hHeld2
        clear hHeld2
        (try simp only [oq11_4_3, Act.put, List.setIfInBounds_toArray, List.set_cons_zero, List.set_cons_succ])
        exact hst9 gXp gXq D1 d1 V341 ⟨WW, Xp, Xq, O1, (by first | exact nXpXq | omega), hHeld⟩
      refine ReadyL.cons (o := oq11_4_12) rfl (fun K hK => ?_) ReadyL.nil
      · delta oq11_4_12
        have lXp : gXp < Y3_37.heap.size := Xp.lt
        have lXq : gXq < Y3_37.heap.size := Xq.lt
        go_simp
        have ba := (Below.refl Y3_37.heap.size Y3_37).alloc (Nat.le_refl _) (.cells #[.slice none 0 0] 24)
        replace Xp := Xp.below ba
        replace Xq := Xq.below ba
        have bn := Blk.new Y3_37 24 #[.slice none 0 0]
        have Xn := VB.mk (B := w.heap.size) (a := 0) bn (.inr (Own.nil _ _ _ _ (Nat.zero_le _))) ba WW.size WW.size
        replace WW := WW.trans (ba.mono WW.size)
        have sz341 : Y3_37.heap.size < (Y3_37.alloc (.cells #[.slice none 0 0] 24)).heap.size := bn.lt
        refine hK.out _ _ (trivial) (fun hHeld2 => ?_)
        clear hK K hHeld
        (try simp only [oq11_4_12, Act.put, List.setIfInBounds_toArray, List.set_cons_zero, List.set_cons_succ])
        generalize hV : Y3_37.alloc (.cells #[.slice none 0 0] 24) = V341 at hHeld2 sz341 WW Xp Xq Xn ⊢
        clear hV ba bn
        have hHeld := hHeld2
        clear hHeld2
        obtain ⟨gXn, hg⟩ : ∃ x, x = Y3_37.heap.size := ⟨_, rfl⟩
        have nXpXn : gXp ≠ gXn := by omega
        have nXqXn : gXq ≠ gXn := by omega
        rw [← hg] at Xn sz341 ⊢
        clear hg lXp lXq
        exact hst12 gXp gXq gXn V341 ⟨WW, Xp, Xq, Xn, (by first | exact nXpXq | omega), (by first | exact nXpXn | omega), (by first | exact nXqXn | omega), hHeld⟩
    case h1.h1.h1.h1.h1.h1.h1.h1.h1.h1.h1.h1.h1.h1.h1.h1.h1.h1.h1.h1.h2 =>
      rintro gXp gXn Y3_40 ⟨WW, Xp, Xn, nXpXn, hHeld⟩
      refine AnyL_ready (rs := [3, 11]) (by kernel_rfl) (by simp) ?_
      refine ReadyL.cons (o := oq11_4_3) rfl (fun K hK => ?_) ?_
      · delta oq11_4_3
        go_simp
        have hbs : w.heap.size ≤ Y3_40.heap.size := WW.size
        have hc := of3_z X x Y3_40 BX.out eX.out
        refine hc.mono ?_
        clear hc
        rintro e V344 ⟨v, rfl, hv, hb⟩
        replace Xp := Xp.below hb
        replace Xn := Xn.below hb
        replace WW := WW.trans (hb.mono WW.size)
        have sz344 := hb.size
        obtain ⟨D1, d1, rfl, ho⟩ := hv
        have O1 := ho.weak (b := w.heap.size) hbs
        clear ho
        clear hb hbs
        refine hK.out _ _ (trivial) (fun hHeld2 => ?_)
        clear hK K hHeld
        have hHeld := hHeld2
        clear hHeld2
        (try simp only [oq11_4_3, Act.put, List.setIfInBounds_toArray, List.set_cons_zero, List.set_cons_succ])
        exact hst10 gXp gXn D1 d1 V344 ⟨WW, Xp, Xn, O1, (by first | exact nXpXn | omega), hHeld⟩
      refine ReadyL.cons (o := oq11_4_11) rfl (fun K hK => ?_) ReadyL.nil
      · delta oq11_4_11
        have lXp : gXp < Y3_40.heap.size := Xp.lt
        have lXn : gXn < Y3_40.heap.size := Xn.lt
        go_simp
        have ba := (Below.refl Y3_40.heap.size Y3_40).alloc (Nat.le_refl _) (.cells #[.slice none 0 0] 24)
        replace Xp := Xp.below ba
        replace Xn := Xn.below ba
        have bn := Blk.new Y3_40 24 #[.slice none 0 0]
        have Xq := VB.mk (B := w.heap.size) (a := 0) bn (.inr (Own.nil _ _ _ _ (Nat.zero_le _))) ba WW.size WW.size
        replace WW := WW.trans (ba.mono WW.size)
        have sz344 : Y3_40.heap.size < (Y3_40.alloc (.cells #[.slice none 0 0] 24)).heap.size := bn.lt
        refine hK.out _ _ (trivial) (fun hHeld2 => ?_)
        clear hK K hHeld
        (try simp only [oq11_4_11, Act.put, List.setIfInBounds_toArray, List.set_cons_zero, List.set_cons_succ])
        generalize hV : Y3_40.alloc (.cells #[.slice none 0 0] 24) = V344 at hHeld2 sz344 WW Xp Xn Xq ⊢
        clear hV ba bn
        have hHeld := hHeld2
        clear hHeld2
        obtain ⟨gXq, hg⟩ : ∃ x, x = Y3_40.heap.size := ⟨_, rfl⟩
        have nXpXq : gXp ≠ gXq := by omega
        have nXnXq : gXn ≠ gXq := by omega
        rw [← hg] at Xq sz344 ⊢
        clear hg lXp lXn
        exact hst12 gXp gXq gXn V344 ⟨WW, Xp, Xq, Xn, (by first | exact nXpXq | omega), (by first | exact nXpXn | omega), (by first | exact nXqXn | omega), hHeld⟩
    case h1.h1.h1.h1.h1.h1.h1.h1.h1.h1.h1.h1.h1.h1.h1.h1.h1.h1.h1.h2 =>
      rintro gXq gXn Y3_43 ⟨WW, Xq, Xn, nXqXn, hHeld⟩
      refine AnyL_ready (rs := [3, 10]) (by kernel_rfl) (by simp) ?_
      refine ReadyL.cons (o := oq11_4_3) rfl (fun K hK => ?_) ?_
      · delta oq11_4_3
        go_simp
        have hbs : w.heap.size ≤ Y3_43.heap.size := WW.size
        have hc := of3_z X x Y3_43 BX.out eX.out
        refine hc.mono ?_
        clear hc
        rintro e V347 ⟨v, rfl, hv, hb⟩
        replace Xq := Xq.below hb
        replace Xn := Xn.below hb
        replace WW := WW.trans (hb.mono WW.size)
        have sz347 := hb.size
        obtain ⟨D1, d1, rfl, ho⟩ := hv
        have O1 := ho.weak (b := w.heap.size) hbs
        clear ho
        clear hb hbs
        refine hK.out _ _ (trivial) (fun hHeld2 => ?_)
        clear hK K hHeld
        have hHeld := hHeld2
        clear hHeld2
        (try simp only [oq11_4_3, Act.put, List.setIfInBounds_toArray, List.set_cons_zero, List.set_cons_succ])
        exact hst11 gXq gXn D1 d1 V347 ⟨WW, Xq, Xn, O1, (by first | exact nXqXn | omega), hHeld⟩
      refine ReadyL.cons (o := oq11_4_10) rfl (fun K hK => ?_) ReadyL.nil
      · delta oq11_4_10
        have lXq : gXq < Y3_43.heap.size := Xq.lt
        have lXn : gXn < Y3_43.heap.size := Xn.lt
        go_simp
        have ba := (Below.refl Y3_43.heap.size Y3_43).alloc (Nat.le_refl _) (.cells #[.slice none 0 0] 24)
        replace Xq := Xq.below ba
        replace Xn := Xn.below ba
        have bn := Blk.new Y3_43 24 #[.slice none 0 0]
        have Xp := VB.mk (B := w.heap.size) (a := 0) bn (.inr (Own.nil _ _ _ _ (Nat.zero_le _))) ba WW.size WW.size
        replace WW := WW.trans (ba.mono WW.size)
        have sz347 : Y3_43.heap.size < (Y3_43.alloc (.cells #[.slice none 0 0] 24)).heap.size := bn.lt
        refine hK.out _ _ (trivial) (fun hHeld2 => ?_)
        clear hK K hHeld
        (try simp only [oq11_4_10, Act.put, List.setIfInBounds_toArray, List.set_cons_zero, List.set_cons_succ])
        generalize hV : Y3_43.alloc (.cells #[.slice none 0 0] 24) = V347 at hHeld2 sz347 WW Xq Xn Xp ⊢
        clear hV ba bn
        have hHeld := hHeld2
        clear hHeld2
        obtain ⟨gXp, hg⟩ : ∃ x, x = Y3_43.heap.size := ⟨_, rfl⟩
        have nXqXp : gXq ≠ gXp := by omega
        have nXnXp : gXn ≠ gXp := by omega
        rw [← hg] at Xp sz347 ⊢
        clear hg lXq lXn
        exact hst12 gXp gXq gXn V347 ⟨WW, Xp, Xq, Xn, (by first | exact nXpXq | omega), (by first | exact nXpXn | omega), (by first | exact nXqXn | omega), hHeld⟩
    case h1.h1.h1.h1.h1.h1.h1.h1.h1.h1.h1.h1.h1.h1.h1.h1.h1.h1.h2 =>
      rintro gXp D1 d1 D2 d2 Y3_46 ⟨WW, Xp, O1, O2, hHeld⟩
      refine AnyL_ready (rs := [9, 11, 12]) (by kernel_rfl) (by simp) ?_
      refine ReadyL.cons (o := oq11_4_9) rfl (fun K hK => ?_) ?_
      · delta oq11_4_9
        go_simp
        have hbs : w.heap.size ≤ Y3_46.heap.size := WW.size
        have hc := of3_z M m Y3_46 BM.out eM.out
        refine hc.mono ?_
        clear hc
        rintro e V350 ⟨v, rfl, hv, hb⟩
        replace Xp := Xp.below hb
        replace O1 := O1.below hb (Nat.le_refl _)
        replace O2 := O2.below hb (Nat.le_refl _)
        replace WW := WW.trans (hb.mono WW.size)
        have sz350 := hb.size
        obtain ⟨D3, d3, rfl, ho⟩ := hv
        have O3 := ho.weak (b := w.heap.size) hbs
        clear ho
        clear hb hbs
        refine hK.out _ _ (trivial) (fun hHeld2 => ?_)
        clear hK K hHeld
        have hHeld := hHeld2
        clear hHeld2
        (try simp only [oq11_4_9, Act.put, List.setIfInBounds_toArray, List.set_cons_zero, List.set_cons_succ])
        exact hst13 gXp D1 d1 D2 d2 D3 d3 V350 ⟨WW, Xp, O1, O2, O3, hHeld⟩
      refine ReadyL.cons (o := oq11_4_11) rfl (fun K hK => ?_) ?_
      · delta oq11_4_11
        have lXp : gXp < Y3_46.heap.size := Xp.lt
        go_simp
        have ba := (Below.refl Y3_46.heap.size Y3_46).alloc (Nat.le_refl _) (.cells #[.slice none 0 0] 24)
        replace Xp := Xp.below ba
        replace O1 := O1.below ba (Nat.le_refl _)
        replace O2 := O2.below ba (Nat.le_refl _)
        have bn := Blk.new Y3_46 24 #[.slice none 0 0]
        have Xq := VB.mk (B := w.heap.size) (a := 0) bn (.inr (Own.nil _ _ _ _ (Nat.zero_le _))) ba WW.size WW.size
        replace WW := WW.trans (ba.mono WW.size)
        have sz350 : Y3_46.heap.size < (Y3_46.alloc (.cells #[.slice none 0 0] 24)).heap.size := bn.lt
        refine hK.out _ _ (trivial) (fun hHeld2 => ?_)
        clear hK K hHeld
        (try simp only [oq11_4_11, Act.put, List.setIfInBounds_toArray, List.set_cons_zero, List.set_cons_succ])
        generalize hV : Y3_46.alloc (.cells #[.slice none 0 0] 24) = V350 at hHeld2 sz350 WW Xp Xq O1 O2 ⊢
        clear hV ba bn
        have hHeld := hHeld2
        clear hHeld2
        obtain ⟨gXq, hg⟩ : ∃ x, x = Y3_46.heap.size := ⟨_, rfl⟩
        have nXpXq : gXp ≠ gXq := by omega
        rw [← hg] at Xq sz350 ⊢
        clear hg lXp
        exact hst16 gXp gXq D1 d1 D2 d2 V350 ⟨WW, Xp, Xq, O1, O2, (by first | exact nXpXq | omega), hHeld⟩
      refine ReadyL.cons (o := oq11_4_12) rfl (fun K hK => ?_) ReadyL.nil
      · delta oq11_4_12
        have lXp : gXp < Y3_46.heap.size := Xp.lt
        go_simp
        have ba := (Below.refl Y3_46.heap.size Y3_46).alloc (Nat.le_refl _) (.cells #[.slice none 0 0] 24)
        replace Xp := Xp.below ba
        replace O1 := O1.below ba (Nat.le_refl _)
        replace O2 := O2.below ba (Nat.le_refl _)
        have bn := Blk.new Y3_46 24 #[.slice none 0 0]
        have Xn := VB.mk (B := w.heap.size) (a := 0) bn (.inr (Own.nil _ _ _ _ (Nat.zero_le _))) ba WW.size WW.size
        replace WW := WW.trans (ba.mono WW.size)
        have sz350 : Y3_46.heap.size < (Y3_46.alloc (.cells #[.slice none 0 0] 24)).heap.size := bn.lt
        refine hK.out _ _ (trivial) (fun hHeld2 => ?_)
        clear hK K hHeld
        (try simp only [oq11_4_12, Act.put, List.setIfInBounds_toArray, List.set_cons_zero, List.set_cons_succ])
        generalize hV : Y3_46.alloc (.cells #[.slice none 0 0] 24) = V350 at hHeld2 sz350 WW Xp Xn O1 O2 ⊢
        clear hV ba bn
        have hHeld := hHeld2
        clear hHeld2
        obtain ⟨gXn, hg⟩ : ∃ x, x = Y3_46.heap.size := ⟨_, rfl⟩
        have nXpXn : gXp ≠ gXn := by omega
        rw [← hg] at Xn sz350 ⊢
        clear hg lXp
        exact hst17 gXp gXn D1 d1 D2 d2 V350 ⟨WW, Xp, Xn, O1, O2, (by first | exact nXpXn | omega), hHeld⟩
    case h1.h1.h1.h1.h1.h1.h1.h1.h1.h1.h1.h1.h1.h1.h1.h1.h1.h2 =>
      rintro gXq D1 d1 D2 d2 Y3_50 ⟨WW, Xq, O1, O2, hHeld⟩
      refine AnyL_ready (rs := [9, 10, 12]) (by kernel_rfl) (by simp) ?_
      refine ReadyL.cons (o := oq11_4_9) rfl (fun K hK => ?_) ?_
      · delta oq11_4_9
        go_simp
        have hbs : w.heap.size ≤ Y3_50.heap.size := WW.size
        have hc := of3_z M m Y3_50 BM.out eM.out
        refine hc.mono ?_
        clear hc
        rintro e V354 ⟨v, rfl, hv, hb⟩
        replace Xq := Xq.below hb
        replace O1 := O1.below hb (Nat.le_refl _)
        replace O2 := O2.below hb (Nat.le_refl _)
        replace WW := WW.trans (hb.mono WW.size)
        have sz354 := hb.size
        obtain ⟨D3, d3, rfl, ho⟩ := hv
        have O3 := ho.weak (b := w.heap.size) hbs
        clear ho
        clear hb hbs
        refine hK.out _ _ (trivial) (fun hHeld2 => ?_)
        clear hK K hHeld
        have hHeld := hHeld2
        clear hHeld2
        (try simp only [oq11_4_9, Act.put, List.setIfInBounds_toArray, List.set_cons_zero, List.set_cons_succ])
        exact hst14 gXq D1 d1 D2 d2 D3 d3 V354 ⟨WW, Xq, O1, O2, O3, hHeld⟩
      refine ReadyL.cons (o := oq11_4_10) rfl (fun K hK => ?_) ?_
      · delta oq11_4_10
        have lXq : gXq < Y3_50.heap.size := Xq.lt
        go_simp
        have ba := (Below.refl Y3_50.heap.size Y3_50).alloc (Nat.le_refl _) (.cells #[.slice none 0 0] 24)
        replace Xq := Xq.below ba
        replace O1 := O1.below ba (Nat.le_refl _)
        replace O2 := O2.below ba (Nat.le_refl _)
        have bn := Blk.new Y3_50 24 #[.slice none 0 0]
        have Xp := VB.mk (B := w.heap.size) (a := 0) bn (.inr (Own.nil _ _ _ _ (Nat.zero_le _))) ba WW.size WW.size
        replace WW := WW.trans (ba.mono WW.size)
        have sz354 : Y3_50.heap.size < (Y3_50.alloc (.cells #[.slice none 0 0] 24)).heap.size := bn.lt
        refine hK.out _ _ (trivial) (fun hHeld2 => ?_)
        clear hK K hHeld
        (try simp only [oq11_4_10, Act.put, List.setIfInBounds_toArray, List.set_cons_zero, List.set_cons_succ])
        generalize hV : Y3_50.alloc (.cells #[.slice none 0 0] 24) = V354 at hHeld2 sz354 WW Xq Xp O1 O2 ⊢
        clear hV ba bn
        have hHeld := hHeld2
        clear hHeld2
        obtain ⟨gXp, hg⟩ : ∃ x, x = Y3_50.heap.size := ⟨_, rfl⟩
        have nXqXp : gXq ≠ gXp := by omega
        rw [← hg] at Xp sz354 ⊢
        clear hg lXq
        exact hst16 gXp gXq D1 d1 D2 d2 V354 ⟨WW, Xp, Xq, O1, O2, (by first | exact nXpXq | omega), hHeld⟩
      refine ReadyL.cons (o := oq11_4_12) rfl (fun K hK => ?_) ReadyL.nil
      · delta oq11_4_12
        have lXq : gXq < Y3_50.heap.size := Xq.lt
        go_simp
        have ba := (Below.refl Y3_50.heap.size Y3_50).alloc (Nat.le_refl _) (.cells #[.slice none 0 0] 24)
        replace Xq := Xq.below ba
        replace O1 := O1.below ba (Nat.le_refl _)
        replace O2 := O2.below ba (Nat.le_refl _)
        have bn := Blk.new Y3_50 24 #[.slice none 0 0]
        have Xn := VB.mk (B := w.heap.size) (a := 0) bn (.inr (Own.nil _ _ _ _ (Nat.zero_le _))) ba WW.size WW.size
        replace WW := WW.trans (ba.mono WW.size)
        have sz354 : Y3_50.heap.size < (Y3_50.alloc (.cells #[.slice none 0 0] 24)).heap.size := bn.lt
        refine hK.out _ _ (trivial) (fun hHeld2 => ?_)
        clear hK K hHeld
        (try simp only [oq11_4_12, Act.put, List.setIfInBounds_toArray, List.set_cons_zero, List.set_cons_succ])
        generalize hV : Y3_50.alloc (.cells #[.slice none 0 0] 24) = V354 at hHeld2 sz354 WW Xq Xn O1 O2 ⊢
        clear hV ba bn
        have hHeld := hHeld2
        clear hHeld2
        obtain ⟨gXn, hg⟩ : ∃ x, x = Y3_50.heap.size := ⟨_, rfl⟩
        have nXqXn : gXq ≠ gXn := by omega
        rw [← hg] at Xn sz354 ⊢
        clear hg lXq
        exact hst18 gXq gXn D1 d1 D2 d2 V354 ⟨WW, Xq, Xn, O1, O2, (by first | exact nXqXn | omega), hHeld⟩
    case h1.h1.h1.h1.h1.h1.h1.h1.h1.h1.h1.h1.h1.h1.h1.h1.h2 =>
      rintro gXn D1 d1 D2 d2 Y3_54 ⟨WW, Xn, O1, O2, hHeld⟩
      refine AnyL_ready (rs := [9, 10, 11]) (by kernel_rfl) (by simp) ?_
      refine ReadyL.cons (o := oq11_4_9) rfl (fun K hK => ?_) ?_
      · delta oq11_4_9
        go_simp
        have hbs : w.heap.size ≤ Y3_54.heap.size := WW.size
        have hc := of3_z M m Y3_54 BM.out eM.out
        refine hc.mono ?_
        clear hc
        rintro e V358 ⟨v, rfl, hv, hb⟩
        replace Xn := Xn.below hb
        replace O1 := O1.below hb (Nat.le_refl _)
        replace O2 := O2.below hb (Nat.le_refl _)
        replace WW := WW.trans (hb.mono WW.size)
        have sz358 := hb.size
        obtain ⟨D3, d3, rfl, ho⟩ := hv
        have O3 := ho.weak (b := w.heap.size) hbs
        clear ho
        clear hb hbs
        refine hK.out _ _ (trivial) (fun hHeld2 => ?_)
        clear hK K hHeld
        have hHeld := hHeld2
        clear hHeld2
        (try simp only [oq11_4_9, Act.put, List.setIfInBounds_toArray, List.set_cons_zero, List.set_cons_succ])
        exact hst15 gXn D1 d1 D2 d2 D3 d3 V358 ⟨WW, Xn, O1, O2, O3, hHeld⟩
      refine ReadyL.cons (o := oq11_4_10) rfl (fun K hK => ?_) ?_
      · delta oq11_4_10
        have lXn : gXn < Y3_54.heap.size := Xn.lt
        go_simp
        have ba := (Below.refl Y3_54.heap.size Y3_54).alloc (Nat.le_refl _) (.cells #[.slice none 0 0] 24)
        replace Xn := Xn.below ba
        replace O1 := O1.below ba (Nat.le_refl _)
        replace O2 := O2.below ba (Nat.le_refl _)
        have bn := Blk.new Y3_54 24 #[.slice none 0 0]
        have Xp := VB.mk (B := w.heap.size) (a := 0) bn (.inr (Own.nil _ _ _ _ (Nat.zero_le _))) ba WW.size WW.size
        replace WW := WW.trans (ba.mono WW.size)
        have sz358 : Y3_54.heap.size < (Y3_54.alloc (.cells #[.slice none 0 0] 24)).heap.size := bn.lt
        refine hK.out _ _ (trivial) (fun hHeld2 => ?_)
        clear hK K hHeld
        (try simp only [oq11_4_10, Act.put, List.setIfInBounds_toArray, List.set_cons_zero, List.set_cons_succ])
        generalize hV : Y3_54.alloc (.cells #[.slice none 0 0] 24) = V358 at hHeld2 sz358 WW Xn Xp O1 O2 ⊢
        clear hV ba bn
        have hHeld := hHeld2
        clear hHeld2
        obtain ⟨gXp, hg⟩ : ∃ x, x = Y3_54.heap.size := ⟨_, rfl⟩
        have nXnXp : gXn ≠ gXp := by omega
        rw [← hg] at Xp sz358 ⊢
        clear hg lXn
        exact hst17 gXp gXn D1 d1 D2 d2 V358 ⟨WW, Xp, Xn, O1, O2, (by first | exact nXpXn | omega), hHeld⟩
      refine ReadyL.cons (o := oq11_4_11) rfl (fun K hK => ?_) ReadyL.nil
      · delta oq11_4_11
        have lXn : gXn < Y3_54.heap.size := Xn.lt
        go_simp
        have ba := (Below.refl Y3_54.heap.size Y3_54).alloc (Nat.le_refl _) (.cells #[.slice none 0 0] 24)
        replace Xn := Xn.below ba
        replace O1 := O1.below ba (Nat.le_refl _)
        replace O2 := O2.below ba (Nat.le_refl _)
        have bn := Blk.new Y3_54 24 #[.slice none 0 0]
        have Xq := VB.mk (B := w.heap.size) (a := 0) bn (.inr (Own.nil _ _ _ _ (Nat.zero_le _))) ba WW.size WW.size
        replace WW := WW.trans (ba.mono WW.size)
        have sz358 : Y3_54.heap.size < (Y3_54.alloc (.cells #[.slice none 0 0] 24)).heap.size := bn.lt
        refine hK.out _ _ (trivial) (fun hHeld2 => ?_)
        clear hK K hHeld
        (try simp only [oq11_4_11, Act.put, List.setIfInBounds_toArray, List.set_cons_zero, List.set_cons_succ])
        generalize hV : Y3_54.alloc (.cells #[.slice none 0 0] 24) = V358 at hHeld2 sz358 WW Xn Xq O1 O2 ⊢
        clear hV ba bn
        have hHeld := hHeld2
        clear hHeld2
        obtain ⟨gXq, hg⟩ : ∃ x, x = Y3_54.heap.size := ⟨_, rfl⟩
        have nXnXq : gXn ≠ gXq := by omega
        rw [← hg] at Xq sz358 ⊢
        clear hg lXn
        exact hst18 gXq gXn D1 d1 D2 d2 V358 ⟨WW, Xq, Xn, O1, O2, (by first | exact nXqXn | omega), hHeld⟩
    case h1.h1.h1.h1.h1.h1.h1.h1.h1.h1.h1.h1.h1.h1.h1.h2 =>
      rintro gXp gXq D1 d1 Y3_58 ⟨WW, Xp, Xq, O1, nXpXq, hHeld⟩
      refine AnyL_ready (rs := [7, 12]) (by kernel_rfl) (by simp) ?_
      refine ReadyL.cons (o := oq11_4_7) rfl (fun K hK => ?_) ?_
      · delta oq11_4_7
        go_simp
        have hbs : w.heap.size ≤ Y3_58.heap.size := WW.size
        have hc := of3_z Y y Y3_58 BY.out eY.out
        refine hc.mono ?_
        clear hc
        rintro e V362 ⟨v, rfl, hv, hb⟩
        replace Xp := Xp.below hb
        replace Xq := Xq.below hb
        replace O1 := O1.below hb (Nat.le_refl _)
        replace WW := WW.trans (hb.mono WW.size)
        have sz362 := hb.size
        obtain ⟨D2, d2, rfl, ho⟩ := hv
        have O2 := ho.weak (b := w.heap.size) hbs
        clear ho
        clear hb hbs
        refine hK.out _ _ (trivial) (fun hHeld2 => ?_)
        clear hK K hHeld
        have hHeld := hHeld2
        clear hHeld2
        (try simp only [oq11_4_7, Act.put, List.setIfInBounds_toArray, List.set_cons_zero, List.set_cons_succ])
        exact hst16 gXp gXq D1 d1 D2 d2 V362 ⟨WW, Xp, Xq, O1, O2, (by first | exact nXpXq | omega), hHeld⟩
      refine ReadyL.cons (o := oq11_4_12) rfl (fun K hK => ?_) ReadyL.nil
      · delta oq11_4_12
        have lXp : gXp < Y3_58.heap.size := Xp.lt
        have lXq : gXq < Y3_58.heap.size := Xq.lt
        go_simp
        have ba := (Below.refl Y3_58.heap.size Y3_58).alloc (Nat.le_refl _) (.cells #[.slice none 0 0] 24)
        replace Xp := Xp.below ba
        replace Xq := Xq.below ba
        replace O1 := O1.below ba (Nat.le_refl _)
        have bn := Blk.new Y3_58 24 #[.slice none 0 0]
        have Xn := VB.mk (B := w.heap.size) (a := 0) bn (.inr (Own.nil _ _ _ _ (Nat.zero_le _))) ba WW.size WW.size
        replace WW := WW.trans (ba.mono WW.size)
        have sz362 : Y3_58.heap.size < (Y3_58.alloc (.cells #[.slice none 0 0] 24)).heap.size := bn.lt
        refine hK.out _ _ (trivial) (fun hHeld2 => ?_)
        clear hK K hHeld
        (try simp only [oq11_4_12, Act.put, List.setIfInBounds_toArray, List.set_cons_zero, List.set_cons_succ])
        generalize hV : Y3_58.alloc (.cells #[.slice none 0 0] 24) = V362 at hHeld2 sz362 WW Xp Xq Xn O1 ⊢
        clear hV ba bn
        have hHeld := hHeld2
        clear hHeld2
        obtain ⟨gXn, hg⟩ : ∃ x, x = Y3_58.heap.size := ⟨_, rfl⟩
        have nXpXn : gXp ≠ gXn := by omega
        have nXqXn : gXq ≠ gXn := by omega
        rw [← hg] at Xn sz362 ⊢
        clear hg lXp lXq
        exact hst19 gXp gXq gXn D1 d1 V362 ⟨WW, Xp, Xq, Xn, O1, (by first | exact nXpXq | omega), (by first | exact nXpXn | omega), (by first | exact nXqXn | omega), hHeld⟩
    case h1.h1.h1.h1.h1.h1.h1.h1.h1.h1.h1.h1.h1.h1.h2 =>
      rintro gXp gXn D1 d1 Y3_61 ⟨WW, Xp, Xn, O1, nXpXn, hHeld⟩
      refine AnyL_ready (rs := [7, 11]) (by kernel_rfl) (by simp) ?_
      refine ReadyL.cons (o := oq11_4_7) rfl (fun K hK => ?_) ?_
      · delta oq11_4_7
        go_simp
        have hbs : w.heap.size ≤ Y3_61.heap.size := WW.size
        have hc := of3_z Y y Y3_61 BY.out eY.out
        refine hc.mono ?_
        clear hc
        rintro e V365 ⟨v, rfl, hv, hb⟩
        replace Xp := Xp.below hb
        replace Xn := Xn.below hb
        replace O1 := O1.below hb (Nat.le_refl _)
        replace WW := WW.trans (hb.mono WW.size)
        have sz365 := hb.size
        obtain ⟨D2, d2, rfl, ho⟩ := hv
        have O2 := ho.weak (b := w.heap.size) hbs
        clear ho
        clear hb hbs
        refine hK.out _ _ (trivial) (fun hHeld2 => ?_)
        clear hK K hHeld
        have hHeld := hHeld2
        clear hHeld2
        (try simp only [oq11_4_7, Act.put, List.setIfInBounds_toArray, List.set_cons_zero, List.set_cons_succ])
        exact hst17 gXp gXn D1 d1 D2 d2 V365 ⟨WW, Xp, Xn, O1, O2, (by first | exact nXpXn | omega), hHeld⟩
      refine ReadyL.cons (o := oq11_4_11) rfl (fun K hK => ?_) ReadyL.nil
      · delta oq11_4_11
        have lXp : gXp < Y3_61.heap.size := Xp.lt
        have lXn : gXn < Y3_61.heap.size := Xn.lt
        go_simp
        have ba := (Below.refl Y3_61.heap.size Y3_61).alloc (Nat.le_refl _) (.cells #[.slice none 0 0] 24)
        replace Xp := Xp.below ba
        replace Xn := Xn.below ba
        replace O1 := O1.below ba (Nat.le_refl _)
        have bn := Blk.new Y3_61 24 #[.slice none 0 0]
        have Xq := VB.mk (B := w.heap.size) (a := 0) bn (.inr (Own.nil _ _ _ _ (Nat.zero_le _))) ba WW.size WW.size
        replace WW := WW.trans (ba.mono WW.size)
        have sz365 : Y3_61.heap.size < (Y3_61.alloc (.cells #[.slice none 0 0] 24)).heap.size := bn.lt
        refine hK.out _ _ (trivial) (fun hHeld2 => ?_)
        clear hK K hHeld
        (try simp only [oq11_4_11, Act.put, List.setIfInBounds_toArray, List.set_cons_zero, List.set_cons_succ])
        generalize hV : Y3_61.alloc (.cells #[.slice none 0 0] 24) = V365 at hHeld2 sz365 WW Xp Xn Xq O1 ⊢
        clear hV ba bn
        have hHeld := hHeld2
        clear hHeld2
        obtain ⟨gXq, hg⟩ : ∃ x, x = Y3_61.heap.size := ⟨_, rfl⟩
        have nXpXq : gXp ≠ gXq := by omega
        have nXnXq : gXn ≠ gXq := by omega
        rw [← hg] at Xq sz365 ⊢
        clear hg lXp lXn
        exact hst19 gXp gXq gXn D1 d1 V365 ⟨WW, Xp, Xq, Xn, O1, (by first | exact nXpXq | omega), (by first | exact nXpXn | omega), (by first | exact nXqXn | omega), hHeld⟩
    case h1.h1.h1.h1.h1.h1.h1.h1.h1.h1.h1.h1.h1.h2 =>
      rintro gXq gXn D1 d1 Y3_64 ⟨WW, Xq, Xn, O1, nXqXn, hHeld⟩
      refine AnyL_ready (rs := [7, 10]) (by kernel_rfl) (by simp) ?_
      refine ReadyL.cons (o := oq11_4_7) rfl (fun K hK => ?_) ?_
      · delta oq11_4_7
        go_simp
        have hbs : w.heap.size ≤ Y3_64.heap.size := WW.size
        have hc := of3_z Y y Y3_64 BY.out eY.out
        refine hc.mono ?_
        clear hc
        rintro e V368 ⟨v, rfl, hv, hb⟩
        replace Xq := Xq.below hb
        replace Xn := Xn.below hb
        replace O1 := O1.below hb (Nat.le_refl _)
        replace WW := WW.trans (hb.mono WW.size)
        have sz368 := hb.size
        obtain ⟨D2, d2, rfl, ho⟩ := hv
        have O2 := ho.weak (b := w.heap.size) hbs
        clear ho
        clear hb hbs
        refine hK.out _ _ (trivial) (fun hHeld2 => ?_)
        clear hK K hHeld
        have hHeld := hHeld2
        clear hHeld2
        (try simp only [oq11_4_7, Act.put, List.setIfInBounds_toArray, List.set_cons_zero, List.set_cons_succ])
        exact hst18 gXq gXn D1 d1 D2 d2 V368 ⟨WW, Xq, Xn, O1, O2, (by first | exact nXqXn | omega), hHeld⟩
      refine ReadyL.cons (o := oq11_4_10) rfl (fun K hK => ?_) ReadyL.nil
      · delta oq11_4_10
        have lXq : gXq < Y3_64.heap.size := Xq.lt
        have lXn : gXn < Y3_64.heap.size := Xn.lt
        go_simp
        have ba := (Below.refl Y3_64.heap.size Y3_64).alloc (Nat.le_refl _) (.cells #[.slice none 0 0] 24)
        replace Xq := Xq.below ba
        replace Xn := Xn.below ba
        replace O1 := O1.below ba (Nat.le_refl _)
        have bn := Blk.new Y3_64 24 #[.slice none 0 0]
        have Xp := VB.mk (B := w.heap.size) (a := 0) bn (.inr (Own.nil _ _ _ _ (Nat.zero_le _))) ba WW.size WW.size
        replace WW := WW.trans (ba.mono WW.size)
        have sz368 : Y3_64.heap.size < (Y3_64.alloc (.cells #[.slice none 0 0] 24)).heap.size := bn.lt
        refine hK.out _ _ (trivial) (fun hHeld2 => ?_)
        clear hK K hHeld
        (try simp only [oq11_4_10, Act.put, List.setIfInBounds_toArray, List.set_cons_zero, List.set_cons_succ])
        generalize hV : Y3_64.alloc (.cells #[.slice none 0 0] 24) = V368 at hHeld2 sz368 WW Xq Xn Xp O1 ⊢
        clear hV ba bn
        have hHeld := hHeld2
        clear hHeld2
        obtain ⟨gXp, hg⟩ : ∃ x, x = Y3_64.heap.size := ⟨_, rfl⟩
        have nXqXp : gXq ≠ gXp := by omega
        have nXnXp : gXn ≠ gXp := by omega
        rw [← hg] at Xp sz368 ⊢
        clear hg lXq lXn
        exact hst19 gXp gXq gXn D1 d1 V368 ⟨WW, Xp, Xq, Xn, O1, (by first | exact nXpXq | omega), (by first | exact nXpXn | omega), (by first | exact nXqXn | omega), hHeld⟩
    case h1.h1.h1.h1.h1.h1.h1.h1.h1.h1.h1.h1.h2 =>
      rintro gXp gXq gXn Y3_67 ⟨WW, Xp, Xq, Xn, nXpXq, nXpXn, nXqXn, hHeld⟩
      refine AnyL_ready (rs := [3]) (by kernel_rfl) (by simp) ?_
      refine ReadyL.cons (o := oq11_4_3) rfl (fun K hK => ?_) ReadyL.nil
      delta oq11_4_3
      go_simp
      have hbs : w.heap.size ≤ Y3_67.heap.size := WW.size
      have hc := of3_z X x Y3_67 BX.out eX.out
      refine hc.mono ?_
      clear hc
      rintro e V371 ⟨v, rfl, hv, hb⟩
      replace Xp := Xp.below hb
      replace Xq := Xq.below hb
      replace Xn := Xn.below hb
      replace WW := WW.trans (hb.mono WW.size)
      have sz371 := hb.size
      obtain ⟨D1, d1, rfl, ho⟩ := hv
      have O1 := ho.weak (b := w.heap.size) hbs
      clear ho
      clear hb hbs
      refine hK.out _ _ (trivial) (fun hHeld2 => ?_)
      clear hK K hHeld
      have hHeld := hHeld2
      clear hHeld2
      (try simp only [oq11_4_3, Act.put, List.setIfInBounds_toArray, List.set_cons_zero, List.set_cons_succ])
      exact hst19 gXp gXq gXn D1 d1 V371 ⟨WW, Xp, Xq, Xn, O1, (by first | exact nXpXq | omega), (by first | exact nXpXn | omega), (by first | exact nXqXn | omega), hHeld⟩
    case h1.h1.h1.h1.h1.h1.h1.h1.h1.h1.h1.h2 =>
      rintro gXp D1 d1 D2 d2 D3 d3 Y3_69 ⟨WW, Xp, O1, O2, O3, hHeld⟩
      refine AnyL_ready (rs := [11, 12]) (by kernel_rfl) (by simp) ?_
      refine ReadyL.cons (o := oq11_4_11) rfl (fun K hK => ?_) ?_
      · delta oq11_4_11
        have lXp : gXp < Y3_69.heap.size := Xp.lt
        go_simp
        have ba := (Below.refl Y3_69.heap.size Y3_69).alloc (Nat.le_refl _) (.cells #[.slice none 0 0] 24)
        replace Xp := Xp.below ba
        replace O1 := O1.below ba (Nat.le_refl _)
        replace O2 := O2.below ba (Nat.le_refl _)
        replace O3 := O3.below ba (Nat.le_refl _)
        have bn := Blk.new Y3_69 24 #[.slice none 0 0]
        have Xq := VB.mk (B := w.heap.size) (a := 0) bn (.inr (Own.nil _ _ _ _ (Nat.zero_le _))) ba WW.size WW.size
        replace WW := WW.trans (ba.mono WW.size)
        have sz373 : Y3_69.heap.size < (Y3_69.alloc (.cells #[.slice none 0 0] 24)).heap.size := bn.lt
        refine hK.out _ _ (trivial) (fun hHeld2 => ?_)
        clear hK K hHeld
        (try simp only [oq11_4_11, Act.put, List.setIfInBounds_toArray, List.set_cons_zero, List.set_cons_succ])
        generalize hV : Y3_69.alloc (.cells #[.slice none 0 0] 24) = V373 at hHeld2 sz373 WW Xp Xq O1 O2 O3 ⊢
        clear hV ba bn
        have hHeld := hHeld2
        clear hHeld2
        obtain ⟨gXq, hg⟩ : ∃ x, x = Y3_69.heap.size := ⟨_, rfl⟩
        have nXpXq : gXp ≠ gXq := by omega
        rw [← hg] at Xq sz373 ⊢
        clear hg lXp
        exact hst20 gXp gXq D1 d1 D2 d2 D3 d3 V373 ⟨WW, Xp, Xq, O1, O2, O3, (by first | exact nXpXq | omega), hHeld⟩
      refine ReadyL.cons (o := oq11_4_12) rfl (fun K hK => ?_) ReadyL.nil
      · delta oq11_4_12
        have lXp : gXp < Y3_69.heap.size := Xp.lt
        go_simp
        have ba := (Below.refl Y3_69.heap.size Y3_69).alloc (Nat.le_refl _) (.cells #[.slice none 0 0] 24)
        replace Xp := Xp.below ba
        replace O1 := O1.below ba (Nat.le_refl _)
        replace O2 := O2.below ba (Nat.le_refl _)
        replace O3 := O3.below ba (Nat.le_refl _)
        have bn := Blk.new Y3_69 24 #[.slice none 0 0]
        have Xn := VB.mk (B := w.heap.size) (a := 0) bn (.inr (Own.nil _ _ _ _ (Nat.zero_le _))) ba WW.size WW.size
        replace WW := WW.trans (ba.mono WW.size)
        have sz373 : Y3_69.heap.size < (Y3_69.alloc (.cells #[.slice none 0 0] 24)).heap.size := bn.lt
        refine hK.out _ _ (trivial) (fun hHeld2 => ?_)
        clear hK K hHeld
        (try simp only [oq11_4_12, Act.put, List.setIfInBounds_toArray, List.set_cons_zero, List.set_cons_succ])
        generalize hV : Y3_69.alloc (.cells #[.slice none 0 0] 24) = V373 at hHeld2 sz373 WW Xp Xn O1 O2 O3 ⊢
        clear hV ba bn
        have hHeld := hHeld2
        clear hHeld2
        obtain ⟨gXn, hg⟩ : ∃ x, x = Y3_69.heap.size := ⟨_, rfl⟩
        have nXpXn : gXp ≠ gXn := by omega
        rw [← hg] at Xn sz373 ⊢
        clear hg lXp
        exact hst21 gXp gXn D1 d1 D2 d2 D3 d3 V373 ⟨WW, Xp, Xn, O1, O2, O3, (by first | exact nXpXn | omega), hHeld⟩
    case h1.h1.h1.h1.h1.h1.h1.h1.h1.h1.h2 =>
      rintro gXq D1 d1 D2 d2 D3 d3 Y3_72 ⟨WW, Xq, O1, O2, O3, hHeld⟩
      refine AnyL_ready (rs := [10, 12]) (by kernel_rfl) (by simp) ?_
      refine ReadyL.cons (o := oq11_4_10) rfl (fun K hK => ?_) ?_
      · delta oq11_4_10
        have lXq : gXq < Y3_72.heap.size := Xq.lt
        go_simp
        have ba := (Below.refl Y3_72.heap.size Y3_72).alloc (Nat.le_refl _) (.cells #[.slice none 0 0] 24)
        replace Xq := Xq.below ba
        replace O1 := O1.below ba (Nat.le_refl _)
        replace O2 := O2.below ba (Nat.le_refl _)
        replace O3 := O3.below ba (Nat.le_refl _)
        have bn := Blk.new Y3_72 24 #[.slice none 0 0]
        have Xp := VB.mk (B := w.heap.size) (a := 0) bn (.inr (Own.nil _ _ _ _ (Nat.zero_le _))) ba WW.size WW.size
        replace WW := WW.trans (ba.mono WW.size)
        have sz376 : Y3_72.heap.size < (Y3_72.alloc (.cells #[.slice none 0 0] 24)).heap.size := bn.lt
        refine hK.out _ _ (trivial) (fun hHeld2 => ?_)
        clear hK K hHeld
        (try simp only [oq11_4_10, Act.put, List.setIfInBounds_toArray, List.set_cons_zero, List.set_cons_succ])
        generalize hV : Y3_72.alloc (.cells #[.slice none 0 0] 24) = V376 at hHeld2 sz376 WW Xq Xp O1 O2 O3 ⊢
        clear hV ba bn
        have hHeld := hHeld2
        clear hHeld2
        obtain ⟨gXp, hg⟩ : ∃ x, x = Y3_72.heap.size := ⟨_, rfl⟩
        have nXqXp : gXq ≠ gXp := by omega
        rw [← hg] at Xp sz376 ⊢
        clear hg lXq
        exact hst20 gXp gXq D1 d1 D2 d2 D3 d3 V376 ⟨WW, Xp, Xq, O1, O2, O3, (by first | exact nXpXq | omega), hHeld⟩
      refine ReadyL.cons (o := oq11_4_12) rfl (fun K hK => ?_) ReadyL.nil
      · delta oq11_4_12
        have lXq : gXq < Y3_72.heap.size := Xq.lt
        go_simp
        have ba := (Below.refl Y3_72.heap.size Y3_72).alloc (Nat.le_refl _) (.cells #[.slice none 0 0] 24)
        replace Xq := Xq.below ba
        replace O1 := O1.below ba (Nat.le_refl _)
        replace O2 := O2.below ba (Nat.le_refl _)
        replace O3 := O3.below ba (Nat.le_refl _)
        have bn := Blk.new Y3_72 24 #[.slice none 0 0]
        have Xn := VB.mk (B := w.heap.size) (a := 0) bn (.inr (Own.nil _ _ _ _ (Nat.zero_le _))) ba WW.size WW.size
        replace WW := WW.trans (ba.mono WW.size)
        have sz376 : Y3_72.heap.size < (Y3_72.alloc (.cells #[.slice none 0 0] 24)).heap.size := bn.lt
        refine hK.out _ _ (trivial) (fun hHeld2 => ?_)
        clear hK K hHeld
        (try simp only [oq11_4_12, Act.put, List.setIfInBounds_toArray, List.set_cons_zero, List.set_cons_succ])
        generalize hV : Y3_72.alloc (.cells #[.slice none 0 0] 24) = V376 at hHeld2 sz376 WW Xq Xn O1 O2 O3 ⊢
        clear hV ba bn
        have hHeld := hHeld2
        clear hHeld2
        obtain ⟨gXn, hg⟩ : ∃ x, x = Y3_72.heap.size := ⟨_, rfl⟩
        have nXqXn : gXq ≠ gXn := by omega
        rw [← hg] at Xn sz376 ⊢
        clear hg lXq
        exact hst22 gXq gXn D1 d1 D2 d2 D3 d3 V376 ⟨WW, Xq, Xn, O1, O2, O3, (by first | exact nXqXn | omega), hHeld⟩
    case h1.h1.h1.h1.h1.h1.h1.h1.h1.h2 =>
      rintro gXn D1 d1 D2 d2 D3 d3 Y3_75 ⟨WW, Xn, O1, O2, O3, hHeld⟩
      refine AnyL_ready (rs := [10, 11]) (by kernel_rfl) (by simp) ?_
      refine ReadyL.cons (o := oq11_4_10) rfl (fun K hK => ?_) ?_
      · delta oq11_4_10
        have lXn : gXn < Y3_75.heap.size := Xn.lt
        go_simp
        have ba := (Below.refl Y3_75.heap.size Y3_75).alloc (Nat.le_refl _) (.cells #[.slice none 0 0] 24)
        replace Xn := Xn.below ba
        replace O1 := O1.below ba (Nat.le_refl _)
        replace O2 := O2.below ba (Nat.le_refl _)
        replace O3 := O3.below ba (Nat.le_refl _)
        have bn := Blk.new Y3_75 24 #[.slice none 0 0]
        have Xp := VB.mk (B := w.heap.size) (a := 0) bn (.inr (Own.nil _ _ _ _ (Nat.zero_le _))) ba WW.size WW.size
        replace WW := WW.trans (ba.mono WW.size)
        have sz379 : Y3_75.heap.size < (Y3_75.alloc (.cells #[.slice none 0 0] 24)).heap.size := bn.lt
        refine hK.out _ _ (trivial) (fun hHeld2 => ?_)
        clear hK K hHeld
        (try simp only [oq11_4_10, Act.put, List.setIfInBounds_toArray, List.set_cons_zero, List.set_cons_succ])
        generalize hV : Y3_75.alloc (.cells #[.slice none 0 0] 24) = V379 at hHeld2 sz379 WW Xn Xp O1 O2 O3 ⊢
        clear hV ba bn
        have hHeld := hHeld2
        clear hHeld2
        obtain ⟨gXp, hg⟩ : ∃ x, x = Y3_75.heap.size := ⟨_, rfl⟩
        have nXnXp : gXn ≠ gXp := by omega
        rw [← hg] at Xp sz379 ⊢
        clear hg lXn
        exact hst21 gXp gXn D1 d1 D2 d2 D3 d3 V379 ⟨WW, Xp, Xn, O1, O2, O3, (by first | exact nXpXn | omega), hHeld⟩
      refine ReadyL.cons (o := oq11_4_11) rfl (fun K hK => ?_) ReadyL.nil
      · delta oq11_4_11
        have lXn : gXn < Y3_75.heap.size := Xn.lt
        go_simp
        have ba := (Below.refl Y3_75.heap.size Y3_75).alloc (Nat.le_refl _) (.cells #[.slice none 0 0] 24)
        replace Xn := Xn.below ba
        replace O1 := O1.below ba (Nat.le_refl _)
        replace O2 := O2.below ba (Nat.le_refl _)
        replace O3 := O3.below ba (Nat.le_refl _)
        have bn := Blk.new Y3_75 24 #[.slice none 0 0]
        have Xq := VB.mk (B := w.heap.size) (a := 0) bn (.inr (Own.nil _ _ _ _ (Nat.zero_le _))) ba WW.size WW.size
        replace WW := WW.trans (ba.mono WW.size)
        have sz379 : Y3_75.heap.size < (Y3_75.alloc (.cells #[.slice none 0 0] 24)).heap.size := bn.lt
        refine hK.out _ _ (trivial) (fun hHeld2 => ?_)
        clear hK K hHeld
        (try simp only [oq11_4_11, Act.put, List.setIfInBounds_toArray, List.set_cons_zero, List.set_cons_succ])
        generalize hV : Y3_75.alloc (.cells #[.slice none 0 0] 24) = V379 at hHeld2 sz379 WW Xn Xq O1 O2 O3 ⊢
        clear hV ba bn
        have hHeld := hHeld2
        clear hHeld2
        obtain ⟨gXq, hg⟩ : ∃ x, x = Y3_75.heap.size := ⟨_, rfl⟩
        have nXnXq : gXn ≠ gXq := by omega
        rw [← hg] at Xq sz379 ⊢
        clear hg lXn
        exact hst22 gXq gXn D1 d1 D2 d2 D3 d3 V379 ⟨WW, Xq, Xn, O1, O2, O3, (by first | exact nXqXn | omega), hHeld⟩
    case h1.h1.h1.h1.h1.h1.h1.h1.h2 =>
      rintro gXp gXq D1 d1 D2 d2 Y3_78 ⟨WW, Xp, Xq, O1, O2, nXpXq, hHeld⟩
      refine AnyL_ready (rs := [9, 12]) (by kernel_rfl) (by simp) ?_
      refine ReadyL.cons (o := oq11_4_9) rfl (fun K hK => ?_) ?_
      · delta oq11_4_9
        go_simp
        have hbs : w.heap.size ≤ Y3_78.heap.size := WW.size
        have hc := of3_z M m Y3_78 BM.out eM.out
        refine hc.mono ?_
        clear hc
        rintro e V382 ⟨v, rfl, hv, hb⟩
        replace Xp := Xp.below hb
        replace Xq := Xq.below hb
        replace O1 := O1.below hb (Nat.le_refl _)
        replace O2 := O2.below hb (Nat.le_refl _)
        replace WW := WW.trans (hb.mono WW.size)
        have sz382 := hb.size
        obtain ⟨D3, d3, rfl, ho⟩ := hv
        have O3 := ho.weak (b := w.heap.size) hbs
        clear ho
        clear hb hbs
        refine hK.out _ _ (trivial) (fun hHeld2 => ?_)
        clear hK K hHeld
        have hHeld := hHeld2
        clear hHeld2
        (try simp only [oq11_4_9, Act.put, List.setIfInBounds_toArray, List.set_cons_zero, List.set_cons_succ])
        exact hst20 gXp gXq D1 d1 D2 d2 D3 d3 V382 ⟨WW, Xp, Xq, O1, O2, O3, (by first | exact nXpXq | omega), hHeld⟩
      refine ReadyL.cons (o := oq11_4_12) rfl (fun K hK => ?_) ReadyL.nil
      · delta oq11_4_12
        have lXp : gXp < Y3_78.heap.size := Xp.lt
        have lXq : gXq < Y3_78.heap.size := Xq.lt
        go_simp
        have ba := (Below.refl Y3_78.heap.size Y3_78).alloc (Nat.le_refl _) (.cells #[.slice none 0 0] 24)
        replace Xp := Xp.below ba
        replace Xq := Xq.below ba
        replace O1 := O1.below ba (Nat.le_refl _)
        replace O2 := O2.below ba (Nat.le_refl _)
        have bn := Blk.new Y3_78 24 #[.slice none 0 0]
        have Xn := VB.mk (B := w.heap.size) (a := 0) bn (.inr (Own.nil _ _ _ _ (Nat.zero_le _))) ba WW.size WW.size
        replace WW := WW.trans (ba.mono WW.size)
        have sz382 : Y3_78.heap.size < (Y3_78.alloc (.cells #[.slice none 0 0] 24)).heap.size := bn.lt
        refine hK.out _ _ (trivial) (fun hHeld2 => ?_)
        clear hK K hHeld
        (try simp only [oq11_4_12, Act.put, List.setIfInBounds_toArray, List.set_cons_zero, List.set_cons_succ])
        generalize hV : Y3_78.alloc (.cells #[.slice none 0 0] 24) = V382 at hHeld2 sz382 WW Xp Xq Xn O1 O2 ⊢
        clear hV ba bn
        have hHeld := hHeld2
        clear hHeld2
        obtain ⟨gXn, hg⟩ : ∃ x, x = Y3_78.heap.size := ⟨_, rfl⟩
        have nXpXn : gXp ≠ gXn := by omega
        have nXqXn : gXq ≠ gXn := by omega
        rw [← hg] at Xn sz382 ⊢
        clear hg lXp lXq
        exact hst23 gXp gXq gXn D1 d1 D2 d2 V382 ⟨WW, Xp, Xq, Xn, O1, O2, (by first | exact nXpXq | omega), (by first | exact nXpXn | omega), (by first | exact nXqXn | omega), hHeld⟩
    case h1.h1.h1.h1.h1.h1.h1.h2 =>
      rintro gXp gXn D1 d1 D2 d2 Y3_81 ⟨WW, Xp, Xn, O1, O2, nXpXn, hHeld⟩
      refine AnyL_ready (rs := [9, 11]) (by kernel_rfl) (by simp) ?_
      refine ReadyL.cons (o := oq11_4_9) rfl (fun K hK => ?_) ?_
      · delta oq11_4_9
        go_simp
        have hbs : w.heap.size ≤ Y3_81.heap.size := WW.size
        have hc := of3_z M m Y3_81 BM.out eM.out
        refine hc.mono ?_
        clear hc
        rintro e V385 ⟨v, rfl, hv, hb⟩
        replace Xp := Xp.below hb
        replace Xn := Xn.below hb
        replace O1 := O1.below hb (Nat.le_refl _)
        replace O2 := O2.below hb (Nat.le_refl _)
        replace WW := WW.trans (hb.mono WW.size)
        have sz385 := hb.size
        obtain ⟨D3, d3, rfl, ho⟩ := hv
        have O3 := ho.weak (b := w.heap.size) hbs
        clear ho
        clear hb hbs
        refine hK.out _ _ (trivial) (fun hHeld2 => ?_)
        clear hK K hHeld
        have hHeld := hHeld2
        clear hHeld2
        (try simp only [oq11_4_9, Act.put, List.setIfInBounds_toArray, List.set_cons_zero, List.set_cons_succ])
        exact hst21 gXp gXn D1 d1 D2 d2 D3 d3 V385 ⟨WW, Xp, Xn, O1, O2, O3, (by first | exact nXpXn | omega), hHeld⟩
      refine ReadyL.cons (o := oq11_4_11) rfl (fun K hK => ?_) ReadyL.nil
      · delta oq11_4_11
        have lXp : gXp < Y3_81.heap.size := Xp.lt
        have lXn : gXn < Y3_81.heap.size := Xn.lt
        go_simp
        have ba := (Below.refl Y3_81.heap.size Y3_81).alloc (Nat.le_refl _) (.cells #[.slice none 0 0] 24)
        replace Xp := Xp.below ba
        replace Xn := Xn.below ba
        replace O1 := O1.below ba (Nat.le_refl _)
        replace O2 := O2.below ba (Nat.le_refl _)
        have bn := Blk.new Y3_81 24 #[.slice none 0 0]
        have Xq := VB.mk (B := w.heap.size) (a := 0) bn (.inr (Own.nil _ _ _ _ (Nat.zero_le _))) ba WW.size WW.size
        replace WW := WW.trans (ba.mono WW.size)
        have sz385 : Y3_81.heap.size < (Y3_81.alloc (.cells #[.slice none 0 0] 24)).heap.size := bn.lt
        refine hK.out _ _ (trivial) (fun hHeld2 => ?_)
        clear hK K hHeld
        (try simp only [oq11_4_11, Act.put, List.setIfInBounds_toArray, List.set_cons_zero, List.set_cons_succ])
        generalize hV : Y3_81.alloc (.cells #[.slice none 0 0] 24) = V385 at hHeld2 sz385 WW Xp Xn Xq O1 O2 ⊢
        clear hV ba bn
        have hHeld := hHeld2
        clear hHeld2
        obtain ⟨gXq, hg⟩ : ∃ x, x = Y3_81.heap.size := ⟨_, rfl⟩
        have nXpXq : gXp ≠ gXq := by omega
        have nXnXq : gXn ≠ gXq := by omega
        rw [← hg] at Xq sz385 ⊢
        clear hg lXp lXn
        exact hst23 gXp gXq gXn D1 d1 D2 d2 V385 ⟨WW, Xp, Xq, Xn, O1, O2, (by first | exact nXpXq | omega), (by first | exact nXpXn | omega), (by first | exact nXqXn | omega), hHeld⟩
    case h1.h1.h1.h1.h1.h1.h2 =>
      rintro gXq gXn D1 d1 D2 d2 Y3_84 ⟨WW, Xq, Xn, O1, O2, nXqXn, hHeld⟩
      refine AnyL_ready (rs := [9, 10]) (by kernel_rfl) (by simp) ?_
      refine ReadyL.cons (o := oq11_4_9) rfl (fun K hK => ?_) ?_
      · delta oq11_4_9
        go_simp
        have hbs : w.heap.size ≤ Y3_84.heap.size := WW.size
        have hc := of3_z M m Y3_84 BM.out eM.out
        refine hc.mono ?_
        clear hc
        rintro e V388 ⟨v, rfl, hv, hb⟩
        replace Xq := Xq.below hb
        replace Xn := Xn.below hb
        replace O1 := O1.below hb (Nat.le_refl _)
        replace O2 := O2.below hb (Nat.le_refl _)
        replace WW := WW.trans (hb.mono WW.size)
        have sz388 := hb.size
        obtain ⟨D3, d3, rfl, ho⟩ := hv
        have O3 := ho.weak (b := w.heap.size) hbs
        clear ho
        clear hb hbs
        refine hK.out _ _ (trivial) (fun hHeld2 => ?_)
        clear hK K hHeld
        have hHeld := hHeld2
        clear hHeld2
        (try simp only [oq11_4_9, Act.put, List.setIfInBounds_toArray, List.set_cons_zero, List.set_cons_succ])
        exact hst22 gXq gXn D1 d1 D2 d2 D3 d3 V388 ⟨WW, Xq, Xn, O1, O2, O3, (by first | exact nXqXn | omega), hHeld⟩
      refine ReadyL.cons (o := oq11_4_10) rfl (fun K hK => ?_) ReadyL.nil
      · delta oq11_4_10
        have lXq : gXq < Y3_84.heap.size := Xq.lt
        have lXn : gXn < Y3_84.heap.size := Xn.lt
        go_simp
        have ba := (Below.refl Y3_84.heap.size Y3_84).alloc (Nat.le_refl _) (.cells #[.slice none 0 0] 24)
        replace Xq := Xq.below ba
        replace Xn := Xn.below ba
        replace O1 := O1.below ba (Nat.le_refl _)
        replace O2 := O2.below ba (Nat.le_refl _)
        have bn := Blk.new Y3_84 24 #[.slice none 0 0]
        have Xp := VB.mk (B := w.heap.size) (a := 0) bn (.inr (Own.nil _ _ _ _ (Nat.zero_le _))) ba WW.size WW.size
        replace WW := WW.trans (ba.mono WW.size)
        have sz388 : Y3_84.heap.size < (Y3_84.alloc (.cells #[.slice none 0 0] 24)).heap.size := bn.lt
        refine hK.out _ _ (trivial) (fun hHeld2 => ?_)
        clear hK K hHeld
        (try simp only [oq11_4_10, Act.put, List.setIfInBounds_toArray, List.set_cons_zero, List.set_cons_succ])
        generalize hV : Y3_84.alloc (.cells #[.slice none 0 0] 24) = V388 at hHeld2 sz388 WW Xq Xn Xp O1 O2 ⊢
        clear hV ba bn
        have hHeld := hHeld2
        clear hHeld2
        obtain ⟨gXp, hg⟩ : ∃ x, x = Y3_84.heap.size := ⟨_, rfl⟩
        have nXqXp : gXq ≠ gXp := by omega
        have nXnXp : gXn ≠ gXp := by omega
        rw [← hg] at Xp sz388 ⊢
        clear hg lXq lXn
        exact hst23 gXp gXq gXn D1 d1 D2 d2 V388 ⟨WW, Xp, Xq, Xn, O1, O2, (by first | exact nXpXq | omega), (by first | exact nXpXn | omega), (by first | exact nXqXn | omega), hHeld⟩
    case h1.h1.h1.h1.h1.h2 =>
      rintro gXp gXq gXn D1 d1 Y3_87 ⟨WW, Xp, Xq, Xn, O1, nXpXq, nXpXn, nXqXn, hHeld⟩
      refine AnyL_ready (rs := [7]) (by kernel_rfl) (by simp) ?_
      refine ReadyL.cons (o := oq11_4_7) rfl (fun K hK => ?_) ReadyL.nil
      delta oq11_4_7
      go_simp
      have hbs : w.heap.size ≤ Y3_87.heap.size := WW.size
      have hc := of3_z Y y Y3_87 BY.out eY.out
      refine hc.mono ?_
      clear hc
      rintro e V391 ⟨v, rfl, hv, hb⟩
      replace Xp := Xp.below hb
      replace Xq := Xq.below hb
      replace Xn := Xn.below hb
      replace O1 := O1.below hb (Nat.le_refl _)
      replace WW := WW.trans (hb.mono WW.size)
      have sz391 := hb.size
      obtain ⟨D2, d2, rfl, ho⟩ := hv
      have O2 := ho.weak (b := w.heap.size) hbs
      clear ho
      clear hb hbs
      refine hK.out _ _ (trivial) (fun hHeld2 => ?_)
      clear hK K hHeld
      have hHeld := hHeld2
      clear hHeld2
      (try simp only [oq11_4_7, Act.put, List.setIfInBounds_toArray, List.set_cons_zero, List.set_cons_succ])
      exact hst23 gXp gXq gXn D1 d1 D2 d2 V391 ⟨WW, Xp, Xq, Xn, O1, O2, (by first | exact nXpXq | omega), (by first | exact nXpXn | omega), (by first | exact nXqXn | omega), hHeld⟩
    case h1.h1.h1.h1.h2 =>
      rintro gXp gXq D1 d1 D2 d2 D3 d3 Y3_89 ⟨WW, Xp, Xq, O1, O2, O3, nXpXq, hHeld⟩
      refine AnyL_ready (rs := [12]) (by kernel_rfl) (by simp) ?_
      refine ReadyL.cons (o := oq11_4_12) rfl (fun K hK => ?_) ReadyL.nil
      delta oq11_4_12
      have lXp : gXp < Y3_89.heap.size := Xp.lt
      have lXq : gXq < Y3_89.heap.size := Xq.lt
      go_simp
      have ba := (Below.refl Y3_89.heap.size Y3_89).alloc (Nat.le_refl _) (.cells #[.slice none 0 0] 24)
      replace Xp := Xp.below ba
      replace Xq := Xq.below ba
      replace O1 := O1.below ba (Nat.le_refl _)
      replace O2 := O2.below ba (Nat.le_refl _)
      replace O3 := O3.below ba (Nat.le_refl _)
      have bn := Blk.new Y3_89 24 #[.slice none 0 0]
      have Xn := VB.mk (B := w.heap.size) (a := 0) bn (.inr (Own.nil _ _ _ _ (Nat.zero_le _))) ba WW.size WW.size
      replace WW := WW.trans (ba.mono WW.size)
      have sz393 : Y3_89.heap.size < (Y3_89.alloc (.cells #[.slice none 0 0] 24)).heap.size := bn.lt
      refine hK.out _ _ (trivial) (fun hHeld2 => ?_)
      clear hK K hHeld
      (try simp only [oq11_4_12, Act.put, List.setIfInBounds_toArray, List.set_cons_zero, List.set_cons_succ])
      generalize hV : Y3_89.alloc (.cells #[.slice none 0 0] 24) = V393 at hHeld2 sz393 WW Xp Xq Xn O1 O2 O3 ⊢
      clear hV ba bn
      have hHeld := hHeld2
      clear hHeld2
      obtain ⟨gXn, hg⟩ : ∃ x, x = Y3_89.heap.size := ⟨_, rfl⟩
      have nXpXn : gXp ≠ gXn := by omega
      have nXqXn : gXq ≠ gXn := by omega
      rw [← hg] at Xn sz393 ⊢
      clear hg lXp lXq
      exact hst24 gXp gXq gXn D1 d1 D2 d2 D3 d3 V393 ⟨WW, Xp, Xq, Xn, O1, O2, O3, (by first | exact nXpXq | omega), (by first | exact nXpXn | omega), (by first | exact nXqXn | omega), hHeld⟩
    case h1.h1.h1.h2 =>
      rintro gXp gXn D1 d1 D2 d2 D3 d3 Y3_91 ⟨WW, Xp, Xn, O1, O2, O3, nXpXn, hHeld⟩
      refine AnyL_ready (rs := [11]) (by kernel_rfl) (by simp) ?_
      refine ReadyL.cons (o := oq11_4_11) rfl (fun K hK => ?_) ReadyL.nil
      delta oq11_4_11
      have lXp : gXp < Y3_91.heap.size := Xp.lt
      have lXn : gXn < Y3_91.heap.size := Xn.lt
      go_simp
      have ba := (Below.refl Y3_91.heap.size Y3_91).alloc (Nat.le_refl _) (.cells #[.slice none 0 0] 24)
      replace Xp := Xp.below ba
      replace Xn := Xn.below ba
      replace O1 := O1.below ba (Nat.le_refl _)
      replace O2 := O2.below ba (Nat.le_refl _)
      replace O3 := O3.below ba (Nat.le_refl _)
      have bn := Blk.new Y3_91 24 #[.slice none 0 0]
      have Xq := VB.mk (B := w.heap.size) (a := 0) bn (.inr (Own.nil _ _ _ _ (Nat.zero_le _))) ba WW.size WW.size
      replace WW := WW.trans (ba.mono WW.size)
      have sz395 : Y3_91.heap.size < (Y3_91.alloc (.cells #[.slice none 0 0] 24)).heap.size := bn.lt
      refine hK.out _ _ (trivial) (fun hHeld2 => ?_)
      clear hK K hHeld
      (try simp only [oq11_4_11, Act.put, List.setIfInBounds_toArray, List.set_cons_zero, List.set_cons_succ])
      generalize hV : Y3_91.alloc (.cells #[.slice none 0 0] 24) = V395 at hHeld2 sz395 WW Xp Xn Xq O1 O2 O3 ⊢
      clear hV ba bn
      have hHeld := hHeld2
      clear hHeld2
      obtain ⟨gXq, hg⟩ : ∃ x, x = Y3_91.heap.size := ⟨_, rfl⟩
      have nXpXq : gXp ≠ gXq := by omega
      have nXnXq : gXn ≠ gXq := by omega
      rw [← hg] at Xq sz395 ⊢
      clear hg lXp lXn
      exact hst24 gXp gXq gXn D1 d1 D2 d2 D3 d3 V395 ⟨WW, Xp, Xq, Xn, O1, O2, O3, (by first | exact nXpXq | omega), (by first | exact nXpXn | omega), (by first | exact nXqXn | omega), hHeld⟩
    case h1.h1.h2 =>
      rintro gXq gXn D1 d1 D2 d2 D3 d3 Y3_93 ⟨WW, Xq, Xn, O1, O2, O3, nXqXn, hHeld⟩
      refine AnyL_ready (rs := [10]) (by kernel_rfl) (by simp) ?_
      refine ReadyL.cons (o := oq11_4_10) rfl (fun K hK => ?_) ReadyL.nil
      delta oq11_4_10
      have lXq : gXq < Y3_93.heap.size := Xq.lt
      have lXn : gXn < Y3_93.heap.size := Xn.lt
      go_simp
      have ba := (Below.refl Y3_93.heap.size Y3_93).alloc (Nat.le_refl _) (.cells #[.slice none 0 0] 24)
      replace Xq := Xq.below ba
      replace Xn := Xn.below ba
      replace O1 := O1.below ba (Nat.le_refl _)
      replace O2 := O2.below ba (Nat.le_refl _)
      replace O3 := O3.below ba (Nat.le_refl _)
      have bn := Blk.new Y3_93 24 #[.slice none 0 0]
      have Xp := VB.mk (B := w.heap.size) (a := 0) bn (.inr (Own.nil _ _ _ _ (Nat.zero_le _))) ba WW.size WW.size
      replace WW := WW.trans (ba.mono WW.size)
      have sz397 : Y3_93.heap.size < (Y3_93.alloc (.cells #[.slice none 0 0] 24)).heap.size := bn.lt
      refine hK.out _ _ (trivial) (fun hHeld2 => ?_)
      clear hK K hHeld
      (try simp only [oq11_4_10, Act.put, List.setIfInBounds_toArray, List.set_cons_zero, List.set_cons_succ])
      generalize hV : Y3_93.alloc (.cells #[.slice none 0 0] 24) = V397 at hHeld2 sz397 WW Xq Xn Xp O1 O2 O3 ⊢
      clear hV ba bn
      have hHeld := hHeld2
      clear hHeld2
      obtain ⟨gXp, hg⟩ : ∃ x, x = Y3_93.heap.size := ⟨_, rfl⟩
      have nXqXp : gXq ≠ gXp := by omega
      have nXnXp : gXn ≠ gXp := by omega
      rw [← hg] at Xp sz397 ⊢
      clear hg lXq lXn
      exact hst24 gXp gXq gXn D1 d1 D2 d2 D3 d3 V397 ⟨WW, Xp, Xq, Xn, O1, O2, O3, (by first | exact nXpXq | omega), (by first | exact nXpXn | omega), (by first | exact nXqXn | omega), hHeld⟩
    case h1.h2 =>
      rintro gXp gXq gXn D1 d1 D2 d2 Y3_95 ⟨WW, Xp, Xq, Xn, O1, O2, nXpXq, nXpXn, nXqXn, hHeld⟩
      refine AnyL_ready (rs := [9]) (by kernel_rfl) (by simp) ?_
      refine ReadyL.cons (o := oq11_4_9) rfl (fun K hK => ?_) ReadyL.nil
      delta oq11_4_9
      go_simp
      have hbs : w.heap.size ≤ Y3_95.heap.size := WW.size
      have hc := of3_z M m Y3_95 BM.out eM.out
      refine hc.mono ?_
      clear hc
      rintro e V399 ⟨v, rfl, hv, hb⟩
      replace Xp := Xp.below hb
      replace Xq := Xq.below hb
      replace Xn := Xn.below hb
      replace O1 := O1.below hb (Nat.le_refl _)
      replace O2 := O2.below hb (Nat.le_refl _)
      replace WW := WW.trans (hb.mono WW.size)
      have sz399 := hb.size
      obtain ⟨D3, d3, rfl, ho⟩ := hv
      have O3 := ho.weak (b := w.heap.size) hbs
      clear ho
      clear hb hbs
      refine hK.out _ _ (trivial) (fun hHeld2 => ?_)
      clear hK K hHeld
      have hHeld := hHeld2
      clear hHeld2
      (try simp only [oq11_4_9, Act.put, List.setIfInBounds_toArray, List.set_cons_zero, List.set_cons_succ])
      exact hst24 gXp gXq gXn D1 d1 D2 d2 D3 d3 V399 ⟨WW, Xp, Xq, Xn, O1, O2, O3, (by first | exact nXpXq | omega), (by first | exact nXpXn | omega), (by first | exact nXqXn | omega), hHeld⟩
    case h2 =>
      rintro gXp gXq gXn D1 d1 D2 d2 D3 d3 Y3_97 ⟨WW, Xp, Xq, Xn, O1, O2, O3, nXpXq, nXpXn, nXqXn, hHeld⟩
      refine AnyL_ready (rs := [13]) (by kernel_rfl) (by simp) ?_
      refine ReadyL.cons (o := oq11_4_13) rfl (fun K hK => ?_) ReadyL.nil
      delta oq11_4_13
      have fz := Xp.1.frozen 0
      have cz := Xp.cell
      have lz := Xp.lt
      go_simp
      have Xpn := Xp.set_ (A' := D1) (n' := (nw X)) (c' := d1) (a' := X) (.inr O1)
      replace Xq := Xq.far (p := ⟨gXp, 0, none⟩) Xp.1 Xp.2.2 (by simp <;> omega) (.slice D1 (nw X) d1)
      replace Xn := Xn.far (p := ⟨gXp, 0, none⟩) Xp.1 Xp.2.2 (by simp <;> omega) (.slice D1 (nw X) d1)
      replace O1 := O1.box (p := ⟨gXp, 0, none⟩) Xp.1 (by decide) (.slice D1 (nw X) d1)
      replace O2 := O2.box (p := ⟨gXp, 0, none⟩) Xp.1 (by decide) (.slice D1 (nw X) d1)
      replace O3 := O3.box (p := ⟨gXp, 0, none⟩) Xp.1 (by decide) (.slice D1 (nw X) d1)
      replace Xp := Xpn
      clear Xpn
      replace WW := WW.setCell (p := ⟨gXp, 0, none⟩) Xp.2.2 (.slice D1 (nw X) d1)
      refine hK.out _ _ (trivial) (fun hHeld2 => ?_)
      clear hK K hHeld
      (try simp only [oq11_4_13, Act.put, List.setIfInBounds_toArray, List.set_cons_zero, List.set_cons_succ])
      generalize hV : Y3_97.setCell ⟨gXp, 0, none⟩ (.slice D1 (nw X) d1) = V401 at hHeld2 WW Xp Xq Xn O1 O2 O3 ⊢
      clear hV fz cz lz
      have hHeld := hHeld2
      clear hHeld2
      refine AnyL_ready (rs := [14]) (by kernel_rfl) (by simp) ?_
      refine ReadyL.cons (o := oq11_4_14) rfl (fun K hK => ?_) ReadyL.nil
      delta oq11_4_14
      have fz := Xq.1.frozen 0
      have cz := Xq.cell
      have lz := Xq.lt
      go_simp
      have Xqn := Xq.set_ (A' := D2) (n' := (nw Y)) (c' := d2) (a' := Y) (.inr O2)
      replace Xp := Xp.far (p := ⟨gXq, 0, none⟩) Xq.1 Xq.2.2 (by simp <;> omega) (.slice D2 (nw Y) d2)
      replace Xn := Xn.far (p := ⟨gXq, 0, none⟩) Xq.1 Xq.2.2 (by simp <;> omega) (.slice D2 (nw Y) d2)
      replace O1 := O1.box (p := ⟨gXq, 0, none⟩) Xq.1 (by decide) (.slice D2 (nw Y) d2)
      replace O2 := O2.box (p := ⟨gXq, 0, none⟩) Xq.1 (by decide) (.slice D2 (nw Y) d2)
      replace O3 := O3.box (p := ⟨gXq, 0, none⟩) Xq.1 (by decide) (.slice D2 (nw Y) d2)
      replace Xq := Xqn
      clear Xqn
      replace WW := WW.setCell (p := ⟨gXq, 0, none⟩) Xq.2.2 (.slice D2 (nw Y) d2)
      refine hK.out _ _ (trivial) (fun hHeld2 => ?_)
      clear hK K hHeld
      (try simp only [oq11_4_14, Act.put, List.setIfInBounds_toArray, List.set_cons_zero, List.set_cons_succ])
      generalize hV : V401.setCell ⟨gXq, 0, none⟩ (.slice D2 (nw Y) d2) = V402 at hHeld2 WW Xp Xq Xn O1 O2 O3 ⊢
      clear hV fz cz lz
      have hHeld := hHeld2
      clear hHeld2
      refine AnyL_ready (rs := [15]) (by kernel_rfl) (by simp) ?_
      refine ReadyL.cons (o := oq11_4_15) rfl (fun K hK => ?_) ReadyL.nil
      delta oq11_4_15
      have fz := Xn.1.frozen 0
      have cz := Xn.cell
      have lz := Xn.lt
      go_simp
      have Xnn := Xn.set_ (A' := D3) (n' := (nw M)) (c' := d3) (a' := M) (.inr O3)
      replace Xp := Xp.far (p := ⟨gXn, 0, none⟩) Xn.1 Xn.2.2 (by simp <;> omega) (.slice D3 (nw M) d3)
      replace Xq := Xq.far (p := ⟨gXn, 0, none⟩) Xn.1 Xn.2.2 (by simp <;> omega) (.slice D3 (nw M) d3)
      replace O1 := O1.box (p := ⟨gXn, 0, none⟩) Xn.1 (by decide) (.slice D3 (nw M) d3)
      replace O2 := O2.box (p := ⟨gXn, 0, none⟩) Xn.1 (by decide) (.slice D3 (nw M) d3)
      replace O3 := O3.box (p := ⟨gXn, 0, none⟩) Xn.1 (by decide) (.slice D3 (nw M) d3)
      replace Xn := Xnn
      clear Xnn
      replace WW := WW.setCell (p := ⟨gXn, 0, none⟩) Xn.2.2 (.slice D3 (nw M) d3)
      refine hK.out _ _ (trivial) (fun hHeld2 => ?_)
      clear hK K hHeld
      (try simp only [oq11_4_15, Act.put, List.setIfInBounds_toArray, List.set_cons_zero, List.set_cons_succ])
      generalize hV : V402.setCell ⟨gXn, 0, none⟩ (.slice D3 (nw M) d3) = V403 at hHeld2 WW Xp Xq Xn O1 O2 O3 ⊢
      clear hV fz cz lz
      have hHeld := hHeld2
      clear hHeld2
      refine AnyL_done (by kernel_rfl) ?_ _
      clear hHeld
      refine NoPanic.normal ?_
      exact ⟨rfl, gXp, gXq, gXn, D1, d1, D2, d2, D3, d3, rfl, WW, Xp, Xq, Xn, O1, O2, O3, (by first | exact nXpXq | omega), (by first | exact nXpXn | omega), (by first | exact nXqXn | omega)⟩
  rintro gXp gXq gXn D1 d1 D2 d2 D3 d3 V52 ⟨WW, Xp, Xq, Xn, O1, O2, O3, nXpXq, nXpXn, nXqXn⟩
  have kXp := Xp.cell
  have zXp := Xp.lt
  have kXq := Xq.cell
  have zXq := Xq.lt
  have kXn := Xn.cell
  have zXn := Xn.lt
  go_wp2_with fail
  have hbs : w.heap.size ≤ V52.heap.size := WW.size
  have hc := wadd_B x y m V52 m4 m3 x0 x1 y0 y1
  rw [CS.out] at hc
  refine hc.mono ?_
  clear hc
  rintro e V53 ⟨rfl, hb⟩
  clear kXp zXp kXq zXq kXn zXn
  replace Xp := Xp.below hb
  replace Xq := Xq.below hb
  replace Xn := Xn.below hb
  replace O1 := O1.below hb (Nat.le_refl _)
  replace O2 := O2.below hb (Nat.le_refl _)
  replace O3 := O3.below hb (Nat.le_refl _)
  replace WW := WW.trans (hb.mono WW.size)
  have kXp := Xp.cell
  have zXp := Xp.lt
  have kXq := Xq.cell
  have zXq := Xq.lt
  have kXn := Xn.cell
  have zXn := Xn.lt
  clear hb hbs
  go_wp2_with fail
  have hbs : w.heap.size ≤ V53.heap.size := WW.size
  have hc := nadd_any D1 D2 D3 _ _ _ d1 d2 d3 X Y M V53 Xp.num Xq.num Xn.num (by omega) (by omega) (by omega)
  rw [HC.out] at hc
  rw [← HS.out] at hc
  rw [M1.out] at hc
  refine hc.mono ?_
  clear hc
  rintro e V54 ⟨v, rfl, hv, hb⟩
  clear kXp zXp kXq zXq kXn zXn
  replace Xp := Xp.below hb
  replace Xq := Xq.below hb
  replace Xn := Xn.below hb
  replace O1 := O1.below hb (Nat.le_refl _)
  replace O2 := O2.below hb (Nat.le_refl _)
  replace O3 := O3.below hb (Nat.le_refl _)
  replace WW := WW.trans (hb.mono WW.size)
  obtain ⟨D4, d4, rfl, ho⟩ := hv
  have O4 := ho.weak (b := w.heap.size) hbs
  clear ho
  have kXp := Xp.cell
  have zXp := Xp.lt
  have kXq := Xq.cell
  have zXq := Xq.lt
  have kXn := Xn.cell
  have zXn := Xn.lt
  clear hb hbs
  go_wp2_with fail
  obtain ⟨b0, bw⟩ := boxes1 V54 (.slice D4 (nw s) d4)
  have hbs := WW.size
  clear kXp zXp kXq zXq kXn zXn
  have qXp55 := Xp.lt
  have qXq55 := Xq.lt
  have qXn55 := Xn.lt
  have X4 := VB.mk (B := w.heap.size) (a := s) b0 (.inr O4) bw hbs (by omega)
  replace Xp := Xp.below bw
  replace Xq := Xq.below bw
  replace Xn := Xn.below bw
  replace O1 := O1.below bw (Nat.le_refl _)
  replace O2 := O2.below bw (Nat.le_refl _)
  replace O3 := O3.below bw (Nat.le_refl _)
  replace O4 := O4.below bw (Nat.le_refl _)
  replace WW := WW.trans (bw.mono WW.size)
  clear bw hbs b0
  generalize hV : (V54.alloc (.cells #[.slice D4 (nw s) d4] 24)) = V55 at Xp Xq Xn X4 O1 O2 O3 O4 WW ⊢
  clear hV
  have kXp := Xp.cell
  have zXp := Xp.lt
  have kXq := Xq.cell
  have zXq := Xq.lt
  have kXn := Xn.cell
  have zXn := Xn.lt
  have kX4 := X4.cell
  have zX4 := X4.lt
  have hbs : w.heap.size ≤ V55.heap.size := WW.size
  have hc := wmul_B x y m V55 m4 m3 x0 x1 y0 y1
  rw [CT.out] at hc
  refine hc.mono ?_
  clear hc
  rintro e V56 ⟨rfl, hb⟩
  clear kXp zXp kXq zXq kXn zXn kX4 zX4
  replace Xp := Xp.below hb
  replace Xq := Xq.below hb
  replace Xn := Xn.below hb
  replace X4 := X4.below hb
  replace O1 := O1.below hb (Nat.le_refl _)
  replace O2 := O2.below hb (Nat.le_refl _)
  replace O3 := O3.below hb (Nat.le_refl _)
  replace O4 := O4.below hb (Nat.le_refl _)
  replace WW := WW.trans (hb.mono WW.size)
  have kXp := Xp.cell
  have zXp := Xp.lt
  have kXq := Xq.cell
  have zXq := Xq.lt
  have kXn := Xn.cell
  have zXn := Xn.lt
  have kX4 := X4.cell
  have zX4 := X4.lt
  clear hb hbs
  go_wp2_with fail
  have hbs : w.heap.size ≤ V56.heap.size := WW.size
  have hc := nmul_any D1 D2 D3 _ _ _ d1 d2 d3 X Y M V56 Xp.num Xq.num Xn.num (by omega) (by omega) (by omega)
  rw [HC.out] at hc
  rw [← HT.out] at hc
  rw [M2.out] at hc
  refine hc.mono ?_
  clear hc
  rintro e V57 ⟨v, rfl, hv, hb⟩
  clear kXp zXp kXq zXq kXn zXn kX4 zX4
  replace Xp := Xp.below hb
  replace Xq := Xq.below hb
  replace Xn := Xn.below hb
  replace X4 := X4.below hb
  replace O1 := O1.below hb (Nat.le_refl _)
  replace O2 := O2.below hb (Nat.le_refl _)
  replace O3 := O3.below hb (Nat.le_refl _)
  replace O4 := O4.below hb (Nat.le_refl _)
  replace WW := WW.trans (hb.mono WW.size)
  obtain ⟨D5, d5, rfl, ho⟩ := hv
  have O5 := ho.weak (b := w.heap.size) hbs
  clear ho
  have kXp := Xp.cell
  have zXp := Xp.lt
  have kXq := Xq.cell
  have zXq := Xq.lt
  have kXn := Xn.cell
  have zXn := Xn.lt
  have kX4 := X4.cell
  have zX4 := X4.lt
  clear hb hbs
  go_wp2_with fail
  obtain ⟨b0, bw⟩ := boxes1 V57 (.slice D5 (nw t) d5)
  have hbs := WW.size
  clear kXp zXp kXq zXq kXn zXn kX4 zX4
  have qXp58 := Xp.lt
  have qXq58 := Xq.lt
  have qXn58 := Xn.lt
  have qX458 := X4.lt
  have X5 := VB.mk (B := w.heap.size) (a := t) b0 (.inr O5) bw hbs (by omega)
  replace Xp := Xp.below bw
  replace Xq := Xq.below bw
  replace Xn := Xn.below bw
  replace X4 := X4.below bw
  replace O1 := O1.below bw (Nat.le_refl _)
  replace O2 := O2.below bw (Nat.le_refl _)
  replace O3 := O3.below bw (Nat.le_refl _)
  replace O4 := O4.below bw (Nat.le_refl _)
  replace O5 := O5.below bw (Nat.le_refl _)
  replace WW := WW.trans (bw.mono WW.size)
  clear bw hbs b0
  generalize hV : (V57.alloc (.cells #[.slice D5 (nw t) d5] 24)) = V58 at Xp Xq Xn X4 X5 O1 O2 O3 O4 O5 WW ⊢
  clear hV
  have kXp := Xp.cell
  have zXp := Xp.lt
  have kXq := Xq.cell
  have zXq := Xq.lt
  have kXn := Xn.cell
  have zXn := Xn.lt
  have kX4 := X4.cell
  have zX4 := X4.lt
  have kX5 := X5.cell
  have zX5 := X5.lt
  have hbs : w.heap.size ≤ V58.heap.size := WW.size
  have hc := winv_z X M x m V58 H1.out.1 H1.out.2 lX eX.out eM.out
  rw [WI.out] at hc
  refine hc.mono ?_
  clear hc
  rintro e V59 ⟨rfl, hb⟩
  clear kXp zXp kXq zXq kXn zXn kX4 zX4 kX5 zX5
  replace Xp := Xp.below hb
  replace Xq := Xq.below hb
  replace Xn := Xn.below hb
  replace X4 := X4.below hb
  replace X5 := X5.below hb
  replace O1 := O1.below hb (Nat.le_refl _)
  replace O2 := O2.below hb (Nat.le_refl _)
  replace O3 := O3.below hb (Nat.le_refl _)
  replace O4 := O4.below hb (Nat.le_refl _)
  replace O5 := O5.below hb (Nat.le_refl _)
  replace WW := WW.trans (hb.mono WW.size)
  have kXp := Xp.cell
  have zXp := Xp.lt
  have kXq := Xq.cell
  have zXq := Xq.lt
  have kXn := Xn.cell
  have zXn := Xn.lt
  have kX4 := X4.cell
  have zX4 := X4.lt
  have kX5 := X5.cell
  have zX5 := X5.lt
  clear hb hbs
  go_wp2_with fail
  have hbs : w.heap.size ≤ V59.heap.size := WW.size
  have hc := inverse_any D1 D3 _ _ d1 d3 X M V59 Xp.num Xn.num (by omega) (by omega)
  rw [NI.out] at hc
  refine hc.mono ?_
  clear hc
  rintro e V60 ⟨v, rfl, hv, hb⟩
  clear kXp zXp kXq zXq kXn zXn kX4 zX4 kX5 zX5
  replace Xp := Xp.below hb
  replace Xq := Xq.below hb
  replace Xn := Xn.below hb
  replace X4 := X4.below hb
  replace X5 := X5.below hb
  replace O1 := O1.below hb (Nat.le_refl _)
  replace O2 := O2.below hb (Nat.le_refl _)
  replace O3 := O3.below hb (Nat.le_refl _)
  replace O4 := O4.below hb (Nat.le_refl _)
  replace O5 := O5.below hb (Nat.le_refl _)
  replace WW := WW.trans (hb.mono WW.size)
  obtain ⟨D6, d6, rfl, ho⟩ := hv
  have O6 := ho.weak (b := w.heap.size) hbs
  clear ho
  have kXp := Xp.cell
  have zXp := Xp.lt
  have kXq := Xq.cell
  have zXq := Xq.lt
  have kXn := Xn.cell
  have zXn := Xn.lt
  have kX4 := X4.cell
  have zX4 := X4.lt
  have kX5 := X5.cell
  have zX5 := X5.lt
  clear hb hbs
  go_wp2_with fail
  obtain ⟨b0, bw⟩ := boxes1 V60 (.slice D6 (nw v) d6)
  have hbs := WW.size
  clear kXp zXp kXq zXq kXn zXn kX4 zX4 kX5 zX5
  have qXp61 := Xp.lt
  have qXq61 := Xq.lt
  have qXn61 := Xn.lt
  have qX461 := X4.lt
  have qX561 := X5.lt
  have X6 := VB.mk (B := w.heap.size) (a := v) b0 (.inr O6) bw hbs (by omega)
  replace Xp := Xp.below bw
  replace Xq := Xq.below bw
  replace Xn := Xn.below bw
  replace X4 := X4.below bw
  replace X5 := X5.below bw
  replace O1 := O1.below bw (Nat.le_refl _)
  replace O2 := O2.below bw (Nat.le_refl _)
  replace O3 := O3.below bw (Nat.le_refl _)
  replace O4 := O4.below bw (Nat.le_refl _)
  replace O5 := O5.below bw (Nat.le_refl _)
  replace O6 := O6.below bw (Nat.le_refl _)
  replace WW := WW.trans (bw.mono WW.size)
  clear bw hbs b0
  generalize hV : (V60.alloc (.cells #[.slice D6 (nw v) d6] 24)) = V61 at Xp Xq Xn X4 X5 X6 O1 O2 O3 O4 O5 O6 WW ⊢
  clear hV
  have kXp := Xp.cell
  have zXp := Xp.lt
  have kXq := Xq.cell
  have zXq := Xq.lt
  have kXn := Xn.cell
  have zXn := Xn.lt
  have kX4 := X4.cell
  have zX4 := X4.lt
  have kX5 := X5.cell
  have zX5 := X5.lt
  have kX6 := X6.cell
  have zX6 := X6.lt
  have hbs : w.heap.size ≤ V61.heap.size := WW.size
  have hc := wequal_z D4 d4 s si V61 X4.num ls.out ES.out
  refine hc.mono ?_
  clear hc
  rintro e V62 ⟨rfl, hb⟩
  clear kXp zXp kXq zXq kXn zXn kX4 zX4 kX5 zX5 kX6 zX6
  replace Xp := Xp.below hb
  replace Xq := Xq.below hb
  replace Xn := Xn.below hb
  replace X4 := X4.below hb
  replace X5 := X5.below hb
  replace X6 := X6.below hb
  replace O1 := O1.below hb (Nat.le_refl _)
  replace O2 := O2.below hb (Nat.le_refl _)
  replace O3 := O3.below hb (Nat.le_refl _)
  replace O4 := O4.below hb (Nat.le_refl _)
  replace O5 := O5.below hb (Nat.le_refl _)
  replace O6 := O6.below hb (Nat.le_refl _)
  replace WW := WW.trans (hb.mono WW.size)
  have kXp := Xp.cell
  have zXp := Xp.lt
  have kXq := Xq.cell
  have zXq := Xq.lt
  have kXn := Xn.cell
  have zXn := Xn.lt
  have kX4 := X4.cell
  have zX4 := X4.lt
  have kX5 := X5.cell
  have zX5 := X5.lt
  have kX6 := X6.cell
  have zX6 := X6.lt
  clear hb hbs
  go_wp2_with fail
  have hbs : w.heap.size ≤ V62.heap.size := WW.size
  have hc := wequal_z D5 d5 t ti V62 X5.num lt.out ET.out
  refine hc.mono ?_
  clear hc
  rintro e V63 ⟨rfl, hb⟩
  clear kXp zXp kXq zXq kXn zXn kX4 zX4 kX5 zX5 kX6 zX6
  replace Xp := Xp.below hb
  replace Xq := Xq.below hb
  replace Xn := Xn.below hb
  replace X4 := X4.below hb
  replace X5 := X5.below hb
  replace X6 := X6.below hb
  replace O1 := O1.below hb (Nat.le_refl _)
  replace O2 := O2.below hb (Nat.le_refl _)
  replace O3 := O3.below hb (Nat.le_refl _)
  replace O4 := O4.below hb (Nat.le_refl _)
  replace O5 := O5.below hb (Nat.le_refl _)
  replace O6 := O6.below hb (Nat.le_refl _)
  replace WW := WW.trans (hb.mono WW.size)
  have kXp := Xp.cell
  have zXp := Xp.lt
  have kXq := Xq.cell
  have zXq := Xq.lt
  have kXn := Xn.cell
  have zXn := Xn.lt
  have kX4 := X4.cell
  have zX4 := X4.lt
  have kX5 := X5.cell
  have zX5 := X5.lt
  have kX6 := X6.cell
  have zX6 := X6.lt
  clear hb hbs
  go_wp2_with fail
  have hbs : w.heap.size ≤ V63.heap.size := WW.size
  have hc := wequal_z D6 d6 v vi V63 X6.num lv.out EV.out
  refine hc.mono ?_
  clear hc
  rintro e V64 ⟨rfl, hb⟩
  clear kXp zXp kXq zXq kXn zXn kX4 zX4 kX5 zX5 kX6 zX6
  replace Xp := Xp.below hb
  replace Xq := Xq.below hb
  replace Xn := Xn.below hb
  replace X4 := X4.below hb
  replace X5 := X5.below hb
  replace X6 := X6.below hb
  replace O1 := O1.below hb (Nat.le_refl _)
  replace O2 := O2.below hb (Nat.le_refl _)
  replace O3 := O3.below hb (Nat.le_refl _)
  replace O4 := O4.below hb (Nat.le_refl _)
  replace O5 := O5.below hb (Nat.le_refl _)
  replace O6 := O6.below hb (Nat.le_refl _)
  replace WW := WW.trans (hb.mono WW.size)
  have kXp := Xp.cell
  have zXp := Xp.lt
  have kXq := Xq.cell
  have zXq := Xq.lt
  have kXn := Xn.cell
  have zXn := Xn.lt
  have kX4 := X4.cell
  have zX4 := X4.lt
  have kX5 := X5.cell
  have zX5 := X5.lt
  have kX6 := X6.cell
  have zX6 := X6.lt
  clear hb hbs
  go_wp2_with fail
  go_ret
  exact ⟨rfl, WW⟩

set_option maxHeartbeats 16000000 in
set_option maxRecDepth 100000 in
theorem wordl_no (X Y M : Nat) (a b m x y : Int) (w : World) (ha : 0 ≤ a) (ha1 : a ≤ 18446744073709551615) (hb0 : 0 ≤ b) (hb1 : b ≤ 18446744073709551615) (m4 : 1 ≤ m) (m3 : m < 2305843009213693952) (hX : a % m = x) (hY : b % m = y) (eM : Hid (m = (M : Int))) (eX : Hid (x = (X : Int))) (eY : Hid (y = (Y : Int))) (x0 : 0 ≤ x) (x1 : x < m) (y0 : 0 ≤ y) (y1 : y < m) (hg : ¬ Nat.gcd X M = 1) :
    Calls Try.prog 11 #[.int .u64 a, .int .u64 b, .int .u64 m] w (RetB (.bool true) w) := by
  have H1 : Hid (1 ≤ M ∧ M < 2305843009213693952) := (show 1 ≤ M ∧ M < 2305843009213693952 by have := eM.out; omega)
  have lX : X < M := by have := eM.out; have := eX.out; omega
  have lY : Y < M := by have := eM.out; have := eY.out; omega
  have m1 : ¬ (m < 1) := by omega
  have m2 : ¬ ((2305843009213693952 : Int) ≤ m) := by omega
  have m5 : (m == 0) = false := by simp; omega
  have m6 : ¬ (m = 0) := by omega
  have tX : Int.tmod a m = x := by rw [Int.tmod_eq_emod_of_nonneg ha]; exact hX
  have tY : Int.tmod b m = y := by rw [Int.tmod_eq_emod_of_nonneg hb0]; exact hY
  have wX : IntKind.i64.wrap x = x := IntWalk.i64_in _ (by omega)
  have wY : IntKind.i64.wrap y = y := IntWalk.i64_in _ (by omega)
  have wM : IntKind.i64.wrap m = m := IntWalk.i64_in _ (by omega)
  have nM : nw M ≤ 2 := nw_le (by show M < 18446744073709551616; have := H1.out; omega)
  have nX : nw X ≤ 2 := Nat.le_trans (nw_mono (Nat.le_of_lt lX)) nM
  have nY : nw Y ≤ 2 := Nat.le_trans (nw_mono (Nat.le_of_lt lY)) nM
  have np := nw_pos (show M ≠ 0 by omega)
  have BX : Hid (X ≤ 18446744073709551615) := (show X ≤ 18446744073709551615 by have := H1.out; omega)
  have BY : Hid (Y ≤ 18446744073709551615) := (show Y ≤ 18446744073709551615 by have := H1.out; omega)
  have BM : Hid (M ≤ 18446744073709551615) := (show M ≤ 18446744073709551615 by have := H1.out; omega)
  have HC : Hid (chkS (nw X) X (nw Y) Y (nw M) M = 0) := chk_ok rfl rfl rfl (by omega) (by omega) ⟨np, by omega⟩ lX lY
  have HC0 : chkS (nw X) X 0 0 (nw M) M = 0 := chk_ok rfl rfl rfl (by omega) (by omega) ⟨np, by omega⟩ lX (by omega)
  obtain ⟨s, hs⟩ : ∃ z, z = (X + Y) % M := ⟨_, rfl⟩
  have HS := hid hs
  obtain ⟨t, ht⟩ : ∃ z, z = X * Y % M := ⟨_, rfl⟩
  have HT := hid ht
  have ls : Hid (s < 2305843009213693952) := (show s < 2305843009213693952 by have h := Nat.mod_lt (X + Y) (show 0 < M by omega); rw [← hs] at h; have := H1.out; omega)
  have lt : Hid (t < 2305843009213693952) := (show t < 2305843009213693952 by have h := Nat.mod_lt (X * Y) (show 0 < M by omega); rw [← ht] at h; have := H1.out; omega)
  have M1 := hid (modS_ok s)
  have M2 := hid (modS_ok t)
  obtain ⟨si, hsi⟩ : ∃ z, z = ((s : Nat) : Int) := ⟨_, rfl⟩
  obtain ⟨ti, hti⟩ : ∃ z, z = ((t : Nat) : Int) := ⟨_, rfl⟩
  have CS : Hid ((x + y) % m = si) := (show _ = _ by rw [hsi, hs, eX.out, eY.out, eM.out, Int.natCast_emod, Int.natCast_add])
  have CT : Hid (x * y % m = ti) := (show _ = _ by rw [hti, ht, eX.out, eY.out, eM.out, Int.natCast_emod, Int.natCast_mul])
  have ES := hid hsi
  have ET := hid hti
  have WI : Hid (winvS X M = (0, 10)) := (show winvS X M = _ by unfold winvS; rw [if_neg hg])
  have NI : Hid (invS (chkS (nw X) X 0 0 (nw M) M) X M = (0, 10)) := (show _ = (0, 10) by rw [HC0]; unfold invS; rw [if_pos rfl, if_neg hg])
  have z10 : ((10 : Int) != 0) = true := rfl
  clear HC0 hs ht hg hX hY hsi hti
  have WW := Below.refl w.heap.size w
  go_enter Try.func11, Try.ntmps11
  go_wp2_with fail
  obtain ⟨V0, hV⟩ : ∃ V, V = w := ⟨_, rfl⟩
  rw [← hV]
  replace WW : Below w.heap.size w V0 := by rw [hV]; exact WW
  clear hV
  have hbs : w.heap.size ≤ V0.heap.size := WW.size
  have hc := awake_any V0
  refine hc.mono ?_
  clear hc
  rintro e V1 ⟨rfl, hb⟩
  replace WW := WW.trans (hb.mono WW.size)
  clear hb hbs
  go_wp2_with fail
  have hst : (fun w' => True) V1.drew := trivial
  replace WW := WW.drew
  refine region_L 20 (fun w' => True) (by kernel_rfl) hst (fun hHeld => ?_)
  clear hst
  generalize hV : V1.drew = U1x0 at hHeld WW  ⊢
  clear hV
  refine AnyL_take (i := 0) (oi := oq11_3_0) (v := ?_) rfl (by kernel_rfl) (by kernel_rfl) (by kernel_rfl) (by kernel_rfl) (fun _ _ _ h => h) (Or.inl ⟨by rfl, ?_⟩) (by assumption) ?_
  rotate_left
  · (delta oq11_3_0; intro ws hSw; (try dsimp only at hSw); (try go_simp); (try with_reducible rfl))
  (try simp only [oq11_3_0, Act.put, List.setIfInBounds_toArray, List.set_cons_zero, List.set_cons_succ])
  refine AnyL_take (i := 1) (oi := oq11_3_1) (v := ?_) rfl (by kernel_rfl) (by kernel_rfl) (by kernel_rfl) (by kernel_rfl) (fun _ _ _ h => h) (Or.inl ⟨by rfl, ?_⟩) (by assumption) ?_
  rotate_left
  · (delta oq11_3_1; intro ws hSw; (try dsimp only at hSw); (try go_simp); (try with_reducible rfl))
  (try simp only [oq11_3_1, Act.put, List.setIfInBounds_toArray, List.set_cons_zero, List.set_cons_succ])
  refine AnyL_take (i := 2) (oi := oq11_3_2) (v := ?_) rfl (by kernel_rfl) (by kernel_rfl) (by kernel_rfl) (by kernel_rfl) (fun _ _ _ h => h) (Or.inl ⟨by rfl, ?_⟩) (by assumption) ?_
  rotate_left
  · (delta oq11_3_2; intro ws hSw; (try dsimp only at hSw); (try go_simp); (try with_reducible rfl))
  (try simp only [oq11_3_2, Act.put, List.setIfInBounds_toArray, List.set_cons_zero, List.set_cons_succ])
  refine AnyL_take (i := 3) (oi := oq11_3_3) (v := ?_) rfl (by kernel_rfl) (by kernel_rfl) (by kernel_rfl) (by kernel_rfl) (fun _ _ _ h => h) (Or.inl ⟨by rfl, ?_⟩) (by assumption) ?_
  rotate_left
  · (delta oq11_3_3; intro ws hSw; (try dsimp only at hSw); (try go_simp); (try with_reducible rfl))
  (try simp only [oq11_3_3, Act.put, List.setIfInBounds_toArray, List.set_cons_zero, List.set_cons_succ])
  refine AnyL_take (i := 4) (oi := oq11_3_4) (v := ?_) rfl (by kernel_rfl) (by kernel_rfl) (by kernel_rfl) (by kernel_rfl) (fun _ _ _ h => h) (Or.inl ⟨by rfl, ?_⟩) (by assumption) ?_
  rotate_left
  · (delta oq11_3_4; intro ws hSw; (try dsimp only at hSw); (try go_simp); (try with_reducible rfl))
  (try simp only [oq11_3_4, Act.put, List.setIfInBounds_toArray, List.set_cons_zero, List.set_cons_succ])
  refine AnyL_take (i := 5) (oi := oq11_3_5) (v := ?_) rfl (by kernel_rfl) (by kernel_rfl) (by kernel_rfl) (by kernel_rfl) (fun _ _ _ h => h) (Or.inl ⟨by rfl, ?_⟩) (by assumption) ?_
  rotate_left
  · (delta oq11_3_5; intro ws hSw; (try dsimp only at hSw); (try go_simp); (try with_reducible rfl))
  (try simp only [oq11_3_5, Act.put, List.setIfInBounds_toArray, List.set_cons_zero, List.set_cons_succ])
  refine AnyL_take (i := 6) (oi := oq11_3_6) (v := ?_) rfl (by kernel_rfl) (by kernel_rfl) (by kernel_rfl) (by kernel_rfl) (fun _ _ _ h => h) (Or.inl ⟨by rfl, ?_⟩) (by assumption) ?_
  rotate_left
  · (delta oq11_3_6; intro ws hSw; (try dsimp only at hSw); (try go_simp); (try with_reducible rfl))
  (try simp only [oq11_3_6, Act.put, List.setIfInBounds_toArray, List.set_cons_zero, List.set_cons_succ])
  refine AnyL_take (i := 7) (oi := oq11_3_7) (v := ?_) rfl (by kernel_rfl) (by kernel_rfl) (by kernel_rfl) (by kernel_rfl) (fun _ _ _ h => h) (Or.inl ⟨by rfl, ?_⟩) (by assumption) ?_
  rotate_left
  · (delta oq11_3_7; intro ws hSw; (try dsimp only at hSw); (try go_simp); (try with_reducible rfl))
  (try simp only [oq11_3_7, Act.put, List.setIfInBounds_toArray, List.set_cons_zero, List.set_cons_succ])
  refine AnyL_take (i := 8) (oi := oq11_3_8) (v := ?_) rfl (by kernel_rfl) (by kernel_rfl) (by kernel_rfl) (by kernel_rfl) (fun _ _ _ h => h) (Or.inl ⟨by rfl, ?_⟩) (by assumption) ?_
  rotate_left
  · (delta oq11_3_8; intro ws hSw; (try dsimp only at hSw); (try go_simp); (try with_reducible rfl))
  (try simp only [oq11_3_8, Act.put, List.setIfInBounds_toArray, List.set_cons_zero, List.set_cons_succ])
  refine AnyL_take (i := 9) (oi := oq11_3_9) (v := ?_) rfl (by kernel_rfl) (by kernel_rfl) (by kernel_rfl) (by kernel_rfl) (fun _ _ _ h => h) (Or.inl ⟨by rfl, ?_⟩) (by assumption) ?_
  rotate_left
  · (delta oq11_3_9; intro ws hSw; (try dsimp only at hSw); (try go_simp); (try with_reducible rfl))
  (try simp only [oq11_3_9, Act.put, List.setIfInBounds_toArray, List.set_cons_zero, List.set_cons_succ])
  refine AnyL_take (i := 10) (oi := oq11_3_10) (v := ?_) rfl (by kernel_rfl) (by kernel_rfl) (by kernel_rfl) (by kernel_rfl) (fun _ _ _ h => h) (Or.inl ⟨by rfl, ?_⟩) (by assumption) ?_
  rotate_left
  · (delta oq11_3_10; intro ws hSw; (try dsimp only at hSw); (try go_simp); (try with_reducible rfl))
  (try simp only [oq11_3_10, Act.put, List.setIfInBounds_toArray, List.set_cons_zero, List.set_cons_succ])
  refine AnyL_take (i := 11) (oi := oq11_3_11) (v := ?_) rfl (by kernel_rfl) (by kernel_rfl) (by kernel_rfl) (by kernel_rfl) (fun _ _ _ h => h) (Or.inl ⟨by rfl, ?_⟩) (by assumption) ?_
  rotate_left
  · (delta oq11_3_11; intro ws hSw; (try dsimp only at hSw); (try go_simp); (try with_reducible rfl))
  (try simp only [oq11_3_11, Act.put, List.setIfInBounds_toArray, List.set_cons_zero, List.set_cons_succ])
  refine AnyL_take (i := 12) (oi := oq11_3_12) (v := ?_) rfl (by kernel_rfl) (by kernel_rfl) (by kernel_rfl) (by kernel_rfl) (fun _ _ _ h => h) (Or.inl ⟨by rfl, ?_⟩) (by assumption) ?_
  rotate_left
  · (delta oq11_3_12; intro ws hSw; (try dsimp only at hSw); (try go_simp); (try with_reducible rfl))
  (try simp only [oq11_3_12, Act.put, List.setIfInBounds_toArray, List.set_cons_zero, List.set_cons_succ])
  refine AnyL_done (by kernel_rfl) ?_ _
  clear hHeld
  go_wp2_with fail
  apply wp_landWd (R := fun gXp gXq gXn D1 d1 D2 d2 D3 d3 w1 => Below w.heap.size w w1 ∧ VB w.heap.size w1 (gXp) D1 (nw X) d1 X ∧ VB w.heap.size w1 (gXq) D2 (nw Y) d2 Y ∧ VB w.heap.size w1 (gXn) D3 (nw M) d3 M ∧ Own w1 w.heap.size D1 (nw X) d1 X ∧ Own w1 w.heap.size D2 (nw Y) d2 Y ∧ Own w1 w.heap.size D3 (nw M) d3 M ∧ gXp ≠ gXq ∧ gXp ≠ gXn ∧ gXq ≠ gXn)
  case hreg =>
    refine wp_region_noPanic ?_
    have hst : (fun w' => True) U1x0.drew := trivial
    replace WW := WW.drew
    refine region_L 23 (fun w' => True) (by kernel_rfl) hst (fun hHeld => ?_)
    clear hst
    generalize hV : U1x0.drew = U2x0 at hHeld WW  ⊢
    clear hV
    apply cut_nnnananan (n := 3) (l := #[true, true, true, true, true, true, true, true, true, true, true, true, true, false, false, false]) (R := fun gXp gXq gXn D1 d1 D2 d2 D3 d3 W => Below w.heap.size w W ∧ VB w.heap.size W (gXp) none 0 0 0 ∧ VB w.heap.size W (gXq) none 0 0 0 ∧ VB w.heap.size W (gXn) none 0 0 0 ∧ Own W w.heap.size D1 (nw X) d1 X ∧ Own W w.heap.size D2 (nw Y) d2 Y ∧ Own W w.heap.size D3 (nw M) d3 M ∧ gXp ≠ gXq ∧ gXp ≠ gXn ∧ gXq ≠ gXn ∧ (fun w' => True) W)
    intro hst24
    apply cut_nnnanan (n := 4) (l := #[true, true, true, true, true, true, true, true, true, false, true, true, true, false, false, false]) (R := fun gXp gXq gXn D1 d1 D2 d2 W => Below w.heap.size w W ∧ VB w.heap.size W (gXp) none 0 0 0 ∧ VB w.heap.size W (gXq) none 0 0 0 ∧ VB w.heap.size W (gXn) none 0 0 0 ∧ Own W w.heap.size D1 (nw X) d1 X ∧ Own W w.heap.size D2 (nw Y) d2 Y ∧ gXp ≠ gXq ∧ gXp ≠ gXn ∧ gXq ≠ gXn ∧ (fun w' => True) W)
    intro hst23
    apply cut_nnananan (n := 4) (l := #[true, true, true, true, true, true, true, true, true, true, false, true, true, false, false, false]) (R := fun gXq gXn D1 d1 D2 d2 D3 d3 W => Below w.heap.size w W ∧ VB w.heap.size W (gXq) none 0 0 0 ∧ VB w.heap.size W (gXn) none 0 0 0 ∧ Own W w.heap.size D1 (nw X) d1 X ∧ Own W w.heap.size D2 (nw Y) d2 Y ∧ Own W w.heap.size D3 (nw M) d3 M ∧ gXq ≠ gXn ∧ (fun w' => True) W)
    intro hst22
    apply cut_nnananan (n := 4) (l := #[true, true, true, true, true, true, true, true, true, true, true, false, true, false, false, false]) (R := fun gXp gXn D1 d1 D2 d2 D3 d3 W => Below w.heap.size w W ∧ VB w.heap.size W (gXp) none 0 0 0 ∧ VB w.heap.size W (gXn) none 0 0 0 ∧ Own W w.heap.size D1 (nw X) d1 X ∧ Own W w.heap.size D2 (nw Y) d2 Y ∧ Own W w.heap.size D3 (nw M) d3 M ∧ gXp ≠ gXn ∧ (fun w' => True) W)
    intro hst21
    apply cut_nnananan (n := 4) (l := #[true, true, true, true, true, true, true, true, true, true, true, true, false, false, false, false]) (R := fun gXp gXq D1 d1 D2 d2 D3 d3 W => Below w.heap.size w W ∧ VB w.heap.size W (gXp) none 0 0 0 ∧ VB w.heap.size W (gXq) none 0 0 0 ∧ Own W w.heap.size D1 (nw X) d1 X ∧ Own W w.heap.size D2 (nw Y) d2 Y ∧ Own W w.heap.size D3 (nw M) d3 M ∧ gXp ≠ gXq ∧ (fun w' => True) W)
    intro hst20
    apply cut_nnnan (n := 5) (l := #[true, true, true, true, true, true, true, false, true, false, true, true, true, false, false, false]) (R := fun gXp gXq gXn D1 d1 W => Below w.heap.size w W ∧ VB w.heap.size W (gXp) none 0 0 0 ∧ VB w.heap.size W (gXq) none 0 0 0 ∧ VB w.heap.size W (gXn) none 0 0 0 ∧ Own W w.heap.size D1 (nw X) d1 X ∧ gXp ≠ gXq ∧ gXp ≠ gXn ∧ gXq ≠ gXn ∧ (fun w' => True) W)
    intro hst19
    apply cut_nnanan (n := 5) (l := #[true, true, true, true, true, true, true, true, true, false, false, true, true, false, false, false]) (R := fun gXq gXn D1 d1 D2 d2 W => Below w.heap.size w W ∧ VB w.heap.size W (gXq) none 0 0 0 ∧ VB w.heap.size W (gXn) none 0 0 0 ∧ Own W w.heap.size D1 (nw X) d1 X ∧ Own W w.heap.size D2 (nw Y) d2 Y ∧ gXq ≠ gXn ∧ (fun w' => True) W)
    intro hst18
    apply cut_nnanan (n := 5) (l := #[true, true, true, true, true, true, true, true, true, false, true, false, true, false, false, false]) (R := fun gXp gXn D1 d1 D2 d2 W => Below w.heap.size w W ∧ VB w.heap.size W (gXp) none 0 0 0 ∧ VB w.heap.size W (gXn) none 0 0 0 ∧ Own W w.heap.size D1 (nw X) d1 X ∧ Own W w.heap.size D2 (nw Y) d2 Y ∧ gXp ≠ gXn ∧ (fun w' => True) W)
    intro hst17
    apply cut_nnanan (n := 5) (l := #[true, true, true, true, true, true, true, true, true, false, true, true, false, false, false, false]) (R := fun gXp gXq D1 d1 D2 d2 W => Below w.heap.size w W ∧ VB w.heap.size W (gXp) none 0 0 0 ∧ VB w.heap.size W (gXq) none 0 0 0 ∧ Own W w.heap.size D1 (nw X) d1 X ∧ Own W w.heap.size D2 (nw Y) d2 Y ∧ gXp ≠ gXq ∧ (fun w' => True) W)
    intro hst16
    apply cut_nananan (n := 5) (l := #[true, true, true, true, true, true, true, true, true, true, false, false, true, false, false, false]) (R := fun gXn D1 d1 D2 d2 D3 d3 W => Below w.heap.size w W ∧ VB w.heap.size W (gXn) none 0 0 0 ∧ Own W w.heap.size D1 (nw X) d1 X ∧ Own W w.heap.size D2 (nw Y) d2 Y ∧ Own W w.heap.size D3 (nw M) d3 M ∧ (fun w' => True) W)
    intro hst15
    apply cut_nananan (n := 5) (l := #[true, true, true, true, true, true, true, true, true, true, false, true, false, false, false, false]) (R := fun gXq D1 d1 D2 d2 D3 d3 W => Below w.heap.size w W ∧ VB w.heap.size W (gXq) none 0 0 0 ∧ Own W w.heap.size D1 (nw X) d1 X ∧ Own W w.heap.size D2 (nw Y) d2 Y ∧ Own W w.heap.size D3 (nw M) d3 M ∧ (fun w' => True) W)
    intro hst14
    apply cut_nananan (n := 5) (l := #[true, true, true, true, true, true, true, true, true, true, true, false, false, false, false, false]) (R := fun gXp D1 d1 D2 d2 D3 d3 W => Below w.heap.size w W ∧ VB w.heap.size W (gXp) none 0 0 0 ∧ Own W w.heap.size D1 (nw X) d1 X ∧ Own W w.heap.size D2 (nw Y) d2 Y ∧ Own W w.heap.size D3 (nw M) d3 M ∧ (fun w' => True) W)
    intro hst13
    apply cut_nnn (n := 6) (l := #[true, true, true, false, true, true, true, false, true, false, true, true, true, false, false, false]) (R := fun gXp gXq gXn W => Below w.heap.size w W ∧ VB w.heap.size W (gXp) none 0 0 0 ∧ VB w.heap.size W (gXq) none 0 0 0 ∧ VB w.heap.size W (gXn) none 0 0 0 ∧ gXp ≠ gXq ∧ gXp ≠ gXn ∧ gXq ≠ gXn ∧ (fun w' => True) W)
    intro hst12
    apply cut_nnan (n := 6) (l := #[true, true, true, true, true, true, true, false, true, false, false, true, true, false, false, false]) (R := fun gXq gXn D1 d1 W => Below w.heap.size w W ∧ VB w.heap.size W (gXq) none 0 0 0 ∧ VB w.heap.size W (gXn) none 0 0 0 ∧ Own W w.heap.size D1 (nw X) d1 X ∧ gXq ≠ gXn ∧ (fun w' => True) W)
    intro hst11
    apply cut_nnan (n := 6) (l := #[true, true, true, true, true, true, true, false, true, false, true, false, true, false, false, false]) (R := fun gXp gXn D1 d1 W => Below w.heap.size w W ∧ VB w.heap.size W (gXp) none 0 0 0 ∧ VB w.heap.size W (gXn) none 0 0 0 ∧ Own W w.heap.size D1 (nw X) d1 X ∧ gXp ≠ gXn ∧ (fun w' => True) W)
    intro hst10
    apply cut_nnan (n := 6) (l := #[true, true, true, true, true, true, true, false, true, false, true, true, false, false, false, false]) (R := fun gXp gXq D1 d1 W => Below w.heap.size w W ∧ VB w.heap.size W (gXp) none 0 0 0 ∧ VB w.heap.size W (gXq) none 0 0 0 ∧ Own W w.heap.size D1 (nw X) d1 X ∧ gXp ≠ gXq ∧ (fun w' => True) W)
    intro hst9
    apply cut_nanan (n := 6) (l := #[true, true, true, true, true, true, true, true, true, false, false, false, true, false, false, false]) (R := fun gXn D1 d1 D2 d2 W => Below w.heap.size w W ∧ VB w.heap.size W (gXn) none 0 0 0 ∧ Own W w.heap.size D1 (nw X) d1 X ∧ Own W w.heap.size D2 (nw Y) d2 Y ∧ (fun w' => True) W)
    intro hst8
    apply cut_nanan (n := 6) (l := #[true, true, true, true, true, true, true, true, true, false, false, true, false, false, false, false]) (R := fun gXq D1 d1 D2 d2 W => Below w.heap.size w W ∧ VB w.heap.size W (gXq) none 0 0 0 ∧ Own W w.heap.size D1 (nw X) d1 X ∧ Own W w.heap.size D2 (nw Y) d2 Y ∧ (fun w' => True) W)
    intro hst7
    apply cut_nanan (n := 6) (l := #[true, true, true, true, true, true, true, true, true, false, true, false, false, false, false, false]) (R := fun gXp D1 d1 D2 d2 W => Below w.heap.size w W ∧ VB w.heap.size W (gXp) none 0 0 0 ∧ Own W w.heap.size D1 (nw X) d1 X ∧ Own W w.heap.size D2 (nw Y) d2 Y ∧ (fun w' => True) W)
    intro hst6
    apply cut_nn (n := 7) (l := #[true, true, true, false, true, true, true, false, true, false, false, true, true, false, false, false]) (R := fun gXq gXn W => Below w.heap.size w W ∧ VB w.heap.size W (gXq) none 0 0 0 ∧ VB w.heap.size W (gXn) none 0 0 0 ∧ gXq ≠ gXn ∧ (fun w' => True) W)
    intro hst5
    apply cut_nn (n := 7) (l := #[true, true, true, false, true, true, true, false, true, false, true, false, true, false, false, false]) (R := fun gXp gXn W => Below w.heap.size w W ∧ VB w.heap.size W (gXp) none 0 0 0 ∧ VB w.heap.size W (gXn) none 0 0 0 ∧ gXp ≠ gXn ∧ (fun w' => True) W)
    intro hst4
    apply cut_nn (n := 7) (l := #[true, true, true, false, true, true, true, false, true, false, true, true, false, false, false, false]) (R := fun gXp gXq W => Below w.heap.size w W ∧ VB w.heap.size W (gXp) none 0 0 0 ∧ VB w.heap.size W (gXq) none 0 0 0 ∧ gXp ≠ gXq ∧ (fun w' => True) W)
    intro hst3
    apply cut_nan (n := 7) (l := #[true, true, true, true, true, true, true, false, true, false, false, false, true, false, false, false]) (R := fun gXn D1 d1 W => Below w.heap.size w W ∧ VB w.heap.size W (gXn) none 0 0 0 ∧ Own W w.heap.size D1 (nw X) d1 X ∧ (fun w' => True) W)
    intro hst2
    apply cut_nan (n := 7) (l := #[true, true, true, true, true, true, true, false, true, false, false, true, false, false, false, false]) (R := fun gXq D1 d1 W => Below w.heap.size w W ∧ VB w.heap.size W (gXq) none 0 0 0 ∧ Own W w.heap.size D1 (nw X) d1 X ∧ (fun w' => True) W)
    intro hst1
    apply cut_nan (n := 7) (l := #[true, true, true, true, true, true, true, false, true, false, true, false, false, false, false, false]) (R := fun gXp D1 d1 W => Below w.heap.size w W ∧ VB w.heap.size W (gXp) none 0 0 0 ∧ Own W w.heap.size D1 (nw X) d1 X ∧ (fun w' => True) W)
    intro hst0
    · refine AnyL_name (fun W' => Below w.heap.size w W' ∧ (fun w' => True) W') ⟨WW, hHeld⟩ ?_
      rintro Z3 ⟨WW, hHeld⟩
      refine AnyL_take (i := 0) (oi := oq11_4_0) (v := ?_) rfl (by kernel_rfl) (by kernel_rfl) (by kernel_rfl) (by kernel_rfl) (fun _ _ _ h => h) (Or.inl ⟨by rfl, ?_⟩) (by assumption) ?_
      rotate_left
      · (delta oq11_4_0; intro ws hSw; (try dsimp only at hSw); (try go_simp); (try with_reducible rfl))
      (try simp only [oq11_4_0, Act.put, List.setIfInBounds_toArray, List.set_cons_zero, List.set_cons_succ])
      refine AnyL_take (i := 1) (oi := oq11_4_1) (v := ?_) rfl (by kernel_rfl) (by kernel_rfl) (by kernel_rfl) (by kernel_rfl) (fun _ _ _ h => h) (Or.inl ⟨by rfl, ?_⟩) (by assumption) ?_
      rotate_left
      · (delta oq11_4_1; intro ws hSw; (try dsimp only at hSw); (try go_simp); (try with_reducible rfl))
      (try simp only [oq11_4_1, Act.put, List.setIfInBounds_toArray, List.set_cons_zero, List.set_cons_succ])
      refine AnyL_take (i := 2) (oi := oq11_4_2) (v := ?_) rfl (by kernel_rfl) (by kernel_rfl) (by kernel_rfl) (by kernel_rfl) (fun _ _ _ h => h) (Or.inl ⟨by rfl, ?_⟩) (by assumption) ?_
      rotate_left
      · (delta oq11_4_2; intro ws hSw; (try dsimp only at hSw); (try go_simp); (try with_reducible rfl))
      (try simp only [oq11_4_2, Act.put, List.setIfInBounds_toArray, List.set_cons_zero, List.set_cons_succ])
      refine AnyL_take (i := 4) (oi := oq11_4_4) (v := ?_) rfl (by kernel_rfl) (by kernel_rfl) (by kernel_rfl) (by kernel_rfl) (fun _ _ _ h => h) (Or.inl ⟨by rfl, ?_⟩) (by assumption) ?_
      rotate_left
      · (delta oq11_4_4; intro ws hSw; (try dsimp only at hSw); (try go_simp); (try with_reducible rfl))
      (try simp only [oq11_4_4, Act.put, List.setIfInBounds_toArray, List.set_cons_zero, List.set_cons_succ])
      refine AnyL_take (i := 5) (oi := oq11_4_5) (v := ?_) rfl (by kernel_rfl) (by kernel_rfl) (by kernel_rfl) (by kernel_rfl) (fun _ _ _ h => h) (Or.inl ⟨by rfl, ?_⟩) (by assumption) ?_
      rotate_left
      · (delta oq11_4_5; intro ws hSw; (try dsimp only at hSw); (try go_simp); (try with_reducible rfl))
      (try simp only [oq11_4_5, Act.put, List.setIfInBounds_toArray, List.set_cons_zero, List.set_cons_succ])
      refine AnyL_take (i := 6) (oi := oq11_4_6) (v := ?_) rfl (by kernel_rfl) (by kernel_rfl) (by kernel_rfl) (by kernel_rfl) (fun _ _ _ h => h) (Or.inl ⟨by rfl, ?_⟩) (by assumption) ?_
      rotate_left
      · (delta oq11_4_6; intro ws hSw; (try dsimp only at hSw); (try go_simp); (try with_reducible rfl))
      (try simp only [oq11_4_6, Act.put, List.setIfInBounds_toArray, List.set_cons_zero, List.set_cons_succ])
      refine AnyL_take (i := 8) (oi := oq11_4_8) (v := ?_) rfl (by kernel_rfl) (by kernel_rfl) (by kernel_rfl) (by kernel_rfl) (fun _ _ _ h => h) (Or.inl ⟨by rfl, ?_⟩) (by assumption) ?_
      rotate_left
      · (delta oq11_4_8; intro ws hSw; (try dsimp only at hSw); (try go_simp); (try with_reducible rfl))
      (try simp only [oq11_4_8, Act.put, List.setIfInBounds_toArray, List.set_cons_zero, List.set_cons_succ])
      refine AnyL_ready (rs := [3, 10, 11, 12]) (by kernel_rfl) (by simp) ?_
      refine ReadyL.cons (o := oq11_4_3) rfl (fun K hK => ?_) ?_
      · delta oq11_4_3
        go_simp
        have hbs : w.heap.size ≤ Z3.heap.size := WW.size
        have hc := of3_z X x Z3 BX.out eX.out
        refine hc.mono ?_
        clear hc
        rintro e V4 ⟨v, rfl, hv, hb⟩
        replace WW := WW.trans (hb.mono WW.size)
        have sz4 := hb.size
        obtain ⟨D1, d1, rfl, ho⟩ := hv
        have O1 := ho.weak (b := w.heap.size) hbs
        clear ho
        clear hb hbs
        refine hK.out _ _ (trivial) (fun hHeld2 => ?_)
        clear hK K hHeld
        have hHeld := hHeld2
        clear hHeld2
        (try simp only [oq11_4_3, Act.put, List.setIfInBounds_toArray, List.set_cons_zero, List.set_cons_succ])
        refine AnyL_ready (rs := [7, 10, 11, 12]) (by kernel_rfl) (by simp) ?_
        refine ReadyL.cons (o := oq11_4_7) rfl (fun K hK => ?_) ?_
        · delta oq11_4_7
          go_simp
          have hbs : w.heap.size ≤ V4.heap.size := WW.size
          have hc := of3_z Y y V4 BY.out eY.out
          refine hc.mono ?_
          clear hc
          rintro e V5 ⟨v, rfl, hv, hb⟩
          replace O1 := O1.below hb (Nat.le_refl _)
          replace WW := WW.trans (hb.mono WW.size)
          have sz5 := hb.size
          obtain ⟨D2, d2, rfl, ho⟩ := hv
          have O2 := ho.weak (b := w.heap.size) hbs
          clear ho
          clear hb hbs
          refine hK.out _ _ (trivial) (fun hHeld2 => ?_)
          clear hK K hHeld
          have hHeld := hHeld2
          clear hHeld2
          (try simp only [oq11_4_7, Act.put, List.setIfInBounds_toArray, List.set_cons_zero, List.set_cons_succ])
          refine AnyL_ready (rs := [9, 10, 11, 12]) (by kernel_rfl) (by simp) ?_
          refine ReadyL.cons (o := oq11_4_9) rfl (fun K hK => ?_) ?_
          · delta oq11_4_9
            go_simp
            have hbs : w.heap.size ≤ V5.heap.size := WW.size
            have hc := of3_z M m V5 BM.out eM.out
            refine hc.mono ?_
            clear hc
            rintro e V6 ⟨v, rfl, hv, hb⟩
            replace O1 := O1.below hb (Nat.le_refl _)
            replace O2 := O2.below hb (Nat.le_refl _)
            replace WW := WW.trans (hb.mono WW.size)
            have sz6 := hb.size
            obtain ⟨D3, d3, rfl, ho⟩ := hv
            have O3 := ho.weak (b := w.heap.size) hbs
            clear ho
            clear hb hbs
            refine hK.out _ _ (trivial) (fun hHeld2 => ?_)
            clear hK K hHeld
            have hHeld := hHeld2
            clear hHeld2
            (try simp only [oq11_4_9, Act.put, List.setIfInBounds_toArray, List.set_cons_zero, List.set_cons_succ])
            refine AnyL_ready (rs := [10, 11, 12]) (by kernel_rfl) (by simp) ?_
            refine ReadyL.cons (o := oq11_4_10) rfl (fun K hK => ?_) ?_
            · delta oq11_4_10
              go_simp
              have ba := (Below.refl V6.heap.size V6).alloc (Nat.le_refl _) (.cells #[.slice none 0 0] 24)
              replace O1 := O1.below ba (Nat.le_refl _)
              replace O2 := O2.below ba (Nat.le_refl _)
              replace O3 := O3.below ba (Nat.le_refl _)
              have bn := Blk.new V6 24 #[.slice none 0 0]
              have Xp := VB.mk (B := w.heap.size) (a := 0) bn (.inr (Own.nil _ _ _ _ (Nat.zero_le _))) ba WW.size WW.size
              replace WW := WW.trans (ba.mono WW.size)
              have sz7 : V6.heap.size < (V6.alloc (.cells #[.slice none 0 0] 24)).heap.size := bn.lt
              refine hK.out _ _ (trivial) (fun hHeld2 => ?_)
              clear hK K hHeld
              (try simp only [oq11_4_10, Act.put, List.setIfInBounds_toArray, List.set_cons_zero, List.set_cons_succ])
              generalize hV : V6.alloc (.cells #[.slice none 0 0] 24) = V7 at hHeld2 sz7 WW Xp O1 O2 O3 ⊢
              clear hV ba bn
              have hHeld := hHeld2
              clear hHeld2
              obtain ⟨gXp, hg⟩ : ∃ x, x = V6.heap.size := ⟨_, rfl⟩
              rw [← hg] at Xp sz7 ⊢
              clear hg 
              exact hst13 gXp D1 d1 D2 d2 D3 d3 V7 ⟨WW, Xp, O1, O2, O3, hHeld⟩
            refine ReadyL.cons (o := oq11_4_11) rfl (fun K hK => ?_) ?_
            · delta oq11_4_11
              go_simp
              have ba := (Below.refl V6.heap.size V6).alloc (Nat.le_refl _) (.cells #[.slice none 0 0] 24)
              replace O1 := O1.below ba (Nat.le_refl _)
              replace O2 := O2.below ba (Nat.le_refl _)
              replace O3 := O3.below ba (Nat.le_refl _)
              have bn := Blk.new V6 24 #[.slice none 0 0]
              have Xq := VB.mk (B := w.heap.size) (a := 0) bn (.inr (Own.nil _ _ _ _ (Nat.zero_le _))) ba WW.size WW.size
              replace WW := WW.trans (ba.mono WW.size)
              have sz7 : V6.heap.size < (V6.alloc (.cells #[.slice none 0 0] 24)).heap.size := bn.lt
              refine hK.out _ _ (trivial) (fun hHeld2 => ?_)
              clear hK K hHeld
              (try simp only [oq11_4_11, Act.put, List.setIfInBounds_toArray, List.set_cons_zero, List.set_cons_succ])
              generalize hV : V6.alloc (.cells #[.slice none 0 0] 24) = V7 at hHeld2 sz7 WW Xq O1 O2 O3 ⊢
              clear hV ba bn
              have hHeld := hHeld2
              clear hHeld2
              obtain ⟨gXq, hg⟩ : ∃ x, x = V6.heap.size := ⟨_, rfl⟩
              rw [← hg] at Xq sz7 ⊢
              clear hg 
              exact hst14 gXq D1 d1 D2 d2 D3 d3 V7 ⟨WW, Xq, O1, O2, O3, hHeld⟩
            refine ReadyL.cons (o := oq11_4_12) rfl (fun K hK => ?_) ReadyL.nil
            · delta oq11_4_12
              go_simp
              have ba := (Below.refl V6.heap.size V6).alloc (Nat.le_refl _) (.cells #[.slice none 0 0] 24)
              replace O1 := O1.below ba (Nat.le_refl _)
              replace O2 := O2.below ba (Nat.le_refl _)
              replace O3 := O3.below ba (Nat.le_refl _)
              have bn := Blk.new V6 24 #[.slice none 0 0]
              have Xn := VB.mk (B := w.heap.size) (a := 0) bn (.inr (Own.nil _ _ _ _ (Nat.zero_le _))) ba WW.size WW.size
              replace WW := WW.trans (ba.mono WW.size)
              have sz7 : V6.heap.size < (V6.alloc (.cells #[.slice none 0 0] 24)).heap.size := bn.lt
              refine hK.out _ _ (trivial) (fun hHeld2 => ?_)
              clear hK K hHeld
              (try simp only [oq11_4_12, Act.put, List.setIfInBounds_toArray, List.set_cons_zero, List.set_cons_succ])
              generalize hV : V6.alloc (.cells #[.slice none 0 0] 24) = V7 at hHeld2 sz7 WW Xn O1 O2 O3 ⊢
              clear hV ba bn
              have hHeld := hHeld2
              clear hHeld2
              obtain ⟨gXn, hg⟩ : ∃ x, x = V6.heap.size := ⟨_, rfl⟩
              rw [← hg] at Xn sz7 ⊢
              clear hg 
              exact hst15 gXn D1 d1 D2 d2 D3 d3 V7 ⟨WW, Xn, O1, O2, O3, hHeld⟩
          refine ReadyL.cons (o := oq11_4_10) rfl (fun K hK => ?_) ?_
          · delta oq11_4_10
            go_simp
            have ba := (Below.refl V5.heap.size V5).alloc (Nat.le_refl _) (.cells #[.slice none 0 0] 24)
            replace O1 := O1.below ba (Nat.le_refl _)
            replace O2 := O2.below ba (Nat.le_refl _)
            have bn := Blk.new V5 24 #[.slice none 0 0]
            have Xp := VB.mk (B := w.heap.size) (a := 0) bn (.inr (Own.nil _ _ _ _ (Nat.zero_le _))) ba WW.size WW.size
            replace WW := WW.trans (ba.mono WW.size)
            have sz6 : V5.heap.size < (V5.alloc (.cells #[.slice none 0 0] 24)).heap.size := bn.lt
            refine hK.out _ _ (trivial) (fun hHeld2 => ?_)
            clear hK K hHeld
            (try simp only [oq11_4_10, Act.put, List.setIfInBounds_toArray, List.set_cons_zero, List.set_cons_succ])
            generalize hV : V5.alloc (.cells #[.slice none 0 0] 24) = V6 at hHeld2 sz6 WW Xp O1 O2 ⊢
            clear hV ba bn
            have hHeld := hHeld2
            clear hHeld2
            obtain ⟨gXp, hg⟩ : ∃ x, x = V5.heap.size := ⟨_, rfl⟩
            rw [← hg] at Xp sz6 ⊢
            clear hg 
            exact hst6 gXp D1 d1 D2 d2 V6 ⟨WW, Xp, O1, O2, hHeld⟩
          refine ReadyL.cons (o := oq11_4_11) rfl (fun K hK => ?_) ?_
          · delta oq11_4_11
            go_simp
            have ba := (Below.refl V5.heap.size V5).alloc (Nat.le_refl _) (.cells #[.slice none 0 0] 24)
            replace O1 := O1.below ba (Nat.le_refl _)
            replace O2 := O2.below ba (Nat.le_refl _)
            have bn := Blk.new V5 24 #[.slice none 0 0]
            have Xq := VB.mk (B := w.heap.size) (a := 0) bn (.inr (Own.nil _ _ _ _ (Nat.zero_le _))) ba WW.size WW.size
            replace WW := WW.trans (ba.mono WW.size)
            have sz6 : V5.heap.size < (V5.alloc (.cells #[.slice none 0 0] 24)).heap.size := bn.lt
            refine hK.out _ _ (trivial) (fun hHeld2 => ?_)
            clear hK K hHeld
            (try simp only [oq11_4_11, Act.put, List.setIfInBounds_toArray, List.set_cons_zero, List.set_cons_succ])
            generalize hV : V5.alloc (.cells #[.slice none 0 0] 24) = V6 at hHeld2 sz6 WW Xq O1 O2 ⊢
            clear hV ba bn
            have hHeld := hHeld2
            clear hHeld2
            obtain ⟨gXq, hg⟩ : ∃ x, x = V5.heap.size := ⟨_, rfl⟩
            rw [← hg] at Xq sz6 ⊢
            clear hg 
            exact hst7 gXq D1 d1 D2 d2 V6 ⟨WW, Xq, O1, O2, hHeld⟩
          refine ReadyL.cons (o := oq11_4_12) rfl (fun K hK => ?_) ReadyL.nil
          · delta oq11_4_12
            go_simp
            have ba := (Below.refl V5.heap.size V5).alloc (Nat.le_refl _) (.cells #[.slice none 0 0] 24)
            replace O1 := O1.below ba (Nat.le_refl _)
            replace O2 := O2.below ba (Nat.le_refl _)
            have bn := Blk.new V5 24 #[.slice none 0 0]
            have Xn := VB.mk (B := w.heap.size) (a := 0) bn (.inr (Own.nil _ _ _ _ (Nat.zero_le _))) ba WW.size WW.size
            replace WW := WW.trans (ba.mono WW.size)
            have sz6 : V5.heap.size < (V5.alloc (.cells #[.slice none 0 0] 24)).heap.size := bn.lt
            refine hK.out _ _ (trivial) (fun hHeld2 => ?_)
            clear hK K hHeld
            (try simp only [oq11_4_12, Act.put, List.setIfInBounds_toArray, List.set_cons_zero, List.set_cons_succ])
            generalize hV : V5.alloc (.cells #[.slice none 0 0] 24) = V6 at hHeld2 sz6 WW Xn O1 O2 ⊢
            clear hV ba bn
            have hHeld := hHeld2
            clear hHeld2
            obtain ⟨gXn, hg⟩ : ∃ x, x = V5.heap.size := ⟨_, rfl⟩
            rw [← hg] at Xn sz6 ⊢
            clear hg 
            exact hst8 gXn D1 d1 D2 d2 V6 ⟨WW, Xn, O1, O2, hHeld⟩
        refine ReadyL.cons (o := oq11_4_10) rfl (fun K hK => ?_) ?_
        · delta oq11_4_10
          go_simp
          have ba := (Below.refl V4.heap.size V4).alloc (Nat.le_refl _) (.cells #[.slice none 0 0] 24)
          replace O1 := O1.below ba (Nat.le_refl _)
          have bn := Blk.new V4 24 #[.slice none 0 0]
          have Xp := VB.mk (B := w.heap.size) (a := 0) bn (.inr (Own.nil _ _ _ _ (Nat.zero_le _))) ba WW.size WW.size
          replace WW := WW.trans (ba.mono WW.size)
          have sz5 : V4.heap.size < (V4.alloc (.cells #[.slice none 0 0] 24)).heap.size := bn.lt
          refine hK.out _ _ (trivial) (fun hHeld2 => ?_)
          clear hK K hHeld
          (try simp only [oq11_4_10, Act.put, List.setIfInBounds_toArray, List.set_cons_zero, List.set_cons_succ])
          generalize hV : V4.alloc (.cells #[.slice none 0 0] 24) = V5 at hHeld2 sz5 WW Xp O1 ⊢
          clear hV ba bn
          have hHeld := hHeld2
          clear hHeld2
          obtain ⟨gXp, hg⟩ : ∃ x, x = V4.heap.size := ⟨_, rfl⟩
          rw [← hg] at Xp sz5 ⊢
          clear hg 
          exact hst0 gXp D1 d1 V5 ⟨WW, Xp, O1, hHeld⟩
        refine ReadyL.cons (o := oq11_4_11) rfl (fun K hK => ?_) ?_
        · delta oq11_4_11
          go_simp
          have ba := (Below.refl V4.heap.size V4).alloc (Nat.le_refl _) (.cells #[.slice none 0 0] 24)
          replace O1 := O1.below ba (Nat.le_refl _)
          have bn := Blk.new V4 24 #[.slice none 0 0]
          have Xq := VB.mk (B := w.heap.size) (a := 0) bn (.inr (Own.nil _ _ _ _ (Nat.zero_le _))) ba WW.size WW.size
          replace WW := WW.trans (ba.mono WW.size)
          have sz5 : V4.heap.size < (V4.alloc (.cells #[.slice none 0 0] 24)).heap.size := bn.lt
          refine hK.out _ _ (trivial) (fun hHeld2 => ?_)
          clear hK K hHeld
          (try simp only [oq11_4_11, Act.put, List.setIfInBounds_toArray, List.set_cons_zero, List.set_cons_succ])
          generalize hV : V4.alloc (.cells #[.slice none 0 0] 24) = V5 at hHeld2 sz5 WW Xq O1 ⊢
          clear hV ba bn
          have hHeld := hHeld2
          clear hHeld2
          obtain ⟨gXq, hg⟩ : ∃ x, x = V4.heap.size := ⟨_, rfl⟩
          rw [← hg] at Xq sz5 ⊢
          clear hg 
          exact hst1 gXq D1 d1 V5 ⟨WW, Xq, O1, hHeld⟩
        refine ReadyL.cons (o := oq11_4_12) rfl (fun K hK => ?_) ReadyL.nil
        · delta oq11_4_12
          go_simp
          have ba := (Below.refl V4.heap.size V4).alloc (Nat.le_refl _) (.cells #[.slice none 0 0] 24)
          replace O1 := O1.below ba (Nat.le_refl _)
          have bn := Blk.new V4 24 #[.slice none 0 0]
          have Xn := VB.mk (B := w.heap.size) (a := 0) bn (.inr (Own.nil _ _ _ _ (Nat.zero_le _))) ba WW.size WW.size
          replace WW := WW.trans (ba.mono WW.size)
          have sz5 : V4.heap.size < (V4.alloc (.cells #[.slice none 0 0] 24)).heap.size := bn.lt
          refine hK.out _ _ (trivial) (fun hHeld2 => ?_)
          clear hK K hHeld
          (try simp only [oq11_4_12, Act.put, List.setIfInBounds_toArray, List.set_cons_zero, List.set_cons_succ])
          generalize hV : V4.alloc (.cells #[.slice none 0 0] 24) = V5 at hHeld2 sz5 WW Xn O1 ⊢
          clear hV ba bn
          have hHeld := hHeld2
          clear hHeld2
          obtain ⟨gXn, hg⟩ : ∃ x, x = V4.heap.size := ⟨_, rfl⟩
          rw [← hg] at Xn sz5 ⊢
          clear hg 
          exact hst2 gXn D1 d1 V5 ⟨WW, Xn, O1, hHeld⟩
      refine ReadyL.cons (o := oq11_4_10) rfl (fun K hK => ?_) ?_
      · delta oq11_4_10
        go_simp
        have ba := (Below.refl Z3.heap.size Z3).alloc (Nat.le_refl _) (.cells #[.slice none 0 0] 24)
        have bn := Blk.new Z3 24 #[.slice none 0 0]
        have Xp := VB.mk (B := w.heap.size) (a := 0) bn (.inr (Own.nil _ _ _ _ (Nat.zero_le _))) ba WW.size WW.size
        replace WW := WW.trans (ba.mono WW.size)
        have sz4 : Z3.heap.size < (Z3.alloc (.cells #[.slice none 0 0] 24)).heap.size := bn.lt
        refine hK.out _ _ (trivial) (fun hHeld2 => ?_)
        clear hK K hHeld
        (try simp only [oq11_4_10, Act.put, List.setIfInBounds_toArray, List.set_cons_zero, List.set_cons_succ])
        generalize hV : Z3.alloc (.cells #[.slice none 0 0] 24) = V4 at hHeld2 sz4 WW Xp ⊢
        clear hV ba bn
        have hHeld := hHeld2
        clear hHeld2
        obtain ⟨gXp, hg⟩ : ∃ x, x = Z3.heap.size := ⟨_, rfl⟩
        rw [← hg] at Xp sz4 ⊢
        clear hg 
        refine AnyL_ready (rs := [3, 11, 12]) (by kernel_rfl) (by simp) ?_
        refine ReadyL.cons (o := oq11_4_3) rfl (fun K hK => ?_) ?_
        · delta oq11_4_3
          go_simp
          have hbs : w.heap.size ≤ V4.heap.size := WW.size
          have hc := of3_z X x V4 BX.out eX.out
          refine hc.mono ?_
          clear hc
          rintro e V5 ⟨v, rfl, hv, hb⟩
          replace Xp := Xp.below hb
          replace WW := WW.trans (hb.mono WW.size)
          have sz5 := hb.size
          obtain ⟨D1, d1, rfl, ho⟩ := hv
          have O1 := ho.weak (b := w.heap.size) hbs
          clear ho
          clear hb hbs
          refine hK.out _ _ (trivial) (fun hHeld2 => ?_)
          clear hK K hHeld
          have hHeld := hHeld2
          clear hHeld2
          (try simp only [oq11_4_3, Act.put, List.setIfInBounds_toArray, List.set_cons_zero, List.set_cons_succ])
          exact hst0 gXp D1 d1 V5 ⟨WW, Xp, O1, hHeld⟩
        refine ReadyL.cons (o := oq11_4_11) rfl (fun K hK => ?_) ?_
        · delta oq11_4_11
          have lXp : gXp < V4.heap.size := Xp.lt
          go_simp
          have ba := (Below.refl V4.heap.size V4).alloc (Nat.le_refl _) (.cells #[.slice none 0 0] 24)
          replace Xp := Xp.below ba
          have bn := Blk.new V4 24 #[.slice none 0 0]
          have Xq := VB.mk (B := w.heap.size) (a := 0) bn (.inr (Own.nil _ _ _ _ (Nat.zero_le _))) ba WW.size WW.size
          replace WW := WW.trans (ba.mono WW.size)
          have sz5 : V4.heap.size < (V4.alloc (.cells #[.slice none 0 0] 24)).heap.size := bn.lt
          refine hK.out _ _ (trivial) (fun hHeld2 => ?_)
          clear hK K hHeld
          (try simp only [oq11_4_11, Act.put, List.setIfInBounds_toArray, List.set_cons_zero, List.set_cons_succ])
          generalize hV : V4.alloc (.cells #[.slice none 0 0] 24) = V5 at hHeld2 sz5 WW Xp Xq ⊢
          clear hV ba bn
          have hHeld := hHeld2
          clear hHeld2
          obtain ⟨gXq, hg⟩ : ∃ x, x = V4.heap.size := ⟨_, rfl⟩
          have nXpXq : gXp ≠ gXq := by omega
          rw [← hg] at Xq sz5 ⊢
          clear hg lXp
          exact hst3 gXp gXq V5 ⟨WW, Xp, Xq, (by first | exact nXpXq | omega), hHeld⟩
        refine ReadyL.cons (o := oq11_4_12) rfl (fun K hK => ?_) ReadyL.nil
        · delta oq11_4_12
          have lXp : gXp < V4.heap.size := Xp.lt
          go_simp
          have ba := (Below.refl V4.heap.size V4).alloc (Nat.le_refl _) (.cells #[.slice none 0 0] 24)
          replace Xp := Xp.below ba
          have bn := Blk.new V4 24 #[.slice none 0 0]
          have Xn := VB.mk (B := w.heap.size) (a := 0) bn (.inr (Own.nil _ _ _ _ (Nat.zero_le _))) ba WW.size WW.size
          replace WW := WW.trans (ba.mono WW.size)
          have sz5 : V4.heap.size < (V4.alloc (.cells #[.slice none 0 0] 24)).heap.size := bn.lt
          refine hK.out _ _ (trivial) (fun hHeld2 => ?_)
          clear hK K hHeld
          (try simp only [oq11_4_12, Act.put, List.setIfInBounds_toArray, List.set_cons_zero, List.set_cons_succ])
          generalize hV : V4.alloc (.cells #[.slice none 0 0] 24) = V5 at hHeld2 sz5 WW Xp Xn ⊢
          clear hV ba bn
          have hHeld := hHeld2
          clear hHeld2
          obtain ⟨gXn, hg⟩ : ∃ x, x = V4.heap.size := ⟨_, rfl⟩
          have nXpXn : gXp ≠ gXn := by omega
          rw [← hg] at Xn sz5 ⊢
          clear hg lXp
          exact hst4 gXp gXn V5 ⟨WW, Xp, Xn, (by first | exact nXpXn | omega), hHeld⟩
      refine ReadyL.cons (o := oq11_4_11) rfl (fun K hK => ?_) ?_
      · delta oq11_4_11
        go_simp
        have ba := (Below.refl Z3.heap.size Z3).alloc (Nat.le_refl _) (.cells #[.slice none 0 0] 24)
        have bn := Blk.new Z3 24 #[.slice none 0 0]
        have Xq := VB.mk (B := w.heap.size) (a := 0) bn (.inr (Own.nil _ _ _ _ (Nat.zero_le _))) ba WW.size WW.size
        replace WW := WW.trans (ba.mono WW.size)
        have sz4 : Z3.heap.size < (Z3.alloc (.cells #[.slice none 0 0] 24)).heap.size := bn.lt
        refine hK.out _ _ (trivial) (fun hHeld2 => ?_)
        clear hK K hHeld
        (try simp only [oq11_4_11, Act.put, List.setIfInBounds_toArray, List.set_cons_zero, List.set_cons_succ])
        generalize hV : Z3.alloc (.cells #[.slice none 0 0] 24) = V4 at hHeld2 sz4 WW Xq ⊢
        clear hV ba bn
        have hHeld := hHeld2
        clear hHeld2
        obtain ⟨gXq, hg⟩ : ∃ x, x = Z3.heap.size := ⟨_, rfl⟩
        rw [← hg] at Xq sz4 ⊢
        clear hg 
        refine AnyL_ready (rs := [3, 10, 12]) (by kernel_rfl) (by simp) ?_
        refine ReadyL.cons (o := oq11_4_3) rfl (fun K hK => ?_) ?_
        · delta oq11_4_3
          go_simp
          have hbs : w.heap.size ≤ V4.heap.size := WW.size
          have hc := of3_z X x V4 BX.out eX.out
          refine hc.mono ?_
          clear hc
          rintro e V5 ⟨v, rfl, hv, hb⟩
          replace Xq := Xq.below hb
          replace WW := WW.trans (hb.mono WW.size)
          have sz5 := hb.size
          obtain ⟨D1, d1, rfl, ho⟩ := hv
          have O1 := ho.weak (b := w.heap.size) hbs
          clear ho
          clear hb hbs
          refine hK.out _ _ (trivial) (fun hHeld2 => ?_)
          clear hK K hHeld
          have hHeld := hHeld2
          clear hHeld2
          (try simp only [oq11_4_3, Act.put, List.setIfInBounds_toArray, List.set_cons_zero, List.set_cons_succ])
          exact hst1 gXq D1 d1 V5 ⟨WW, Xq, O1, hHeld⟩
        refine ReadyL.cons (o := oq11_4_10) rfl (fun K hK => ?_) ?_
        · delta oq11_4_10
          have lXq : gXq < V4.heap.size := Xq.lt
          go_simp
          have ba := (Below.refl V4.heap.size V4).alloc (Nat.le_refl _) (.cells #[.slice none 0 0] 24)
          replace Xq := Xq.below ba
          have bn := Blk.new V4 24 #[.slice none 0 0]
          have Xp := VB.mk (B := w.heap.size) (a := 0) bn (.inr (Own.nil _ _ _ _ (Nat.zero_le _))) ba WW.size WW.size
          replace WW := WW.trans (ba.mono WW.size)
          have sz5 : V4.heap.size < (V4.alloc (.cells #[.slice none 0 0] 24)).heap.size := bn.lt
          refine hK.out _ _ (trivial) (fun hHeld2 => ?_)
          clear hK K hHeld
          (try simp only [oq11_4_10, Act.put, List.setIfInBounds_toArray, List.set_cons_zero, List.set_cons_succ])
          generalize hV : V4.alloc (.cells #[.slice none 0 0] 24) = V5 at hHeld2 sz5 WW Xq Xp ⊢
          clear hV ba bn
          have hHeld := hHeld2
          clear hHeld2
          obtain ⟨gXp, hg⟩ : ∃ x, x = V4.heap.size := ⟨_, rfl⟩
          have nXqXp : gXq ≠ gXp := by omega
          rw [← hg] at Xp sz5 ⊢
          clear hg lXq
          exact hst3 gXp gXq V5 ⟨WW, Xp, Xq, (by first | exact nXpXq | omega), hHeld⟩
        refine ReadyL.cons (o := oq11_4_12) rfl (fun K hK => ?_) ReadyL.nil
        · delta oq11_4_12
          have lXq : gXq < V4.heap.size := Xq.lt
          go_simp
          have ba := (Below.refl V4.heap.size V4).alloc (Nat.le_refl _) (.cells #[.slice none 0 0] 24)
          replace Xq := Xq.below ba
          have bn := Blk.new V4 24 #[.slice none 0 0]
          have Xn := VB.mk (B := w.heap.size) (a := 0) bn (.inr (Own.nil _ _ _ _ (Nat.zero_le _))) ba WW.size WW.size
          replace WW := WW.trans (ba.mono WW.size)
          have sz5 : V4.heap.size < (V4.alloc (.cells #[.slice none 0 0] 24)).heap.size := bn.lt
          refine hK.out _ _ (trivial) (fun hHeld2 => ?_)
          clear hK K hHeld
          (try simp only [oq11_4_12, Act.put, List.setIfInBounds_toArray, List.set_cons_zero, List.set_cons_succ])
          generalize hV : V4.alloc (.cells #[.slice none 0 0] 24) = V5 at hHeld2 sz5 WW Xq Xn ⊢
          clear hV ba bn
          have hHeld := hHeld2
          clear hHeld2
          obtain ⟨gXn, hg⟩ : ∃ x, x = V4.heap.size := ⟨_, rfl⟩
          have nXqXn : gXq ≠ gXn := by omega
          rw [← hg] at Xn sz5 ⊢
          clear hg lXq
          exact hst5 gXq gXn V5 ⟨WW, Xq, Xn, (by first | exact nXqXn | omega), hHeld⟩
      refine ReadyL.cons (o := oq11_4_12) rfl (fun K hK => ?_) ReadyL.nil
      · delta oq11_4_12
        go_simp
        have ba := (Below.refl Z3.heap.size Z3).alloc (Nat.le_refl _) (.cells #[.slice none 0 0] 24)
        have bn := Blk.new Z3 24 #[.slice none 0 0]
        have Xn := VB.mk (B := w.heap.size) (a := 0) bn (.inr (Own.nil _ _ _ _ (Nat.zero_le _))) ba WW.size WW.size
        replace WW := WW.trans (ba.mono WW.size)
        have sz4 : Z3.heap.size < (Z3.alloc (.cells #[.slice none 0 0] 24)).heap.size := bn.lt
        refine hK.out _ _ (trivial) (fun hHeld2 => ?_)
        clear hK K hHeld
        (try simp only [oq11_4_12, Act.put, List.setIfInBounds_toArray, List.set_cons_zero, List.set_cons_succ])
        generalize hV : Z3.alloc (.cells #[.slice none 0 0] 24) = V4 at hHeld2 sz4 WW Xn ⊢
        clear hV ba bn
        have hHeld := hHeld2
        clear hHeld2
        obtain ⟨gXn, hg⟩ : ∃ x, x = Z3.heap.size := ⟨_, rfl⟩
        rw [← hg] at Xn sz4 ⊢
        clear hg 
        refine AnyL_ready (rs := [3, 10, 11]) (by kernel_rfl) (by simp) ?_
        refine ReadyL.cons (o := oq11_4_3) rfl (fun K hK => ?_) ?_
        · delta oq11_4_3
          go_simp
          have hbs : w.heap.size ≤ V4.heap.size := WW.size
          have hc := of3_z X x V4 BX.out eX.out
          refine hc.mono ?_
          clear hc
          rintro e V5 ⟨v, rfl, hv, hb⟩
          replace Xn := Xn.below hb
          replace WW := WW.trans (hb.mono WW.size)
          have sz5 := hb.size
          obtain ⟨D1, d1, rfl, ho⟩ := hv
          have O1 := ho.weak (b := w.heap.size) hbs
          clear ho
          clear hb hbs
          refine hK.out _ _ (trivial) (fun hHeld2 => ?_)
          clear hK K hHeld
          have hHeld := hHeld2
          clear hHeld2
          (try simp only [oq11_4_3, Act.put, List.setIfInBounds_toArray, List.set_cons_zero, List.set_cons_succ])
          exact hst2 gXn D1 d1 V5 ⟨WW, Xn, O1, hHeld⟩
        refine ReadyL.cons (o := oq11_4_10) rfl (fun K hK => ?_) ?_
        · delta oq11_4_10
          have lXn : gXn < V4.heap.size := Xn.lt
          go_simp
          have ba := (Below.refl V4.heap.size V4).alloc (Nat.le_refl _) (.cells #[.slice none 0 0] 24)
          replace Xn := Xn.below ba
          have bn := Blk.new V4 24 #[.slice none 0 0]
          have Xp := VB.mk (B := w.heap.size) (a := 0) bn (.inr (Own.nil _ _ _ _ (Nat.zero_le _))) ba WW.size WW.size
          replace WW := WW.trans (ba.mono WW.size)
          have sz5 : V4.heap.size < (V4.alloc (.cells #[.slice none 0 0] 24)).heap.size := bn.lt
          refine hK.out _ _ (trivial) (fun hHeld2 => ?_)
          clear hK K hHeld
          (try simp only [oq11_4_10, Act.put, List.setIfInBounds_toArray, List.set_cons_zero, List.set_cons_succ])
          generalize hV : V4.alloc (.cells #[.slice none 0 0] 24) = V5 at hHeld2 sz5 WW Xn Xp ⊢
          clear hV ba bn
          have hHeld := hHeld2
          clear hHeld2
          obtain ⟨gXp, hg⟩ : ∃ x, x = V4.heap.size := ⟨_, rfl⟩
          have nXnXp : gXn ≠ gXp := by omega
          rw [← hg] at Xp sz5 ⊢
          clear hg lXn
          exact hst4 gXp gXn V5 ⟨WW, Xp, Xn, (by first | exact nXpXn | omega), hHeld⟩
        refine ReadyL.cons (o := oq11_4_11) rfl (fun K hK => ?_) ReadyL.nil
        · delta oq11_4_11
          have lXn : gXn < V4.heap.size := Xn.lt
          go_simp
          have ba := (Below.refl V4.heap.size V4).alloc (Nat.le_refl _) (.cells #[.slice none 0 0] 24)
          replace Xn := Xn.below ba
          have bn := Blk.new V4 24 #[.slice none 0 0]
          have Xq := VB.mk (B := w.heap.size) (a := 0) bn (.inr (Own.nil _ _ _ _ (Nat.zero_le _))) ba WW.size WW.size
          replace WW := WW.trans (ba.mono WW.size)
          have sz5 : V4.heap.size < (V4.alloc (.cells #[.slice none 0 0] 24)).heap.size := bn.lt
          refine hK.out _ _ (trivial) (fun hHeld2 => ?_)
          clear hK K hHeld
          (try simp only [oq11_4_11, Act.put, List.setIfInBounds_toArray, List.set_cons_zero, List.set_cons_succ])
          generalize hV : V4.alloc (.cells #[.slice none 0 0] 24) = V5 at hHeld2 sz5 WW Xn Xq ⊢
          clear hV ba bn
          have hHeld := hHeld2
          clear hHeld2
          obtain ⟨gXq, hg⟩ : ∃ x, x = V4.heap.size := ⟨_, rfl⟩
          have nXnXq : gXn ≠ gXq := by omega
          rw [← hg] at Xq sz5 ⊢
          clear hg lXn
          exact hst5 gXq gXn V5 ⟨WW, Xq, Xn, (by first | exact nXqXn | omega), hHeld⟩
    case h1.h1.h1.h1.h1.h1.h1.h1.h1.h1.h1.h1.h1.h1.h1.h1.h1.h1.h1.h1.h1.h1.h1.h1.h2 =>
      rintro gXp D1 d1 Y3_25 ⟨WW, Xp, O1, hHeld⟩
      refine AnyL_ready (rs := [7, 11, 12]) (by kernel_rfl) (by simp) ?_
      refine ReadyL.cons (o := oq11_4_7) rfl (fun K hK => ?_) ?_
      · delta oq11_4_7
        go_simp
        have hbs : w.heap.size ≤ Y3_25.heap.size := WW.size
        have hc := of3_z Y y Y3_25 BY.out eY.out
        refine hc.mono ?_
        clear hc
        rintro e V329 ⟨v, rfl, hv, hb⟩
        replace Xp := Xp.below hb
        replace O1 := O1.below hb (Nat.le_refl _)
        replace WW := WW.trans (hb.mono WW.size)
        have sz329 := hb.size
        obtain ⟨D2, d2, rfl, ho⟩ := hv
        have O2 := ho.weak (b := w.heap.size) hbs
        clear ho
        clear hb hbs
        refine hK.out _ _ (trivial) (fun hHeld2 => ?_)
        clear hK K hHeld
        have hHeld := hHeld2
        clear hHeld2
        (try simp only [oq11_4_7, Act.put, List.setIfInBounds_toArray, List.set_cons_zero, List.set_cons_succ])
        exact hst6 gXp D1 d1 D2 d2 V329 ⟨WW, Xp, O1, O2, hHeld⟩
      refine ReadyL.cons (o := oq11_4_11) rfl (fun K hK => ?_) ?_
      · delta oq11_4_11
        have lXp : gXp < Y3_25.heap.size := Xp.lt
        go_simp
        have ba := (Below.refl Y3_25.heap.size Y3_25).alloc (Nat.le_refl _) (.cells #[.slice none 0 0] 24)
        replace Xp := Xp.below ba
        replace O1 := O1.below ba (Nat.le_refl _)
        have bn := Blk.new Y3_25 24 #[.slice none 0 0]
        have Xq := VB.mk (B := w.heap.size) (a := 0) bn (.inr (Own.nil _ _ _ _ (Nat.zero_le _))) ba WW.size WW.size
        replace WW := WW.trans (ba.mono WW.size)
        have sz329 : Y3_25.heap.size < (Y3_25.alloc (.cells #[.slice none 0 0] 24)).heap.size := bn.lt
        refine hK.out _ _ (trivial) (fun hHeld2 => ?_)
        clear hK K hHeld
        (try simp only [oq11_4_11, Act.put, List.setIfInBounds_toArray, List.set_cons_zero, List.set_cons_succ])
        generalize hV : Y3_25.alloc (.cells #[.slice none 0 0] 24) = V329 at hHeld2 sz329 WW Xp Xq O1 ⊢
        clear hV ba bn
        have hHeld := hHeld2
        clear hHeld2
        obtain ⟨gXq, hg⟩ : ∃ x, x = Y3_25.heap.size := ⟨_, rfl⟩
        have nXpXq : gXp ≠ gXq := by omega
        rw [← hg] at Xq sz329 ⊢
        clear hg lXp
        exact hst9 gXp gXq D1 d1 V329 ⟨WW, Xp, Xq, O1, (by first | exact nXpXq | omega), hHeld⟩
      refine ReadyL.cons (o := oq11_4_12) rfl (fun K hK => ?_) ReadyL.nil
      · delta oq11_4_12
        have lXp : gXp < Y3_25.heap.size := Xp.lt
        go_simp
        have ba := (Below.refl Y3_25.heap.size Y3_25).alloc (Nat.le_refl _) (.cells #[.slice none 0 0] 24)
        replace Xp := Xp.below ba
        replace O1 := O1.below ba (Nat.le_refl _)
        have bn := Blk.new Y3_25 24 #[.slice none 0 0]
        have Xn := VB.mk (B := w.heap.size) (a := 0) bn (.inr (Own.nil _ _ _ _ (Nat.zero_le _))) ba WW.size WW.size
        replace WW := WW.trans (ba.mono WW.size)
        have sz329 : Y3_25.heap.size < (Y3_25.alloc (.cells #[.slice none 0 0] 24)).heap.size := bn.lt
        refine hK.out _ _ (trivial) (fun hHeld2 => ?_)
        clear hK K hHeld
        (try simp only [oq11_4_12, Act.put, List.setIfInBounds_toArray, List.set_cons_zero, List.set_cons_succ])
        generalize hV : Y3_25.alloc (.cells #[.slice none 0 0] 24) = V329 at hHeld2 sz329 WW Xp Xn O1 ⊢
        clear hV ba bn
        have hHeld := hHeld2
        clear hHeld2
        obtain ⟨gXn, hg⟩ : ∃ x, x = Y3_25.heap.size := ⟨_, rfl⟩
        have nXpXn : gXp ≠ gXn := by omega
        rw [← hg] at Xn sz329 ⊢
        clear hg lXp
        exact hst10 gXp gXn D1 d1 V329 ⟨WW, Xp, Xn, O1, (by first | exact nXpXn | omega), hHeld⟩
    case h1.h1.h1.h1.h1.h1.h1.h1.h1.h1.h1.h1.h1.h1.h1.h1.h1.h1.h1.h1.h1.h1.h1.h2 =>
      rintro gXq D1 d1 Y3_29 ⟨WW, Xq, O1, hHeld⟩
      refine AnyL_ready (rs := [7, 10, 12]) (by kernel_rfl) (by simp) ?_
      refine ReadyL.cons (o := oq11_4_7) rfl (fun K hK => ?_) ?_
      · delta oq11_4_7
        go_simp
        have hbs : w.heap.size ≤ Y3_29.heap.size := WW.size
        have hc := of3_z Y y Y3_29 BY.out eY.out
        refine hc.mono ?_
        clear hc
        rintro e V333 ⟨v, rfl, hv, hb⟩
        replace Xq := Xq.below hb
        replace O1 := O1.below hb (Nat.le_refl _)
        replace WW := WW.trans (hb.mono WW.size)
        have sz333 := hb.size
        obtain ⟨D2, d2, rfl, ho⟩ := hv
        have O2 := ho.weak (b := w.heap.size) hbs
        clear ho
        clear hb hbs
        refine hK.out _ _ (trivial) (fun hHeld2 => ?_)
        clear hK K hHeld
        have hHeld := hHeld2
        clear hHeld2
        (try simp only [oq11_4_7, Act.put, List.setIfInBounds_toArray, List.set_cons_zero, List.set_cons_succ])
        exact hst7 gXq D1 d1 D2 d2 V333 ⟨WW, Xq, O1, O2, hHeld⟩
      refine ReadyL.cons (o := oq11_4_10) rfl (fun K hK => ?_) ?_
      · delta oq11_4_10
        have lXq : gXq < Y3_29.heap.size := Xq.lt
        go_simp
        have ba := (Below.refl Y3_29.heap.size Y3_29).alloc (Nat.le_refl _) (.cells #[.slice none 0 0] 24)
        replace Xq := Xq.below ba
        replace O1 := O1.below ba (Nat.le_refl _)
        have bn := Blk.new Y3_29 24 #[.slice none 0 0]
        have Xp := VB.mk (B := w.heap.size) (a := 0) bn (.inr (Own.nil _ _ _ _ (Nat.zero_le _))) ba WW.size WW.size
        replace WW := WW.trans (ba.mono WW.size)
        have sz333 : Y3_29.heap.size < (Y3_29.alloc (.cells #[.slice none 0 0] 24)).heap.size := bn.lt
        refine hK.out _ _ (trivial) (fun hHeld2 => ?_)
        clear hK K hHeld
        (try simp only [oq11_4_10, Act.put, List.setIfInBounds_toArray, List.set_cons_zero, List.set_cons_succ])
        generalize hV : Y3_29.alloc (.cells #[.slice none 0 0] 24) = V333 at hHeld2 sz333 WW Xq Xp O1 ⊢
        clear hV ba bn
        have hHeld := hHeld2
        clear hHeld2
        obtain ⟨gXp, hg⟩ : ∃ x, x = Y3_29.heap.size := ⟨_, rfl⟩
        have nXqXp : gXq ≠ gXp := by omega
        rw [← hg] at Xp sz333 ⊢
        clear hg lXq
        exact hst9 gXp gXq D1 d1 V333 ⟨WW, Xp, Xq, O1, (by first | exact nXpXq | omega), hHeld⟩
      refine ReadyL.cons (o := oq11_4_12) rfl (fun K hK => ?_) ReadyL.nil
      · delta oq11_4_12
        have lXq : gXq < Y3_29.heap.size := Xq.lt
        go_simp
        have ba := (Below.refl Y3_29.heap.size Y3_29).alloc (Nat.le_refl _) (.cells #[.slice none 0 0] 24)
        replace Xq := Xq.below ba
        replace O1 := O1.below ba (Nat.le_refl _)
        have bn := Blk.new Y3_29 24 #[.slice none 0 0]
        have Xn := VB.mk (B := w.heap.size) (a := 0) bn (.inr (Own.nil _ _ _ _ (Nat.zero_le _))) ba WW.size WW.size
        replace WW := WW.trans (ba.mono WW.size)
        have sz333 : Y3_29.heap.size < (Y3_29.alloc (.cells #[.slice none 0 0] 24)).heap.size := bn.lt
        refine hK.out _ _ (trivial) (fun hHeld2 => ?_)
        clear hK K hHeld
        (try simp only [oq11_4_12, Act.put, List.setIfInBounds_toArray, List.set_cons_zero, List.set_cons_succ])
        generalize hV : Y3_29.alloc (.cells #[.slice none 0 0] 24) = V333 at hHeld2 sz333 WW Xq Xn O1 ⊢
        clear hV ba bn
        have hHeld := hHeld2
        clear hHeld2
        obtain ⟨gXn, hg⟩ : ∃ x, x = Y3_29.heap.size := ⟨_, rfl⟩
        have nXqXn : gXq ≠ gXn := by omega
        rw [← hg] at Xn sz333 ⊢
        clear hg lXq
        exact hst11 gXq gXn D1 d1 V333 ⟨WW, Xq, Xn, O1, (by first | exact nXqXn | omega), hHeld⟩
    case h1.h1.h1.h1.h1.h1.h1.h1.h1.h1.h1.h1.h1.h1.h1.h1.h1.h1.h1.h1.h1.h1.h2 =>
      rintro gXn D1 d1 Y3_33 ⟨WW, Xn, O1, hHeld⟩
      refine AnyL_ready (rs := [7, 10, 11]) (by kernel_rfl) (by simp) ?_
      refine ReadyL.cons (o := oq11_4_7) rfl (fun K hK => ?_) ?_
      · delta oq11_4_7
        go_simp
        have hbs : w.heap.size ≤ Y3_33.heap.size := WW.size
        have hc := of3_z Y y Y3_33 BY.out eY.out
        refine hc.mono ?_
        clear hc
        rintro e V337 ⟨v, rfl, hv, hb⟩
        replace Xn := Xn.below hb
        replace O1 := O1.below hb (Nat.le_refl _)
        replace WW := WW.trans (hb.mono WW.size)
        have sz337 := hb.size
        obtain ⟨D2, d2, rfl, ho⟩ := hv
        have O2 := ho.weak (b := w.heap.size) hbs
        clear ho
        clear hb hbs
        refine hK.out _ _ (trivial) (fun hHeld2 => ?_)
        clear hK K hHeld
        have hHeld := hHeld2
        clear hHeld2
        (try simp only [oq11_4_7, Act.put, List.setIfInBounds_toArray, List.set_cons_zero, List.set_cons_succ])
        exact hst8 gXn D1 d1 D2 d2 V337 ⟨WW, Xn, O1, O2, hHeld⟩
      refine ReadyL.cons (o := oq11_4_10) rfl (fun K hK => ?_) ?_
      · delta oq11_4_10
        have lXn : gXn < Y3_33.heap.size := Xn.lt
        go_simp
        have ba := (Below.refl Y3_33.heap.size Y3_33).alloc (Nat.le_refl _) (.cells #[.slice none 0 0] 24)
        replace Xn := Xn.below ba
        replace O1 := O1.below ba (Nat.le_refl _)
        have bn := Blk.new Y3_33 24 #[.slice none 0 0]
        have Xp := VB.mk (B := w.heap.size) (a := 0) bn (.inr (Own.nil _ _ _ _ (Nat.zero_le _))) ba WW.size WW.size
        replace WW := WW.trans (ba.mono WW.size)
        have sz337 : Y3_33.heap.size < (Y3_33.alloc (.cells #[.slice none 0 0] 24)).heap.size := bn.lt
        refine hK.out _ _ (trivial) (fun hHeld2 => ?_)
        clear hK K hHeld
        (try simp only [oq11_4_10, Act.put, List.setIfInBounds_toArray, List.set_cons_zero, List.set_cons_succ])
        generalize hV : Y3_33.alloc (.cells #[.slice none 0 0] 24) = V337 at hHeld2 sz337 WW Xn Xp O1 ⊢
        clear hV ba bn
        have hHeld := hHeld2
        clear hHeld2
        obtain ⟨gXp, hg⟩ : ∃ x, x = Y3_33.heap.size := ⟨_, rfl⟩
        have nXnXp : gXn ≠ gXp := by omega
        rw [← hg] at Xp sz337 ⊢
        clear hg lXn
        exact hst10 gXp gXn D1 d1 V337 ⟨WW, Xp, Xn, O1, (by first | exact nXpXn | omega), hHeld⟩
      refine ReadyL.cons (o := oq11_4_11) rfl (fun K hK => ?_) ReadyL.nil
      · delta oq11_4_11
        have lXn : gXn < Y3_33.heap.size := Xn.lt
        go_simp
        have ba := (Below.refl Y3_33.heap.size Y3_33).alloc (Nat.le_refl _) (.cells #[.slice none 0 0] 24)
        replace Xn := Xn.below ba
        replace O1 := O1.below ba (Nat.le_refl _)
        have bn := Blk.new Y3_33 24 #[.slice none 0 0]
        have Xq := VB.mk (B := w.heap.size) (a := 0) bn (.inr (Own.nil _ _ _ _ (Nat.zero_le _))) ba WW.size WW.size
        replace WW := WW.trans (ba.mono WW.size)
        have sz337 : Y3_33.heap.size < (Y3_33.alloc (.cells #[.slice none 0 0] 24)).heap.size := bn.lt
        refine hK.out _ _ (trivial) (fun hHeld2 => ?_)
        clear hK K hHeld
        (try simp only [oq11_4_11, Act.put, List.setIfInBounds_toArray, List.set_cons_zero, List.set_cons_succ])
        generalize hV : Y3_33.alloc (.cells #[.slice none 0 0] 24) = V337 at hHeld2 sz337 WW Xn Xq O1 ⊢
        clear hV ba bn
        have hHeld := hHeld2
        clear hHeld2
        obtain ⟨gXq, hg⟩ : ∃ x, x = Y3_33.heap.size := ⟨_, rfl⟩
        have nXnXq : gXn ≠ gXq := by omega
        rw [← hg] at Xq sz337 ⊢
        clear hg lXn
        exact hst11 gXq gXn D1 d1 V337 ⟨WW, Xq, Xn, O1, (by first | exact nXqXn | omega), hHeld⟩
    case h1.h1.h1.h1.h1.h1.h1.h1.h1.h1.h1.h1.h1.h1.h1.h1.h1.h1.h1.h1.h1.h2 =>
      rintro gXp gXq Y3_37 ⟨WW, Xp, Xq, nXpXq, hHeld⟩
      refine AnyL_ready (rs := [3, 12]) (by kernel_rfl) (by simp) ?_
      refine ReadyL.cons (o := oq11_4_3) rfl (fun K hK => ?_) ?_
      · delta oq11_4_3
        go_simp
        have hbs : w.heap.size ≤ Y3_37.heap.size := WW.size
        have hc := of3_z X x Y3_37 BX.out eX.out
        refine hc.mono ?_
        clear hc
        rintro e V341 ⟨v, rfl, hv, hb⟩
        replace Xp := Xp.below hb
        replace Xq := Xq.below hb
        replace WW := WW.trans (hb.mono WW.size)
        have sz341 := hb.size
        obtain ⟨D1, d1, rfl, ho⟩ := hv
        have O1 := ho.weak (b := w.heap.size) hbs
        clear ho
        clear hb hbs
        refine hK.out _ _ (trivial) (fun hHeld2 => ?_)
        clear hK K hHeld
        have hHeld := hHeld2
        clear hHeld2
        (try simp only [oq11_4_3, Act.put, List.setIfInBounds_toArray, List.set_cons_zero, List.set_cons_succ])
        exact hst9 gXp gXq D1 d1 V341 ⟨WW, Xp, Xq, O1, (by first | exact nXpXq | omega), hHeld⟩
      refine ReadyL.cons (o := oq11_4_12) rfl (fun K hK => ?_) ReadyL.nil
      · delta oq11_4_12
        have lXp : gXp < Y3_37.heap.size := Xp.lt
        have lXq : gXq < Y3_37.heap.size := Xq.lt
        go_simp
        have ba := (Below.refl Y3_37.heap.size Y3_37).alloc (Nat.le_refl _) (.cells #[.slice none 0 0] 24)
        replace Xp := Xp.below ba
        replace Xq := Xq.below ba
        have bn := Blk.new Y3_37 24 #[.slice none 0 0]
        have Xn := VB.mk (B := w.heap.size) (a := 0) bn (.inr (Own.nil _ _ _ _ (Nat.zero_le _))) ba WW.size WW.size
        replace WW := WW.trans (ba.mono WW.size)
        have sz341 : Y3_37.heap.size < (Y3_37.alloc (.cells #[.slice none 0 0] 24)).heap.size := bn.lt
        refine hK.out _ _ (trivial) (fun hHeld2 => ?_)
        clear hK K hHeld
        (try simp only [oq11_4_12, Act.put, List.setIfInBounds_toArray, List.set_cons_zero, List.set_cons_succ])
        generalize hV : Y3_37.alloc (.cells #[.slice none 0 0] 24) = V341 at hHeld2 sz341 WW Xp Xq Xn ⊢
        clear hV ba bn
        have hHeld := hHeld2
        clear hHeld2
        obtain ⟨gXn, hg⟩ : ∃ x, x = Y3_37.heap.size := ⟨_, rfl⟩
        have nXpXn : gXp ≠ gXn := by omega
        have nXqXn : gXq ≠ gXn := by omega
        rw [← hg] at Xn sz341 ⊢
        clear hg lXp lXq
        exact hst12 gXp gXq gXn V341 ⟨WW, Xp, Xq, Xn, (by first | exact nXpXq | omega), (by first | exact nXpXn | omega), (by first | exact nXqXn | omega), hHeld⟩
    case h1.h1.h1.h1.h1.h1.h1.h1.h1.h1.h1.h1.h1.h1.h1.h1.h1.h1.h1.h1.h2 =>
      rintro gXp gXn Y3_40 ⟨WW, Xp, Xn, nXpXn, hHeld⟩
      refine AnyL_ready (rs := [3, 11]) (by kernel_rfl) (by simp) ?_
      refine ReadyL.cons (o := oq11_4_3) rfl (fun K hK => ?_) ?_
      · delta oq11_4_3
        go_simp
        have hbs : w.heap.size ≤ Y3_40.heap.size := WW.size
        have hc := of3_z X x Y3_40 BX.out eX.out
        refine hc.mono ?_
        clear hc
        rintro e V344 ⟨v, rfl, hv, hb⟩
        replace Xp := Xp.below hb
        replace Xn := Xn.below hb
        replace WW := WW.trans (hb.mono WW.size)
        have sz344 := hb.size
        obtain ⟨D1, d1, rfl, ho⟩ := hv
        have O1 := ho.weak (b := w.heap.size) hbs
        clear ho
        clear hb hbs
        refine hK.out _ _ (trivial) (fun hHeld2 => ?_)
        clear hK K hHeld
        have hHeld := hHeld2
        clear hHeld2
        (try simp only [oq11_4_3, Act.put, List.setIfInBounds_toArray, List.set_cons_zero, List.set_cons_succ])
        exact hst10 gXp gXn D1 d1 V344 ⟨WW, Xp, Xn, O1, (by first | exact nXpXn | omega), hHeld⟩
      refine ReadyL.cons (o := oq11_4_11) rfl (fun K hK => ?_) ReadyL.nil
      · delta oq11_4_11
        have lXp : gXp < Y3_40.heap.size := Xp.lt
        have lXn : gXn < Y3_40.heap.size := Xn.lt
        go_simp
        have ba := (Below.refl Y3_40.heap.size Y3_40).alloc (Nat.le_refl _) (.cells #[.slice none 0 0] 24)
        replace Xp := Xp.below ba
        replace Xn := Xn.below ba
        have bn := Blk.new Y3_40 24 #[.slice none 0 0]
        have Xq := VB.mk (B := w.heap.size) (a := 0) bn (.inr (Own.nil _ _ _ _ (Nat.zero_le _))) ba WW.size WW.size
        replace WW := WW.trans (ba.mono WW.size)
        have sz344 : Y3_40.heap.size < (Y3_40.alloc (.cells #[.slice none 0 0] 24)).heap.size := bn.lt
        refine hK.out _ _ (trivial) (fun hHeld2 => ?_)
        clear hK K hHeld
        (try simp only [oq11_4_11, Act.put, List.setIfInBounds_toArray, List.set_cons_zero, List.set_cons_succ])
        generalize hV : Y3_40.alloc (.cells #[.slice none 0 0] 24) = V344 at hHeld2 sz344 WW Xp Xn Xq ⊢
        clear hV ba bn
        have hHeld := hHeld2
        clear hHeld2
        obtain ⟨gXq, hg⟩ : ∃ x, x = Y3_40.heap.size := ⟨_, rfl⟩
        have nXpXq : gXp ≠ gXq := by omega
        have nXnXq : gXn ≠ gXq := by omega
        rw [← hg] at Xq sz344 ⊢
        clear hg lXp lXn
        exact hst12 gXp gXq gXn V344 ⟨WW, Xp, Xq, Xn, (by first | exact nXpXq | omega), (by first | exact nXpXn | omega), (by first | exact nXqXn | omega), hHeld⟩
    case h1.h1.h1.h1.h1.h1.h1.h1.h1.h1.h1.h1.h1.h1.h1.h1.h1.h1.h1.h2 =>
      rintro gXq gXn Y3_43 ⟨WW, Xq, Xn, nXqXn, hHeld⟩
      refine AnyL_ready (rs := [3, 10]) (by kernel_rfl) (by simp) ?_
      refine ReadyL.cons (o := oq11_4_3) rfl (fun K hK => ?_) ?_
      · delta oq11_4_3
        go_simp
        have hbs : w.heap.size ≤ Y3_43.heap.size := WW.size
        have hc := of3_z X x Y3_43 BX.out eX.out
        refine hc.mono ?_
        clear hc
        rintro e V347 ⟨v, rfl, hv, hb⟩
        replace Xq := Xq.below hb
        replace Xn := Xn.below hb
        replace WW := WW.trans (hb.mono WW.size)
        have sz347 := hb.size
        obtain ⟨D1, d1, rfl, ho⟩ := hv
        have O1 := ho.weak (b := w.heap.size) hbs
        clear ho
        clear hb hbs
        refine hK.out _ _ (trivial) (fun hHeld2 => ?_)
        clear hK K hHeld
        have hHeld := hHeld2
        clear hHeld2
        (try simp only [oq11_4_3, Act.put, List.setIfInBounds_toArray, List.set_cons_zero, List.set_cons_succ])
        exact hst11 gXq gXn D1 d1 V347 ⟨WW, Xq, Xn, O1, (by first | exact nXqXn | omega), hHeld⟩
      refine ReadyL.cons (o := oq11_4_10) rfl (fun K hK => ?_) ReadyL.nil
      · delta oq11_4_10
        have lXq : gXq < Y3_43.heap.size := Xq.lt
        have lXn : gXn < Y3_43.heap.size := Xn.lt
        go_simp
        have ba := (Below.refl Y3_43.heap.size Y3_43).alloc (Nat.le_refl _) (.cells #[.slice none 0 0] 24)
        replace Xq := Xq.below ba
        replace Xn := Xn.below ba
        have bn := Blk.new Y3_43 24 #[.slice none 0 0]
        have Xp := VB.mk (B := w.heap.size) (a := 0) bn (.inr (Own.nil _ _ _ _ (Nat.zero_le _))) ba WW.size WW.size
        replace WW := WW.trans (ba.mono WW.size)
        have sz347 : Y3_43.heap.size < (Y3_43.alloc (.cells #[.slice none 0 0] 24)).heap.size := bn.lt
        refine hK.out _ _ (trivial) (fun hHeld2 => ?_)
        clear hK K hHeld
        (try simp only [oq11_4_10, Act.put, List.setIfInBounds_toArray, List.set_cons_zero, List.set_cons_succ])
        generalize hV : Y3_43.alloc (.cells #[.slice none 0 0] 24) = V347 at hHeld2 sz347 WW Xq Xn Xp ⊢
        clear hV ba bn
        have hHeld := hHeld2
        clear hHeld2
        obtain ⟨gXp, hg⟩ : ∃ x, x = Y3_43.heap.size := ⟨_, rfl⟩
        have nXqXp : gXq ≠ gXp := by omega
        have nXnXp : gXn ≠ gXp := by omega
        rw [← hg] at Xp sz347 ⊢
        clear hg lXq lXn
        exact hst12 gXp gXq gXn V347 ⟨WW, Xp, Xq, Xn, (by first | exact nXpXq | omega), (by first | exact nXpXn | omega), (by first | exact nXqXn | omega), hHeld⟩
    case h1.h1.h1.h1.h1.h1.h1.h1.h1.h1.h1.h1.h1.h1.h1.h1.h1.h1.h2 =>
      rintro gXp D1 d1 D2 d2 Y3_46 ⟨WW, Xp, O1, O2, hHeld⟩
      refine AnyL_ready (rs := [9, 11, 12]) (by kernel_rfl) (by simp) ?_
      refine ReadyL.cons (o := oq11_4_9) rfl (fun K hK => ?_) ?_
      · delta oq11_4_9
        go_simp
        have hbs : w.heap.size ≤ Y3_46.heap.size := WW.size
        have hc := of3_z M m Y3_46 BM.out eM.out
        refine hc.mono ?_
        clear hc
        rintro e V350 ⟨v, rfl, hv, hb⟩
        replace Xp := Xp.below hb
        replace O1 := O1.below hb (Nat.le_refl _)
        replace O2 := O2.below hb (Nat.le_refl _)
        replace WW := WW.trans (hb.mono WW.size)
        have sz350 := hb.size
        obtain ⟨D3, d3, rfl, ho⟩ := hv
        have O3 := ho.weak (b := w.heap.size) hbs
        clear ho
        clear hb hbs
        refine hK.out _ _ (trivial) (fun hHeld2 => ?_)
        clear hK K hHeld
        have hHeld := hHeld2
        clear hHeld2
        (try simp only [oq11_4_9, Act.put, List.setIfInBounds_toArray, List.set_cons_zero, List.set_cons_succ])
        exact hst13 gXp D1 d1 D2 d2 D3 d3 V350 ⟨WW, Xp, O1, O2, O3, hHeld⟩
      refine ReadyL.cons (o := oq11_4_11) rfl (fun K hK => ?_) ?_
      · delta oq11_4_11
        have lXp : gXp < Y3_46.heap.size := Xp.lt
        go_simp
        have ba := (Below.refl Y3_46.heap.size Y3_46).alloc (Nat.le_refl _) (.cells #[.slice none 0 0] 24)
        replace Xp := Xp.below ba
        replace O1 := O1.below ba (Nat.le_refl _)
        replace O2 := O2.below ba (Nat.le_refl _)
        have bn := Blk.new Y3_46 24 #[.slice none 0 0]
        have Xq := VB.mk (B := w.heap.size) (a := 0) bn (.inr (Own.nil _ _ _ _ (Nat.zero_le _))) ba WW.size WW.size
        replace WW := WW.trans (ba.mono WW.size)
        have sz350 : Y3_46.heap.size < (Y3_46.alloc (.cells #[.slice none 0 0] 24)).heap.size := bn.lt
        refine hK.out _ _ (trivial) (fun hHeld2 => ?_)
        clear hK K hHeld
        (try simp only [oq11_4_11, Act.put, List.setIfInBounds_toArray, List.set_cons_zero, List.set_cons_succ])
        generalize hV : Y3_46.alloc (.cells #[.slice none 0 0] 24) = V350 at hHeld2 sz350 WW Xp Xq O1 O2 ⊢
        clear hV ba bn
        have hHeld := hHeld2
        clear hHeld2
        obtain ⟨gXq, hg⟩ : ∃ x, x = Y3_46.heap.size := ⟨_, rfl⟩
        have nXpXq : gXp ≠ gXq := by omega
        rw [← hg] at Xq sz350 ⊢
        clear hg lXp
        exact hst16 gXp gXq D1 d1 D2 d2 V350 ⟨WW, Xp, Xq, O1, O2, (by first | exact nXpXq | omega), hHeld⟩
      refine ReadyL.cons (o := oq11_4_12) rfl (fun K hK => ?_) ReadyL.nil
      · delta oq11_4_12
        have lXp : gXp < Y3_46.heap.size := Xp.lt
        go_simp
        have ba := (Below.refl Y3_46.heap.size Y3_46).alloc (Nat.le_refl _) (.cells #[.slice none 0 0] 24)
        replace Xp := Xp.below ba
        replace O1 := O1.below ba (Nat.le_refl _)
        replace O2 := O2.below ba (Nat.le_refl _)
        have bn := Blk.new Y3_46 24 #[.slice none 0 0]
        have Xn := VB.mk (B := w.heap.size) (a := 0) bn (.inr (Own.nil _ _ _ _ (Nat.zero_le _))) ba WW.size WW.size
        replace WW := WW.trans (ba.mono WW.size)
        have sz350 : Y3_46.heap.size < (Y3_46.alloc (.cells #[.slice none 0 0] 24)).heap.size := bn.lt
        refine hK.out _ _ (trivial) (fun hHeld2 => ?_)
        clear hK K hHeld
        (try simp only [oq11_4_12, Act.put, List.setIfInBounds_toArray, List.set_cons_zero, List.set_cons_succ])
        generalize hV : Y3_46.alloc (.cells #[.slice none 0 0] 24) = V350 at hHeld2 sz350 WW Xp Xn O1 O2 ⊢
        clear hV ba bn
        have hHeld := hHeld2
        clear hHeld2
        obtain ⟨gXn, hg⟩ : ∃ x, x = Y3_46.heap.size := ⟨_, rfl⟩
        have nXpXn : gXp ≠ gXn := by omega
        rw [← hg] at Xn sz350 ⊢
        clear hg lXp
        exact hst17 gXp gXn D1 d1 D2 d2 V350 ⟨WW, Xp, Xn, O1, O2, (by first | exact nXpXn | omega), hHeld⟩
    case h1.h1.h1.h1.h1.h1.h1.h1.h1.h1.h1.h1.h1.h1.h1.h1.h1.h2 =>
      rintro gXq D1 d1 D2 d2 Y3_50 ⟨WW, Xq, O1, O2, hHeld⟩
      refine AnyL_ready (rs := [9, 10, 12]) (by kernel_rfl) (by simp) ?_
      refine ReadyL.cons (o := oq11_4_9) rfl (fun K hK => ?_) ?_
      · delta oq11_4_9
        go_simp
        have hbs : w.heap.size ≤ Y3_50.heap.size := WW.size
        have hc := of3_z M m Y3_50 BM.out eM.out
        refine hc.mono ?_
        clear hc
        rintro e V354 ⟨v, rfl, hv, hb⟩
        replace Xq := Xq.below hb
        replace O1 := O1.below hb (Nat.le_refl _)
        replace O2 := O2.below hb (Nat.le_refl _)
        replace WW := WW.trans (hb.mono WW.size)
        have sz354 := hb.size
        obtain ⟨D3, d3, rfl, ho⟩ := hv
        have O3 := ho.weak (b := w.heap.size) hbs
        clear ho
        clear hb hbs
        refine hK.out _ _ (trivial) (fun hHeld2 => ?_)
        clear hK K hHeld
        have hHeld := hHeld2
        clear hHeld2
        (try simp only [oq11_4_9, Act.put, List.setIfInBounds_toArray, List.set_cons_zero, List.set_cons_succ])
        exact hst14 gXq D1 d1 D2 d2 D3 d3 V354 ⟨WW, Xq, O1, O2, O3, hHeld⟩
      refine ReadyL.cons (o := oq11_4_10) rfl (fun K hK => ?_) ?_
      · delta oq11_4_10
        have lXq : gXq < Y3_50.heap.size := Xq.lt
        go_simp
        have ba := (Below.refl Y3_50.heap.size Y3_50).alloc (Nat.le_refl _) (.cells #[.slice none 0 0] 24)
        replace Xq := Xq.below ba
        replace O1 := O1.below ba (Nat.le_refl _)
        replace O2 := O2.below ba (Nat.le_refl _)
        have bn := Blk.new Y3_50 24 #[.slice none 0 0]
        have Xp := VB.mk (B := w.heap.size) (a := 0) bn (.inr (Own.nil _ _ _ _ (Nat.zero_le _))) ba WW.size WW.size
        replace WW := WW.trans (ba.mono WW.size)
        have sz354 : Y3_50.heap.size < (Y3_50.alloc (.cells #[.slice none 0 0] 24)).heap.size := bn.lt
        refine hK.out _ _ (trivial) (fun hHeld2 => ?_)
        clear hK K hHeld
        (try simp only [oq11_4_10, Act.put, List.setIfInBounds_toArray, List.set_cons_zero, List.set_cons_succ])
        generalize hV : Y3_50.alloc (.cells #[.slice none 0 0] 24) = V354 at hHeld2 sz354 WW Xq Xp O1 O2 ⊢
        clear hV ba bn
        have hHeld := hHeld2
        clear hHeld2
        obtain ⟨gXp, hg⟩ : ∃ x, x = Y3_50.heap.size := ⟨_, rfl⟩
        have nXqXp : gXq ≠ gXp := by omega
        rw [← hg] at Xp sz354 ⊢
        clear hg lXq
        exact hst16 gXp gXq D1 d1 D2 d2 V354 ⟨WW, Xp, Xq, O1, O2, (by first | exact nXpXq | omega), hHeld⟩
      refine ReadyL.cons (o := oq11_4_12) rfl (fun K hK => ?_) ReadyL.nil
      · delta oq11_4_12
        have lXq : gXq < Y3_50.heap.size := Xq.lt
        go_simp
        have ba := (Below.refl Y3_50.heap.size Y3_50).alloc (Nat.le_refl _) (.cells #[.slice none 0 0] 24)
        replace Xq := Xq.below ba
        replace O1 := O1.below ba (Nat.le_refl _)
        replace O2 := O2.below ba (Nat.le_refl _)
        have bn := Blk.new Y3_50 24 #[.slice none 0 0]
        have Xn := VB.mk (B := w.heap.size) (a := 0) bn (.inr (Own.nil _ _ _ _ (Nat.zero_le _))) ba WW.size WW.size
        replace WW := WW.trans (ba.mono WW.size)
        have sz354 : Y3_50.heap.size < (Y3_50.alloc (.cells #[.slice none 0 0] 24)).heap.size := bn.lt
        refine hK.out _ _ (trivial) (fun hHeld2 => ?_)
        clear hK K hHeld
        (try simp only [oq11_4_12, Act.put, List.setIfInBounds_toArray, List.set_cons_zero, List.set_cons_succ])
        generalize hV : Y3_50.alloc (.cells #[.slice none 0 0] 24) = V354 at hHeld2 sz354 WW Xq Xn O1 O2 ⊢
        clear hV ba bn
        have hHeld := hHeld2
        clear hHeld2
        obtain ⟨gXn, hg⟩ : ∃ x, x = Y3_50.heap.size := ⟨_, rfl⟩
        have nXqXn : gXq ≠ gXn := by omega
        rw [← hg] at Xn sz354 ⊢
        clear hg lXq
        exact hst18 gXq gXn D1 d1 D2 d2 V354 ⟨WW, Xq, Xn, O1, O2, (by first | exact nXqXn | omega), hHeld⟩
    case h1.h1.h1.h1.h1.h1.h1.h1.h1.h1.h1.h1.h1.h1.h1.h1.h2 =>
      rintro gXn D1 d1 D2 d2 Y3_54 ⟨WW, Xn, O1, O2, hHeld⟩
      refine AnyL_ready (rs := [9, 10, 11]) (by kernel_rfl) (by simp) ?_
      refine ReadyL.cons (o := oq11_4_9) rfl (fun K hK => ?_) ?_
      · delta oq11_4_9
        go_simp
        have hbs : w.heap.size ≤ Y3_54.heap.size := WW.size
        have hc := of3_z M m Y3_54 BM.out eM.out
        refine hc.mono ?_
        clear hc
        rintro e V358 ⟨v, rfl, hv, hb⟩
        replace Xn := Xn.below hb
        replace O1 := O1.below hb (Nat.le_refl _)
        replace O2 := O2.below hb (Nat.le_refl _)
        replace WW := WW.trans (hb.mono WW.size)
        have sz358 := hb.size
        obtain ⟨D3, d3, rfl, ho⟩ := hv
        have O3 := ho.weak (b := w.heap.size) hbs
        clear ho
        clear hb hbs
        refine hK.out _ _ (trivial) (fun hHeld2 => ?_)
        clear hK K hHeld
        have hHeld := hHeld2
        clear hHeld2
        (try simp only [oq11_4_9, Act.put, List.setIfInBounds_toArray, List.set_cons_zero, List.set_cons_succ])
        exact hst15 gXn D1 d1 D2 d2 D3 d3 V358 ⟨WW, Xn, O1, O2, O3, hHeld⟩
      refine ReadyL.cons (o := oq11_4_10) rfl (fun K hK => ?_) ?_
      · delta oq11_4_10
        have lXn : gXn < Y3_54.heap.size := Xn.lt
        go_simp
        have ba := (Below.refl Y3_54.heap.size Y3_54).alloc (Nat.le_refl _) (.cells #[.slice none 0 0] 24)
        replace Xn := Xn.below ba
        replace O1 := O1.below ba (Nat.le_refl _)
        replace O2 := O2.below ba (Nat.le_refl _)
        have bn := Blk.new Y3_54 24 #[.slice none 0 0]
        have Xp := VB.mk (B := w.heap.size) (a := 0) bn (.inr (Own.nil _ _ _ _ (Nat.zero_le _))) ba WW.size WW.size
        replace WW := WW.trans (ba.mono WW.size)
        have sz358 : Y3_54.heap.size < (Y3_54.alloc (.cells #[.slice none 0 0] 24)).heap.size := bn.lt
        refine hK.out _ _ (trivial) (fun hHeld2 => ?_)
        clear hK K hHeld
        (try simp only [oq11_4_10, Act.put, List.setIfInBounds_toArray, List.set_cons_zero, List.set_cons_succ])
        generalize hV : Y3_54.alloc (.cells #[.slice none 0 0] 24) = V358 at hHeld2 sz358 WW Xn Xp O1 O2 ⊢
        clear hV ba bn
        have hHeld := hHeld2
        clear hHeld2
        obtain ⟨gXp, hg⟩ : ∃ x, x = Y3_54.heap.size := ⟨_, rfl⟩
        have nXnXp : gXn ≠ gXp := by omega
        rw [← hg] at Xp sz358 ⊢
        clear hg lXn
        exact hst17 gXp gXn D1 d1 D2 d2 V358 ⟨WW, Xp, Xn, O1, O2, (by first | exact nXpXn | omega), hHeld⟩
      refine ReadyL.cons (o := oq11_4_11) rfl (fun K hK => ?_) ReadyL.nil
      · delta oq11_4_11
        have lXn : gXn < Y3_54.heap.size := Xn.lt
        go_simp
        have ba := (Below.refl Y3_54.heap.size Y3_54).alloc (Nat.le_refl _) (.cells #[.slice none 0 0] 24)
        replace Xn := Xn.below ba
        replace O1 := O1.below ba (Nat.le_refl _)
        replace O2 := O2.below ba (Nat.le_refl _)
        have bn := Blk.new Y3_54 24 #[.slice none 0 0]
        have Xq := VB.mk (B := w.heap.size) (a := 0) bn (.inr (Own.nil _ _ _ _ (Nat.zero_le _))) ba WW.size WW.size
        replace WW := WW.trans (ba.mono WW.size)
        have sz358 : Y3_54.heap.size < (Y3_54.alloc (.cells #[.slice none 0 0] 24)).heap.size := bn.lt
        refine hK.out _ _ (trivial) (fun hHeld2 => ?_)
        clear hK K hHeld
        (try simp only [oq11_4_11, Act.put, List.setIfInBounds_toArray, List.set_cons_zero, List.set_cons_succ])
        generalize hV : Y3_54.alloc (.cells #[.slice none 0 0] 24) = V358 at hHeld2 sz358 WW Xn Xq O1 O2 ⊢
        clear hV ba bn
        have hHeld := hHeld2
        clear hHeld2
        obtain ⟨gXq, hg⟩ : ∃ x, x = Y3_54.heap.size := ⟨_, rfl⟩
        have nXnXq : gXn ≠ gXq := by omega
        rw [← hg] at Xq sz358 ⊢
        clear hg lXn
        exact hst18 gXq gXn D1 d1 D2 d2 V358 ⟨WW, Xq, Xn, O1, O2, (by first | exact nXqXn | omega), hHeld⟩
    case h1.h1.h1.h1.h1.h1.h1.h1.h1.h1.h1.h1.h1.h1.h1.h2 =>
      rintro gXp gXq D1 d1 Y3_58 ⟨WW, Xp, Xq, O1, nXpXq, hHeld⟩
      refine AnyL_ready (rs := [7, 12]) (by kernel_rfl) (by simp) ?_
      refine ReadyL.cons (o := oq11_4_7) rfl (fun K hK => ?_) ?_
      · delta oq11_4_7
        go_simp
        have hbs : w.heap.size ≤ Y3_58.heap.size := WW.size
        have hc := of3_z Y y Y3_58 BY.out eY.out
        refine hc.mono ?_
        clear hc
        rintro e V362 ⟨v, rfl, hv, hb⟩
        replace Xp := Xp.below hb
        replace Xq := Xq.below hb
        replace O1 := O1.below hb (Nat.le_refl _)
        replace WW := WW.trans (hb.mono WW.size)
        have sz362 := hb.size
        obtain ⟨D2, d2, rfl, ho⟩ := hv
        have O2 := ho.weak (b := w.heap.size) hbs
        clear ho
        clear hb hbs
        refine hK.out _ _ (trivial) (fun hHeld2 => ?_)
        clear hK K hHeld
        have hHeld := hHeld2
        clear hHeld2
        (try simp only [oq11_4_7, Act.put, List.setIfInBounds_toArray, List.set_cons_zero, List.set_cons_succ])
        exact hst16 gXp gXq D1 d1 D2 d2 V362 ⟨WW, Xp, Xq, O1, O2, (by first | exact nXpXq | omega), hHeld⟩
      refine ReadyL.cons (o := oq11_4_12) rfl (fun K hK => ?_) ReadyL.nil
      · delta oq11_4_12
        have lXp : gXp < Y3_58.heap.size := Xp.lt
        have lXq : gXq < Y3_58.heap.size := Xq.lt
        go_simp
        have ba := (Below.refl Y3_58.heap.size Y3_58).alloc (Nat.le_refl _) (.cells #[.slice none 0 0] 24)
        replace Xp := Xp.below ba
        replace Xq := Xq.below ba
        replace O1 := O1.below ba (Nat.le_refl _)
        have bn := Blk.new Y3_58 24 #[.slice none 0 0]
        have Xn := VB.mk (B := w.heap.size) (a := 0) bn (.inr (Own.nil _ _ _ _ (Nat.zero_le _))) ba WW.size WW.size
        replace WW := WW.trans (ba.mono WW.size)
        have sz362 : Y3_58.heap.size < (Y3_58.alloc (.cells #[.slice none 0 0] 24)).heap.size := bn.lt
        refine hK.out _ _ (trivial) (fun hHeld2 => ?_)
        clear hK K hHeld
        (try simp only [oq11_4_12, Act.put, List.setIfInBounds_toArray, List.set_cons_zero, List.set_cons_succ])
        generalize hV : Y3_58.alloc (.cells #[.slice none 0 0] 24) = V362 at hHeld2 sz362 WW Xp Xq Xn O1 ⊢
        clear hV ba bn
        have hHeld := hHeld2
        clear hHeld2
        obtain ⟨gXn, hg⟩ : ∃ x, x = Y3_58.heap.size := ⟨_, rfl⟩
        have nXpXn : gXp ≠ gXn := by omega
        have nXqXn : gXq ≠ gXn := by omega
        rw [← hg] at Xn sz362 ⊢
        clear hg lXp lXq
        exact hst19 gXp gXq gXn D1 d1 V362 ⟨WW, Xp, Xq, Xn, O1, (by first | exact nXpXq | omega), (by first | exact nXpXn | omega), (by first | exact nXqXn | omega), hHeld⟩
    case h1.h1.h1.h1.h1.h1.h1.h1.h1.h1.h1.h1.h1.h1.h2 =>
      rintro gXp gXn D1 d1 Y3_61 ⟨WW, Xp, Xn, O1, nXpXn, hHeld⟩
      refine AnyL_ready (rs := [7, 11]) (by kernel_rfl) (by simp) ?_
      refine ReadyL.cons (o := oq11_4_7) rfl (fun K hK => ?_) ?_
      · delta oq11_4_7
        go_simp
        have hbs : w.heap.size ≤ Y3_61.heap.size := WW.size
        have hc := of3_z Y y Y3_61 BY.out eY.out
        refine hc.mono ?_
        clear hc
        rintro e V365 ⟨v, rfl, hv, hb⟩
        replace Xp := Xp.below hb
        replace Xn := Xn.below hb
        replace O1 := O1.below hb (Nat.le_refl _)
        replace WW := WW.trans (hb.mono WW.size)
        have sz365 := hb.size
        obtain ⟨D2, d2, rfl, ho⟩ := hv
        have O2 := ho.weak (b := w.heap.size) hbs
        clear ho
        clear hb hbs
        refine hK.out _ _ (trivial) (fun hHeld2 => ?_)
        clear hK K hHeld
        have hHeld := hHeld2
        clear hHeld2
        (try simp only [oq11_4_7, Act.put, List.setIfInBounds_toArray, List.set_cons_zero, List.set_cons_succ])
        exact hst17 gXp gXn D1 d1 D2 d2 V365 ⟨WW, Xp, Xn, O1, O2, (by first | exact nXpXn | omega), hHeld⟩
      refine ReadyL.cons (o := oq11_4_11) rfl (fun K hK => ?_) ReadyL.nil
      · delta oq11_4_11
        have lXp : gXp < Y3_61.heap.size := Xp.lt
        have lXn : gXn < Y3_61.heap.size := Xn.lt
        go_simp
        have ba := (Below.refl Y3_61.heap.size Y3_61).alloc (Nat.le_refl _) (.cells #[.slice none 0 0] 24)
        replace Xp := Xp.below ba
        replace Xn := Xn.below ba
        replace O1 := O1.below ba (Nat.le_refl _)
        have bn := Blk.new Y3_61 24 #[.slice none 0 0]
        have Xq := VB.mk (B := w.heap.size) (a := 0) bn (.inr (Own.nil _ _ _ _ (Nat.zero_le _))) ba WW.size WW.size
        replace WW := WW.trans (ba.mono WW.size)
        have sz365 : Y3_61.heap.size < (Y3_61.alloc (.cells #[.slice none 0 0] 24)).heap.size := bn.lt
        refine hK.out _ _ (trivial) (fun hHeld2 => ?_)
        clear hK K hHeld
        (try simp only [oq11_4_11, Act.put, List.setIfInBounds_toArray, List.set_cons_zero, List.set_cons_succ])
        generalize hV : Y3_61.alloc (.cells #[.slice none 0 0] 24) = V365 at hHeld2 sz365 WW Xp Xn Xq O1 ⊢
        clear hV ba bn
        have hHeld := hHeld2
        clear hHeld2
        obtain ⟨gXq, hg⟩ : ∃ x, x = Y3_61.heap.size := ⟨_, rfl⟩
        have nXpXq : gXp ≠ gXq := by omega
        have nXnXq : gXn ≠ gXq := by omega
        rw [← hg] at Xq sz365 ⊢
        clear hg lXp lXn
        exact hst19 gXp gXq gXn D1 d1 V365 ⟨WW, Xp, Xq, Xn, O1, (by first | exact nXpXq | omega), (by first | exact nXpXn | omega), (by first | exact nXqXn | omega), hHeld⟩
    case h1.h1.h1.h1.h1.h1.h1.h1.h1.h1.h1.h1.h1.h2 =>
      rintro gXq gXn D1 d1 Y3_64 ⟨WW, Xq, Xn, O1, nXqXn, hHeld⟩
      refine AnyL_ready (rs := [7, 10]) (by kernel_rfl) (by simp) ?_
      refine ReadyL.cons (o := oq11_4_7) rfl (fun K hK => ?_) ?_
      · delta oq11_4_7
        go_simp
        have hbs : w.heap.size ≤ Y3_64.heap.size := WW.size
        have hc := of3_z Y y Y3_64 BY.out eY.out
        refine hc.mono ?_
        clear hc
        rintro e V368 ⟨v, rfl, hv, hb⟩
        replace Xq := Xq.below hb
        replace Xn := Xn.below hb
        replace O1 := O1.below hb (Nat.le_refl _)
        replace WW := WW.trans (hb.mono WW.size)
        have sz368 := hb.size
        obtain ⟨D2, d2, rfl, ho⟩ := hv
        have O2 := ho.weak (b := w.heap.size) hbs
        clear ho
        clear hb hbs
        refine hK.out _ _ (trivial) (fun hHeld2 => ?_)
        clear hK K hHeld
        have hHeld := hHeld2
        clear hHeld2
        (try simp only [oq11_4_7, Act.put, List.setIfInBounds_toArray, List.set_cons_zero, List.set_cons_succ])
        exact hst18 gXq gXn D1 d1 D2 d2 V368 ⟨WW, Xq, Xn, O1, O2, (by first | exact nXqXn | omega), hHeld⟩
      refine ReadyL.cons (o := oq11_4_10) rfl (fun K hK => ?_) ReadyL.nil
      · delta oq11_4_10
        have lXq : gXq < Y3_64.heap.size := Xq.lt
        have lXn : gXn < Y3_64.heap.size := Xn.lt
        go_simp
        have ba := (Below.refl Y3_64.heap.size Y3_64).alloc (Nat.le_refl _) (.cells #[.slice none 0 0] 24)
        replace Xq := Xq.below ba
        replace Xn := Xn.below ba
        replace O1 := O1.below ba (Nat.le_refl _)
        have bn := Blk.new Y3_64 24 #[.slice none 0 0]
        have Xp := VB.mk (B := w.heap.size) (a := 0) bn (.inr (Own.nil _ _ _ _ (Nat.zero_le _))) ba WW.size WW.size
        replace WW := WW.trans (ba.mono WW.size)
        have sz368 : Y3_64.heap.size < (Y3_64.alloc (.cells #[.slice none 0 0] 24)).heap.size := bn.lt
        refine hK.out _ _ (trivial) (fun hHeld2 => ?_)
        clear hK K hHeld
        (try simp only [oq11_4_10, Act.put, List.setIfInBounds_toArray, List.set_cons_zero, List.set_cons_succ])
        generalize hV : Y3_64.alloc (.cells #[.slice none 0 0] 24) = V368 at hHeld2 sz368 WW Xq Xn Xp O1 ⊢
        clear hV ba bn
        have hHeld := hHeld2
        clear hHeld2
        obtain ⟨gXp, hg⟩ : ∃ x, x = Y3_64.heap.size := ⟨_, rfl⟩
        have nXqXp : gXq ≠ gXp := by omega
        have nXnXp : gXn ≠ gXp := by omega
        rw [← hg] at Xp sz368 ⊢
        clear hg lXq lXn
        exact hst19 gXp gXq gXn D1 d1 V368 ⟨WW, Xp, Xq, Xn, O1, (by first | exact nXpXq | omega), (by first | exact nXpXn | omega), (by first | exact nXqXn | omega), hHeld⟩
    case h1.h1.h1.h1.h1.h1.h1.h1.h1.h1.h1.h1.h2 =>
      rintro gXp gXq gXn Y3_67 ⟨WW, Xp, Xq, Xn, nXpXq, nXpXn, nXqXn, hHeld⟩
      refine AnyL_ready (rs := [3]) (by kernel_rfl) (by simp) ?_
      refine ReadyL.cons (o := oq11_4_3) rfl (fun K hK => ?_) ReadyL.nil
      delta oq11_4_3
      go_simp
      have hbs : w.heap.size ≤ Y3_67.heap.size := WW.size
      have hc := of3_z X x Y3_67 BX.out eX.out
      refine hc.mono ?_
      clear hc
      rintro e V371 ⟨v, rfl, hv, hb⟩
      replace Xp := Xp.below hb
      replace Xq := Xq.below hb
      replace Xn := Xn.below hb
      replace WW := WW.trans (hb.mono WW.size)
      have sz371 := hb.size
      obtain ⟨D1, d1, rfl, ho⟩ := hv
      have O1 := ho.weak (b := w.heap.size) hbs
      clear ho
      clear hb hbs
      refine hK.out _ _ (trivial) (fun hHeld2 => ?_)
      clear hK K hHeld
      have hHeld := hHeld2
      clear hHeld2
      (try simp only [oq11_4_3, Act.put, List.setIfInBounds_toArray, List.set_cons_zero, List.set_cons_succ])
      exact hst19 gXp gXq gXn D1 d1 V371 ⟨WW, Xp, Xq, Xn, O1, (by first | exact nXpXq | omega), (by first | exact nXpXn | omega), (by first | exact nXqXn | omega), hHeld⟩
    case h1.h1.h1.h1.h1.h1.h1.h1.h1.h1.h1.h2 =>
      rintro gXp D1 d1 D2 d2 D3 d3 Y3_69 ⟨WW, Xp, O1, O2, O3, hHeld⟩
      refine AnyL_ready (rs := [11, 12]) (by kernel_rfl) (by simp) ?_
      refine ReadyL.cons (o := oq11_4_11) rfl (fun K hK => ?_) ?_
      · delta oq11_4_11
        have lXp : gXp < Y3_69.heap.size := Xp.lt
        go_simp
        have ba := (Below.refl Y3_69.heap.size Y3_69).alloc (Nat.le_refl _) (.cells #[.slice none 0 0] 24)
        replace Xp := Xp.below ba
        replace O1 := O1.below ba (Nat.le_refl _)
        replace O2 := O2.below ba (Nat.le_refl _)
        replace O3 := O3.below ba (Nat.le_refl _)
        have bn := Blk.new Y3_69 24 #[.slice none 0 0]
        have Xq := VB.mk (B := w.heap.size) (a := 0) bn (.inr (Own.nil _ _ _ _ (Nat.zero_le _))) ba WW.size WW.size
        replace WW := WW.trans (ba.mono WW.size)
        have sz373 : Y3_69.heap.size < (Y3_69.alloc (.cells #[.slice none 0 0] 24)).heap.size := bn.lt
        refine hK.out _ _ (trivial) (fun hHeld2 => ?_)
        clear hK K hHeld
        (try simp only [oq11_4_11, Act.put, List.setIfInBounds_toArray, List.set_cons_zero, List.set_cons_succ])
        generalize hV : Y3_69.alloc (.cells #[.slice none 0 0] 24) = V373 at hHeld2 sz373 WW Xp Xq O1 O2 O3 ⊢
        clear hV ba bn
        have hHeld := hHeld2
        clear hHeld2
        obtain ⟨gXq, hg⟩ : ∃ x, x = Y3_69.heap.size := ⟨_, rfl⟩
        have nXpXq : gXp ≠ gXq := by omega
        rw [← hg] at Xq sz373 ⊢
        clear hg lXp
        exact hst20 gXp gXq D1 d1 D2 d2 D3 d3 V373 ⟨WW, Xp, Xq, O1, O2, O3, (by first | exact nXpXq | omega), hHeld⟩
      refine ReadyL.cons (o := oq11_4_12) rfl (fun K hK => ?_) ReadyL.nil
      · delta oq11_4_12
        have lXp : gXp < Y3_69.heap.size := Xp.lt
        go_simp
        have ba := (Below.refl Y3_69.heap.size Y3_69).alloc (Nat.le_refl _) (.cells #[.slice none 0 0] 24)
        replace Xp := Xp.below ba
        replace O1 := O1.below ba (Nat.le_refl _)
        replace O2 := O2.below ba (Nat.le_refl _)
        replace O3 := O3.below ba (Nat.le_refl _)
        have bn := Blk.new Y3_69 24 #[.slice none 0 0]
        have Xn := VB.mk (B := w.heap.size) (a := 0) bn (.inr (Own.nil _ _ _ _ (Nat.zero_le _))) ba WW.size WW.size
        replace WW := WW.trans (ba.mono WW.size)
        have sz373 : Y3_69.heap.size < (Y3_69.alloc (.cells #[.slice none 0 0] 24)).heap.size := bn.lt
        refine hK.out _ _ (trivial) (fun hHeld2 => ?_)
        clear hK K hHeld
        (try simp only [oq11_4_12, Act.put, List.setIfInBounds_toArray, List.set_cons_zero, List.set_cons_succ])
        generalize hV : Y3_69.alloc (.cells #[.slice none 0 0] 24) = V373 at hHeld2 sz373 WW Xp Xn O1 O2 O3 ⊢
        clear hV ba bn
        have hHeld := hHeld2
        clear hHeld2
        obtain ⟨gXn, hg⟩ : ∃ x, x = Y3_69.heap.size := ⟨_, rfl⟩
        have nXpXn : gXp ≠ gXn := by omega
        rw [← hg] at Xn sz373 ⊢
        clear hg lXp
        exact hst21 gXp gXn D1 d1 D2 d2 D3 d3 V373 ⟨WW, Xp, Xn, O1, O2, O3, (by first | exact nXpXn | omega), hHeld⟩
    case h1.h1.h1.h1.h1.h1.h1.h1.h1.h1.h2 =>
      rintro gXq D1 d1 D2 d2 D3 d3 Y3_72 ⟨WW, Xq, O1, O2, O3, hHeld⟩
      refine AnyL_ready (rs := [10, 12]) (by kernel_rfl) (by simp) ?_
      refine ReadyL.cons (o := oq11_4_10) rfl (fun K hK => ?_) ?_
      · delta oq11_4_10
        have lXq : gXq < Y3_72.heap.size := Xq.lt
        go_simp
        have ba := (Below.refl Y3_72.heap.size Y3_72).alloc (Nat.le_refl _) (.cells #[.slice none 0 0] 24)
        replace Xq := Xq.below ba
        replace O1 := O1.below ba (Nat.le_refl _)
        replace O2 := O2.below ba (Nat.le_refl _)
        replace O3 := O3.below ba (Nat.le_refl _)
        have bn := Blk.new Y3_72 24 #[.slice none 0 0]
        have Xp := VB.mk (B := w.heap.size) (a := 0) bn (.inr (Own.nil _ _ _ _ (Nat.zero_le _))) ba WW.size WW.size
        replace WW := WW.trans (ba.mono WW.size)
        have sz376 : Y3_72.heap.size < (Y3_72.alloc (.cells #[.slice none 0 0] 24)).heap.size := bn.lt
        refine hK.out _ _ (trivial) (fun hHeld2 => ?_)
        clear hK K hHeld
        (try simp only [oq11_4_10, Act.put, List.setIfInBounds_toArray, List.set_cons_zero, List.set_cons_succ])
        generalize hV : Y3_72.alloc (.cells #[.slice none 0 0] 24) = V376 at hHeld2 sz376 WW Xq Xp O1 O2 O3 ⊢
        clear hV ba bn
        have hHeld := hHeld2
        clear hHeld2
        obtain ⟨gXp, hg⟩ : ∃ x, x = Y3_72.heap.size := ⟨_, rfl⟩
        have nXqXp : gXq ≠ gXp := by omega
        rw [← hg] at Xp sz376 ⊢
        clear hg lXq
        exact hst20 gXp gXq D1 d1 D2 d2 D3 d3 V376 ⟨WW, Xp, Xq, O1, O2, O3, (by first | exact nXpXq | omega), hHeld⟩
      refine ReadyL.cons (o := oq11_4_12) rfl (fun K hK => ?_) ReadyL.nil
      · delta oq11_4_12
        have lXq : gXq < Y3_72.heap.size := Xq.lt
        go_simp
        have ba := (Below.refl Y3_72.heap.size Y3_72).alloc (Nat.le_refl _) (.cells #[.slice none 0 0] 24)
        replace Xq := Xq.below ba
        replace O1 := O1.below ba (Nat.le_refl _)
        replace O2 := O2.below ba (Nat.le_refl _)
        replace O3 := O3.below ba (Nat.le_refl _)
        have bn := Blk.new Y3_72 24 #[.slice none 0 0]
        have Xn := VB.mk (B := w.heap.size) (a := 0) bn (.inr (Own.nil _ _ _ _ (Nat.zero_le _))) ba WW.size WW.size
        replace WW := WW.trans (ba.mono WW.size)
        have sz376 : Y3_72.heap.size < (Y3_72.alloc (.cells #[.slice none 0 0] 24)).heap.size := bn.lt
        refine hK.out _ _ (trivial) (fun hHeld2 => ?_)
        clear hK K hHeld
        (try simp only [oq11_4_12, Act.put, List.setIfInBounds_toArray, List.set_cons_zero, List.set_cons_succ])
        generalize hV : Y3_72.alloc (.cells #[.slice none 0 0] 24) = V376 at hHeld2 sz376 WW Xq Xn O1 O2 O3 ⊢
        clear hV ba bn
        have hHeld := hHeld2
        clear hHeld2
        obtain ⟨gXn, hg⟩ : ∃ x, x = Y3_72.heap.size := ⟨_, rfl⟩
        have nXqXn : gXq ≠ gXn := by omega
        rw [← hg] at Xn sz376 ⊢
        clear hg lXq
        exact hst22 gXq gXn D1 d1 D2 d2 D3 d3 V376 ⟨WW, Xq, Xn, O1, O2, O3, (by first | exact nXqXn | omega), hHeld⟩
    case h1.h1.h1.h1.h1.h1.h1.h1.h1.h2 =>
      rintro gXn D1 d1 D2 d2 D3 d3 Y3_75 ⟨WW, Xn, O1, O2, O3, hHeld⟩
      refine AnyL_ready (rs := [10, 11]) (by kernel_rfl) (by simp) ?_
      refine ReadyL.cons (o := oq11_4_10) rfl (fun K hK => ?_) ?_
      · delta oq11_4_10
        have lXn : gXn < Y3_75.heap.size := Xn.lt
        go_simp
        have ba := (Below.refl Y3_75.heap.size Y3_75).alloc (Nat.le_refl _) (.cells #[.slice none 0 0] 24)
        replace Xn := Xn.below ba
        replace O1 := O1.below ba (Nat.le_refl _)
        replace O2 := O2.below ba (Nat.le_refl _)
        replace O3 := O3.below ba (Nat.le_refl _)
        have bn := Blk.new Y3_75 24 #[.slice none 0 0]
        have Xp := VB.mk (B := w.heap.size) (a := 0) bn (.inr (Own.nil _ _ _ _ (Nat.zero_le _))) ba WW.size WW.size
        replace WW := WW.trans (ba.mono WW.size)
        have sz379 : Y3_75.heap.size < (Y3_75.alloc (.cells #[.slice none 0 0] 24)).heap.size := bn.lt
        refine hK.out _ _ (trivial) (fun hHeld2 => ?_)
        clear hK K hHeld
        (try simp only [oq11_4_10, Act.put, List.setIfInBounds_toArray, List.set_cons_zero, List.set_cons_succ])
        generalize hV : Y3_75.alloc (.cells #[.slice none 0 0] 24) = V379 at hHeld2 sz379 WW Xn Xp O1 O2 O3 ⊢
        clear hV ba bn
        have hHeld := hHeld2
        clear hHeld2
        obtain ⟨gXp, hg⟩ : ∃ x, x = Y3_75.heap.size := ⟨_, rfl⟩
        have nXnXp : gXn ≠ gXp := by omega
        rw [← hg] at Xp sz379 ⊢
        clear hg lXn
        exact hst21 gXp gXn D1 d1 D2 d2 D3 d3 V379 ⟨WW, Xp, Xn, O1, O2, O3, (by first | exact nXpXn | omega), hHeld⟩
      refine ReadyL.cons (o := oq11_4_11) rfl (fun K hK => ?_) ReadyL.nil
      · delta oq11_4_11
        have lXn : gXn < Y3_75.heap.size := Xn.lt
        go_simp
        have ba := (Below.refl Y3_75.heap.size Y3_75).alloc (Nat.le_refl _) (.cells #[.slice none 0 0] 24)
        replace Xn := Xn.below ba
        replace O1 := O1.below ba (Nat.le_refl _)
        replace O2 := O2.below ba (Nat.le_refl _)
        replace O3 := O3.below ba (Nat.le_refl _)
        have bn := Blk.new Y3_75 24 #[.slice none 0 0]
        have Xq := VB.mk (B := w.heap.size) (a := 0) bn (.inr (Own.nil _ _ _ _ (Nat.zero_le _))) ba WW.size WW.size
        replace WW := WW.trans (ba.mono WW.size)
        have sz379 : Y3_75.heap.size < (Y3_75.alloc (.cells #[.slice none 0 0] 24)).heap.size := bn.lt
        refine hK.out _ _ (trivial) (fun hHeld2 => ?_)
        clear hK K hHeld
        (try simp only [oq11_4_11, Act.put, List.setIfInBounds_toArray, List.set_cons_zero, List.set_cons_succ])
        generalize hV : Y3_75.alloc (.cells #[.slice none 0 0] 24) = V379 at hHeld2 sz379 WW Xn Xq O1 O2 O3 ⊢
        clear hV ba bn
        have hHeld := hHeld2
        clear hHeld2
        obtain ⟨gXq, hg⟩ : ∃ x, x = Y3_75.heap.size := ⟨_, rfl⟩
        have nXnXq : gXn ≠ gXq := by omega
        rw [← hg] at Xq sz379 ⊢
        clear hg lXn
        exact hst22 gXq gXn D1 d1 D2 d2 D3 d3 V379 ⟨WW, Xq, Xn, O1, O2, O3, (by first | exact nXqXn | omega), hHeld⟩
    case h1.h1.h1.h1.h1.h1.h1.h1.h2 =>
      rintro gXp gXq D1 d1 D2 d2 Y3_78 ⟨WW, Xp, Xq, O1, O2, nXpXq, hHeld⟩
      refine AnyL_ready (rs := [9, 12]) (by kernel_rfl) (by simp) ?_
      refine ReadyL.cons (o := oq11_4_9) rfl (fun K hK => ?_) ?_
      · delta oq11_4_9
        go_simp
        have hbs : w.heap.size ≤ Y3_78.heap.size := WW.size
        have hc := of3_z M m Y3_78 BM.out eM.out
        refine hc.mono ?_
        clear hc
        rintro e V382 ⟨v, rfl, hv, hb⟩
        replace Xp := Xp.below hb
        replace Xq := Xq.below hb
        replace O1 := O1.below hb (Nat.le_refl _)
        replace O2 := O2.below hb (Nat.le_refl _)
        replace WW := WW.trans (hb.mono WW.size)
        have sz382 := hb.size
        obtain ⟨D3, d3, rfl, ho⟩ := hv
        have O3 := ho.weak (b := w.heap.size) hbs
        clear ho
        clear hb hbs
        refine hK.out _ _ (trivial) (fun hHeld2 => ?_)
        clear hK K hHeld
        have hHeld := hHeld2
        clear hHeld2
        (try simp only [oq11_4_9, Act.put, List.setIfInBounds_toArray, List.set_cons_zero, List.set_cons_succ])
        exact hst20 gXp gXq D1 d1 D2 d2 D3 d3 V382 ⟨WW, Xp, Xq, O1, O2, O3, (by first | exact nXpXq | omega), hHeld⟩
      refine ReadyL.cons (o := oq11_4_12) rfl (fun K hK => ?_) ReadyL.nil
      · delta oq11_4_12
        have lXp : gXp < Y3_78.heap.size := Xp.lt
        have lXq : gXq < Y3_78.heap.size := Xq.lt
        go_simp
        have ba := (Below.refl Y3_78.heap.size Y3_78).alloc (Nat.le_refl _) (.cells #[.slice none 0 0] 24)
        replace Xp := Xp.below ba
        replace Xq := Xq.below ba
        replace O1 := O1.below ba (Nat.le_refl _)
        replace O2 := O2.below ba (Nat.le_refl _)
        have bn := Blk.new Y3_78 24 #[.slice none 0 0]
        have Xn := VB.mk (B := w.heap.size) (a := 0) bn (.inr (Own.nil _ _ _ _ (Nat.zero_le _))) ba WW.size WW.size
        replace WW := WW.trans (ba.mono WW.size)
        have sz382 : Y3_78.heap.size < (Y3_78.alloc (.cells #[.slice none 0 0] 24)).heap.size := bn.lt
        refine hK.out _ _ (trivial) (fun hHeld2 => ?_)
        clear hK K hHeld
        (try simp only [oq11_4_12, Act.put, List.setIfInBounds_toArray, List.set_cons_zero, List.set_cons_succ])
        generalize hV : Y3_78.alloc (.cells #[.slice none 0 0] 24) = V382 at hHeld2 sz382 WW Xp Xq Xn O1 O2 ⊢
        clear hV ba bn
        have hHeld := hHeld2
        clear hHeld2
        obtain ⟨gXn, hg⟩ : ∃ x, x = Y3_78.heap.size := ⟨_, rfl⟩
        have nXpXn : gXp ≠ gXn := by omega
        have nXqXn : gXq ≠ gXn := by omega
        rw [← hg] at Xn sz382 ⊢
        clear hg lXp lXq
        exact hst23 gXp gXq gXn D1 d1 D2 d2 V382 ⟨WW, Xp, Xq, Xn, O1, O2, (by first | exact nXpXq | omega), (by first | exact nXpXn | omega), (by first | exact nXqXn | omega), hHeld⟩
    case h1.h1.h1.h1.h1.h1.h1.h2 =>
      rintro gXp gXn D1 d1 D2 d2 Y3_81 ⟨WW, Xp, Xn, O1, O2, nXpXn, hHeld⟩
      refine AnyL_ready (rs := [9, 11]) (by kernel_rfl) (by simp) ?_
      refine ReadyL.cons (o := oq11_4_9) rfl (fun K hK => ?_) ?_
      · delta oq11_4_9
        go_simp
        have hbs : w.heap.size ≤ Y3_81.heap.size := WW.size
        have hc := of3_z M m Y3_81 BM.out eM.out
        refine hc.mono ?_
        clear hc
        rintro e V385 ⟨v, rfl, hv, hb⟩
        replace Xp := Xp.below hb
        replace Xn := Xn.below hb
        replace O1 := O1.below hb (Nat.le_refl _)
        replace O2 := O2.below hb (Nat.le_refl _)
        replace WW := WW.trans (hb.mono WW.size)
        have sz385 := hb.size
        obtain ⟨D3, d3, rfl, ho⟩ := hv
        have O3 := ho.weak (b := w.heap.size) hbs
        clear ho
        clear hb hbs
        refine hK.out _ _ (trivial) (fun hHeld2 => ?_)
        clear hK K hHeld
        have hHeld := hHeld2
        clear hHeld2
        (try simp only [oq11_4_9, Act.put, List.setIfInBounds_toArray, List.set_cons_zero, List.set_cons_succ])
        exact hst21 gXp gXn D1 d1 D2 d2 D3 d3 V385 ⟨WW, Xp, Xn, O1, O2, O3, (by first | exact nXpXn | omega), hHeld⟩
      refine ReadyL.cons (o := oq11_4_11) rfl (fun K hK => ?_) ReadyL.nil
      · delta oq11_4_11
        have lXp : gXp < Y3_81.heap.size := Xp.lt
        have lXn : gXn < Y3_81.heap.size := Xn.lt
        go_simp
        have ba := (Below.refl Y3_81.heap.size Y3_81).alloc (Nat.le_refl _) (.cells #[.slice none 0 0] 24)
        replace Xp := Xp.below ba
        replace Xn := Xn.below ba
        replace O1 := O1.below ba (Nat.le_refl _)
        replace O2 := O2.below ba (Nat.le_refl _)
        have bn := Blk.new Y3_81 24 #[.slice none 0 0]
        have Xq := VB.mk (B := w.heap.size) (a := 0) bn (.inr (Own.nil _ _ _ _ (Nat.zero_le _))) ba WW.size WW.size
        replace WW := WW.trans (ba.mono WW.size)
        have sz385 : Y3_81.heap.size < (Y3_81.alloc (.cells #[.slice none 0 0] 24)).heap.size := bn.lt
        refine hK.out _ _ (trivial) (fun hHeld2 => ?_)
        clear hK K hHeld
        (try simp only [oq11_4_11, Act.put, List.setIfInBounds_toArray, List.set_cons_zero, List.set_cons_succ])
        generalize hV : Y3_81.alloc (.cells #[.slice none 0 0] 24) = V385 at hHeld2 sz385 WW Xp Xn Xq O1 O2 ⊢
        clear hV ba bn
        have hHeld := hHeld2
        clear hHeld2
        obtain ⟨gXq, hg⟩ : ∃ x, x = Y3_81.heap.size := ⟨_, rfl⟩
        have nXpXq : gXp ≠ gXq := by omega
        have nXnXq : gXn ≠ gXq := by omega
        rw [← hg] at Xq sz385 ⊢
        clear hg lXp lXn
        exact hst23 gXp gXq gXn D1 d1 D2 d2 V385 ⟨WW, Xp, Xq, Xn, O1, O2, (by first | exact nXpXq | omega), (by first | exact nXpXn | omega), (by first | exact nXqXn | omega), hHeld⟩
    case h1.h1.h1.h1.h1.h1.h2 =>
      rintro gXq gXn D1 d1 D2 d2 Y3_84 ⟨WW, Xq, Xn, O1, O2, nXqXn, hHeld⟩
      refine AnyL_ready (rs := [9, 10]) (by kernel_rfl) (by simp) ?_
      refine ReadyL.cons (o := oq11_4_9) rfl (fun K hK => ?_) ?_
      · delta oq11_4_9
        go_simp
        have hbs : w.heap.size ≤ Y3_84.heap.size := WW.size
        have hc := of3_z M m Y3_84 BM.out eM.out
        refine hc.mono ?_
        clear hc
        rintro e V388 ⟨v, rfl, hv, hb⟩
        replace Xq := Xq.below hb
        replace Xn := Xn.below hb
        replace O1 := O1.below hb (Nat.le_refl _)
        replace O2 := O2.below hb (Nat.le_refl _)
        replace WW := WW.trans (hb.mono WW.size)
        have sz388 := hb.size
        obtain ⟨D3, d3, rfl, ho⟩ := hv
        have O3 := ho.weak (b := w.heap.size) hbs
        clear ho
        clear hb hbs
        refine hK.out _ _ (trivial) (fun hHeld2 => ?_)
        clear hK K hHeld
        have hHeld := hHeld2
        clear hHeld2
        (try simp only [oq11_4_9, Act.put, List.setIfInBounds_toArray, List.set_cons_zero, List.set_cons_succ])
        exact hst22 gXq gXn D1 d1 D2 d2 D3 d3 V388 ⟨WW, Xq, Xn, O1, O2, O3, (by first | exact nXqXn | omega), hHeld⟩
      refine ReadyL.cons (o := oq11_4_10) rfl (fun K hK => ?_) ReadyL.nil
      · delta oq11_4_10
        have lXq : gXq < Y3_84.heap.size := Xq.lt
        have lXn : gXn < Y3_84.heap.size := Xn.lt
        go_simp
        have ba := (Below.refl Y3_84.heap.size Y3_84).alloc (Nat.le_refl _) (.cells #[.slice none 0 0] 24)
        replace Xq := Xq.below ba
        replace Xn := Xn.below ba
        replace O1 := O1.below ba (Nat.le_refl _)
        replace O2 := O2.below ba (Nat.le_refl _)
        have bn := Blk.new Y3_84 24 #[.slice none 0 0]
        have Xp := VB.mk (B := w.heap.size) (a := 0) bn (.inr (Own.nil _ _ _ _ (Nat.zero_le _))) ba WW.size WW.size
        replace WW := WW.trans (ba.mono WW.size)
        have sz388 : Y3_84.heap.size < (Y3_84.alloc (.cells #[.slice none 0 0] 24)).heap.size := bn.lt
        refine hK.out _ _ (trivial) (fun hHeld2 => ?_)
        clear hK K hHeld
        (try simp only [oq11_4_10, Act.put, List.setIfInBounds_toArray, List.set_cons_zero, List.set_cons_succ])
        generalize hV : Y3_84.alloc (.cells #[.slice none 0 0] 24) = V388 at hHeld2 sz388 WW Xq Xn Xp O1 O2 ⊢
        clear hV ba bn
        have hHeld := hHeld2
        clear hHeld2
        obtain ⟨gXp, hg⟩ : ∃ x, x = Y3_84.heap.size := ⟨_, rfl⟩
        have nXqXp : gXq ≠ gXp := by omega
        have nXnXp : gXn ≠ gXp := by omega
        rw [← hg] at Xp sz388 ⊢
        clear hg lXq lXn
        exact hst23 gXp gXq gXn D1 d1 D2 d2 V388 ⟨WW, Xp, Xq, Xn, O1, O2, (by first | exact nXpXq | omega), (by first | exact nXpXn | omega), (by first | exact nXqXn | omega), hHeld⟩
    case h1.h1.h1.h1.h1.h2 =>
      rintro gXp gXq gXn D1 d1 Y3_87 ⟨WW, Xp, Xq, Xn, O1, nXpXq, nXpXn, nXqXn, hHeld⟩
      refine AnyL_ready (rs := [7]) (by kernel_rfl) (by simp) ?_
      refine ReadyL.cons (o := oq11_4_7) rfl (fun K hK => ?_) ReadyL.nil
      delta oq11_4_7
      go_simp
      have hbs : w.heap.size ≤ Y3_87.heap.size := WW.size
      have hc := of3_z Y y Y3_87 BY.out eY.out
      refine hc.mono ?_
      clear hc
      rintro e V391 ⟨v, rfl, hv, hb⟩
      replace Xp := Xp.below hb
      replace Xq := Xq.below hb
      replace Xn := Xn.below hb
      replace O1 := O1.below hb (Nat.le_refl _)
      replace WW := WW.trans (hb.mono WW.size)
      have sz391 := hb.size
      obtain ⟨D2, d2, rfl, ho⟩ := hv
      have O2 := ho.weak (b := w.heap.size) hbs
      clear ho
      clear hb hbs
      refine hK.out _ _ (trivial) (fun hHeld2 => ?_)
      clear hK K hHeld
      have hHeld := hHeld2
      clear hHeld2
      (try simp only [oq11_4_7, Act.put, List.setIfInBounds_toArray, List.set_cons_zero, List.set_cons_succ])
      exact hst23 gXp gXq gXn D1 d1 D2 d2 V391 ⟨WW, Xp, Xq, Xn, O1, O2, (by first | exact nXpXq | omega), (by first | exact nXpXn | omega), (by first | exact nXqXn | omega), hHeld⟩
    case h1.h1.h1.h1.h2 =>
      rintro gXp gXq D1 d1 D2 d2 D3 d3 Y3_89 ⟨WW, Xp, Xq, O1, O2, O3, nXpXq, hHeld⟩
      refine AnyL_ready (rs := [12]) (by kernel_rfl) (by simp) ?_
      refine ReadyL.cons (o := oq11_4_12) rfl (fun K hK => ?_) ReadyL.nil
      delta oq11_4_12
      have lXp : gXp < Y3_89.heap.size := Xp.lt
      have lXq : gXq < Y3_89.heap.size := Xq.lt
      go_simp
      have ba := (Below.refl Y3_89.heap.size Y3_89).alloc (Nat.le_refl _) (.cells #[.slice none 0 0] 24)
      replace Xp := Xp.below ba
      replace Xq := Xq.below ba
      replace O1 := O1.below ba (Nat.le_refl _)
      replace O2 := O2.below ba (Nat.le_refl _)
      replace O3 := O3.below ba (Nat.le_refl _)
      have bn := Blk.new Y3_89 24 #[.slice none 0 0]
      have Xn := VB.mk (B := w.heap.size) (a := 0) bn (.inr (Own.nil _ _ _ _ (Nat.zero_le _))) ba WW.size WW.size
      replace WW := WW.trans (ba.mono WW.size)
      have sz393 : Y3_89.heap.size < (Y3_89.alloc (.cells #[.slice none 0 0] 24)).heap.size := bn.lt
      refine hK.out _ _ (trivial) (fun hHeld2 => ?_)
      clear hK K hHeld
      (try simp only [oq11_4_12, Act.put, List.setIfInBounds_toArray, List.set_cons_zero, List.set_cons_succ])
      generalize hV : Y3_89.alloc (.cells #[.slice none 0 0] 24) = V393 at hHeld2 sz393 WW Xp Xq Xn O1 O2 O3 ⊢
      clear hV ba bn
      have hHeld := hHeld2
      clear hHeld2
      obtain ⟨gXn, hg⟩ : ∃ x, x = Y3_89.heap.size := ⟨_, rfl⟩
      have nXpXn : gXp ≠ gXn := by omega
      have nXqXn : gXq ≠ gXn := by omega
      rw [← hg] at Xn sz393 ⊢
      clear hg lXp lXq
      exact hst24 gXp gXq gXn D1 d1 D2 d2 D3 d3 V393 ⟨WW, Xp, Xq, Xn, O1, O2, O3, (by first | exact nXpXq | omega), (by first | exact nXpXn | omega), (by first | exact nXqXn | omega), hHeld⟩
    case h1.h1.h1.h2 =>
      rintro gXp gXn D1 d1 D2 d2 D3 d3 Y3_91 ⟨WW, Xp, Xn, O1, O2, O3, nXpXn, hHeld⟩
      refine AnyL_ready (rs := [11]) (by kernel_rfl) (by simp) ?_
      refine ReadyL.cons (o := oq11_4_11) rfl (fun K hK => ?_) ReadyL.nil
      delta oq11_4_11
      have lXp : gXp < Y3_91.heap.size := Xp.lt
      have lXn : gXn < Y3_91.heap.size := Xn.lt
      go_simp
      have ba := (Below.refl Y3_91.heap.size Y3_91).alloc (Nat.le_refl _) (.cells #[.slice none 0 0] 24)
      replace Xp := Xp.below ba
      replace Xn := Xn.below ba
      replace O1 := O1.below ba (Nat.le_refl _)
      replace O2 := O2.below ba (Nat.le_refl _)
      replace O3 := O3.below ba (Nat.le_refl _)
      have bn := Blk.new Y3_91 24 #[.slice none 0 0]
      have Xq := VB.mk (B := w.heap.size) (a := 0) bn (.inr (Own.nil _ _ _ _ (Nat.zero_le _))) ba WW.size WW.size
      replace WW := WW.trans (ba.mono WW.size)
      have sz395 : Y3_91.heap.size < (Y3_91.alloc (.cells #[.slice none 0 0] 24)).heap.size := bn.lt
      refine hK.out _ _ (trivial) (fun hHeld2 => ?_)
      clear hK K hHeld
      (try simp only [oq11_4_11, Act.put, List.setIfInBounds_toArray, List.set_cons_zero, List.set_cons_succ])
      generalize hV : Y3_91.alloc (.cells #[.slice none 0 0] 24) = V395 at hHeld2 sz395 WW Xp Xn Xq O1 O2 O3 ⊢
      clear hV ba bn
      have hHeld := hHeld2
      clear hHeld2
      obtain ⟨gXq, hg⟩ : ∃ x, x = Y3_91.heap.size := ⟨_, rfl⟩
      have nXpXq : gXp ≠ gXq := by omega
      have nXnXq : gXn ≠ gXq := by omega
      rw [← hg] at Xq sz395 ⊢
      clear hg lXp lXn
      exact hst24 gXp gXq gXn D1 d1 D2 d2 D3 d3 V395 ⟨WW, Xp, Xq, Xn, O1, O2, O3, (by first | exact nXpXq | omega), (by first | exact nXpXn | omega), (by first | exact nXqXn | omega), hHeld⟩
    case h1.h1.h2 =>
      rintro gXq gXn D1 d1 D2 d2 D3 d3 Y3_93 ⟨WW, Xq, Xn, O1, O2, O3, nXqXn, hHeld⟩
      refine AnyL_ready (rs := [10]) (by kernel_rfl) (by simp) ?_
      refine ReadyL.cons (o := oq11_4_10) rfl (fun K hK => ?_) ReadyL.nil
      delta oq11_4_10
      have lXq : gXq < Y3_93.heap.size := Xq.lt
      have lXn : gXn < Y3_93.heap.size := Xn.lt
      go_simp
      have ba := (Below.refl Y3_93.heap.size Y3_93).alloc (Nat.le_refl _) (.cells #[.slice none 0 0] 24)
      replace Xq := Xq.below ba
      replace Xn := Xn.below ba
      replace O1 := O1.below ba (Nat.le_refl _)
      replace O2 := O2.below ba (Nat.le_refl _)
      replace O3 := O3.below ba (Nat.le_refl _)
      have bn := Blk.new Y3_93 24 #[.slice none 0 0]
      have Xp := VB.mk (B := w.heap.size) (a := 0) bn (.inr (Own.nil _ _ _ _ (Nat.zero_le _))) ba WW.size WW.size
      replace WW := WW.trans (ba.mono WW.size)
      have sz397 : Y3_93.heap.size < (Y3_93.alloc (.cells #[.slice none 0 0] 24)).heap.size := bn.lt
      refine hK.out _ _ (trivial) (fun hHeld2 => ?_)
      clear hK K hHeld
      (try simp only [oq11_4_10, Act.put, List.setIfInBounds_toArray, List.set_cons_zero, List.set_cons_succ])
      generalize hV : Y3_93.alloc (.cells #[.slice none 0 0] 24) = V397 at hHeld2 sz397 WW Xq Xn Xp O1 O2 O3 ⊢
      clear hV ba bn
      have hHeld := hHeld2
      clear hHeld2
      obtain ⟨gXp, hg⟩ : ∃ x, x = Y3_93.heap.size := ⟨_, rfl⟩
      have nXqXp : gXq ≠ gXp := by omega
      have nXnXp : gXn ≠ gXp := by omega
      rw [← hg] at Xp sz397 ⊢
      clear hg lXq lXn
      exact hst24 gXp gXq gXn D1 d1 D2 d2 D3 d3 V397 ⟨WW, Xp, Xq, Xn, O1, O2, O3, (by first | exact nXpXq | omega), (by first | exact nXpXn | omega), (by first | exact nXqXn | omega), hHeld⟩
    case h1.h2 =>
      rintro gXp gXq gXn D1 d1 D2 d2 Y3_95 ⟨WW, Xp, Xq, Xn, O1, O2, nXpXq, nXpXn, nXqXn, hHeld⟩
      refine AnyL_ready (rs := [9]) (by kernel_rfl) (by simp) ?_
      refine ReadyL.cons (o := oq11_4_9) rfl (fun K hK => ?_) ReadyL.nil
      delta oq11_4_9
      go_simp
      have hbs : w.heap.size ≤ Y3_95.heap.size := WW.size
      have hc := of3_z M m Y3_95 BM.out eM.out
      refine hc.mono ?_
      clear hc
      rintro e V399 ⟨v, rfl, hv, hb⟩
      replace Xp := Xp.below hb
      replace Xq := Xq.below hb
      replace Xn := Xn.below hb
      replace O1 := O1.below hb (Nat.le_refl _)
      replace O2 := O2.below hb (Nat.le_refl _)
      replace WW := WW.trans (hb.mono WW.size)
      have sz399 := hb.size
      obtain ⟨D3, d3, rfl, ho⟩ := hv
      have O3 := ho.weak (b := w.heap.size) hbs
      clear ho
      clear hb hbs
      refine hK.out _ _ (trivial) (fun hHeld2 => ?_)
      clear hK K hHeld
      have hHeld := hHeld2
      clear hHeld2
      (try simp only [oq11_4_9, Act.put, List.setIfInBounds_toArray, List.set_cons_zero, List.set_cons_succ])
      exact hst24 gXp gXq gXn D1 d1 D2 d2 D3 d3 V399 ⟨WW, Xp, Xq, Xn, O1, O2, O3, (by first | exact nXpXq | omega), (by first | exact nXpXn | omega), (by first | exact nXqXn | omega), hHeld⟩
    case h2 =>
      rintro gXp gXq gXn D1 d1 D2 d2 D3 d3 Y3_97 ⟨WW, Xp, Xq, Xn, O1, O2, O3, nXpXq, nXpXn, nXqXn, hHeld⟩
      refine AnyL_ready (rs := [13]) (by kernel_rfl) (by simp) ?_
      refine ReadyL.cons (o := oq11_4_13) rfl (fun K hK => ?_) ReadyL.nil
      delta oq11_4_13
      have fz := Xp.1.frozen 0
      have cz := Xp.cell
      have lz := Xp.lt
      go_simp
      have Xpn := Xp.set_ (A' := D1) (n' := (nw X)) (c' := d1) (a' := X) (.inr O1)
      replace Xq := Xq.far (p := ⟨gXp, 0, none⟩) Xp.1 Xp.2.2 (by simp <;> omega) (.slice D1 (nw X) d1)
      replace Xn := Xn.far (p := ⟨gXp, 0, none⟩) Xp.1 Xp.2.2 (by simp <;> omega) (.slice D1 (nw X) d1)
      replace O1 := O1.box (p := ⟨gXp, 0, none⟩) Xp.1 (by decide) (.slice D1 (nw X) d1)
      replace O2 := O2.box (p := ⟨gXp, 0, none⟩) Xp.1 (by decide) (.slice D1 (nw X) d1)
      replace O3 := O3.box (p := ⟨gXp, 0, none⟩) Xp.1 (by decide) (.slice D1 (nw X) d1)
      replace Xp := Xpn
      clear Xpn
      replace WW := WW.setCell (p := ⟨gXp, 0, none⟩) Xp.2.2 (.slice D1 (nw X) d1)
      refine hK.out _ _ (trivial) (fun hHeld2 => ?_)
      clear hK K hHeld
      (try simp only [oq11_4_13, Act.put, List.setIfInBounds_toArray, List.set_cons_zero, List.set_cons_succ])
      generalize hV : Y3_97.setCell ⟨gXp, 0, none⟩ (.slice D1 (nw X) d1) = V401 at hHeld2 WW Xp Xq Xn O1 O2 O3 ⊢
      clear hV fz cz lz
      have hHeld := hHeld2
      clear hHeld2
      refine AnyL_ready (rs := [14]) (by kernel_rfl) (by simp) ?_
      refine ReadyL.cons (o := oq11_4_14) rfl (fun K hK => ?_) ReadyL.nil
      delta oq11_4_14
      have fz := Xq.1.frozen 0
      have cz := Xq.cell
      have lz := Xq.lt
      go_simp
      have Xqn := Xq.set_ (A' := D2) (n' := (nw Y)) (c' := d2) (a' := Y) (.inr O2)
      replace Xp := Xp.far (p := ⟨gXq, 0, none⟩) Xq.1 Xq.2.2 (by simp <;> omega) (.slice D2 (nw Y) d2)
      replace Xn := Xn.far (p := ⟨gXq, 0, none⟩) Xq.1 Xq.2.2 (by simp <;> omega) (.slice D2 (nw Y) d2)
      replace O1 := O1.box (p := ⟨gXq, 0, none⟩) Xq.1 (by decide) (.slice D2 (nw Y) d2)
      replace O2 := O2.box (p := ⟨gXq, 0, none⟩) Xq.1 (by decide) (.slice D2 (nw Y) d2)
      replace O3 := O3.box (p := ⟨gXq, 0, none⟩) Xq.1 (by decide) (.slice D2 (nw Y) d2)
      replace Xq := Xqn
      clear Xqn
      replace WW := WW.setCell (p := ⟨gXq, 0, none⟩) Xq.2.2 (.slice D2 (nw Y) d2)
      refine hK.out _ _ (trivial) (fun hHeld2 => ?_)
      clear hK K hHeld
      (try simp only [oq11_4_14, Act.put, List.setIfInBounds_toArray, List.set_cons_zero, List.set_cons_succ])
      generalize hV : V401.setCell ⟨gXq, 0, none⟩ (.slice D2 (nw Y) d2) = V402 at hHeld2 WW Xp Xq Xn O1 O2 O3 ⊢
      clear hV fz cz lz
      have hHeld := hHeld2
      clear hHeld2
      refine AnyL_ready (rs := [15]) (by kernel_rfl) (by simp) ?_
      refine ReadyL.cons (o := oq11_4_15) rfl (fun K hK => ?_) ReadyL.nil
      delta oq11_4_15
      have fz := Xn.1.frozen 0
      have cz := Xn.cell
      have lz := Xn.lt
      go_simp
      have Xnn := Xn.set_ (A' := D3) (n' := (nw M)) (c' := d3) (a' := M) (.inr O3)
      replace Xp := Xp.far (p := ⟨gXn, 0, none⟩) Xn.1 Xn.2.2 (by simp <;> omega) (.slice D3 (nw M) d3)
      replace Xq := Xq.far (p := ⟨gXn, 0, none⟩) Xn.1 Xn.2.2 (by simp <;> omega) (.slice D3 (nw M) d3)
      replace O1 := O1.box (p := ⟨gXn, 0, none⟩) Xn.1 (by decide) (.slice D3 (nw M) d3)
      replace O2 := O2.box (p := ⟨gXn, 0, none⟩) Xn.1 (by decide) (.slice D3 (nw M) d3)
      replace O3 := O3.box (p := ⟨gXn, 0, none⟩) Xn.1 (by decide) (.slice D3 (nw M) d3)
      replace Xn := Xnn
      clear Xnn
      replace WW := WW.setCell (p := ⟨gXn, 0, none⟩) Xn.2.2 (.slice D3 (nw M) d3)
      refine hK.out _ _ (trivial) (fun hHeld2 => ?_)
      clear hK K hHeld
      (try simp only [oq11_4_15, Act.put, List.setIfInBounds_toArray, List.set_cons_zero, List.set_cons_succ])
      generalize hV : V402.setCell ⟨gXn, 0, none⟩ (.slice D3 (nw M) d3) = V403 at hHeld2 WW Xp Xq Xn O1 O2 O3 ⊢
      clear hV fz cz lz
      have hHeld := hHeld2
      clear hHeld2
      refine AnyL_done (by kernel_rfl) ?_ _
      clear hHeld
      refine NoPanic.normal ?_
      exact ⟨rfl, gXp, gXq, gXn, D1, d1, D2, d2, D3, d3, rfl, WW, Xp, Xq, Xn, O1, O2, O3, (by first | exact nXpXq | omega), (by first | exact nXpXn | omega), (by first | exact nXqXn | omega)⟩
  rintro gXp gXq gXn D1 d1 D2 d2 D3 d3 V52 ⟨WW, Xp, Xq, Xn, O1, O2, O3, nXpXq, nXpXn, nXqXn⟩
  have kXp := Xp.cell
  have zXp := Xp.lt
  have kXq := Xq.cell
  have zXq := Xq.lt
  have kXn := Xn.cell
  have zXn := Xn.lt
  go_wp2_with fail
  have hbs : w.heap.size ≤ V52.heap.size := WW.size
  have hc := wadd_B x y m V52 m4 m3 x0 x1 y0 y1
  rw [CS.out] at hc
  refine hc.mono ?_
  clear hc
  rintro e V53 ⟨rfl, hb⟩
  clear kXp zXp kXq zXq kXn zXn
  replace Xp := Xp.below hb
  replace Xq := Xq.below hb
  replace Xn := Xn.below hb
  replace O1 := O1.below hb (Nat.le_refl _)
  replace O2 := O2.below hb (Nat.le_refl _)
  replace O3 := O3.below hb (Nat.le_refl _)
  replace WW := WW.trans (hb.mono WW.size)
  have kXp := Xp.cell
  have zXp := Xp.lt
  have kXq := Xq.cell
  have zXq := Xq.lt
  have kXn := Xn.cell
  have zXn := Xn.lt
  clear hb hbs
  go_wp2_with fail
  have hbs : w.heap.size ≤ V53.heap.size := WW.size
  have hc := nadd_any D1 D2 D3 _ _ _ d1 d2 d3 X Y M V53 Xp.num Xq.num Xn.num (by omega) (by omega) (by omega)
  rw [HC.out] at hc
  rw [← HS.out] at hc
  rw [M1.out] at hc
  refine hc.mono ?_
  clear hc
  rintro e V54 ⟨v, rfl, hv, hb⟩
  clear kXp zXp kXq zXq kXn zXn
  replace Xp := Xp.below hb
  replace Xq := Xq.below hb
  replace Xn := Xn.below hb
  replace O1 := O1.below hb (Nat.le_refl _)
  replace O2 := O2.below hb (Nat.le_refl _)
  replace O3 := O3.below hb (Nat.le_refl _)
  replace WW := WW.trans (hb.mono WW.size)
  obtain ⟨D4, d4, rfl, ho⟩ := hv
  have O4 := ho.weak (b := w.heap.size) hbs
  clear ho
  have kXp := Xp.cell
  have zXp := Xp.lt
  have kXq := Xq.cell
  have zXq := Xq.lt
  have kXn := Xn.cell
  have zXn := Xn.lt
  clear hb hbs
  go_wp2_with fail
  obtain ⟨b0, bw⟩ := boxes1 V54 (.slice D4 (nw s) d4)
  have hbs := WW.size
  clear kXp zXp kXq zXq kXn zXn
  have qXp55 := Xp.lt
  have qXq55 := Xq.lt
  have qXn55 := Xn.lt
  have X4 := VB.mk (B := w.heap.size) (a := s) b0 (.inr O4) bw hbs (by omega)
  replace Xp := Xp.below bw
  replace Xq := Xq.below bw
  replace Xn := Xn.below bw
  replace O1 := O1.below bw (Nat.le_refl _)
  replace O2 := O2.below bw (Nat.le_refl _)
  replace O3 := O3.below bw (Nat.le_refl _)
  replace O4 := O4.below bw (Nat.le_refl _)
  replace WW := WW.trans (bw.mono WW.size)
  clear bw hbs b0
  generalize hV : (V54.alloc (.cells #[.slice D4 (nw s) d4] 24)) = V55 at Xp Xq Xn X4 O1 O2 O3 O4 WW ⊢
  clear hV
  have kXp := Xp.cell
  have zXp := Xp.lt
  have kXq := Xq.cell
  have zXq := Xq.lt
  have kXn := Xn.cell
  have zXn := Xn.lt
  have kX4 := X4.cell
  have zX4 := X4.lt
  have hbs : w.heap.size ≤ V55.heap.size := WW.size
  have hc := wmul_B x y m V55 m4 m3 x0 x1 y0 y1
  rw [CT.out] at hc
  refine hc.mono ?_
  clear hc
  rintro e V56 ⟨rfl, hb⟩
  clear kXp zXp kXq zXq kXn zXn kX4 zX4
  replace Xp := Xp.below hb
  replace Xq := Xq.below hb
  replace Xn := Xn.below hb
  replace X4 := X4.below hb
  replace O1 := O1.below hb (Nat.le_refl _)
  replace O2 := O2.below hb (Nat.le_refl _)
  replace O3 := O3.below hb (Nat.le_refl _)
  replace O4 := O4.below hb (Nat.le_refl _)
  replace WW := WW.trans (hb.mono WW.size)
  have kXp := Xp.cell
  have zXp := Xp.lt
  have kXq := Xq.cell
  have zXq := Xq.lt
  have kXn := Xn.cell
  have zXn := Xn.lt
  have kX4 := X4.cell
  have zX4 := X4.lt
  clear hb hbs
  go_wp2_with fail
  have hbs : w.heap.size ≤ V56.heap.size := WW.size
  have hc := nmul_any D1 D2 D3 _ _ _ d1 d2 d3 X Y M V56 Xp.num Xq.num Xn.num (by omega) (by omega) (by omega)
  rw [HC.out] at hc
  rw [← HT.out] at hc
  rw [M2.out] at hc
  refine hc.mono ?_
  clear hc
  rintro e V57 ⟨v, rfl, hv, hb⟩
  clear kXp zXp kXq zXq kXn zXn kX4 zX4
  replace Xp := Xp.below hb
  replace Xq := Xq.below hb
  replace Xn := Xn.below hb
  replace X4 := X4.below hb
  replace O1 := O1.below hb (Nat.le_refl _)
  replace O2 := O2.below hb (Nat.le_refl _)
  replace O3 := O3.below hb (Nat.le_refl _)
  replace O4 := O4.below hb (Nat.le_refl _)
  replace WW := WW.trans (hb.mono WW.size)
  obtain ⟨D5, d5, rfl, ho⟩ := hv
  have O5 := ho.weak (b := w.heap.size) hbs
  clear ho
  have kXp := Xp.cell
  have zXp := Xp.lt
  have kXq := Xq.cell
  have zXq := Xq.lt
  have kXn := Xn.cell
  have zXn := Xn.lt
  have kX4 := X4.cell
  have zX4 := X4.lt
  clear hb hbs
  go_wp2_with fail
  obtain ⟨b0, bw⟩ := boxes1 V57 (.slice D5 (nw t) d5)
  have hbs := WW.size
  clear kXp zXp kXq zXq kXn zXn kX4 zX4
  have qXp58 := Xp.lt
  have qXq58 := Xq.lt
  have qXn58 := Xn.lt
  have qX458 := X4.lt
  have X5 := VB.mk (B := w.heap.size) (a := t) b0 (.inr O5) bw hbs (by omega)
  replace Xp := Xp.below bw
  replace Xq := Xq.below bw
  replace Xn := Xn.below bw
  replace X4 := X4.below bw
  replace O1 := O1.below bw (Nat.le_refl _)
  replace O2 := O2.below bw (Nat.le_refl _)
  replace O3 := O3.below bw (Nat.le_refl _)
  replace O4 := O4.below bw (Nat.le_refl _)
  replace O5 := O5.below bw (Nat.le_refl _)
  replace WW := WW.trans (bw.mono WW.size)
  clear bw hbs b0
  generalize hV : (V57.alloc (.cells #[.slice D5 (nw t) d5] 24)) = V58 at Xp Xq Xn X4 X5 O1 O2 O3 O4 O5 WW ⊢
  clear hV
  have kXp := Xp.cell
  have zXp := Xp.lt
  have kXq := Xq.cell
  have zXq := Xq.lt
  have kXn := Xn.cell
  have zXn := Xn.lt
  have kX4 := X4.cell
  have zX4 := X4.lt
  have kX5 := X5.cell
  have zX5 := X5.lt
  have hbs : w.heap.size ≤ V58.heap.size := WW.size
  have hc := winv_z X M x m V58 H1.out.1 H1.out.2 lX eX.out eM.out
  rw [WI.out] at hc
  refine hc.mono ?_
  clear hc
  rintro e V59 ⟨rfl, hb⟩
  clear kXp zXp kXq zXq kXn zXn kX4 zX4 kX5 zX5
  replace Xp := Xp.below hb
  replace Xq := Xq.below hb
  replace Xn := Xn.below hb
  replace X4 := X4.below hb
  replace X5 := X5.below hb
  replace O1 := O1.below hb (Nat.le_refl _)
  replace O2 := O2.below hb (Nat.le_refl _)
  replace O3 := O3.below hb (Nat.le_refl _)
  replace O4 := O4.below hb (Nat.le_refl _)
  replace O5 := O5.below hb (Nat.le_refl _)
  replace WW := WW.trans (hb.mono WW.size)
  have kXp := Xp.cell
  have zXp := Xp.lt
  have kXq := Xq.cell
  have zXq := Xq.lt
  have kXn := Xn.cell
  have zXn := Xn.lt
  have kX4 := X4.cell
  have zX4 := X4.lt
  have kX5 := X5.cell
  have zX5 := X5.lt
  clear hb hbs
  go_wp2_with fail
  have hbs : w.heap.size ≤ V59.heap.size := WW.size
  have hc := inverse_any D1 D3 _ _ d1 d3 X M V59 Xp.num Xn.num (by omega) (by omega)
  rw [NI.out] at hc
  refine hc.mono ?_
  clear hc
  rintro e V60 ⟨v, rfl, hv, hb⟩
  clear kXp zXp kXq zXq kXn zXn kX4 zX4 kX5 zX5
  replace Xp := Xp.below hb
  replace Xq := Xq.below hb
  replace Xn := Xn.below hb
  replace X4 := X4.below hb
  replace X5 := X5.below hb
  replace O1 := O1.below hb (Nat.le_refl _)
  replace O2 := O2.below hb (Nat.le_refl _)
  replace O3 := O3.below hb (Nat.le_refl _)
  replace O4 := O4.below hb (Nat.le_refl _)
  replace O5 := O5.below hb (Nat.le_refl _)
  replace WW := WW.trans (hb.mono WW.size)
  obtain ⟨D6, d6, rfl, ho⟩ := hv
  have O6 := ho.weak (b := w.heap.size) hbs
  clear ho
  have kXp := Xp.cell
  have zXp := Xp.lt
  have kXq := Xq.cell
  have zXq := Xq.lt
  have kXn := Xn.cell
  have zXn := Xn.lt
  have kX4 := X4.cell
  have zX4 := X4.lt
  have kX5 := X5.cell
  have zX5 := X5.lt
  clear hb hbs
  go_wp2_with fail
  obtain ⟨b0, bw⟩ := boxes1 V60 (.slice D6 (nw 0) d6)
  have hbs := WW.size
  clear kXp zXp kXq zXq kXn zXn kX4 zX4 kX5 zX5
  have qXp61 := Xp.lt
  have qXq61 := Xq.lt
  have qXn61 := Xn.lt
  have qX461 := X4.lt
  have qX561 := X5.lt
  have X6 := VB.mk (B := w.heap.size) (a := 0) b0 (.inr O6) bw hbs (by omega)
  replace Xp := Xp.below bw
  replace Xq := Xq.below bw
  replace Xn := Xn.below bw
  replace X4 := X4.below bw
  replace X5 := X5.below bw
  replace O1 := O1.below bw (Nat.le_refl _)
  replace O2 := O2.below bw (Nat.le_refl _)
  replace O3 := O3.below bw (Nat.le_refl _)
  replace O4 := O4.below bw (Nat.le_refl _)
  replace O5 := O5.below bw (Nat.le_refl _)
  replace O6 := O6.below bw (Nat.le_refl _)
  replace WW := WW.trans (bw.mono WW.size)
  clear bw hbs b0
  generalize hV : (V60.alloc (.cells #[.slice D6 (nw 0) d6] 24)) = V61 at Xp Xq Xn X4 X5 X6 O1 O2 O3 O4 O5 O6 WW ⊢
  clear hV
  have kXp := Xp.cell
  have zXp := Xp.lt
  have kXq := Xq.cell
  have zXq := Xq.lt
  have kXn := Xn.cell
  have zXn := Xn.lt
  have kX4 := X4.cell
  have zX4 := X4.lt
  have kX5 := X5.cell
  have zX5 := X5.lt
  have kX6 := X6.cell
  have zX6 := X6.lt
  have hbs : w.heap.size ≤ V61.heap.size := WW.size
  have hc := wequal_z D4 d4 s si V61 X4.num ls.out ES.out
  refine hc.mono ?_
  clear hc
  rintro e V62 ⟨rfl, hb⟩
  clear kXp zXp kXq zXq kXn zXn kX4 zX4 kX5 zX5 kX6 zX6
  replace Xp := Xp.below hb
  replace Xq := Xq.below hb
  replace Xn := Xn.below hb
  replace X4 := X4.below hb
  replace X5 := X5.below hb
  replace X6 := X6.below hb
  replace O1 := O1.below hb (Nat.le_refl _)
  replace O2 := O2.below hb (Nat.le_refl _)
  replace O3 := O3.below hb (Nat.le_refl _)
  replace O4 := O4.below hb (Nat.le_refl _)
  replace O5 := O5.below hb (Nat.le_refl _)
  replace O6 := O6.below hb (Nat.le_refl _)
  replace WW := WW.trans (hb.mono WW.size)
  have kXp := Xp.cell
  have zXp := Xp.lt
  have kXq := Xq.cell
  have zXq := Xq.lt
  have kXn := Xn.cell
  have zXn := Xn.lt
  have kX4 := X4.cell
  have zX4 := X4.lt
  have kX5 := X5.cell
  have zX5 := X5.lt
  have kX6 := X6.cell
  have zX6 := X6.lt
  clear hb hbs
  go_wp2_with fail
  have hbs : w.heap.size ≤ V62.heap.size := WW.size
  have hc := wequal_z D5 d5 t ti V62 X5.num lt.out ET.out
  refine hc.mono ?_
  clear hc
  rintro e V63 ⟨rfl, hb⟩
  clear kXp zXp kXq zXq kXn zXn kX4 zX4 kX5 zX5 kX6 zX6
  replace Xp := Xp.below hb
  replace Xq := Xq.below hb
  replace Xn := Xn.below hb
  replace X4 := X4.below hb
  replace X5 := X5.below hb
  replace X6 := X6.below hb
  replace O1 := O1.below hb (Nat.le_refl _)
  replace O2 := O2.below hb (Nat.le_refl _)
  replace O3 := O3.below hb (Nat.le_refl _)
  replace O4 := O4.below hb (Nat.le_refl _)
  replace O5 := O5.below hb (Nat.le_refl _)
  replace O6 := O6.below hb (Nat.le_refl _)
  replace WW := WW.trans (hb.mono WW.size)
  have kXp := Xp.cell
  have zXp := Xp.lt
  have kXq := Xq.cell
  have zXq := Xq.lt
  have kXn := Xn.cell
  have zXn := Xn.lt
  have kX4 := X4.cell
  have zX4 := X4.lt
  have kX5 := X5.cell
  have zX5 := X5.lt
  have kX6 := X6.cell
  have zX6 := X6.lt
  clear hb hbs
  go_wp2_with fail
  have hbs : w.heap.size ≤ V63.heap.size := WW.size
  have hc := wequal_err D6 d6 10 V63 X6.num z10
  refine hc.mono ?_
  clear hc
  rintro e V64 ⟨rfl, hb⟩
  clear kXp zXp kXq zXq kXn zXn kX4 zX4 kX5 zX5 kX6 zX6
  replace Xp := Xp.below hb
  replace Xq := Xq.below hb
  replace Xn := Xn.below hb
  replace X4 := X4.below hb
  replace X5 := X5.below hb
  replace X6 := X6.below hb
  replace O1 := O1.below hb (Nat.le_refl _)
  replace O2 := O2.below hb (Nat.le_refl _)
  replace O3 := O3.below hb (Nat.le_refl _)
  replace O4 := O4.below hb (Nat.le_refl _)
  replace O5 := O5.below hb (Nat.le_refl _)
  replace O6 := O6.below hb (Nat.le_refl _)
  replace WW := WW.trans (hb.mono WW.size)
  have kXp := Xp.cell
  have zXp := Xp.lt
  have kXq := Xq.cell
  have zXq := Xq.lt
  have kXn := Xn.cell
  have zXn := Xn.lt
  have kX4 := X4.cell
  have zX4 := X4.lt
  have kX5 := X5.cell
  have zX5 := X5.lt
  have kX6 := X6.cell
  have zX6 := X6.lt
  clear hb hbs
  go_wp2_with fail
  go_ret
  exact ⟨rfl, WW⟩

theorem natmodWord_walk (a b m : Int) (w : World) (ha : 0 ≤ a ∧ a ≤ 18446744073709551615) (hb : 0 ≤ b ∧ b ≤ 18446744073709551615) (hm : 0 ≤ m ∧ m ≤ 18446744073709551615) :
    Calls Try.prog 11 #[.int .u64 a, .int .u64 b, .int .u64 m] w (RetB (.bool true) w) := by
  by_cases h1 : m < 1
  · exact wordl_lo a b m w ha hb hm h1
  · by_cases h2 : 2305843009213693952 ≤ m
    · exact wordl_hi a b m w ha hb hm h1 h2
    · obtain ⟨M, hM⟩ := Int.eq_ofNat_of_zero_le hm.1
      have x0 := Int.emod_nonneg a (show m ≠ 0 by omega)
      have y0 := Int.emod_nonneg b (show m ≠ 0 by omega)
      have x1 := Int.emod_lt_of_pos a (show 0 < m by omega)
      have y1 := Int.emod_lt_of_pos b (show 0 < m by omega)
      obtain ⟨x, hx⟩ : ∃ x, x = a % m := ⟨_, rfl⟩
      obtain ⟨y, hy⟩ : ∃ y, y = b % m := ⟨_, rfl⟩
      rw [← hx] at x0 x1
      rw [← hy] at y0 y1
      obtain ⟨X, hX⟩ := Int.eq_ofNat_of_zero_le x0
      obtain ⟨Y, hY⟩ := Int.eq_ofNat_of_zero_le y0
      by_cases hg : Nat.gcd X M = 1
      · exact wordl_ok X Y M a b m x y w ha.1 ha.2 hb.1 hb.2 (by omega) (by omega) hx.symm hy.symm hM hX hY x0 x1 y0 y1 hg
      · exact wordl_no X Y M a b m x y w ha.1 ha.2 hb.1 hb.2 (by omega) (by omega) hx.symm hy.symm hM hX hY x0 x1 y0 y1 hg

end Go.Proofs.Ytckajjapockonaa
