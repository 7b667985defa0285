/- layer 1's functions and the closure of NatmodWord. -/
import Derived.Test.YtckajjapockonaaWFns
import Derived.Test.YtckajjapockonaaLaw3b
import Derived.Test.YtckajjapockonaaAwake
set_option linter.unusedVariables false
set_option linter.unusedSimpArgs false
namespace Go.Proofs.Ytckajjapockonaa
open Go.RowKit

def oq43_1_0 : Oper := { dst := some 9, op := Op.move (Operand.tmp 1), type := 27, pos := "law.go:230", after := #[], guard := none }
def oq43_1_1 : Oper := { dst := some 10, op := Op.move (Operand.tmp 3), type := 27, pos := "law.go:230", after := #[], guard := none }
def oq43_1_2 : Oper := { dst := some 11, op := Op.binOp BinOp.eql 27 (Operand.tmp 9) (Operand.tmp 10) 27, type := 4, pos := "law.go:230", after := #[{ on := 0, ground := Ground.data }, { on := 1, ground := Ground.data }], guard := none }
def oq43_1_3 : Oper := { dst := some 12, op := Op.move (Operand.tmp 11), type := 4, pos := "law.go:230", after := #[{ on := 2, ground := Ground.data }], guard := none }
def oq43_1_4 : Oper := { dst := some 13, op := Op.move (Operand.tmp 1), type := 27, pos := "law.go:230", after := #[{ on := 3, ground := Ground.guard }], guard := some (3, true) }
def oq43_1_5 : Oper := { dst := some 14, op := Op.binOp BinOp.neq 27 (Operand.tmp 13) (Operand.const (Value.int IntKind.i64 0)) 27, type := 4, pos := "law.go:230", after := #[{ on := 4, ground := Ground.data }, { on := 3, ground := Ground.guard }], guard := some (3, true) }
def oq43_1_6 : Oper := { dst := some 15, op := Op.move (Operand.tmp 14), type := 4, pos := "law.go:230", after := #[{ on := 5, ground := Ground.data }, { on := 3, ground := Ground.chain }, { on := 3, ground := Ground.guard }], guard := some (3, true) }
def oq43_1_7 : Oper := { dst := some 16, op := Op.fieldAddr 24 (Operand.tmp 6) 0, type := 0, pos := "law.go:230", after := #[{ on := 6, ground := Ground.guard }], guard := some (6, true) }
def oq43_1_8 : Oper := { dst := some 17, op := Op.load 22 (Operand.tmp 16), type := 22, pos := "law.go:230", after := #[{ on := 7, ground := Ground.data }, { on := 6, ground := Ground.guard }], guard := some (6, true) }
def oq43_1_9 : Oper := { dst := some 18, op := Op.call { callee := Callee.builtin Builtin.len, args := #[Operand.tmp 17], argTypes := #[22] }, type := 3, pos := "law.go:230", after := #[{ on := 8, ground := Ground.data }, { on := 6, ground := Ground.guard }], guard := some (6, true) }
def oq43_1_10 : Oper := { dst := some 19, op := Op.binOp BinOp.eql 3 (Operand.tmp 18) (Operand.const (Value.int IntKind.i64 0)) 3, type := 4, pos := "law.go:230", after := #[{ on := 9, ground := Ground.data }, { on := 6, ground := Ground.guard }], guard := some (6, true) }
def oq43_1_11 : Oper := { dst := some 20, op := Op.pick (Operand.tmp 15) (Operand.tmp 19) (Operand.const (Value.bool false)), type := 4, pos := "law.go:230", after := #[{ on := 6, ground := Ground.data }, { on := 10, ground := Ground.data }, { on := 3, ground := Ground.guard }], guard := some (3, true) }
def oq43_1_12 : Oper := { dst := some 21, op := Op.move (Operand.tmp 20), type := 4, pos := "law.go:230", after := #[{ on := 11, ground := Ground.data }, { on := 6, ground := Ground.chain }, { on := 3, ground := Ground.guard }], guard := some (3, true) }
def oq43_1_13 : Oper := { dst := some 22, op := Op.move (Operand.tmp 1), type := 27, pos := "law.go:230", after := #[{ on := 12, ground := Ground.guard }], guard := some (12, false) }
def oq43_1_14 : Oper := { dst := some 23, op := Op.binOp BinOp.eql 27 (Operand.tmp 22) (Operand.const (Value.int IntKind.i64 0)) 27, type := 4, pos := "law.go:230", after := #[{ on := 13, ground := Ground.data }, { on := 12, ground := Ground.guard }], guard := some (12, false) }
def oq43_1_15 : Oper := { dst := some 24, op := Op.move (Operand.tmp 23), type := 4, pos := "law.go:230", after := #[{ on := 14, ground := Ground.data }, { on := 12, ground := Ground.chain }, { on := 12, ground := Ground.guard }], guard := some (12, false) }
def oq43_1_16 : Oper := { dst := some 25, op := Op.move (Operand.tmp 0), type := 3, pos := "law.go:230", after := #[{ on := 15, ground := Ground.guard }], guard := some (15, true) }
def oq43_1_17 : Oper := { dst := some 26, op := Op.binOp BinOp.geq 3 (Operand.tmp 25) (Operand.const (Value.int IntKind.i64 0)) 3, type := 4, pos := "law.go:230", after := #[{ on := 16, ground := Ground.data }, { on := 15, ground := Ground.guard }], guard := some (15, true) }
def oq43_1_18 : Oper := { dst := some 27, op := Op.pick (Operand.tmp 24) (Operand.tmp 26) (Operand.const (Value.bool false)), type := 4, pos := "law.go:230", after := #[{ on := 15, ground := Ground.data }, { on := 17, ground := Ground.data }, { on := 12, ground := Ground.guard }], guard := some (12, false) }
def oq43_1_19 : Oper := { dst := some 28, op := Op.move (Operand.tmp 27), type := 4, pos := "law.go:230", after := #[{ on := 18, ground := Ground.data }, { on := 15, ground := Ground.chain }, { on := 12, ground := Ground.guard }], guard := some (12, false) }
def oq43_1_20 : Oper := { dst := some 29, op := Op.load 24 (Operand.tmp 6), type := 24, pos := "law.go:230", after := #[{ on := 19, ground := Ground.guard }], guard := some (19, true) }
def oq43_1_21 : Oper := { dst := some 30, op := Op.move (Operand.tmp 0), type := 3, pos := "law.go:230", after := #[{ on := 19, ground := Ground.guard }], guard := some (19, true) }
def oq43_1_22 : Oper := { dst := some 31, op := Op.convert 3 42 (Operand.tmp 30), type := 42, pos := "law.go:230", after := #[{ on := 21, ground := Ground.data }, { on := 19, ground := Ground.guard }], guard := some (19, true) }
def oq43_1_23 : Oper := { dst := some 32, op := Op.call { callee := Callee.value (Operand.func 32), args := #[Operand.tmp 31], argTypes := #[42] }, type := 24, pos := "law.go:230", after := #[{ on := 22, ground := Ground.data }, { on := 19, ground := Ground.chain }, { on := 19, ground := Ground.guard }], guard := some (19, true) }
def oq43_1_24 : Oper := { dst := some 33, op := Op.call { callee := Callee.value (Operand.func 17), args := #[Operand.tmp 29, Operand.tmp 32], argTypes := #[24, 24] }, type := 4, pos := "law.go:230", after := #[{ on := 20, ground := Ground.data }, { on := 23, ground := Ground.data }, { on := 23, ground := Ground.chain }, { on := 19, ground := Ground.guard }], guard := some (19, true) }
def oq43_1_25 : Oper := { dst := some 34, op := Op.pick (Operand.tmp 28) (Operand.tmp 33) (Operand.const (Value.bool false)), type := 4, pos := "law.go:230", after := #[{ on := 19, ground := Ground.data }, { on := 24, ground := Ground.data }, { on := 12, ground := Ground.guard }], guard := some (12, false) }
def oq43_1_26 : Oper := { dst := some 35, op := Op.pick (Operand.tmp 21) (Operand.const (Value.bool true)) (Operand.tmp 34), type := 4, pos := "law.go:230", after := #[{ on := 12, ground := Ground.data }, { on := 25, ground := Ground.data }, { on := 3, ground := Ground.guard }], guard := some (3, true) }
def oq43_1_27 : Oper := { dst := some 36, op := Op.pick (Operand.tmp 12) (Operand.tmp 35) (Operand.const (Value.bool false)), type := 4, pos := "law.go:230", after := #[{ on := 3, ground := Ground.data }, { on := 26, ground := Ground.data }], guard := none }
def oq43_1_28 : Oper := { dst := some 8, op := Op.assign (Operand.tmp 36), type := 4, pos := "law.go:230", after := #[{ on := 27, ground := Ground.data }, { on := 24, ground := Ground.chain }, { on := 0, ground := Ground.phase }, { on := 1, ground := Ground.phase }, { on := 2, ground := Ground.phase }, { on := 3, ground := Ground.phase }, { on := 4, ground := Ground.phase }, { on := 5, ground := Ground.phase }, { on := 6, ground := Ground.phase }, { on := 7, ground := Ground.phase }, { on := 8, ground := Ground.phase }, { on := 9, ground := Ground.phase }, { on := 10, ground := Ground.phase }, { on := 11, ground := Ground.phase }, { on := 12, ground := Ground.phase }, { on := 13, ground := Ground.phase }, { on := 14, ground := Ground.phase }, { on := 15, ground := Ground.phase }, { on := 16, ground := Ground.phase }, { on := 17, ground := Ground.phase }, { on := 18, ground := Ground.phase }, { on := 19, ground := Ground.phase }, { on := 20, ground := Ground.phase }, { on := 21, ground := Ground.phase }, { on := 22, ground := Ground.phase }, { on := 23, ground := Ground.phase }, { on := 24, ground := Ground.phase }, { on := 25, ground := Ground.phase }, { on := 26, ground := Ground.phase }, { on := 27, ground := Ground.phase }], guard := none }
theorem wadd_B (a b m : Int) (w : World) (h1 : 1 ≤ m) (h2 : m < 2305843009213693952) (a0 : 0 ≤ a) (a1 : a < m) (b0 : 0 ≤ b) (b1 : b < m) :
    Calls Try.prog 44 #[.int .i64 a, .int .i64 b, .int .i64 m] w (RetB (.tuple #[.int .i64 ((a + b) % m), .int .i64 0]) w) :=
  (Wd.add_ok a b m w (Wd.fault_zero h1 h2 a0 a1 b0 b1)).mono fun _ _ ⟨h, j, hj⟩ => ⟨h, by rw [hj]; exact below_drewN (Below.refl _ _) j⟩
theorem wmul_B (a b m : Int) (w : World) (h1 : 1 ≤ m) (h2 : m < 2305843009213693952) (a0 : 0 ≤ a) (a1 : a < m) (b0 : 0 ≤ b) (b1 : b < m) :
    Calls Try.prog 45 #[.int .i64 a, .int .i64 b, .int .i64 m] w (RetB (.tuple #[.int .i64 (a * b % m), .int .i64 0]) w) :=
  (Wd.mul_ok a b m w (Wd.fault_zero h1 h2 a0 a1 b0 b1)).mono fun _ _ ⟨h, j, hj⟩ => ⟨h, by rw [hj]; exact below_drewN (Below.refl _ _) j⟩
/-- What layer 1's Inverse returns. -/
noncomputable def winvS (a m : Nat) : Int × Int := if Nat.gcd a m = 1 then ((invN a m : Int), 0) else (0, 10)
theorem winv_B (a m : Nat) (w : World) (h1 : 1 ≤ m) (h2 : m < 2305843009213693952) (a1 : a < m) :
    Calls Try.prog 46 #[.int .i64 (a : Int), .int .i64 (m : Int)] w (RetB (.tuple #[.int .i64 (winvS a m).1, .int .i64 (winvS a m).2]) w) := by
  by_cases hg : Nat.gcd a m = 1
  · have e : winvS a m = ((invN a m : Int), 0) := by unfold winvS; rw [if_pos hg]
    rw [e]
    refine (Wd.inverse_ok (a : Int) (m : Int) w (by omega) (by omega) (by omega) (by omega) (by rw [← hg]; rfl)).mono fun _ _ hh => ?_
    obtain ⟨x, h, x0, x1, hx, j, hj⟩ := hh
    obtain ⟨y, rfl⟩ := Int.eq_ofNat_of_zero_le x0
    have hy : invN a m = y := invN_eq (by omega) hx
    exact ⟨by rw [h, hy], by rw [hj]; exact below_drewN (Below.refl _ _) j⟩
  · have e : winvS a m = (0, 10) := by unfold winvS; rw [if_neg hg]
    rw [e]
    exact (Wd.inverse_none (a : Int) (m : Int) w (by omega) (by omega) (by omega) (by omega) (fun c => hg (by have : ((Int.gcd (a : Int) (m : Int) : Nat)) = Nat.gcd a m := rfl; omega))).mono fun _ _ ⟨h, j, hj⟩ => ⟨h, by rw [hj]; exact below_drewN (Below.refl _ _) j⟩
set_option maxHeartbeats 8000000 in
theorem wequal_ok (A : Option Addr) (c u : Nat) (w : World) (hA : Num w w.heap.size A (nw u) u) (hu : u < 2305843009213693952) :
    Calls Try.prog 43 #[.int .i64 (u : Int), .int .i64 0, .agg #[.slice A (nw u) c], .int .i64 0] w (RetB (.bool true) w) := by
  have nu : nw u ≤ 2 := nw_le (by show u < 18446744073709551616; omega)
  have l0 : (0 : Int) ≤ ((u : Nat) : Int) := by omega
  have j0 : IntKind.u64.wrap ((u : Nat) : Int) = ((u : Nat) : Int) := by rw [IntKind.wrap_u64]; omega
  obtain ⟨b0, bw⟩ := boxes1 w (.slice A (nw u) c)
  have XA := VB.mk (B := w.heap.size) (a := u) b0 (.inl hA) bw (Nat.le_refl _) (by omega)
  have WW := bw
  clear bw b0
  go_enter Try.func43, Try.ntmps43
  go_wp2_with fail
  generalize hV : (w.alloc (.cells #[.slice A (nw u) c] 24)) = V0 at XA WW ⊢
  clear hV
  have hst : (fun w' => w'.cell? ⟨w.heap.size, 0, none⟩ = some (.slice A (nw u) c)) V0.drew := XA.cell
  replace WW := WW.drew
  replace XA := XA.drew
  have qq0 := XA.lt
  refine region_L 36 (fun w' => w'.cell? ⟨w.heap.size, 0, none⟩ = some (.slice A (nw u) c)) (by kernel_rfl) hst (fun hHeld => ?_)
  clear hst
  generalize hV : V0.drew = U0x0 at hHeld WW qq0 XA ⊢
  clear hV
  refine AnyL_take (i := 0) (oi := oq43_1_0) (v := ?_) rfl (by kernel_rfl) (by kernel_rfl) (by kernel_rfl) (by kernel_rfl) (fun _ _ _ h => h) (Or.inl ⟨by rfl, ?_⟩) (by assumption) ?_
  rotate_left
  · (delta oq43_1_0; intro ws hSw; (try dsimp only at hSw); (try go_simp); (try with_reducible rfl))
  (try simp only [oq43_1_0, Act.put, List.setIfInBounds_toArray, List.set_cons_zero, List.set_cons_succ])
  refine AnyL_take (i := 1) (oi := oq43_1_1) (v := ?_) rfl (by kernel_rfl) (by kernel_rfl) (by kernel_rfl) (by kernel_rfl) (fun _ _ _ h => h) (Or.inl ⟨by rfl, ?_⟩) (by assumption) ?_
  rotate_left
  · (delta oq43_1_1; intro ws hSw; (try dsimp only at hSw); (try go_simp); (try with_reducible rfl))
  (try simp only [oq43_1_1, Act.put, List.setIfInBounds_toArray, List.set_cons_zero, List.set_cons_succ])
  refine AnyL_take (i := 2) (oi := oq43_1_2) (v := ?_) rfl (by kernel_rfl) (by kernel_rfl) (by kernel_rfl) (by kernel_rfl) (fun _ _ _ h => h) (Or.inl ⟨by rfl, ?_⟩) (by assumption) ?_
  rotate_left
  · (delta oq43_1_2; intro ws hSw; (try dsimp only at hSw); (try go_simp); (try with_reducible rfl))
  (try simp only [oq43_1_2, Act.put, List.setIfInBounds_toArray, List.set_cons_zero, List.set_cons_succ])
  refine AnyL_take (i := 3) (oi := oq43_1_3) (v := ?_) rfl (by kernel_rfl) (by kernel_rfl) (by kernel_rfl) (by kernel_rfl) (fun _ _ _ h => h) (Or.inl ⟨by rfl, ?_⟩) (by assumption) ?_
  rotate_left
  · (delta oq43_1_3; intro ws hSw; (try dsimp only at hSw); (try go_simp); (try with_reducible rfl))
  (try simp only [oq43_1_3, Act.put, List.setIfInBounds_toArray, List.set_cons_zero, List.set_cons_succ])
  refine AnyL_take (i := 4) (oi := oq43_1_4) (v := ?_) rfl (by kernel_rfl) (by kernel_rfl) (by kernel_rfl) (by kernel_rfl) (fun _ _ _ h => h) (Or.inl ⟨by rfl, ?_⟩) (by assumption) ?_
  rotate_left
  · (delta oq43_1_4; intro ws hSw; (try dsimp only at hSw); (try go_simp); (try with_reducible rfl))
  (try simp only [oq43_1_4, Act.put, List.setIfInBounds_toArray, List.set_cons_zero, List.set_cons_succ])
  refine AnyL_take (i := 5) (oi := oq43_1_5) (v := ?_) rfl (by kernel_rfl) (by kernel_rfl) (by kernel_rfl) (by kernel_rfl) (fun _ _ _ h => h) (Or.inl ⟨by rfl, ?_⟩) (by assumption) ?_
  rotate_left
  · (delta oq43_1_5; intro ws hSw; (try dsimp only at hSw); (try go_simp); (try with_reducible rfl))
  (try simp only [oq43_1_5, Act.put, List.setIfInBounds_toArray, List.set_cons_zero, List.set_cons_succ])
  refine AnyL_take (i := 6) (oi := oq43_1_6) (v := ?_) rfl (by kernel_rfl) (by kernel_rfl) (by kernel_rfl) (by kernel_rfl) (fun _ _ _ h => h) (Or.inl ⟨by rfl, ?_⟩) (by assumption) ?_
  rotate_left
  · (delta oq43_1_6; intro ws hSw; (try dsimp only at hSw); (try go_simp); (try with_reducible rfl))
  (try simp only [oq43_1_6, Act.put, List.setIfInBounds_toArray, List.set_cons_zero, List.set_cons_succ])
  refine AnyL_take (i := 7) (oi := oq43_1_7) (v := _) rfl (by kernel_rfl) (by kernel_rfl) (by kernel_rfl) (by kernel_rfl) (fun _ _ _ h => h) (Or.inr ⟨by rfl, rfl⟩) (by assumption) ?_
  (try simp only [oq43_1_7, Act.put, List.setIfInBounds_toArray, List.set_cons_zero, List.set_cons_succ])
  refine AnyL_take (i := 8) (oi := oq43_1_8) (v := _) rfl (by kernel_rfl) (by kernel_rfl) (by kernel_rfl) (by kernel_rfl) (fun _ _ _ h => h) (Or.inr ⟨by rfl, rfl⟩) (by assumption) ?_
  (try simp only [oq43_1_8, Act.put, List.setIfInBounds_toArray, List.set_cons_zero, List.set_cons_succ])
  refine AnyL_take (i := 9) (oi := oq43_1_9) (v := _) rfl (by kernel_rfl) (by kernel_rfl) (by kernel_rfl) (by kernel_rfl) (fun _ _ _ h => h) (Or.inr ⟨by rfl, rfl⟩) (by assumption) ?_
  (try simp only [oq43_1_9, Act.put, List.setIfInBounds_toArray, List.set_cons_zero, List.set_cons_succ])
  refine AnyL_take (i := 10) (oi := oq43_1_10) (v := _) rfl (by kernel_rfl) (by kernel_rfl) (by kernel_rfl) (by kernel_rfl) (fun _ _ _ h => h) (Or.inr ⟨by rfl, rfl⟩) (by assumption) ?_
  (try simp only [oq43_1_10, Act.put, List.setIfInBounds_toArray, List.set_cons_zero, List.set_cons_succ])
  refine AnyL_take (i := 11) (oi := oq43_1_11) (v := ?_) rfl (by kernel_rfl) (by kernel_rfl) (by kernel_rfl) (by kernel_rfl) (fun _ _ _ h => h) (Or.inl ⟨by rfl, ?_⟩) (by assumption) ?_
  rotate_left
  · (delta oq43_1_11; intro ws hSw; (try dsimp only at hSw); (try go_simp); (try with_reducible rfl))
  (try simp only [oq43_1_11, Act.put, List.setIfInBounds_toArray, List.set_cons_zero, List.set_cons_succ])
  refine AnyL_take (i := 12) (oi := oq43_1_12) (v := ?_) rfl (by kernel_rfl) (by kernel_rfl) (by kernel_rfl) (by kernel_rfl) (fun _ _ _ h => h) (Or.inl ⟨by rfl, ?_⟩) (by assumption) ?_
  rotate_left
  · (delta oq43_1_12; intro ws hSw; (try dsimp only at hSw); (try go_simp); (try with_reducible rfl))
  (try simp only [oq43_1_12, Act.put, List.setIfInBounds_toArray, List.set_cons_zero, List.set_cons_succ])
  refine AnyL_take (i := 13) (oi := oq43_1_13) (v := ?_) rfl (by kernel_rfl) (by kernel_rfl) (by kernel_rfl) (by kernel_rfl) (fun _ _ _ h => h) (Or.inl ⟨by rfl, ?_⟩) (by assumption) ?_
  rotate_left
  · (delta oq43_1_13; intro ws hSw; (try dsimp only at hSw); (try go_simp); (try with_reducible rfl))
  (try simp only [oq43_1_13, Act.put, List.setIfInBounds_toArray, List.set_cons_zero, List.set_cons_succ])
  refine AnyL_take (i := 14) (oi := oq43_1_14) (v := ?_) rfl (by kernel_rfl) (by kernel_rfl) (by kernel_rfl) (by kernel_rfl) (fun _ _ _ h => h) (Or.inl ⟨by rfl, ?_⟩) (by assumption) ?_
  rotate_left
  · (delta oq43_1_14; intro ws hSw; (try dsimp only at hSw); (try go_simp); (try with_reducible rfl))
  (try simp only [oq43_1_14, Act.put, List.setIfInBounds_toArray, List.set_cons_zero, List.set_cons_succ])
  refine AnyL_take (i := 15) (oi := oq43_1_15) (v := ?_) rfl (by kernel_rfl) (by kernel_rfl) (by kernel_rfl) (by kernel_rfl) (fun _ _ _ h => h) (Or.inl ⟨by rfl, ?_⟩) (by assumption) ?_
  rotate_left
  · (delta oq43_1_15; intro ws hSw; (try dsimp only at hSw); (try go_simp); (try with_reducible rfl))
  (try simp only [oq43_1_15, Act.put, List.setIfInBounds_toArray, List.set_cons_zero, List.set_cons_succ])
  refine AnyL_take (i := 16) (oi := oq43_1_16) (v := ?_) rfl (by kernel_rfl) (by kernel_rfl) (by kernel_rfl) (by kernel_rfl) (fun _ _ _ h => h) (Or.inl ⟨by rfl, ?_⟩) (by assumption) ?_
  rotate_left
  · (delta oq43_1_16; intro ws hSw; (try dsimp only at hSw); (try go_simp); (try with_reducible rfl))
  (try simp only [oq43_1_16, Act.put, List.setIfInBounds_toArray, List.set_cons_zero, List.set_cons_succ])
  refine AnyL_take (i := 17) (oi := oq43_1_17) (v := ?_) rfl (by kernel_rfl) (by kernel_rfl) (by kernel_rfl) (by kernel_rfl) (fun _ _ _ h => h) (Or.inl ⟨by rfl, ?_⟩) (by assumption) ?_
  rotate_left
  · (delta oq43_1_17; intro ws hSw; (try dsimp only at hSw); (try go_simp); (try with_reducible rfl))
  (try simp only [oq43_1_17, Act.put, List.setIfInBounds_toArray, List.set_cons_zero, List.set_cons_succ])
  refine AnyL_take (i := 18) (oi := oq43_1_18) (v := ?_) rfl (by kernel_rfl) (by kernel_rfl) (by kernel_rfl) (by kernel_rfl) (fun _ _ _ h => h) (Or.inl ⟨by rfl, ?_⟩) (by assumption) ?_
  rotate_left
  · (delta oq43_1_18; intro ws hSw; (try dsimp only at hSw); (try go_simp); (try with_reducible rfl))
  (try simp only [oq43_1_18, Act.put, List.setIfInBounds_toArray, List.set_cons_zero, List.set_cons_succ])
  refine AnyL_take (i := 19) (oi := oq43_1_19) (v := ?_) rfl (by kernel_rfl) (by kernel_rfl) (by kernel_rfl) (by kernel_rfl) (fun _ _ _ h => h) (Or.inl ⟨by rfl, ?_⟩) (by assumption) ?_
  rotate_left
  · (delta oq43_1_19; intro ws hSw; (try dsimp only at hSw); (try go_simp); (try with_reducible rfl))
  (try simp only [oq43_1_19, Act.put, List.setIfInBounds_toArray, List.set_cons_zero, List.set_cons_succ])
  refine AnyL_take (i := 20) (oi := oq43_1_20) (v := ?_) rfl (by kernel_rfl) (by kernel_rfl) (by kernel_rfl) (by kernel_rfl) (fun _ _ _ h => h) (Or.inl ⟨by rfl, ?_⟩) (by assumption) ?_
  rotate_left
  · (delta oq43_1_20; intro ws hSw; (try dsimp only at hSw); (try go_simp); (try with_reducible rfl))
  (try simp only [oq43_1_20, Act.put, List.setIfInBounds_toArray, List.set_cons_zero, List.set_cons_succ])
  refine AnyL_take (i := 21) (oi := oq43_1_21) (v := ?_) rfl (by kernel_rfl) (by kernel_rfl) (by kernel_rfl) (by kernel_rfl) (fun _ _ _ h => h) (Or.inl ⟨by rfl, ?_⟩) (by assumption) ?_
  rotate_left
  · (delta oq43_1_21; intro ws hSw; (try dsimp only at hSw); (try go_simp); (try with_reducible rfl))
  (try simp only [oq43_1_21, Act.put, List.setIfInBounds_toArray, List.set_cons_zero, List.set_cons_succ])
  refine AnyL_take (i := 22) (oi := oq43_1_22) (v := ?_) rfl (by kernel_rfl) (by kernel_rfl) (by kernel_rfl) (by kernel_rfl) (fun _ _ _ h => h) (Or.inl ⟨by rfl, ?_⟩) (by assumption) ?_
  rotate_left
  · (delta oq43_1_22; intro ws hSw; (try dsimp only at hSw); (try go_simp); (try with_reducible rfl))
  (try simp only [oq43_1_22, Act.put, List.setIfInBounds_toArray, List.set_cons_zero, List.set_cons_succ])
  refine AnyL_ready (rs := [23]) (by kernel_rfl) (by simp) ?_
  refine ReadyL.cons (o := oq43_1_23) rfl (fun K hK => ?_) ReadyL.nil
  delta oq43_1_23
  go_simp
  have hbs : w.heap.size ≤ U0x0.heap.size := WW.size
  have hc := of3_any u U0x0 (by omega)
  refine hc.mono ?_
  clear hc
  rintro e V2 ⟨v, rfl, hv, hb⟩
  replace XA := XA.below hb
  replace WW := WW.trans (hb.mono WW.size)
  have sz2 := hb.size
  obtain ⟨D1, d1, rfl, ho⟩ := hv
  have O1 := ho.weak (b := w.heap.size) hbs
  clear ho
  clear hb hbs
  refine hK.out _ _ (XA.cell) (fun hHeld2 => ?_)
  clear hK K hHeld
  have hHeld := hHeld2
  clear hHeld2
  (try simp only [oq43_1_23, Act.put, List.setIfInBounds_toArray, List.set_cons_zero, List.set_cons_succ])
  refine AnyL_ready (rs := [24]) (by kernel_rfl) (by simp) ?_
  refine ReadyL.cons (o := oq43_1_24) rfl (fun K hK => ?_) ReadyL.nil
  delta oq43_1_24
  go_simp
  have hbs : w.heap.size ≤ V2.heap.size := WW.size
  have hc := same3_any A D1 _ _ c d1 u u V2 XA.num O1.num (by omega) (by omega)
  rw [sameB_yes] at hc
  refine hc.mono ?_
  clear hc
  rintro e V3 ⟨rfl, hb⟩
  replace XA := XA.below hb
  replace O1 := O1.below hb (Nat.le_refl _)
  replace WW := WW.trans (hb.mono WW.size)
  have sz3 := hb.size
  clear hb hbs
  refine hK.out _ _ (XA.cell) (fun hHeld2 => ?_)
  clear hK K hHeld
  have hHeld := hHeld2
  clear hHeld2
  (try simp only [oq43_1_24, Act.put, List.setIfInBounds_toArray, List.set_cons_zero, List.set_cons_succ])
  refine AnyL_take (i := 25) (oi := oq43_1_25) (v := ?_) rfl (by kernel_rfl) (by kernel_rfl) (by kernel_rfl) (by kernel_rfl) (fun _ _ _ h => h) (Or.inl ⟨by rfl, ?_⟩) (by assumption) ?_
  rotate_left
  · (delta oq43_1_25; intro ws hSw; (try dsimp only at hSw); (try go_simp); (try with_reducible rfl))
  (try simp only [oq43_1_25, Act.put, List.setIfInBounds_toArray, List.set_cons_zero, List.set_cons_succ])
  refine AnyL_take (i := 26) (oi := oq43_1_26) (v := ?_) rfl (by kernel_rfl) (by kernel_rfl) (by kernel_rfl) (by kernel_rfl) (fun _ _ _ h => h) (Or.inl ⟨by rfl, ?_⟩) (by assumption) ?_
  rotate_left
  · (delta oq43_1_26; intro ws hSw; (try dsimp only at hSw); (try go_simp); (try with_reducible rfl))
  (try simp only [oq43_1_26, Act.put, List.setIfInBounds_toArray, List.set_cons_zero, List.set_cons_succ])
  refine AnyL_take (i := 27) (oi := oq43_1_27) (v := ?_) rfl (by kernel_rfl) (by kernel_rfl) (by kernel_rfl) (by kernel_rfl) (fun _ _ _ h => h) (Or.inl ⟨by rfl, ?_⟩) (by assumption) ?_
  rotate_left
  · (delta oq43_1_27; intro ws hSw; (try dsimp only at hSw); (try go_simp); (try with_reducible rfl))
  (try simp only [oq43_1_27, Act.put, List.setIfInBounds_toArray, List.set_cons_zero, List.set_cons_succ])
  refine AnyL_take (i := 28) (oi := oq43_1_28) (v := ?_) rfl (by kernel_rfl) (by kernel_rfl) (by kernel_rfl) (by kernel_rfl) (fun _ _ _ h => h) (Or.inl ⟨by rfl, ?_⟩) (by assumption) ?_
  rotate_left
  · (delta oq43_1_28; intro ws hSw; (try dsimp only at hSw); (try go_simp); (try with_reducible rfl))
  (try simp only [oq43_1_28, Act.put, List.setIfInBounds_toArray, List.set_cons_zero, List.set_cons_succ])
  refine AnyL_done (by kernel_rfl) ?_ _
  clear hHeld
  have kXA := XA.cell
  have zXA := XA.lt
  go_wp2_with fail
  go_ret
  exact ⟨rfl, WW⟩

set_option maxHeartbeats 8000000 in
theorem wequal_err (A : Option Addr) (c  : Nat) (e : Int) (w : World) (hA : Num w w.heap.size A (nw 0) 0) (he : (e != 0) = true) :
    Calls Try.prog 43 #[.int .i64 0, .int .i64 e, .agg #[.slice A (nw 0) c], .int .i64 e] w (RetB (.bool true) w) := by
  have z2 : (e == e) = true := by simp
  have z0 : (((nw 0 : Nat) : Int) == 0) = true := rfl
  obtain ⟨b0, bw⟩ := boxes1 w (.slice A (nw 0) c)
  have XA := VB.mk (B := w.heap.size) (a := 0) b0 (.inl hA) bw (Nat.le_refl _) (by omega)
  have WW := bw
  clear bw b0
  go_enter Try.func43, Try.ntmps43
  go_wp2_with fail
  generalize hV : (w.alloc (.cells #[.slice A (nw 0) c] 24)) = V0 at XA WW ⊢
  clear hV
  have hst : (fun w' => w'.cell? ⟨w.heap.size, 0, none⟩ = some (.slice A (nw 0) c)) V0.drew := XA.cell
  replace WW := WW.drew
  replace XA := XA.drew
  have qq0 := XA.lt
  refine region_L 36 (fun w' => w'.cell? ⟨w.heap.size, 0, none⟩ = some (.slice A (nw 0) c)) (by kernel_rfl) hst (fun hHeld => ?_)
  clear hst
  generalize hV : V0.drew = U0x0 at hHeld WW qq0 XA ⊢
  clear hV
  refine AnyL_take (i := 0) (oi := oq43_1_0) (v := ?_) rfl (by kernel_rfl) (by kernel_rfl) (by kernel_rfl) (by kernel_rfl) (fun _ _ _ h => h) (Or.inl ⟨by rfl, ?_⟩) (by assumption) ?_
  rotate_left
  · (delta oq43_1_0; intro ws hSw; (try dsimp only at hSw); (try go_simp); (try with_reducible rfl))
  (try simp only [oq43_1_0, Act.put, List.setIfInBounds_toArray, List.set_cons_zero, List.set_cons_succ])
  refine AnyL_take (i := 1) (oi := oq43_1_1) (v := ?_) rfl (by kernel_rfl) (by kernel_rfl) (by kernel_rfl) (by kernel_rfl) (fun _ _ _ h => h) (Or.inl ⟨by rfl, ?_⟩) (by assumption) ?_
  rotate_left
  · (delta oq43_1_1; intro ws hSw; (try dsimp only at hSw); (try go_simp); (try with_reducible rfl))
  (try simp only [oq43_1_1, Act.put, List.setIfInBounds_toArray, List.set_cons_zero, List.set_cons_succ])
  refine AnyL_take (i := 2) (oi := oq43_1_2) (v := ?_) rfl (by kernel_rfl) (by kernel_rfl) (by kernel_rfl) (by kernel_rfl) (fun _ _ _ h => h) (Or.inl ⟨by rfl, ?_⟩) (by assumption) ?_
  rotate_left
  · (delta oq43_1_2; intro ws hSw; (try dsimp only at hSw); (try go_simp); (try with_reducible rfl))
  (try simp only [oq43_1_2, Act.put, List.setIfInBounds_toArray, List.set_cons_zero, List.set_cons_succ])
  refine AnyL_take (i := 3) (oi := oq43_1_3) (v := ?_) rfl (by kernel_rfl) (by kernel_rfl) (by kernel_rfl) (by kernel_rfl) (fun _ _ _ h => h) (Or.inl ⟨by rfl, ?_⟩) (by assumption) ?_
  rotate_left
  · (delta oq43_1_3; intro ws hSw; (try dsimp only at hSw); (try go_simp); (try with_reducible rfl))
  (try simp only [oq43_1_3, Act.put, List.setIfInBounds_toArray, List.set_cons_zero, List.set_cons_succ])
  refine AnyL_take (i := 4) (oi := oq43_1_4) (v := ?_) rfl (by kernel_rfl) (by kernel_rfl) (by kernel_rfl) (by kernel_rfl) (fun _ _ _ h => h) (Or.inl ⟨by rfl, ?_⟩) (by assumption) ?_
  rotate_left
  · (delta oq43_1_4; intro ws hSw; (try dsimp only at hSw); (try go_simp); (try with_reducible rfl))
  (try simp only [oq43_1_4, Act.put, List.setIfInBounds_toArray, List.set_cons_zero, List.set_cons_succ])
  refine AnyL_take (i := 5) (oi := oq43_1_5) (v := ?_) rfl (by kernel_rfl) (by kernel_rfl) (by kernel_rfl) (by kernel_rfl) (fun _ _ _ h => h) (Or.inl ⟨by rfl, ?_⟩) (by assumption) ?_
  rotate_left
  · (delta oq43_1_5; intro ws hSw; (try dsimp only at hSw); (try go_simp); (try with_reducible rfl))
  (try simp only [oq43_1_5, Act.put, List.setIfInBounds_toArray, List.set_cons_zero, List.set_cons_succ])
  refine AnyL_take (i := 6) (oi := oq43_1_6) (v := ?_) rfl (by kernel_rfl) (by kernel_rfl) (by kernel_rfl) (by kernel_rfl) (fun _ _ _ h => h) (Or.inl ⟨by rfl, ?_⟩) (by assumption) ?_
  rotate_left
  · (delta oq43_1_6; intro ws hSw; (try dsimp only at hSw); (try go_simp); (try with_reducible rfl))
  (try simp only [oq43_1_6, Act.put, List.setIfInBounds_toArray, List.set_cons_zero, List.set_cons_succ])
  refine AnyL_take (i := 7) (oi := oq43_1_7) (v := ?_) rfl (by kernel_rfl) (by kernel_rfl) (by kernel_rfl) (by kernel_rfl) (fun _ _ _ h => h) (Or.inl ⟨by rfl, ?_⟩) (by assumption) ?_
  rotate_left
  · (delta oq43_1_7; intro ws hSw; (try dsimp only at hSw); (try go_simp); (try with_reducible rfl))
  (try simp only [oq43_1_7, Act.put, List.setIfInBounds_toArray, List.set_cons_zero, List.set_cons_succ])
  refine AnyL_take (i := 8) (oi := oq43_1_8) (v := ?_) rfl (by kernel_rfl) (by kernel_rfl) (by kernel_rfl) (by kernel_rfl) (fun _ _ _ h => h) (Or.inl ⟨by rfl, ?_⟩) (by assumption) ?_
  rotate_left
  · (delta oq43_1_8; intro ws hSw; (try dsimp only at hSw); (try go_simp); (try with_reducible rfl))
  (try simp only [oq43_1_8, Act.put, List.setIfInBounds_toArray, List.set_cons_zero, List.set_cons_succ])
  refine AnyL_take (i := 9) (oi := oq43_1_9) (v := ?_) rfl (by kernel_rfl) (by kernel_rfl) (by kernel_rfl) (by kernel_rfl) (fun _ _ _ h => h) (Or.inl ⟨by rfl, ?_⟩) (by assumption) ?_
  rotate_left
  · (delta oq43_1_9; intro ws hSw; (try dsimp only at hSw); (try go_simp); (try with_reducible rfl))
  (try simp only [oq43_1_9, Act.put, List.setIfInBounds_toArray, List.set_cons_zero, List.set_cons_succ])
  refine AnyL_take (i := 10) (oi := oq43_1_10) (v := ?_) rfl (by kernel_rfl) (by kernel_rfl) (by kernel_rfl) (by kernel_rfl) (fun _ _ _ h => h) (Or.inl ⟨by rfl, ?_⟩) (by assumption) ?_
  rotate_left
  · (delta oq43_1_10; intro ws hSw; (try dsimp only at hSw); (try go_simp); (try with_reducible rfl))
  (try simp only [oq43_1_10, Act.put, List.setIfInBounds_toArray, List.set_cons_zero, List.set_cons_succ])
  refine AnyL_take (i := 11) (oi := oq43_1_11) (v := ?_) rfl (by kernel_rfl) (by kernel_rfl) (by kernel_rfl) (by kernel_rfl) (fun _ _ _ h => h) (Or.inl ⟨by rfl, ?_⟩) (by assumption) ?_
  rotate_left
  · (delta oq43_1_11; intro ws hSw; (try dsimp only at hSw); (try go_simp); (try with_reducible rfl))
  (try simp only [oq43_1_11, Act.put, List.setIfInBounds_toArray, List.set_cons_zero, List.set_cons_succ])
  refine AnyL_take (i := 12) (oi := oq43_1_12) (v := ?_) rfl (by kernel_rfl) (by kernel_rfl) (by kernel_rfl) (by kernel_rfl) (fun _ _ _ h => h) (Or.inl ⟨by rfl, ?_⟩) (by assumption) ?_
  rotate_left
  · (delta oq43_1_12; intro ws hSw; (try dsimp only at hSw); (try go_simp); (try with_reducible rfl))
  (try simp only [oq43_1_12, Act.put, List.setIfInBounds_toArray, List.set_cons_zero, List.set_cons_succ])
  refine AnyL_take (i := 13) (oi := oq43_1_13) (v := _) rfl (by kernel_rfl) (by kernel_rfl) (by kernel_rfl) (by kernel_rfl) (fun _ _ _ h => h) (Or.inr ⟨by rfl, rfl⟩) (by assumption) ?_
  (try simp only [oq43_1_13, Act.put, List.setIfInBounds_toArray, List.set_cons_zero, List.set_cons_succ])
  refine AnyL_take (i := 14) (oi := oq43_1_14) (v := _) rfl (by kernel_rfl) (by kernel_rfl) (by kernel_rfl) (by kernel_rfl) (fun _ _ _ h => h) (Or.inr ⟨by rfl, rfl⟩) (by assumption) ?_
  (try simp only [oq43_1_14, Act.put, List.setIfInBounds_toArray, List.set_cons_zero, List.set_cons_succ])
  refine AnyL_take (i := 15) (oi := oq43_1_15) (v := _) rfl (by kernel_rfl) (by kernel_rfl) (by kernel_rfl) (by kernel_rfl) (fun _ _ _ h => h) (Or.inr ⟨by rfl, rfl⟩) (by assumption) ?_
  (try simp only [oq43_1_15, Act.put, List.setIfInBounds_toArray, List.set_cons_zero, List.set_cons_succ])
  refine AnyL_take (i := 16) (oi := oq43_1_16) (v := _) rfl (by kernel_rfl) (by kernel_rfl) (by kernel_rfl) (by kernel_rfl) (fun _ _ _ h => h) (Or.inr ⟨by rfl, rfl⟩) (by assumption) ?_
  (try simp only [oq43_1_16, Act.put, List.setIfInBounds_toArray, List.set_cons_zero, List.set_cons_succ])
  refine AnyL_take (i := 17) (oi := oq43_1_17) (v := _) rfl (by kernel_rfl) (by kernel_rfl) (by kernel_rfl) (by kernel_rfl) (fun _ _ _ h => h) (Or.inr ⟨by rfl, rfl⟩) (by assumption) ?_
  (try simp only [oq43_1_17, Act.put, List.setIfInBounds_toArray, List.set_cons_zero, List.set_cons_succ])
  refine AnyL_take (i := 18) (oi := oq43_1_18) (v := _) rfl (by kernel_rfl) (by kernel_rfl) (by kernel_rfl) (by kernel_rfl) (fun _ _ _ h => h) (Or.inr ⟨by rfl, rfl⟩) (by assumption) ?_
  (try simp only [oq43_1_18, Act.put, List.setIfInBounds_toArray, List.set_cons_zero, List.set_cons_succ])
  refine AnyL_take (i := 19) (oi := oq43_1_19) (v := _) rfl (by kernel_rfl) (by kernel_rfl) (by kernel_rfl) (by kernel_rfl) (fun _ _ _ h => h) (Or.inr ⟨by rfl, rfl⟩) (by assumption) ?_
  (try simp only [oq43_1_19, Act.put, List.setIfInBounds_toArray, List.set_cons_zero, List.set_cons_succ])
  refine AnyL_take (i := 20) (oi := oq43_1_20) (v := _) rfl (by kernel_rfl) (by kernel_rfl) (by kernel_rfl) (by kernel_rfl) (fun _ _ _ h => h) (Or.inr ⟨by rfl, rfl⟩) (by assumption) ?_
  (try simp only [oq43_1_20, Act.put, List.setIfInBounds_toArray, List.set_cons_zero, List.set_cons_succ])
  refine AnyL_take (i := 21) (oi := oq43_1_21) (v := _) rfl (by kernel_rfl) (by kernel_rfl) (by kernel_rfl) (by kernel_rfl) (fun _ _ _ h => h) (Or.inr ⟨by rfl, rfl⟩) (by assumption) ?_
  (try simp only [oq43_1_21, Act.put, List.setIfInBounds_toArray, List.set_cons_zero, List.set_cons_succ])
  refine AnyL_take (i := 22) (oi := oq43_1_22) (v := _) rfl (by kernel_rfl) (by kernel_rfl) (by kernel_rfl) (by kernel_rfl) (fun _ _ _ h => h) (Or.inr ⟨by rfl, rfl⟩) (by assumption) ?_
  (try simp only [oq43_1_22, Act.put, List.setIfInBounds_toArray, List.set_cons_zero, List.set_cons_succ])
  refine AnyL_take (i := 23) (oi := oq43_1_23) (v := _) rfl (by kernel_rfl) (by kernel_rfl) (by kernel_rfl) (by kernel_rfl) (fun _ _ _ h => h) (Or.inr ⟨by rfl, rfl⟩) (by assumption) ?_
  (try simp only [oq43_1_23, Act.put, List.setIfInBounds_toArray, List.set_cons_zero, List.set_cons_succ])
  refine AnyL_take (i := 24) (oi := oq43_1_24) (v := _) rfl (by kernel_rfl) (by kernel_rfl) (by kernel_rfl) (by kernel_rfl) (fun _ _ _ h => h) (Or.inr ⟨by rfl, rfl⟩) (by assumption) ?_
  (try simp only [oq43_1_24, Act.put, List.setIfInBounds_toArray, List.set_cons_zero, List.set_cons_succ])
  refine AnyL_take (i := 25) (oi := oq43_1_25) (v := _) rfl (by kernel_rfl) (by kernel_rfl) (by kernel_rfl) (by kernel_rfl) (fun _ _ _ h => h) (Or.inr ⟨by rfl, rfl⟩) (by assumption) ?_
  (try simp only [oq43_1_25, Act.put, List.setIfInBounds_toArray, List.set_cons_zero, List.set_cons_succ])
  refine AnyL_take (i := 26) (oi := oq43_1_26) (v := ?_) rfl (by kernel_rfl) (by kernel_rfl) (by kernel_rfl) (by kernel_rfl) (fun _ _ _ h => h) (Or.inl ⟨by rfl, ?_⟩) (by assumption) ?_
  rotate_left
  · (delta oq43_1_26; intro ws hSw; (try dsimp only at hSw); (try go_simp); (try with_reducible rfl))
  (try simp only [oq43_1_26, Act.put, List.setIfInBounds_toArray, List.set_cons_zero, List.set_cons_succ])
  refine AnyL_take (i := 27) (oi := oq43_1_27) (v := ?_) rfl (by kernel_rfl) (by kernel_rfl) (by kernel_rfl) (by kernel_rfl) (fun _ _ _ h => h) (Or.inl ⟨by rfl, ?_⟩) (by assumption) ?_
  rotate_left
  · (delta oq43_1_27; intro ws hSw; (try dsimp only at hSw); (try go_simp); (try with_reducible rfl))
  (try simp only [oq43_1_27, Act.put, List.setIfInBounds_toArray, List.set_cons_zero, List.set_cons_succ])
  refine AnyL_take (i := 28) (oi := oq43_1_28) (v := ?_) rfl (by kernel_rfl) (by kernel_rfl) (by kernel_rfl) (by kernel_rfl) (fun _ _ _ h => h) (Or.inl ⟨by rfl, ?_⟩) (by assumption) ?_
  rotate_left
  · (delta oq43_1_28; intro ws hSw; (try dsimp only at hSw); (try go_simp); (try with_reducible rfl))
  (try simp only [oq43_1_28, Act.put, List.setIfInBounds_toArray, List.set_cons_zero, List.set_cons_succ])
  refine AnyL_done (by kernel_rfl) ?_ _
  clear hHeld
  have kXA := XA.cell
  have zXA := XA.lt
  go_wp2_with fail
  go_ret
  exact ⟨rfl, WW⟩

theorem wequal_z (A : Option Addr) (c u : Nat) (z : Int) (w : World) (hA : Num w w.heap.size A (nw u) u) (hu : u < 2305843009213693952) (hz : z = (u : Int)) :
    Calls Try.prog 43 #[.int .i64 z, .int .i64 0, .agg #[.slice A (nw u) c], .int .i64 0] w (RetB (.bool true) w) := by
  rw [hz]; exact wequal_ok A c u w hA hu
theorem winv_z (a m : Nat) (x y : Int) (w : World) (h1 : 1 ≤ m) (h2 : m < 2305843009213693952) (a1 : a < m) (hx : x = (a : Int)) (hy : y = (m : Int)) :
    Calls Try.prog 46 #[.int .i64 x, .int .i64 y] w (RetB (.tuple #[.int .i64 (winvS a m).1, .int .i64 (winvS a m).2]) w) := by
  rw [hx, hy]; exact winv_B a m w h1 h2 a1
end Go.Proofs.Ytckajjapockonaa
