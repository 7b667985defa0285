/- slices.IsSorted. -/
import Derived.Test.YtomkmkjkeihodaaDoorP18
import Derived.IntWalk
set_option linter.unusedVariables false
set_option linter.unusedSimpArgs false
namespace Go.Proofs.YtomkmkjkeihodaaDoor
open Go.RowKit

def oq26_4_0 : Oper := { dst := some 11, op := Op.move (Operand.tmp 0), type := 28, pos := "sort.go:44", after := #[], guard := none }
def oq26_4_1 : Oper := { dst := some 12, op := Op.move (Operand.tmp 3), type := 3, pos := "sort.go:44", after := #[], guard := none }
def oq26_4_2 : Oper := { dst := some 13, op := Op.indexAddr 28 (Operand.tmp 11) (Operand.tmp 12), type := 0, pos := "sort.go:44", after := #[{ on := 0, ground := Ground.data }, { on := 1, ground := Ground.data }], guard := none }
def oq26_4_3 : Oper := { dst := some 14, op := Op.load 3 (Operand.tmp 13), type := 3, pos := "sort.go:44", after := #[{ on := 2, ground := Ground.data }], guard := none }
def oq26_4_4 : Oper := { dst := some 15, op := Op.move (Operand.tmp 0), type := 28, pos := "sort.go:44", after := #[], guard := none }
def oq26_4_5 : Oper := { dst := some 16, op := Op.move (Operand.tmp 3), type := 3, pos := "sort.go:44", after := #[], guard := none }
def oq26_4_6 : Oper := { dst := some 17, op := Op.binOp BinOp.sub 3 (Operand.tmp 16) (Operand.const (Value.int IntKind.i64 1)) 3, type := 3, pos := "sort.go:44", after := #[{ on := 5, ground := Ground.data }], guard := none }
def oq26_4_7 : Oper := { dst := some 18, op := Op.indexAddr 28 (Operand.tmp 15) (Operand.tmp 17), type := 0, pos := "sort.go:44", after := #[{ on := 4, ground := Ground.data }, { on := 6, ground := Ground.data }], guard := none }
def oq26_4_8 : Oper := { dst := some 19, op := Op.load 3 (Operand.tmp 18), type := 3, pos := "sort.go:44", after := #[{ on := 7, ground := Ground.data }], guard := none }
def oq26_4_9 : Oper := { dst := some 20, op := Op.call { callee := Callee.value (Operand.func 43), args := #[Operand.tmp 14, Operand.tmp 19], argTypes := #[3, 3] }, type := 4, pos := "sort.go:44", after := #[{ on := 3, ground := Ground.data }, { on := 8, ground := Ground.data }], guard := none }
theorem lessI_any (x y : Int) (w : World) : Calls Tryd.prog 43 #[.int .i64 x, .int .i64 y] w (RetB (.bool (decide (x < y))) w) := by
  refine (Tryd.cmp_Less_int2 x y w).mono ?_
  rintro e w' ⟨rfl, rfl⟩
  exact ⟨rfl, Below.refl _ _⟩
set_option maxHeartbeats 4000000 in
set_option maxRecDepth 100000 in
theorem sorted_any (v : Value) (l : List Nat) (w : World) (hI : IsInts w v l) (hl : l.length ≤ 1000000) (hq : ∀ q ∈ l, q ≤ 9223372036854775807) (hs : l.Pairwise (· ≤ ·)) : Calls Tryd.prog 26 #[v] w (RetB (.bool true) w) := by
  obtain ⟨A, c, rfl, hI⟩ := hI
  have HI := hid hI
  have HS := hid hs
  have HQ := hid hq
  clear hI hs hq
  obtain ⟨n, hn⟩ : ∃ n, n = l.length := ⟨_, rfl⟩
  rw [← hn] at hl ⊢
  have HN := hid hn
  clear hn
  go_enter Tryd.func26, Tryd.ntmps26
  go_wp2_with fail
  go_loopw [3] (fun i wr => ∃ z : Int, -1 ≤ z ∧ z < (n : Int) ∧ i = .int .i64 z ∧ Below w.heap.size w wr) (fun i _ => (intOf i + 1).toNat)
  case atStart => exact ⟨(n : Int) - 1, by omega, by omega, by go_num, Below.refl _ _⟩
  case round =>
    obtain ⟨z, hz1, hz2, rfl, WW⟩ := hrel
    by_cases hz : z > 0
    · have l1 : decide (z > 0) = true := decide_eq_true hz
      obtain ⟨j, rfl⟩ : ∃ j : Nat, z = ((j : Nat) : Int) := ⟨z.toNat, by omega⟩
      have hj : 0 < j := by omega
      have hjn : j < n := by omega
      obtain ⟨j1, hj1⟩ : ∃ j1, j1 = j - 1 := ⟨_, rfl⟩
      have hj1b : j1 < n := by omega
      have hjl : j < l.length := by rw [← HN.out]; exact hjn
      obtain ⟨ad, e, hb, c0⟩ := HI.out j hjl
      obtain ⟨ad', e', _, c1⟩ := HI.out j1 (by omega)
      obtain rfl : ad' = ad := Option.some.inj (e'.symm.trans e)
      replace c0 := (WW.cell (p := ad'.add j) (by rw [add_block]; exact hb)).trans c0
      replace c1 := (WW.cell (p := ad'.add j1) (by rw [add_block]; exact hb)).trans c1
      unfold ivl at c0 c1
      obtain ⟨x, hx⟩ : ∃ x, x = l[j] := ⟨_, rfl⟩
      obtain ⟨y, hy⟩ : ∃ y, y = l[j1] := ⟨_, rfl⟩
      have x1 := HQ.out l[j] (List.getElem_mem _)
      have y1 := HQ.out l[j1] (List.getElem_mem _)
      rw [← hx] at c0 x1
      rw [← hy] at c1 y1
      have HLT : Hid (decide (((x : Nat) : Int) < ((y : Nat) : Int)) = false) := (show _ = _ by
        have := List.pairwise_iff_getElem.1 HS.out j1 j (by omega) hjl (by omega)
        rw [← hx, ← hy] at this
        simp; omega)
      have l2 : ((j : Nat) : Int) - 1 = ((j1 : Nat) : Int) := by omega
      have l3 : IntKind.i64.wrap ((j1 : Nat) : Int) = ((j1 : Nat) : Int) := IntWalk.i64_in _ (by omega)
      have hblk := hb
      clear hx hy hb e' hj1
      subst e
      go_wp2_with fail
      have hst : (fun w' => w'.cell? (ad'.add j) = some (.int .i64 ((x : Nat) : Int)) ∧ w'.cell? (ad'.add j1) = some (.int .i64 ((y : Nat) : Int))) wr.drew := ⟨c0, c1⟩
      replace WW := WW.drew
      refine region_L 17 (fun w' => w'.cell? (ad'.add j) = some (.int .i64 ((x : Nat) : Int)) ∧ w'.cell? (ad'.add j1) = some (.int .i64 ((y : Nat) : Int))) (by kernel_rfl) hst (fun hHeld => ?_)
      clear hst
      generalize hV : wr.drew = U0x0 at hHeld WW  ⊢
      clear hV
      refine AnyL_take (i := 0) (oi := oq26_4_0) (v := ?_) rfl (by kernel_rfl) (by kernel_rfl) (by kernel_rfl) (by kernel_rfl) (fun _ _ _ h => h) (Or.inl ⟨by rfl, ?_⟩) (by assumption) ?_
      rotate_left
      · (delta oq26_4_0; intro ws hSw; (try dsimp only at hSw); (try go_simp); (try with_reducible rfl))
      (try simp only [oq26_4_0, Act.put, List.setIfInBounds_toArray, List.set_cons_zero, List.set_cons_succ])
      refine AnyL_take (i := 1) (oi := oq26_4_1) (v := ?_) rfl (by kernel_rfl) (by kernel_rfl) (by kernel_rfl) (by kernel_rfl) (fun _ _ _ h => h) (Or.inl ⟨by rfl, ?_⟩) (by assumption) ?_
      rotate_left
      · (delta oq26_4_1; intro ws hSw; (try dsimp only at hSw); (try go_simp); (try with_reducible rfl))
      (try simp only [oq26_4_1, Act.put, List.setIfInBounds_toArray, List.set_cons_zero, List.set_cons_succ])
      refine AnyL_take (i := 2) (oi := oq26_4_2) (v := ?_) rfl (by kernel_rfl) (by kernel_rfl) (by kernel_rfl) (by kernel_rfl) (fun _ _ _ h => h) (Or.inl ⟨by rfl, ?_⟩) (by assumption) ?_
      rotate_left
      · (delta oq26_4_2; intro ws hSw; (try dsimp only at hSw); (try go_simp); (try with_reducible rfl))
      (try simp only [oq26_4_2, Act.put, List.setIfInBounds_toArray, List.set_cons_zero, List.set_cons_succ])
      refine AnyL_take (i := 3) (oi := oq26_4_3) (v := ?_) rfl (by kernel_rfl) (by kernel_rfl) (by kernel_rfl) (by kernel_rfl) (fun _ _ _ h => h) (Or.inl ⟨by rfl, ?_⟩) (by assumption) ?_
      rotate_left
      · (delta oq26_4_3; intro ws hSw; (try dsimp only at hSw); (try go_simp); (try with_reducible rfl))
      (try simp only [oq26_4_3, Act.put, List.setIfInBounds_toArray, List.set_cons_zero, List.set_cons_succ])
      refine AnyL_take (i := 4) (oi := oq26_4_4) (v := ?_) rfl (by kernel_rfl) (by kernel_rfl) (by kernel_rfl) (by kernel_rfl) (fun _ _ _ h => h) (Or.inl ⟨by rfl, ?_⟩) (by assumption) ?_
      rotate_left
      · (delta oq26_4_4; intro ws hSw; (try dsimp only at hSw); (try go_simp); (try with_reducible rfl))
      (try simp only [oq26_4_4, Act.put, List.setIfInBounds_toArray, List.set_cons_zero, List.set_cons_succ])
      refine AnyL_take (i := 5) (oi := oq26_4_5) (v := ?_) rfl (by kernel_rfl) (by kernel_rfl) (by kernel_rfl) (by kernel_rfl) (fun _ _ _ h => h) (Or.inl ⟨by rfl, ?_⟩) (by assumption) ?_
      rotate_left
      · (delta oq26_4_5; intro ws hSw; (try dsimp only at hSw); (try go_simp); (try with_reducible rfl))
      (try simp only [oq26_4_5, Act.put, List.setIfInBounds_toArray, List.set_cons_zero, List.set_cons_succ])
      refine AnyL_take (i := 6) (oi := oq26_4_6) (v := ?_) rfl (by kernel_rfl) (by kernel_rfl) (by kernel_rfl) (by kernel_rfl) (fun _ _ _ h => h) (Or.inl ⟨by rfl, ?_⟩) (by assumption) ?_
      rotate_left
      · (delta oq26_4_6; intro ws hSw; (try dsimp only at hSw); (try go_simp); (try with_reducible rfl))
      (try simp only [oq26_4_6, Act.put, List.setIfInBounds_toArray, List.set_cons_zero, List.set_cons_succ])
      refine AnyL_take (i := 7) (oi := oq26_4_7) (v := ?_) rfl (by kernel_rfl) (by kernel_rfl) (by kernel_rfl) (by kernel_rfl) (fun _ _ _ h => h) (Or.inl ⟨by rfl, ?_⟩) (by assumption) ?_
      rotate_left
      · (delta oq26_4_7; intro ws hSw; (try dsimp only at hSw); (try go_simp); (try with_reducible rfl))
      (try simp only [oq26_4_7, Act.put, List.setIfInBounds_toArray, List.set_cons_zero, List.set_cons_succ])
      refine AnyL_take (i := 8) (oi := oq26_4_8) (v := ?_) rfl (by kernel_rfl) (by kernel_rfl) (by kernel_rfl) (by kernel_rfl) (fun _ _ _ h => h) (Or.inl ⟨by rfl, ?_⟩) (by assumption) ?_
      rotate_left
      · (delta oq26_4_8; intro ws hSw; (try dsimp only at hSw); (try go_simp); (try with_reducible rfl))
      (try simp only [oq26_4_8, Act.put, List.setIfInBounds_toArray, List.set_cons_zero, List.set_cons_succ])
      refine AnyL_ready (rs := [9]) (by kernel_rfl) (by simp) ?_
      refine ReadyL.cons (o := oq26_4_9) rfl (fun K hK => ?_) ReadyL.nil
      delta oq26_4_9
      go_simp
      have hbs : w.heap.size ≤ U0x0.heap.size := WW.size
      have hc := lessI_any ((x : Nat) : Int) ((y : Nat) : Int) U0x0
      rw [HLT.out] at hc
      refine hc.mono ?_
      clear hc
      rintro e V2 ⟨rfl, hb⟩
      replace WW := WW.trans (hb.mono WW.size)
      have sz2 := hb.size
      have c0 := (hb.cell (p := ad'.add j) (by rw [add_block]; omega)).trans hHeld.1
      have c1 := (hb.cell (p := ad'.add j1) (by rw [add_block]; omega)).trans hHeld.2
      clear hb hbs
      refine hK.out _ _ (⟨c0, c1⟩) (fun hHeld2 => ?_)
      clear hK K hHeld
      have hHeld := hHeld2
      clear hHeld2
      (try simp only [oq26_4_9, Act.put, List.setIfInBounds_toArray, List.set_cons_zero, List.set_cons_succ])
      refine AnyL_done (by kernel_rfl) ?_ _
      clear hHeld

      go_wp2_with fail
      go_roundw
      case rel => exact ⟨((j : Nat) : Int) - 1, by omega, by omega, by go_num, WW⟩
      case measure => simp [intOf] <;> omega
    · have l1 : decide (z > 0) = false := decide_eq_false hz
      go_wp2_with fail
      go_ret
      exact ⟨rfl, WW⟩
end Go.Proofs.YtomkmkjkeihodaaDoor
