/- NaturalInts: the walk. -/
import Derived.Test.YtlhfaaghfhiaoaaRef
import Derived.Test.YtlhfaaghfhiaoaaLShiftsP
set_option linter.unusedVariables false
set_option linter.unusedSimpArgs false
namespace Go.Proofs.Ytlhfaaghfhiaoaa
open Go.RowKit

theorem is_zero (z : Int) : (decide (z = z) && sameB (nw 0) 0 0 0) = true := by simp [sameB, nw_zero]
theorem is_self (z : Int) (n a : Nat) : (decide (z = z) && sameB n a n a) = true := by simp [sameB]
set_option maxHeartbeats 8000000 in
set_option maxRecDepth 100000 in
theorem ints_n_bad (A : Option Addr) (c a n k : Nat) (x i : Int) (w : World) (hA : Num w w.heap.size A n a) (hn : n ≤ 100) (H1 : Hid (okB n a = false)) (hx : x < 0 ∧ -9223372036854775808 ≤ x) (i0 : -9223372036854775808 ≤ i) (i1 : i ≤ 9223372036854775807) :
    Calls Try.prog 3 #[.agg #[.slice A n c], .int .i64 x, .int .i64 i] w (RetB (.bool true) w) := by
  have HG : Hid (decide (100 < n) = false) := decide_eq_false (by omega)
  have IA := hid (intS_no H1.out)
  have BA := hid (bitsS_no H1.out)
  have TA := hid (bitS_no (i := i) H1.out)
  have hn' : n ≤ 9223372036854775807 := by omega
  obtain ⟨hx1, hx0⟩ := hx
  have x2 : decide (x < 0) = true := by simpa using hx1
  have x3 : decide (0 ≤ x) = false := by simpa using hx1
  have OX := hid (ofS_neg hx1)
  have hz0 : nw 0 ≤ 64 := by simp [nw_zero]
  have hx1' : x ≤ 9223372036854775807 := by omega
  obtain ⟨b0, bw⟩ := boxes1 w (.slice A n c)
  have XA := Box.mk b0 hA bw
  have WW := bw
  clear bw b0
  go_enter Try.func3, Try.ntmps3
  go_wp2_with fail
  generalize hV : (w.alloc (.cells #[.slice A n c] 24)) = V0 at XA WW ⊢
  clear hV
  have hc := awake_any V0
  refine hc.mono ?_
  clear hc
  rintro e V1 ⟨rfl, hb⟩
  replace XA := XA.below hb
  replace WW := WW.trans (hb.mono WW.size)
  have kXA := XA.cell
  have zXA := XA.lt
  clear hb
  go_wp2_with fail
  have hc := great_1 V1 A _ c hn'
  rw [HG.out] at hc
  refine hc.mono ?_
  clear hc
  rintro e V2 ⟨rfl, hb⟩
  clear kXA zXA
  replace XA := XA.below hb
  replace WW := WW.trans (hb.mono WW.size)
  have kXA := XA.cell
  have zXA := XA.lt
  clear hb
  go_wp2_with fail
  have hc := rvalid_any A _ c a _ V2 XA.num (Nat.le_refl _) hn'
  rw [H1.out] at hc
  refine hc.mono ?_
  clear hc
  rintro e V3 ⟨rfl, hb⟩
  clear kXA zXA
  replace XA := XA.below hb
  replace WW := WW.trans (hb.mono WW.size)
  have kXA := XA.cell
  have zXA := XA.lt
  clear hb
  go_wp2_with fail
  have hc := of_any x V3 (by omega) (by omega)
  rw [OX.out] at hc
  refine hc.mono ?_
  clear hc
  rintro e V4 ⟨v, rfl, hv, hb⟩
  clear kXA zXA
  replace XA := XA.below hb
  replace WW := WW.trans (hb.mono WW.size)
  obtain ⟨D1, d1, rfl, hv'⟩ := hv.open_
  clear hv
  have kXA := XA.cell
  have zXA := XA.lt
  clear hb
  go_wp2_with fail
  obtain ⟨b0, bw⟩ := boxes1 V4 (.slice D1 (nw 0) d1)
  clear kXA zXA
  replace XA := XA.below bw
  have X1 := Box.mk b0 hv' bw
  replace WW := WW.trans (bw.mono WW.size)
  clear bw b0 hv'
  generalize hV : (V4.alloc (.cells #[.slice D1 (nw 0) d1] 24)) = V5 at XA X1 WW ⊢
  clear hV
  have kXA := XA.cell
  have zXA := XA.lt
  have kX1 := X1.cell
  have zX1 := X1.lt
  have hc := int_any A _ c a V5 XA.num hn'
  rw [IA.out] at hc
  refine hc.mono ?_
  clear hc
  rintro e V6 ⟨rfl, hb⟩
  clear kXA zXA kX1 zX1
  replace XA := XA.below hb
  replace X1 := X1.below hb
  replace WW := WW.trans (hb.mono WW.size)
  have kXA := XA.cell
  have zXA := XA.lt
  have kX1 := X1.cell
  have zX1 := X1.lt
  clear hb
  go_wp2_with fail
  have WDr := hid WW.drew
  have HXA_0 := hid XA.drew
  have HX1_0 := hid X1.drew
  clear zXA zX1
  clear WW XA X1
  refine wp_region_held_drew (S := (fun w' => w'.cell? ⟨w.heap.size, 0, none⟩ = some ((.slice A n c)) ∧ w'.cell? ⟨V4.heap.size, 0, none⟩ = some ((.slice D1 (nw 0) d1)))) (by kernel_rfl) (⟨kXA, kX1⟩) (fun hHeld => ?_)
  refine wpAnyH_take (i := 0) (oi := { dst := some 31, op := Op.load 24 (Operand.tmp 3), type := 24, pos := "law.go:41", after := #[], guard := none }) (v := ?_) rfl (by kernel_rfl) (by kernel_rfl) (by kernel_rfl) (fun _ _ _ h => h) (Or.inl ⟨by rfl, ?_⟩) (by assumption) ?_
  rotate_left
  · (intro ws hSw; (try dsimp only at hSw); (try go_simp); (try with_reducible rfl))
  (try simp only [Act.put, List.setIfInBounds_toArray, List.set_cons_zero, List.set_cons_succ])
  refine wpAnyH_take (i := 2) (oi := { dst := some 33, op := Op.move (Operand.tmp 7), type := 4, pos := "law.go:41", after := #[], guard := none }) (v := ?_) rfl (by kernel_rfl) (by kernel_rfl) (by kernel_rfl) (fun _ _ _ h => h) (Or.inl ⟨by rfl, ?_⟩) (by assumption) ?_
  rotate_left
  · (intro ws hSw; (try dsimp only at hSw); (try go_simp); (try with_reducible rfl))
  (try simp only [Act.put, List.setIfInBounds_toArray, List.set_cons_zero, List.set_cons_succ])
  refine wpAnyH_ready (rs := [1]) (by kernel_rfl) (by simp) ?_
  refine AllReadyH.cons (o := { dst := some 32, op := Op.call { callee := Callee.value (Operand.func 16), args := #[Operand.tmp 31], argTypes := #[24] }, type := 4, pos := "law.go:41", after := #[{ on := 0, ground := Ground.data }], guard := none }) rfl (fun K hK => ?_) AllReadyH.nil
  go_simp
  have hc := valid_any A _ c a _ _ HXA_0.out.num (Nat.le_refl _) hn'
  rw [H1.out] at hc
  refine hc.mono ?_
  clear hc
  rintro e w6_1 ⟨rfl, hb⟩
  have HXA_1 := hid (HXA_0.out.below hb)
  have HX1_1 := hid (HX1_0.out.below hb)
  have qXA_1 := HXA_1.out.cell
  have qX1_1 := HX1_1.out.cell
  have WD_1 := hid (WDr.out.trans (hb.mono WDr.out.size))
  clear hb
  refine hK.out _ _ (⟨qXA_1, qX1_1⟩) (fun hHeld1 => ?_)
  clear hK K hHeld
  have hHeld := hHeld1
  clear hHeld1
  (try simp only [Act.put, List.setIfInBounds_toArray, List.set_cons_zero, List.set_cons_succ])
  refine wpAnyH_take (i := 3) (oi := { dst := some 34, op := Op.binOp BinOp.neq 4 (Operand.tmp 32) (Operand.tmp 33) 4, type := 4, pos := "law.go:41", after := #[{ on := 1, ground := Ground.data }, { on := 2, ground := Ground.data }], guard := none }) (v := ?_) rfl (by kernel_rfl) (by kernel_rfl) (by kernel_rfl) (fun _ _ _ h => h) (Or.inl ⟨by rfl, ?_⟩) (by assumption) ?_
  rotate_left
  · (intro ws hSw; (try dsimp only at hSw); (try go_simp); (try with_reducible rfl))
  (try simp only [Act.put, List.setIfInBounds_toArray, List.set_cons_zero, List.set_cons_succ])
  refine wpAnyH_take (i := 4) (oi := { dst := some 35, op := Op.move (Operand.tmp 34), type := 4, pos := "law.go:41", after := #[{ on := 3, ground := Ground.data }, { on := 1, ground := Ground.chain }], guard := none }) (v := ?_) rfl (by kernel_rfl) (by kernel_rfl) (by kernel_rfl) (fun _ _ _ h => h) (Or.inl ⟨by rfl, ?_⟩) (by assumption) ?_
  rotate_left
  · (intro ws hSw; (try dsimp only at hSw); (try go_simp); (try with_reducible rfl))
  (try simp only [Act.put, List.setIfInBounds_toArray, List.set_cons_zero, List.set_cons_succ])
  refine wpAnyH_take (i := 5) (oi := { dst := some 36, op := Op.move (Operand.tmp 1), type := 3, pos := "law.go:41", after := #[{ on := 4, ground := Ground.guard }], guard := some (4, false) }) (v := ?_) rfl (by kernel_rfl) (by kernel_rfl) (by kernel_rfl) (fun _ _ _ h => h) (Or.inl ⟨by rfl, ?_⟩) (by assumption) ?_
  rotate_left
  · (intro ws hSw; (try dsimp only at hSw); (try go_simp); (try with_reducible rfl))
  (try simp only [Act.put, List.setIfInBounds_toArray, List.set_cons_zero, List.set_cons_succ])
  refine wpAnyH_take (i := 6) (oi := { dst := some 37, op := Op.binOp BinOp.lss 3 (Operand.tmp 36) (Operand.const (Value.int IntKind.i64 0)) 3, type := 4, pos := "law.go:41", after := #[{ on := 5, ground := Ground.data }, { on := 4, ground := Ground.guard }], guard := some (4, false) }) (v := ?_) rfl (by kernel_rfl) (by kernel_rfl) (by kernel_rfl) (fun _ _ _ h => h) (Or.inl ⟨by rfl, ?_⟩) (by assumption) ?_
  rotate_left
  · (intro ws hSw; (try dsimp only at hSw); (try go_simp); (try with_reducible rfl))
  (try simp only [Act.put, List.setIfInBounds_toArray, List.set_cons_zero, List.set_cons_succ])
  refine wpAnyH_take (i := 7) (oi := { dst := some 38, op := Op.move (Operand.tmp 37), type := 4, pos := "law.go:41", after := #[{ on := 6, ground := Ground.data }, { on := 4, ground := Ground.chain }, { on := 4, ground := Ground.guard }], guard := some (4, false) }) (v := ?_) rfl (by kernel_rfl) (by kernel_rfl) (by kernel_rfl) (fun _ _ _ h => h) (Or.inl ⟨by rfl, ?_⟩) (by assumption) ?_
  rotate_left
  · (intro ws hSw; (try dsimp only at hSw); (try go_simp); (try with_reducible rfl))
  (try simp only [Act.put, List.setIfInBounds_toArray, List.set_cons_zero, List.set_cons_succ])
  refine wpAnyH_take (i := 8) (oi := { dst := some 39, op := Op.load 24 (Operand.tmp 8), type := 24, pos := "law.go:41", after := #[{ on := 7, ground := Ground.guard }], guard := some (7, true) }) (v := ?_) rfl (by kernel_rfl) (by kernel_rfl) (by kernel_rfl) (fun _ _ _ h => h) (Or.inl ⟨by rfl, ?_⟩) (by assumption) ?_
  rotate_left
  · (intro ws hSw; (try dsimp only at hSw); (try go_simp); (try with_reducible rfl))
  (try simp only [Act.put, List.setIfInBounds_toArray, List.set_cons_zero, List.set_cons_succ])
  refine wpAnyH_take (i := 9) (oi := { dst := some 40, op := Op.move (Operand.tmp 9), type := 28, pos := "law.go:41", after := #[{ on := 7, ground := Ground.guard }], guard := some (7, true) }) (v := ?_) rfl (by kernel_rfl) (by kernel_rfl) (by kernel_rfl) (fun _ _ _ h => h) (Or.inl ⟨by rfl, ?_⟩) (by assumption) ?_
  rotate_left
  · (intro ws hSw; (try dsimp only at hSw); (try go_simp); (try with_reducible rfl))
  (try simp only [Act.put, List.setIfInBounds_toArray, List.set_cons_zero, List.set_cons_succ])
  refine wpAnyH_take (i := 10) (oi := { dst := some 41, op := Op.build 24 #[], type := 24, pos := "law.go:41", after := #[{ on := 7, ground := Ground.guard }], guard := some (7, true) }) (v := ?_) rfl (by kernel_rfl) (by kernel_rfl) (by kernel_rfl) (fun _ _ _ h => h) (Or.inl ⟨by rfl, ?_⟩) (by assumption) ?_
  rotate_left
  · (intro ws hSw; (try dsimp only at hSw); (try go_simp); (try with_reducible rfl))
  (try simp only [Act.put, List.setIfInBounds_toArray, List.set_cons_zero, List.set_cons_succ])
  refine wpAnyH_ready (rs := [11]) (by kernel_rfl) (by simp) ?_
  refine AllReadyH.cons (o := { dst := some 42, op := Op.call { callee := Callee.value (Operand.func 17), args := #[Operand.tmp 39, Operand.tmp 40, Operand.tmp 41, Operand.const (Value.int IntKind.i64 2)], argTypes := #[24, 28, 24, 3] }, type := 4, pos := "law.go:41", after := #[{ on := 8, ground := Ground.data }, { on := 9, ground := Ground.data }, { on := 10, ground := Ground.data }, { on := 7, ground := Ground.chain }, { on := 7, ground := Ground.guard }], guard := some (7, true) }) rfl (fun K hK => ?_) AllReadyH.nil
  go_simp
  have hc := is_any D1 none _ 0 d1 0 0 0 2 2 _ HX1_1.out.num (Num.nil _ _ _) (by omega) (by omega)
  rw [is_zero] at hc
  refine hc.mono ?_
  clear hc
  rintro e w6_2 ⟨rfl, hb⟩
  have HXA_2 := hid (HXA_1.out.below hb)
  have HX1_2 := hid (HX1_1.out.below hb)
  have qXA_2 := HXA_2.out.cell
  have qX1_2 := HX1_2.out.cell
  have WD_2 := hid (WD_1.out.trans (hb.mono WD_1.out.size))
  clear hb
  refine hK.out _ _ (⟨qXA_2, qX1_2⟩) (fun hHeld11 => ?_)
  clear hK K hHeld
  have hHeld := hHeld11
  clear hHeld11
  (try simp only [Act.put, List.setIfInBounds_toArray, List.set_cons_zero, List.set_cons_succ])
  refine wpAnyH_take (i := 12) (oi := { dst := some 43, op := Op.unOp UnOp.not 4 (Operand.tmp 42), type := 4, pos := "law.go:41", after := #[{ on := 11, ground := Ground.data }, { on := 7, ground := Ground.guard }], guard := some (7, true) }) (v := ?_) rfl (by kernel_rfl) (by kernel_rfl) (by kernel_rfl) (fun _ _ _ h => h) (Or.inl ⟨by rfl, ?_⟩) (by assumption) ?_
  rotate_left
  · (intro ws hSw; (try dsimp only at hSw); (try go_simp); (try with_reducible rfl))
  (try simp only [Act.put, List.setIfInBounds_toArray, List.set_cons_zero, List.set_cons_succ])
  refine wpAnyH_take (i := 13) (oi := { dst := some 44, op := Op.pick (Operand.tmp 38) (Operand.tmp 43) (Operand.const (Value.bool false)), type := 4, pos := "law.go:41", after := #[{ on := 7, ground := Ground.data }, { on := 12, ground := Ground.data }, { on := 4, ground := Ground.guard }], guard := some (4, false) }) (v := ?_) rfl (by kernel_rfl) (by kernel_rfl) (by kernel_rfl) (fun _ _ _ h => h) (Or.inl ⟨by rfl, ?_⟩) (by assumption) ?_
  rotate_left
  · (intro ws hSw; (try dsimp only at hSw); (try go_simp); (try with_reducible rfl))
  (try simp only [Act.put, List.setIfInBounds_toArray, List.set_cons_zero, List.set_cons_succ])
  refine wpAnyH_take (i := 14) (oi := { dst := some 45, op := Op.pick (Operand.tmp 35) (Operand.const (Value.bool true)) (Operand.tmp 44), type := 4, pos := "law.go:41", after := #[{ on := 4, ground := Ground.data }, { on := 13, ground := Ground.data }], guard := none }) (v := ?_) rfl (by kernel_rfl) (by kernel_rfl) (by kernel_rfl) (fun _ _ _ h => h) (Or.inl ⟨by rfl, ?_⟩) (by assumption) ?_
  rotate_left
  · (intro ws hSw; (try dsimp only at hSw); (try go_simp); (try with_reducible rfl))
  (try simp only [Act.put, List.setIfInBounds_toArray, List.set_cons_zero, List.set_cons_succ])
  refine wpAnyH_take (i := 15) (oi := { dst := some 46, op := Op.move (Operand.tmp 45), type := 4, pos := "law.go:41", after := #[{ on := 14, ground := Ground.data }, { on := 11, ground := Ground.chain }], guard := none }) (v := ?_) rfl (by kernel_rfl) (by kernel_rfl) (by kernel_rfl) (fun _ _ _ h => h) (Or.inl ⟨by rfl, ?_⟩) (by assumption) ?_
  rotate_left
  · (intro ws hSw; (try dsimp only at hSw); (try go_simp); (try with_reducible rfl))
  (try simp only [Act.put, List.setIfInBounds_toArray, List.set_cons_zero, List.set_cons_succ])
  refine wpAnyH_take (i := 16) (oi := { dst := some 47, op := Op.move (Operand.tmp 1), type := 3, pos := "law.go:41", after := #[{ on := 15, ground := Ground.guard }], guard := some (15, false) }) (v := ?_) rfl (by kernel_rfl) (by kernel_rfl) (by kernel_rfl) (fun _ _ _ h => h) (Or.inl ⟨by rfl, ?_⟩) (by assumption) ?_
  rotate_left
  · (intro ws hSw; (try dsimp only at hSw); (try go_simp); (try with_reducible rfl))
  (try simp only [Act.put, List.setIfInBounds_toArray, List.set_cons_zero, List.set_cons_succ])
  refine wpAnyH_take (i := 17) (oi := { dst := some 48, op := Op.binOp BinOp.geq 3 (Operand.tmp 47) (Operand.const (Value.int IntKind.i64 0)) 3, type := 4, pos := "law.go:41", after := #[{ on := 16, ground := Ground.data }, { on := 15, ground := Ground.guard }], guard := some (15, false) }) (v := ?_) rfl (by kernel_rfl) (by kernel_rfl) (by kernel_rfl) (fun _ _ _ h => h) (Or.inl ⟨by rfl, ?_⟩) (by assumption) ?_
  rotate_left
  · (intro ws hSw; (try dsimp only at hSw); (try go_simp); (try with_reducible rfl))
  (try simp only [Act.put, List.setIfInBounds_toArray, List.set_cons_zero, List.set_cons_succ])
  refine wpAnyH_take (i := 18) (oi := { dst := some 49, op := Op.move (Operand.tmp 48), type := 4, pos := "law.go:41", after := #[{ on := 17, ground := Ground.data }, { on := 15, ground := Ground.chain }, { on := 15, ground := Ground.guard }], guard := some (15, false) }) (v := ?_) rfl (by kernel_rfl) (by kernel_rfl) (by kernel_rfl) (fun _ _ _ h => h) (Or.inl ⟨by rfl, ?_⟩) (by assumption) ?_
  rotate_left
  · (intro ws hSw; (try dsimp only at hSw); (try go_simp); (try with_reducible rfl))
  (try simp only [Act.put, List.setIfInBounds_toArray, List.set_cons_zero, List.set_cons_succ])
  refine wpAnyH_take (i := 19) (oi := { dst := some 50, op := Op.load 24 (Operand.tmp 8), type := 24, pos := "law.go:41", after := #[{ on := 18, ground := Ground.guard }], guard := some (18, true) }) (v := _) rfl (by kernel_rfl) (by kernel_rfl) (by kernel_rfl) (fun _ _ _ h => h) (Or.inr ⟨by rfl, rfl⟩) (by assumption) ?_
  (try simp only [Act.put, List.setIfInBounds_toArray, List.set_cons_zero, List.set_cons_succ])
  refine wpAnyH_take (i := 20) (oi := { dst := some 51, op := Op.move (Operand.tmp 9), type := 28, pos := "law.go:41", after := #[{ on := 18, ground := Ground.guard }], guard := some (18, true) }) (v := _) rfl (by kernel_rfl) (by kernel_rfl) (by kernel_rfl) (fun _ _ _ h => h) (Or.inr ⟨by rfl, rfl⟩) (by assumption) ?_
  (try simp only [Act.put, List.setIfInBounds_toArray, List.set_cons_zero, List.set_cons_succ])
  refine wpAnyH_take (i := 21) (oi := { dst := some 52, op := Op.move (Operand.tmp 1), type := 3, pos := "law.go:41", after := #[{ on := 18, ground := Ground.guard }], guard := some (18, true) }) (v := _) rfl (by kernel_rfl) (by kernel_rfl) (by kernel_rfl) (fun _ _ _ h => h) (Or.inr ⟨by rfl, rfl⟩) (by assumption) ?_
  (try simp only [Act.put, List.setIfInBounds_toArray, List.set_cons_zero, List.set_cons_succ])
  refine wpAnyH_take (i := 22) (oi := { dst := some 53, op := Op.call { callee := Callee.value (Operand.func 18), args := #[Operand.tmp 52], argTypes := #[3] }, type := 24, pos := "law.go:41", after := #[{ on := 21, ground := Ground.data }, { on := 18, ground := Ground.chain }, { on := 18, ground := Ground.guard }], guard := some (18, true) }) (v := _) rfl (by kernel_rfl) (by kernel_rfl) (by kernel_rfl) (fun _ _ _ h => h) (Or.inr ⟨by rfl, rfl⟩) (by assumption) ?_
  (try simp only [Act.put, List.setIfInBounds_toArray, List.set_cons_zero, List.set_cons_succ])
  refine wpAnyH_take (i := 23) (oi := { dst := some 54, op := Op.call { callee := Callee.value (Operand.func 17), args := #[Operand.tmp 50, Operand.tmp 51, Operand.tmp 53, Operand.const (Value.int IntKind.i64 0)], argTypes := #[24, 28, 24, 3] }, type := 4, pos := "law.go:41", after := #[{ on := 19, ground := Ground.data }, { on := 20, ground := Ground.data }, { on := 22, ground := Ground.data }, { on := 22, ground := Ground.chain }, { on := 18, ground := Ground.guard }], guard := some (18, true) }) (v := _) rfl (by kernel_rfl) (by kernel_rfl) (by kernel_rfl) (fun _ _ _ h => h) (Or.inr ⟨by rfl, rfl⟩) (by assumption) ?_
  (try simp only [Act.put, List.setIfInBounds_toArray, List.set_cons_zero, List.set_cons_succ])
  refine wpAnyH_take (i := 24) (oi := { dst := some 55, op := Op.unOp UnOp.not 4 (Operand.tmp 54), type := 4, pos := "law.go:41", after := #[{ on := 23, ground := Ground.data }, { on := 18, ground := Ground.guard }], guard := some (18, true) }) (v := _) rfl (by kernel_rfl) (by kernel_rfl) (by kernel_rfl) (fun _ _ _ h => h) (Or.inr ⟨by rfl, rfl⟩) (by assumption) ?_
  (try simp only [Act.put, List.setIfInBounds_toArray, List.set_cons_zero, List.set_cons_succ])
  refine wpAnyH_take (i := 25) (oi := { dst := some 56, op := Op.pick (Operand.tmp 49) (Operand.tmp 55) (Operand.const (Value.bool false)), type := 4, pos := "law.go:41", after := #[{ on := 18, ground := Ground.data }, { on := 24, ground := Ground.data }, { on := 15, ground := Ground.guard }], guard := some (15, false) }) (v := ?_) rfl (by kernel_rfl) (by kernel_rfl) (by kernel_rfl) (fun _ _ _ h => h) (Or.inl ⟨by rfl, ?_⟩) (by assumption) ?_
  rotate_left
  · (intro ws hSw; (try dsimp only at hSw); (try go_simp); (try with_reducible rfl))
  (try simp only [Act.put, List.setIfInBounds_toArray, List.set_cons_zero, List.set_cons_succ])
  refine wpAnyH_take (i := 26) (oi := { dst := some 57, op := Op.pick (Operand.tmp 46) (Operand.const (Value.bool true)) (Operand.tmp 56), type := 4, pos := "law.go:41", after := #[{ on := 15, ground := Ground.data }, { on := 25, ground := Ground.data }], guard := none }) (v := ?_) rfl (by kernel_rfl) (by kernel_rfl) (by kernel_rfl) (fun _ _ _ h => h) (Or.inl ⟨by rfl, ?_⟩) (by assumption) ?_
  rotate_left
  · (intro ws hSw; (try dsimp only at hSw); (try go_simp); (try with_reducible rfl))
  (try simp only [Act.put, List.setIfInBounds_toArray, List.set_cons_zero, List.set_cons_succ])
  refine wpAnyH_done (by kernel_rfl) ?_ _
  clear hHeld
  clear kXA kX1 qXA_1 qX1_1 qXA_2 qX1_2
  have XA := HXA_2.out
  have X1 := HX1_2.out
  have WW := WD_2.out
  clear HXA_0 HX1_0 HXA_1 HX1_1 HXA_2 HX1_2 WDr WD_1 WD_2
  have kXA := XA.cell
  have zXA := XA.lt
  have kX1 := X1.cell
  have zX1 := X1.lt
  go_wp2_with fail
  have hc := bits_any A _ c a w6_2 XA.num hn'
  rw [BA.out] at hc
  refine hc.mono ?_
  clear hc
  rintro e V8 ⟨rfl, hb⟩
  clear kXA zXA kX1 zX1
  replace XA := XA.below hb
  replace X1 := X1.below hb
  replace WW := WW.trans (hb.mono WW.size)
  have kXA := XA.cell
  have zXA := XA.lt
  have kX1 := X1.cell
  have zX1 := X1.lt
  clear hb
  go_wp2_with fail
  have hc := bit_any A _ c a i V8 XA.num hn' i0 i1
  rw [TA.out] at hc
  refine hc.mono ?_
  clear hc
  rintro e V9 ⟨rfl, hb⟩
  clear kXA zXA kX1 zX1
  replace XA := XA.below hb
  replace X1 := X1.below hb
  replace WW := WW.trans (hb.mono WW.size)
  have kXA := XA.cell
  have zXA := XA.lt
  have kX1 := X1.cell
  have zX1 := X1.lt
  clear hb
  go_wp2_with fail
  go_ret
  exact ⟨rfl, WW⟩

set_option maxHeartbeats 8000000 in
set_option maxRecDepth 100000 in
theorem ints_n_fits (A : Option Addr) (c a k : Nat) (x i : Int) (w : World) (hA : Num w w.heap.size A (nw a) a) (hn1 : nw a ≤ 64) (hb : bl a ≤ 63) (hx : x < 0 ∧ -9223372036854775808 ≤ x) (i0 : -9223372036854775808 ≤ i) (i1 : i ≤ 9223372036854775807) :
    Calls Try.prog 3 #[.agg #[.slice A (nw a) c], .int .i64 x, .int .i64 i] w (RetB (.bool true) w) := by
  have HG : Hid (decide (100 < nw a) = false) := decide_eq_false (by omega)
  have H1 := hid (okB_nw hn1)
  have BA := hid (bitsS_yes H1.out)
  have TA := hid (bitS_r (i := i) H1.out)
  have hn' : nw a ≤ 9223372036854775807 := by omega
  have hbl : bl a ≤ 2048 := bl_nw.1 hn1
  have IA := hid (intS_ok H1.out hb)
  have RA : Hid (rintS a = ((a : Int), true)) := by show _ = _; unfold rintS; rw [if_pos hb]
  have ha63 : (a : Int) ≤ 9223372036854775807 := by have h5 := lt_bl a; have h6 : 2 ^ bl a ≤ 2 ^ 63 := Nat.pow_le_pow_right (by omega) hb; rw [show 2 ^ 63 = 9223372036854775808 from rfl] at h6; omega
  obtain ⟨ti, hti⟩ : ∃ t, t = rbitS a i := ⟨_, rfl⟩
  rw [← hti] at TA
  have TR : Hid (rbitS a i = ti) := hti.symm
  clear hti hb
  have eq1 : (((bl a : Nat) : Int) != ((bl a : Nat) : Int)) = false := by simp
  have eq2 : (ti != ti) = false := by simp
  have eq3 : ((a : Int) == (a : Int)) = true := by simp
  obtain ⟨hx1, hx0⟩ := hx
  have x2 : decide (x < 0) = true := by simpa using hx1
  have x3 : decide (0 ≤ x) = false := by simpa using hx1
  have OX := hid (ofS_neg hx1)
  have hz0 : nw 0 ≤ 64 := by simp [nw_zero]
  have hx1' : x ≤ 9223372036854775807 := by omega
  obtain ⟨b0, bw⟩ := boxes1 w (.slice A (nw a) c)
  have XA := Box.mk b0 hA bw
  have WW := bw
  clear bw b0
  go_enter Try.func3, Try.ntmps3
  go_wp2_with fail
  generalize hV : (w.alloc (.cells #[.slice A (nw a) c] 24)) = V0 at XA WW ⊢
  clear hV
  have hc := awake_any V0
  refine hc.mono ?_
  clear hc
  rintro e V1 ⟨rfl, hb⟩
  replace XA := XA.below hb
  replace WW := WW.trans (hb.mono WW.size)
  have kXA := XA.cell
  have zXA := XA.lt
  clear hb
  go_wp2_with fail
  have hc := great_1 V1 A _ c hn'
  rw [HG.out] at hc
  refine hc.mono ?_
  clear hc
  rintro e V2 ⟨rfl, hb⟩
  clear kXA zXA
  replace XA := XA.below hb
  replace WW := WW.trans (hb.mono WW.size)
  have kXA := XA.cell
  have zXA := XA.lt
  clear hb
  go_wp2_with fail
  have hc := rvalid_any A _ c a _ V2 XA.num (Nat.le_refl _) hn'
  rw [H1.out] at hc
  refine hc.mono ?_
  clear hc
  rintro e V3 ⟨rfl, hb⟩
  clear kXA zXA
  replace XA := XA.below hb
  replace WW := WW.trans (hb.mono WW.size)
  have kXA := XA.cell
  have zXA := XA.lt
  clear hb
  go_wp2_with fail
  have hc := of_any x V3 (by omega) (by omega)
  rw [OX.out] at hc
  refine hc.mono ?_
  clear hc
  rintro e V4 ⟨v, rfl, hv, hb⟩
  clear kXA zXA
  replace XA := XA.below hb
  replace WW := WW.trans (hb.mono WW.size)
  obtain ⟨D1, d1, rfl, hv'⟩ := hv.open_
  clear hv
  have kXA := XA.cell
  have zXA := XA.lt
  clear hb
  go_wp2_with fail
  obtain ⟨b0, bw⟩ := boxes1 V4 (.slice D1 (nw 0) d1)
  clear kXA zXA
  replace XA := XA.below bw
  have X1 := Box.mk b0 hv' bw
  replace WW := WW.trans (bw.mono WW.size)
  clear bw b0 hv'
  generalize hV : (V4.alloc (.cells #[.slice D1 (nw 0) d1] 24)) = V5 at XA X1 WW ⊢
  clear hV
  have kXA := XA.cell
  have zXA := XA.lt
  have kX1 := X1.cell
  have zX1 := X1.lt
  have hc := int_any A _ c a V5 XA.num hn'
  rw [IA.out] at hc
  refine hc.mono ?_
  clear hc
  rintro e V6 ⟨rfl, hb⟩
  clear kXA zXA kX1 zX1
  replace XA := XA.below hb
  replace X1 := X1.below hb
  replace WW := WW.trans (hb.mono WW.size)
  have kXA := XA.cell
  have zXA := XA.lt
  have kX1 := X1.cell
  have zX1 := X1.lt
  clear hb
  go_wp2_with fail
  have WDr := hid WW.drew
  have HXA_0 := hid XA.drew
  have HX1_0 := hid X1.drew
  clear zXA zX1
  clear WW XA X1
  refine wp_region_held_drew (S := (fun w' => w'.cell? ⟨w.heap.size, 0, none⟩ = some ((.slice A (nw a) c)) ∧ w'.cell? ⟨V4.heap.size, 0, none⟩ = some ((.slice D1 (nw 0) d1)))) (by kernel_rfl) (⟨kXA, kX1⟩) (fun hHeld => ?_)
  refine wpAnyH_take (i := 0) (oi := { dst := some 31, op := Op.load 24 (Operand.tmp 3), type := 24, pos := "law.go:41", after := #[], guard := none }) (v := ?_) rfl (by kernel_rfl) (by kernel_rfl) (by kernel_rfl) (fun _ _ _ h => h) (Or.inl ⟨by rfl, ?_⟩) (by assumption) ?_
  rotate_left
  · (intro ws hSw; (try dsimp only at hSw); (try go_simp); (try with_reducible rfl))
  (try simp only [Act.put, List.setIfInBounds_toArray, List.set_cons_zero, List.set_cons_succ])
  refine wpAnyH_take (i := 2) (oi := { dst := some 33, op := Op.move (Operand.tmp 7), type := 4, pos := "law.go:41", after := #[], guard := none }) (v := ?_) rfl (by kernel_rfl) (by kernel_rfl) (by kernel_rfl) (fun _ _ _ h => h) (Or.inl ⟨by rfl, ?_⟩) (by assumption) ?_
  rotate_left
  · (intro ws hSw; (try dsimp only at hSw); (try go_simp); (try with_reducible rfl))
  (try simp only [Act.put, List.setIfInBounds_toArray, List.set_cons_zero, List.set_cons_succ])
  refine wpAnyH_ready (rs := [1]) (by kernel_rfl) (by simp) ?_
  refine AllReadyH.cons (o := { dst := some 32, op := Op.call { callee := Callee.value (Operand.func 16), args := #[Operand.tmp 31], argTypes := #[24] }, type := 4, pos := "law.go:41", after := #[{ on := 0, ground := Ground.data }], guard := none }) rfl (fun K hK => ?_) AllReadyH.nil
  go_simp
  have hc := valid_any A _ c a _ _ HXA_0.out.num (Nat.le_refl _) hn'
  rw [H1.out] at hc
  refine hc.mono ?_
  clear hc
  rintro e w6_1 ⟨rfl, hb⟩
  have HXA_1 := hid (HXA_0.out.below hb)
  have HX1_1 := hid (HX1_0.out.below hb)
  have qXA_1 := HXA_1.out.cell
  have qX1_1 := HX1_1.out.cell
  have WD_1 := hid (WDr.out.trans (hb.mono WDr.out.size))
  clear hb
  refine hK.out _ _ (⟨qXA_1, qX1_1⟩) (fun hHeld1 => ?_)
  clear hK K hHeld
  have hHeld := hHeld1
  clear hHeld1
  (try simp only [Act.put, List.setIfInBounds_toArray, List.set_cons_zero, List.set_cons_succ])
  refine wpAnyH_take (i := 3) (oi := { dst := some 34, op := Op.binOp BinOp.neq 4 (Operand.tmp 32) (Operand.tmp 33) 4, type := 4, pos := "law.go:41", after := #[{ on := 1, ground := Ground.data }, { on := 2, ground := Ground.data }], guard := none }) (v := ?_) rfl (by kernel_rfl) (by kernel_rfl) (by kernel_rfl) (fun _ _ _ h => h) (Or.inl ⟨by rfl, ?_⟩) (by assumption) ?_
  rotate_left
  · (intro ws hSw; (try dsimp only at hSw); (try go_simp); (try with_reducible rfl))
  (try simp only [Act.put, List.setIfInBounds_toArray, List.set_cons_zero, List.set_cons_succ])
  refine wpAnyH_take (i := 4) (oi := { dst := some 35, op := Op.move (Operand.tmp 34), type := 4, pos := "law.go:41", after := #[{ on := 3, ground := Ground.data }, { on := 1, ground := Ground.chain }], guard := none }) (v := ?_) rfl (by kernel_rfl) (by kernel_rfl) (by kernel_rfl) (fun _ _ _ h => h) (Or.inl ⟨by rfl, ?_⟩) (by assumption) ?_
  rotate_left
  · (intro ws hSw; (try dsimp only at hSw); (try go_simp); (try with_reducible rfl))
  (try simp only [Act.put, List.setIfInBounds_toArray, List.set_cons_zero, List.set_cons_succ])
  refine wpAnyH_take (i := 5) (oi := { dst := some 36, op := Op.move (Operand.tmp 1), type := 3, pos := "law.go:41", after := #[{ on := 4, ground := Ground.guard }], guard := some (4, false) }) (v := ?_) rfl (by kernel_rfl) (by kernel_rfl) (by kernel_rfl) (fun _ _ _ h => h) (Or.inl ⟨by rfl, ?_⟩) (by assumption) ?_
  rotate_left
  · (intro ws hSw; (try dsimp only at hSw); (try go_simp); (try with_reducible rfl))
  (try simp only [Act.put, List.setIfInBounds_toArray, List.set_cons_zero, List.set_cons_succ])
  refine wpAnyH_take (i := 6) (oi := { dst := some 37, op := Op.binOp BinOp.lss 3 (Operand.tmp 36) (Operand.const (Value.int IntKind.i64 0)) 3, type := 4, pos := "law.go:41", after := #[{ on := 5, ground := Ground.data }, { on := 4, ground := Ground.guard }], guard := some (4, false) }) (v := ?_) rfl (by kernel_rfl) (by kernel_rfl) (by kernel_rfl) (fun _ _ _ h => h) (Or.inl ⟨by rfl, ?_⟩) (by assumption) ?_
  rotate_left
  · (intro ws hSw; (try dsimp only at hSw); (try go_simp); (try with_reducible rfl))
  (try simp only [Act.put, List.setIfInBounds_toArray, List.set_cons_zero, List.set_cons_succ])
  refine wpAnyH_take (i := 7) (oi := { dst := some 38, op := Op.move (Operand.tmp 37), type := 4, pos := "law.go:41", after := #[{ on := 6, ground := Ground.data }, { on := 4, ground := Ground.chain }, { on := 4, ground := Ground.guard }], guard := some (4, false) }) (v := ?_) rfl (by kernel_rfl) (by kernel_rfl) (by kernel_rfl) (fun _ _ _ h => h) (Or.inl ⟨by rfl, ?_⟩) (by assumption) ?_
  rotate_left
  · (intro ws hSw; (try dsimp only at hSw); (try go_simp); (try with_reducible rfl))
  (try simp only [Act.put, List.setIfInBounds_toArray, List.set_cons_zero, List.set_cons_succ])
  refine wpAnyH_take (i := 8) (oi := { dst := some 39, op := Op.load 24 (Operand.tmp 8), type := 24, pos := "law.go:41", after := #[{ on := 7, ground := Ground.guard }], guard := some (7, true) }) (v := ?_) rfl (by kernel_rfl) (by kernel_rfl) (by kernel_rfl) (fun _ _ _ h => h) (Or.inl ⟨by rfl, ?_⟩) (by assumption) ?_
  rotate_left
  · (intro ws hSw; (try dsimp only at hSw); (try go_simp); (try with_reducible rfl))
  (try simp only [Act.put, List.setIfInBounds_toArray, List.set_cons_zero, List.set_cons_succ])
  refine wpAnyH_take (i := 9) (oi := { dst := some 40, op := Op.move (Operand.tmp 9), type := 28, pos := "law.go:41", after := #[{ on := 7, ground := Ground.guard }], guard := some (7, true) }) (v := ?_) rfl (by kernel_rfl) (by kernel_rfl) (by kernel_rfl) (fun _ _ _ h => h) (Or.inl ⟨by rfl, ?_⟩) (by assumption) ?_
  rotate_left
  · (intro ws hSw; (try dsimp only at hSw); (try go_simp); (try with_reducible rfl))
  (try simp only [Act.put, List.setIfInBounds_toArray, List.set_cons_zero, List.set_cons_succ])
  refine wpAnyH_take (i := 10) (oi := { dst := some 41, op := Op.build 24 #[], type := 24, pos := "law.go:41", after := #[{ on := 7, ground := Ground.guard }], guard := some (7, true) }) (v := ?_) rfl (by kernel_rfl) (by kernel_rfl) (by kernel_rfl) (fun _ _ _ h => h) (Or.inl ⟨by rfl, ?_⟩) (by assumption) ?_
  rotate_left
  · (intro ws hSw; (try dsimp only at hSw); (try go_simp); (try with_reducible rfl))
  (try simp only [Act.put, List.setIfInBounds_toArray, List.set_cons_zero, List.set_cons_succ])
  refine wpAnyH_ready (rs := [11]) (by kernel_rfl) (by simp) ?_
  refine AllReadyH.cons (o := { dst := some 42, op := Op.call { callee := Callee.value (Operand.func 17), args := #[Operand.tmp 39, Operand.tmp 40, Operand.tmp 41, Operand.const (Value.int IntKind.i64 2)], argTypes := #[24, 28, 24, 3] }, type := 4, pos := "law.go:41", after := #[{ on := 8, ground := Ground.data }, { on := 9, ground := Ground.data }, { on := 10, ground := Ground.data }, { on := 7, ground := Ground.chain }, { on := 7, ground := Ground.guard }], guard := some (7, true) }) rfl (fun K hK => ?_) AllReadyH.nil
  go_simp
  have hc := is_any D1 none _ 0 d1 0 0 0 2 2 _ HX1_1.out.num (Num.nil _ _ _) (by omega) (by omega)
  rw [is_zero] at hc
  refine hc.mono ?_
  clear hc
  rintro e w6_2 ⟨rfl, hb⟩
  have HXA_2 := hid (HXA_1.out.below hb)
  have HX1_2 := hid (HX1_1.out.below hb)
  have qXA_2 := HXA_2.out.cell
  have qX1_2 := HX1_2.out.cell
  have WD_2 := hid (WD_1.out.trans (hb.mono WD_1.out.size))
  clear hb
  refine hK.out _ _ (⟨qXA_2, qX1_2⟩) (fun hHeld11 => ?_)
  clear hK K hHeld
  have hHeld := hHeld11
  clear hHeld11
  (try simp only [Act.put, List.setIfInBounds_toArray, List.set_cons_zero, List.set_cons_succ])
  refine wpAnyH_take (i := 12) (oi := { dst := some 43, op := Op.unOp UnOp.not 4 (Operand.tmp 42), type := 4, pos := "law.go:41", after := #[{ on := 11, ground := Ground.data }, { on := 7, ground := Ground.guard }], guard := some (7, true) }) (v := ?_) rfl (by kernel_rfl) (by kernel_rfl) (by kernel_rfl) (fun _ _ _ h => h) (Or.inl ⟨by rfl, ?_⟩) (by assumption) ?_
  rotate_left
  · (intro ws hSw; (try dsimp only at hSw); (try go_simp); (try with_reducible rfl))
  (try simp only [Act.put, List.setIfInBounds_toArray, List.set_cons_zero, List.set_cons_succ])
  refine wpAnyH_take (i := 13) (oi := { dst := some 44, op := Op.pick (Operand.tmp 38) (Operand.tmp 43) (Operand.const (Value.bool false)), type := 4, pos := "law.go:41", after := #[{ on := 7, ground := Ground.data }, { on := 12, ground := Ground.data }, { on := 4, ground := Ground.guard }], guard := some (4, false) }) (v := ?_) rfl (by kernel_rfl) (by kernel_rfl) (by kernel_rfl) (fun _ _ _ h => h) (Or.inl ⟨by rfl, ?_⟩) (by assumption) ?_
  rotate_left
  · (intro ws hSw; (try dsimp only at hSw); (try go_simp); (try with_reducible rfl))
  (try simp only [Act.put, List.setIfInBounds_toArray, List.set_cons_zero, List.set_cons_succ])
  refine wpAnyH_take (i := 14) (oi := { dst := some 45, op := Op.pick (Operand.tmp 35) (Operand.const (Value.bool true)) (Operand.tmp 44), type := 4, pos := "law.go:41", after := #[{ on := 4, ground := Ground.data }, { on := 13, ground := Ground.data }], guard := none }) (v := ?_) rfl (by kernel_rfl) (by kernel_rfl) (by kernel_rfl) (fun _ _ _ h => h) (Or.inl ⟨by rfl, ?_⟩) (by assumption) ?_
  rotate_left
  · (intro ws hSw; (try dsimp only at hSw); (try go_simp); (try with_reducible rfl))
  (try simp only [Act.put, List.setIfInBounds_toArray, List.set_cons_zero, List.set_cons_succ])
  refine wpAnyH_take (i := 15) (oi := { dst := some 46, op := Op.move (Operand.tmp 45), type := 4, pos := "law.go:41", after := #[{ on := 14, ground := Ground.data }, { on := 11, ground := Ground.chain }], guard := none }) (v := ?_) rfl (by kernel_rfl) (by kernel_rfl) (by kernel_rfl) (fun _ _ _ h => h) (Or.inl ⟨by rfl, ?_⟩) (by assumption) ?_
  rotate_left
  · (intro ws hSw; (try dsimp only at hSw); (try go_simp); (try with_reducible rfl))
  (try simp only [Act.put, List.setIfInBounds_toArray, List.set_cons_zero, List.set_cons_succ])
  refine wpAnyH_take (i := 16) (oi := { dst := some 47, op := Op.move (Operand.tmp 1), type := 3, pos := "law.go:41", after := #[{ on := 15, ground := Ground.guard }], guard := some (15, false) }) (v := ?_) rfl (by kernel_rfl) (by kernel_rfl) (by kernel_rfl) (fun _ _ _ h => h) (Or.inl ⟨by rfl, ?_⟩) (by assumption) ?_
  rotate_left
  · (intro ws hSw; (try dsimp only at hSw); (try go_simp); (try with_reducible rfl))
  (try simp only [Act.put, List.setIfInBounds_toArray, List.set_cons_zero, List.set_cons_succ])
  refine wpAnyH_take (i := 17) (oi := { dst := some 48, op := Op.binOp BinOp.geq 3 (Operand.tmp 47) (Operand.const (Value.int IntKind.i64 0)) 3, type := 4, pos := "law.go:41", after := #[{ on := 16, ground := Ground.data }, { on := 15, ground := Ground.guard }], guard := some (15, false) }) (v := ?_) rfl (by kernel_rfl) (by kernel_rfl) (by kernel_rfl) (fun _ _ _ h => h) (Or.inl ⟨by rfl, ?_⟩) (by assumption) ?_
  rotate_left
  · (intro ws hSw; (try dsimp only at hSw); (try go_simp); (try with_reducible rfl))
  (try simp only [Act.put, List.setIfInBounds_toArray, List.set_cons_zero, List.set_cons_succ])
  refine wpAnyH_take (i := 18) (oi := { dst := some 49, op := Op.move (Operand.tmp 48), type := 4, pos := "law.go:41", after := #[{ on := 17, ground := Ground.data }, { on := 15, ground := Ground.chain }, { on := 15, ground := Ground.guard }], guard := some (15, false) }) (v := ?_) rfl (by kernel_rfl) (by kernel_rfl) (by kernel_rfl) (fun _ _ _ h => h) (Or.inl ⟨by rfl, ?_⟩) (by assumption) ?_
  rotate_left
  · (intro ws hSw; (try dsimp only at hSw); (try go_simp); (try with_reducible rfl))
  (try simp only [Act.put, List.setIfInBounds_toArray, List.set_cons_zero, List.set_cons_succ])
  refine wpAnyH_take (i := 19) (oi := { dst := some 50, op := Op.load 24 (Operand.tmp 8), type := 24, pos := "law.go:41", after := #[{ on := 18, ground := Ground.guard }], guard := some (18, true) }) (v := _) rfl (by kernel_rfl) (by kernel_rfl) (by kernel_rfl) (fun _ _ _ h => h) (Or.inr ⟨by rfl, rfl⟩) (by assumption) ?_
  (try simp only [Act.put, List.setIfInBounds_toArray, List.set_cons_zero, List.set_cons_succ])
  refine wpAnyH_take (i := 20) (oi := { dst := some 51, op := Op.move (Operand.tmp 9), type := 28, pos := "law.go:41", after := #[{ on := 18, ground := Ground.guard }], guard := some (18, true) }) (v := _) rfl (by kernel_rfl) (by kernel_rfl) (by kernel_rfl) (fun _ _ _ h => h) (Or.inr ⟨by rfl, rfl⟩) (by assumption) ?_
  (try simp only [Act.put, List.setIfInBounds_toArray, List.set_cons_zero, List.set_cons_succ])
  refine wpAnyH_take (i := 21) (oi := { dst := some 52, op := Op.move (Operand.tmp 1), type := 3, pos := "law.go:41", after := #[{ on := 18, ground := Ground.guard }], guard := some (18, true) }) (v := _) rfl (by kernel_rfl) (by kernel_rfl) (by kernel_rfl) (fun _ _ _ h => h) (Or.inr ⟨by rfl, rfl⟩) (by assumption) ?_
  (try simp only [Act.put, List.setIfInBounds_toArray, List.set_cons_zero, List.set_cons_succ])
  refine wpAnyH_take (i := 22) (oi := { dst := some 53, op := Op.call { callee := Callee.value (Operand.func 18), args := #[Operand.tmp 52], argTypes := #[3] }, type := 24, pos := "law.go:41", after := #[{ on := 21, ground := Ground.data }, { on := 18, ground := Ground.chain }, { on := 18, ground := Ground.guard }], guard := some (18, true) }) (v := _) rfl (by kernel_rfl) (by kernel_rfl) (by kernel_rfl) (fun _ _ _ h => h) (Or.inr ⟨by rfl, rfl⟩) (by assumption) ?_
  (try simp only [Act.put, List.setIfInBounds_toArray, List.set_cons_zero, List.set_cons_succ])
  refine wpAnyH_take (i := 23) (oi := { dst := some 54, op := Op.call { callee := Callee.value (Operand.func 17), args := #[Operand.tmp 50, Operand.tmp 51, Operand.tmp 53, Operand.const (Value.int IntKind.i64 0)], argTypes := #[24, 28, 24, 3] }, type := 4, pos := "law.go:41", after := #[{ on := 19, ground := Ground.data }, { on := 20, ground := Ground.data }, { on := 22, ground := Ground.data }, { on := 22, ground := Ground.chain }, { on := 18, ground := Ground.guard }], guard := some (18, true) }) (v := _) rfl (by kernel_rfl) (by kernel_rfl) (by kernel_rfl) (fun _ _ _ h => h) (Or.inr ⟨by rfl, rfl⟩) (by assumption) ?_
  (try simp only [Act.put, List.setIfInBounds_toArray, List.set_cons_zero, List.set_cons_succ])
  refine wpAnyH_take (i := 24) (oi := { dst := some 55, op := Op.unOp UnOp.not 4 (Operand.tmp 54), type := 4, pos := "law.go:41", after := #[{ on := 23, ground := Ground.data }, { on := 18, ground := Ground.guard }], guard := some (18, true) }) (v := _) rfl (by kernel_rfl) (by kernel_rfl) (by kernel_rfl) (fun _ _ _ h => h) (Or.inr ⟨by rfl, rfl⟩) (by assumption) ?_
  (try simp only [Act.put, List.setIfInBounds_toArray, List.set_cons_zero, List.set_cons_succ])
  refine wpAnyH_take (i := 25) (oi := { dst := some 56, op := Op.pick (Operand.tmp 49) (Operand.tmp 55) (Operand.const (Value.bool false)), type := 4, pos := "law.go:41", after := #[{ on := 18, ground := Ground.data }, { on := 24, ground := Ground.data }, { on := 15, ground := Ground.guard }], guard := some (15, false) }) (v := ?_) rfl (by kernel_rfl) (by kernel_rfl) (by kernel_rfl) (fun _ _ _ h => h) (Or.inl ⟨by rfl, ?_⟩) (by assumption) ?_
  rotate_left
  · (intro ws hSw; (try dsimp only at hSw); (try go_simp); (try with_reducible rfl))
  (try simp only [Act.put, List.setIfInBounds_toArray, List.set_cons_zero, List.set_cons_succ])
  refine wpAnyH_take (i := 26) (oi := { dst := some 57, op := Op.pick (Operand.tmp 46) (Operand.const (Value.bool true)) (Operand.tmp 56), type := 4, pos := "law.go:41", after := #[{ on := 15, ground := Ground.data }, { on := 25, ground := Ground.data }], guard := none }) (v := ?_) rfl (by kernel_rfl) (by kernel_rfl) (by kernel_rfl) (fun _ _ _ h => h) (Or.inl ⟨by rfl, ?_⟩) (by assumption) ?_
  rotate_left
  · (intro ws hSw; (try dsimp only at hSw); (try go_simp); (try with_reducible rfl))
  (try simp only [Act.put, List.setIfInBounds_toArray, List.set_cons_zero, List.set_cons_succ])
  refine wpAnyH_done (by kernel_rfl) ?_ _
  clear hHeld
  clear kXA kX1 qXA_1 qX1_1 qXA_2 qX1_2
  have XA := HXA_2.out
  have X1 := HX1_2.out
  have WW := WD_2.out
  clear HXA_0 HX1_0 HXA_1 HX1_1 HXA_2 HX1_2 WDr WD_1 WD_2
  have kXA := XA.cell
  have zXA := XA.lt
  have kX1 := X1.cell
  have zX1 := X1.lt
  go_wp2_with fail
  clear X1 kX1 zX1
  have WDr := hid WW.drew
  have HXA_0 := hid XA.drew
  clear zXA
  clear WW XA
  refine wp_region_held_drew (S := (fun w' => w'.cell? ⟨w.heap.size, 0, none⟩ = some ((.slice A (nw a) c)))) (by kernel_rfl) (kXA) (fun hHeld => ?_)
  refine wpAnyH_take (i := 0) (oi := { dst := some 77, op := Op.load 24 (Operand.tmp 3), type := 24, pos := "law.go:47", after := #[], guard := none }) (v := ?_) rfl (by kernel_rfl) (by kernel_rfl) (by kernel_rfl) (fun _ _ _ h => h) (Or.inl ⟨by rfl, ?_⟩) (by assumption) ?_
  rotate_left
  · (intro ws hSw; (try dsimp only at hSw); (try go_simp); (try with_reducible rfl))
  (try simp only [Act.put, List.setIfInBounds_toArray, List.set_cons_zero, List.set_cons_succ])
  refine wpAnyH_take (i := 2) (oi := { dst := some 79, op := Op.load 24 (Operand.tmp 3), type := 24, pos := "law.go:47", after := #[], guard := none }) (v := ?_) rfl (by kernel_rfl) (by kernel_rfl) (by kernel_rfl) (fun _ _ _ h => h) (Or.inl ⟨by rfl, ?_⟩) (by assumption) ?_
  rotate_left
  · (intro ws hSw; (try dsimp only at hSw); (try go_simp); (try with_reducible rfl))
  (try simp only [Act.put, List.setIfInBounds_toArray, List.set_cons_zero, List.set_cons_succ])
  refine wpAnyH_ready (rs := [1]) (by kernel_rfl) (by simp) ?_
  refine AllReadyH.cons (o := { dst := some 78, op := Op.call { callee := Callee.value (Operand.func 19), args := #[Operand.tmp 77], argTypes := #[24] }, type := 3, pos := "law.go:47", after := #[{ on := 0, ground := Ground.data }], guard := none }) rfl (fun K hK => ?_) AllReadyH.nil
  go_simp
  have hc := bits_any A _ c a _ HXA_0.out.num hn'
  rw [BA.out] at hc
  refine hc.mono ?_
  clear hc
  rintro e w7_1 ⟨rfl, hb⟩
  have HXA_1 := hid (HXA_0.out.below hb)
  have qXA_1 := HXA_1.out.cell
  have WD_1 := hid (WDr.out.trans (hb.mono WDr.out.size))
  clear hb
  refine hK.out _ _ (qXA_1) (fun hHeld1 => ?_)
  clear hK K hHeld
  have hHeld := hHeld1
  clear hHeld1
  (try simp only [Act.put, List.setIfInBounds_toArray, List.set_cons_zero, List.set_cons_succ])
  refine wpAnyH_ready (rs := [3]) (by kernel_rfl) (by simp) ?_
  refine AllReadyH.cons (o := { dst := some 80, op := Op.call { callee := Callee.value (Operand.func 21), args := #[Operand.tmp 79], argTypes := #[24] }, type := 3, pos := "law.go:47", after := #[{ on := 2, ground := Ground.data }, { on := 1, ground := Ground.chain }], guard := none }) rfl (fun K hK => ?_) AllReadyH.nil
  go_simp
  have hc := rbits_any A _ c a _ HXA_1.out.num (by omega)
  refine hc.mono ?_
  clear hc
  rintro e w7_2 ⟨rfl, hb⟩
  have HXA_2 := hid (HXA_1.out.below hb)
  have qXA_2 := HXA_2.out.cell
  have WD_2 := hid (WD_1.out.trans (hb.mono WD_1.out.size))
  clear hb
  refine hK.out _ _ (qXA_2) (fun hHeld3 => ?_)
  clear hK K hHeld
  have hHeld := hHeld3
  clear hHeld3
  (try simp only [Act.put, List.setIfInBounds_toArray, List.set_cons_zero, List.set_cons_succ])
  refine wpAnyH_take (i := 4) (oi := { dst := some 81, op := Op.binOp BinOp.neq 3 (Operand.tmp 78) (Operand.tmp 80) 3, type := 4, pos := "law.go:47", after := #[{ on := 1, ground := Ground.data }, { on := 3, ground := Ground.data }], guard := none }) (v := ?_) rfl (by kernel_rfl) (by kernel_rfl) (by kernel_rfl) (fun _ _ _ h => h) (Or.inl ⟨by rfl, ?_⟩) (by assumption) ?_
  rotate_left
  · (intro ws hSw; (try dsimp only at hSw); (try go_simp); (try with_reducible rfl))
  (try simp only [Act.put, List.setIfInBounds_toArray, List.set_cons_zero, List.set_cons_succ])
  refine wpAnyH_take (i := 5) (oi := { dst := some 82, op := Op.move (Operand.tmp 81), type := 4, pos := "law.go:47", after := #[{ on := 4, ground := Ground.data }, { on := 3, ground := Ground.chain }], guard := none }) (v := ?_) rfl (by kernel_rfl) (by kernel_rfl) (by kernel_rfl) (fun _ _ _ h => h) (Or.inl ⟨by rfl, ?_⟩) (by assumption) ?_
  rotate_left
  · (intro ws hSw; (try dsimp only at hSw); (try go_simp); (try with_reducible rfl))
  (try simp only [Act.put, List.setIfInBounds_toArray, List.set_cons_zero, List.set_cons_succ])
  refine wpAnyH_take (i := 6) (oi := { dst := some 83, op := Op.load 24 (Operand.tmp 3), type := 24, pos := "law.go:47", after := #[{ on := 5, ground := Ground.guard }], guard := some (5, false) }) (v := ?_) rfl (by kernel_rfl) (by kernel_rfl) (by kernel_rfl) (fun _ _ _ h => h) (Or.inl ⟨by rfl, ?_⟩) (by assumption) ?_
  rotate_left
  · (intro ws hSw; (try dsimp only at hSw); (try go_simp); (try with_reducible rfl))
  (try simp only [Act.put, List.setIfInBounds_toArray, List.set_cons_zero, List.set_cons_succ])
  refine wpAnyH_take (i := 7) (oi := { dst := some 84, op := Op.move (Operand.tmp 2), type := 3, pos := "law.go:47", after := #[{ on := 5, ground := Ground.guard }], guard := some (5, false) }) (v := ?_) rfl (by kernel_rfl) (by kernel_rfl) (by kernel_rfl) (fun _ _ _ h => h) (Or.inl ⟨by rfl, ?_⟩) (by assumption) ?_
  rotate_left
  · (intro ws hSw; (try dsimp only at hSw); (try go_simp); (try with_reducible rfl))
  (try simp only [Act.put, List.setIfInBounds_toArray, List.set_cons_zero, List.set_cons_succ])
  refine wpAnyH_take (i := 9) (oi := { dst := some 86, op := Op.load 24 (Operand.tmp 3), type := 24, pos := "law.go:47", after := #[{ on := 5, ground := Ground.guard }], guard := some (5, false) }) (v := ?_) rfl (by kernel_rfl) (by kernel_rfl) (by kernel_rfl) (fun _ _ _ h => h) (Or.inl ⟨by rfl, ?_⟩) (by assumption) ?_
  rotate_left
  · (intro ws hSw; (try dsimp only at hSw); (try go_simp); (try with_reducible rfl))
  (try simp only [Act.put, List.setIfInBounds_toArray, List.set_cons_zero, List.set_cons_succ])
  refine wpAnyH_take (i := 10) (oi := { dst := some 87, op := Op.move (Operand.tmp 2), type := 3, pos := "law.go:47", after := #[{ on := 5, ground := Ground.guard }], guard := some (5, false) }) (v := ?_) rfl (by kernel_rfl) (by kernel_rfl) (by kernel_rfl) (fun _ _ _ h => h) (Or.inl ⟨by rfl, ?_⟩) (by assumption) ?_
  rotate_left
  · (intro ws hSw; (try dsimp only at hSw); (try go_simp); (try with_reducible rfl))
  (try simp only [Act.put, List.setIfInBounds_toArray, List.set_cons_zero, List.set_cons_succ])
  refine wpAnyH_ready (rs := [8]) (by kernel_rfl) (by simp) ?_
  refine AllReadyH.cons (o := { dst := some 85, op := Op.call { callee := Callee.value (Operand.func 20), args := #[Operand.tmp 83, Operand.tmp 84], argTypes := #[24, 3] }, type := 4, pos := "law.go:47", after := #[{ on := 6, ground := Ground.data }, { on := 7, ground := Ground.data }, { on := 5, ground := Ground.chain }, { on := 5, ground := Ground.guard }], guard := some (5, false) }) rfl (fun K hK => ?_) AllReadyH.nil
  go_simp
  have hc := bit_any A _ c a i _ HXA_2.out.num hn' i0 i1
  rw [TA.out] at hc
  refine hc.mono ?_
  clear hc
  rintro e w7_3 ⟨rfl, hb⟩
  have HXA_3 := hid (HXA_2.out.below hb)
  have qXA_3 := HXA_3.out.cell
  have WD_3 := hid (WD_2.out.trans (hb.mono WD_2.out.size))
  clear hb
  refine hK.out _ _ (qXA_3) (fun hHeld8 => ?_)
  clear hK K hHeld
  have hHeld := hHeld8
  clear hHeld8
  (try simp only [Act.put, List.setIfInBounds_toArray, List.set_cons_zero, List.set_cons_succ])
  refine wpAnyH_ready (rs := [11]) (by kernel_rfl) (by simp) ?_
  refine AllReadyH.cons (o := { dst := some 88, op := Op.call { callee := Callee.value (Operand.func 22), args := #[Operand.tmp 86, Operand.tmp 87], argTypes := #[24, 3] }, type := 4, pos := "law.go:47", after := #[{ on := 9, ground := Ground.data }, { on := 10, ground := Ground.data }, { on := 8, ground := Ground.chain }, { on := 5, ground := Ground.guard }], guard := some (5, false) }) rfl (fun K hK => ?_) AllReadyH.nil
  go_simp
  have hc := rbit_any A _ c a i _ HXA_3.out.num (by omega) i0 i1
  rw [TR.out] at hc
  refine hc.mono ?_
  clear hc
  rintro e w7_4 ⟨rfl, hb⟩
  have HXA_4 := hid (HXA_3.out.below hb)
  have qXA_4 := HXA_4.out.cell
  have WD_4 := hid (WD_3.out.trans (hb.mono WD_3.out.size))
  clear hb
  refine hK.out _ _ (qXA_4) (fun hHeld11 => ?_)
  clear hK K hHeld
  have hHeld := hHeld11
  clear hHeld11
  (try simp only [Act.put, List.setIfInBounds_toArray, List.set_cons_zero, List.set_cons_succ])
  refine wpAnyH_take (i := 12) (oi := { dst := some 89, op := Op.binOp BinOp.neq 4 (Operand.tmp 85) (Operand.tmp 88) 4, type := 4, pos := "law.go:47", after := #[{ on := 8, ground := Ground.data }, { on := 11, ground := Ground.data }, { on := 5, ground := Ground.guard }], guard := some (5, false) }) (v := ?_) rfl (by kernel_rfl) (by kernel_rfl) (by kernel_rfl) (fun _ _ _ h => h) (Or.inl ⟨by rfl, ?_⟩) (by assumption) ?_
  rotate_left
  · (intro ws hSw; (try dsimp only at hSw); (try go_simp); (try with_reducible rfl))
  (try simp only [Act.put, List.setIfInBounds_toArray, List.set_cons_zero, List.set_cons_succ])
  refine wpAnyH_take (i := 13) (oi := { dst := some 90, op := Op.pick (Operand.tmp 82) (Operand.const (Value.bool true)) (Operand.tmp 89), type := 4, pos := "law.go:47", after := #[{ on := 5, ground := Ground.data }, { on := 12, ground := Ground.data }], guard := none }) (v := ?_) rfl (by kernel_rfl) (by kernel_rfl) (by kernel_rfl) (fun _ _ _ h => h) (Or.inl ⟨by rfl, ?_⟩) (by assumption) ?_
  rotate_left
  · (intro ws hSw; (try dsimp only at hSw); (try go_simp); (try with_reducible rfl))
  (try simp only [Act.put, List.setIfInBounds_toArray, List.set_cons_zero, List.set_cons_succ])
  refine wpAnyH_done (by kernel_rfl) ?_ _
  clear hHeld
  clear kXA qXA_1 qXA_2 qXA_3 qXA_4
  have XA := HXA_4.out
  have WW := WD_4.out
  clear HXA_0 HXA_1 HXA_2 HXA_3 HXA_4 WDr WD_1 WD_2 WD_3 WD_4
  have kXA := XA.cell
  have zXA := XA.lt
  go_wp2_with fail
  have hc := rint_any A c a w7_4 XA.num hn1
  rw [RA.out] at hc
  refine hc.mono ?_
  clear hc
  rintro e V9 ⟨rfl, hb⟩
  clear kXA zXA
  replace XA := XA.below hb
  replace WW := WW.trans (hb.mono WW.size)
  have kXA := XA.cell
  have zXA := XA.lt
  clear hb
  go_wp2_with fail
  go_ret
  exact ⟨rfl, WW⟩

set_option maxHeartbeats 8000000 in
set_option maxRecDepth 100000 in
theorem ints_n_big (A : Option Addr) (c a k : Nat) (x i : Int) (w : World) (hA : Num w w.heap.size A (nw a) a) (hn1 : nw a ≤ 64) (hb : ¬ bl a ≤ 63) (hx : x < 0 ∧ -9223372036854775808 ≤ x) (i0 : -9223372036854775808 ≤ i) (i1 : i ≤ 9223372036854775807) :
    Calls Try.prog 3 #[.agg #[.slice A (nw a) c], .int .i64 x, .int .i64 i] w (RetB (.bool true) w) := by
  have HG : Hid (decide (100 < nw a) = false) := decide_eq_false (by omega)
  have H1 := hid (okB_nw hn1)
  have BA := hid (bitsS_yes H1.out)
  have TA := hid (bitS_r (i := i) H1.out)
  have hn' : nw a ≤ 9223372036854775807 := by omega
  have hbl : bl a ≤ 2048 := bl_nw.1 hn1
  have IA := hid (intS_big H1.out hb)
  have RA : Hid (rintS a = (0, false)) := by show _ = _; unfold rintS; rw [if_neg hb]
  obtain ⟨ti, hti⟩ : ∃ t, t = rbitS a i := ⟨_, rfl⟩
  rw [← hti] at TA
  have TR : Hid (rbitS a i = ti) := hti.symm
  clear hti hb
  have eq1 : (((bl a : Nat) : Int) != ((bl a : Nat) : Int)) = false := by simp
  have eq2 : (ti != ti) = false := by simp
  obtain ⟨hx1, hx0⟩ := hx
  have x2 : decide (x < 0) = true := by simpa using hx1
  have x3 : decide (0 ≤ x) = false := by simpa using hx1
  have OX := hid (ofS_neg hx1)
  have hz0 : nw 0 ≤ 64 := by simp [nw_zero]
  have hx1' : x ≤ 9223372036854775807 := by omega
  obtain ⟨b0, bw⟩ := boxes1 w (.slice A (nw a) c)
  have XA := Box.mk b0 hA bw
  have WW := bw
  clear bw b0
  go_enter Try.func3, Try.ntmps3
  go_wp2_with fail
  generalize hV : (w.alloc (.cells #[.slice A (nw a) c] 24)) = V0 at XA WW ⊢
  clear hV
  have hc := awake_any V0
  refine hc.mono ?_
  clear hc
  rintro e V1 ⟨rfl, hb⟩
  replace XA := XA.below hb
  replace WW := WW.trans (hb.mono WW.size)
  have kXA := XA.cell
  have zXA := XA.lt
  clear hb
  go_wp2_with fail
  have hc := great_1 V1 A _ c hn'
  rw [HG.out] at hc
  refine hc.mono ?_
  clear hc
  rintro e V2 ⟨rfl, hb⟩
  clear kXA zXA
  replace XA := XA.below hb
  replace WW := WW.trans (hb.mono WW.size)
  have kXA := XA.cell
  have zXA := XA.lt
  clear hb
  go_wp2_with fail
  have hc := rvalid_any A _ c a _ V2 XA.num (Nat.le_refl _) hn'
  rw [H1.out] at hc
  refine hc.mono ?_
  clear hc
  rintro e V3 ⟨rfl, hb⟩
  clear kXA zXA
  replace XA := XA.below hb
  replace WW := WW.trans (hb.mono WW.size)
  have kXA := XA.cell
  have zXA := XA.lt
  clear hb
  go_wp2_with fail
  have hc := of_any x V3 (by omega) (by omega)
  rw [OX.out] at hc
  refine hc.mono ?_
  clear hc
  rintro e V4 ⟨v, rfl, hv, hb⟩
  clear kXA zXA
  replace XA := XA.below hb
  replace WW := WW.trans (hb.mono WW.size)
  obtain ⟨D1, d1, rfl, hv'⟩ := hv.open_
  clear hv
  have kXA := XA.cell
  have zXA := XA.lt
  clear hb
  go_wp2_with fail
  obtain ⟨b0, bw⟩ := boxes1 V4 (.slice D1 (nw 0) d1)
  clear kXA zXA
  replace XA := XA.below bw
  have X1 := Box.mk b0 hv' bw
  replace WW := WW.trans (bw.mono WW.size)
  clear bw b0 hv'
  generalize hV : (V4.alloc (.cells #[.slice D1 (nw 0) d1] 24)) = V5 at XA X1 WW ⊢
  clear hV
  have kXA := XA.cell
  have zXA := XA.lt
  have kX1 := X1.cell
  have zX1 := X1.lt
  have hc := int_any A _ c a V5 XA.num hn'
  rw [IA.out] at hc
  refine hc.mono ?_
  clear hc
  rintro e V6 ⟨rfl, hb⟩
  clear kXA zXA kX1 zX1
  replace XA := XA.below hb
  replace X1 := X1.below hb
  replace WW := WW.trans (hb.mono WW.size)
  have kXA := XA.cell
  have zXA := XA.lt
  have kX1 := X1.cell
  have zX1 := X1.lt
  clear hb
  go_wp2_with fail
  have WDr := hid WW.drew
  have HXA_0 := hid XA.drew
  have HX1_0 := hid X1.drew
  clear zXA zX1
  clear WW XA X1
  refine wp_region_held_drew (S := (fun w' => w'.cell? ⟨w.heap.size, 0, none⟩ = some ((.slice A (nw a) c)) ∧ w'.cell? ⟨V4.heap.size, 0, none⟩ = some ((.slice D1 (nw 0) d1)))) (by kernel_rfl) (⟨kXA, kX1⟩) (fun hHeld => ?_)
  refine wpAnyH_take (i := 0) (oi := { dst := some 31, op := Op.load 24 (Operand.tmp 3), type := 24, pos := "law.go:41", after := #[], guard := none }) (v := ?_) rfl (by kernel_rfl) (by kernel_rfl) (by kernel_rfl) (fun _ _ _ h => h) (Or.inl ⟨by rfl, ?_⟩) (by assumption) ?_
  rotate_left
  · (intro ws hSw; (try dsimp only at hSw); (try go_simp); (try with_reducible rfl))
  (try simp only [Act.put, List.setIfInBounds_toArray, List.set_cons_zero, List.set_cons_succ])
  refine wpAnyH_take (i := 2) (oi := { dst := some 33, op := Op.move (Operand.tmp 7), type := 4, pos := "law.go:41", after := #[], guard := none }) (v := ?_) rfl (by kernel_rfl) (by kernel_rfl) (by kernel_rfl) (fun _ _ _ h => h) (Or.inl ⟨by rfl, ?_⟩) (by assumption) ?_
  rotate_left
  · (intro ws hSw; (try dsimp only at hSw); (try go_simp); (try with_reducible rfl))
  (try simp only [Act.put, List.setIfInBounds_toArray, List.set_cons_zero, List.set_cons_succ])
  refine wpAnyH_ready (rs := [1]) (by kernel_rfl) (by simp) ?_
  refine AllReadyH.cons (o := { dst := some 32, op := Op.call { callee := Callee.value (Operand.func 16), args := #[Operand.tmp 31], argTypes := #[24] }, type := 4, pos := "law.go:41", after := #[{ on := 0, ground := Ground.data }], guard := none }) rfl (fun K hK => ?_) AllReadyH.nil
  go_simp
  have hc := valid_any A _ c a _ _ HXA_0.out.num (Nat.le_refl _) hn'
  rw [H1.out] at hc
  refine hc.mono ?_
  clear hc
  rintro e w6_1 ⟨rfl, hb⟩
  have HXA_1 := hid (HXA_0.out.below hb)
  have HX1_1 := hid (HX1_0.out.below hb)
  have qXA_1 := HXA_1.out.cell
  have qX1_1 := HX1_1.out.cell
  have WD_1 := hid (WDr.out.trans (hb.mono WDr.out.size))
  clear hb
  refine hK.out _ _ (⟨qXA_1, qX1_1⟩) (fun hHeld1 => ?_)
  clear hK K hHeld
  have hHeld := hHeld1
  clear hHeld1
  (try simp only [Act.put, List.setIfInBounds_toArray, List.set_cons_zero, List.set_cons_succ])
  refine wpAnyH_take (i := 3) (oi := { dst := some 34, op := Op.binOp BinOp.neq 4 (Operand.tmp 32) (Operand.tmp 33) 4, type := 4, pos := "law.go:41", after := #[{ on := 1, ground := Ground.data }, { on := 2, ground := Ground.data }], guard := none }) (v := ?_) rfl (by kernel_rfl) (by kernel_rfl) (by kernel_rfl) (fun _ _ _ h => h) (Or.inl ⟨by rfl, ?_⟩) (by assumption) ?_
  rotate_left
  · (intro ws hSw; (try dsimp only at hSw); (try go_simp); (try with_reducible rfl))
  (try simp only [Act.put, List.setIfInBounds_toArray, List.set_cons_zero, List.set_cons_succ])
  refine wpAnyH_take (i := 4) (oi := { dst := some 35, op := Op.move (Operand.tmp 34), type := 4, pos := "law.go:41", after := #[{ on := 3, ground := Ground.data }, { on := 1, ground := Ground.chain }], guard := none }) (v := ?_) rfl (by kernel_rfl) (by kernel_rfl) (by kernel_rfl) (fun _ _ _ h => h) (Or.inl ⟨by rfl, ?_⟩) (by assumption) ?_
  rotate_left
  · (intro ws hSw; (try dsimp only at hSw); (try go_simp); (try with_reducible rfl))
  (try simp only [Act.put, List.setIfInBounds_toArray, List.set_cons_zero, List.set_cons_succ])
  refine wpAnyH_take (i := 5) (oi := { dst := some 36, op := Op.move (Operand.tmp 1), type := 3, pos := "law.go:41", after := #[{ on := 4, ground := Ground.guard }], guard := some (4, false) }) (v := ?_) rfl (by kernel_rfl) (by kernel_rfl) (by kernel_rfl) (fun _ _ _ h => h) (Or.inl ⟨by rfl, ?_⟩) (by assumption) ?_
  rotate_left
  · (intro ws hSw; (try dsimp only at hSw); (try go_simp); (try with_reducible rfl))
  (try simp only [Act.put, List.setIfInBounds_toArray, List.set_cons_zero, List.set_cons_succ])
  refine wpAnyH_take (i := 6) (oi := { dst := some 37, op := Op.binOp BinOp.lss 3 (Operand.tmp 36) (Operand.const (Value.int IntKind.i64 0)) 3, type := 4, pos := "law.go:41", after := #[{ on := 5, ground := Ground.data }, { on := 4, ground := Ground.guard }], guard := some (4, false) }) (v := ?_) rfl (by kernel_rfl) (by kernel_rfl) (by kernel_rfl) (fun _ _ _ h => h) (Or.inl ⟨by rfl, ?_⟩) (by assumption) ?_
  rotate_left
  · (intro ws hSw; (try dsimp only at hSw); (try go_simp); (try with_reducible rfl))
  (try simp only [Act.put, List.setIfInBounds_toArray, List.set_cons_zero, List.set_cons_succ])
  refine wpAnyH_take (i := 7) (oi := { dst := some 38, op := Op.move (Operand.tmp 37), type := 4, pos := "law.go:41", after := #[{ on := 6, ground := Ground.data }, { on := 4, ground := Ground.chain }, { on := 4, ground := Ground.guard }], guard := some (4, false) }) (v := ?_) rfl (by kernel_rfl) (by kernel_rfl) (by kernel_rfl) (fun _ _ _ h => h) (Or.inl ⟨by rfl, ?_⟩) (by assumption) ?_
  rotate_left
  · (intro ws hSw; (try dsimp only at hSw); (try go_simp); (try with_reducible rfl))
  (try simp only [Act.put, List.setIfInBounds_toArray, List.set_cons_zero, List.set_cons_succ])
  refine wpAnyH_take (i := 8) (oi := { dst := some 39, op := Op.load 24 (Operand.tmp 8), type := 24, pos := "law.go:41", after := #[{ on := 7, ground := Ground.guard }], guard := some (7, true) }) (v := ?_) rfl (by kernel_rfl) (by kernel_rfl) (by kernel_rfl) (fun _ _ _ h => h) (Or.inl ⟨by rfl, ?_⟩) (by assumption) ?_
  rotate_left
  · (intro ws hSw; (try dsimp only at hSw); (try go_simp); (try with_reducible rfl))
  (try simp only [Act.put, List.setIfInBounds_toArray, List.set_cons_zero, List.set_cons_succ])
  refine wpAnyH_take (i := 9) (oi := { dst := some 40, op := Op.move (Operand.tmp 9), type := 28, pos := "law.go:41", after := #[{ on := 7, ground := Ground.guard }], guard := some (7, true) }) (v := ?_) rfl (by kernel_rfl) (by kernel_rfl) (by kernel_rfl) (fun _ _ _ h => h) (Or.inl ⟨by rfl, ?_⟩) (by assumption) ?_
  rotate_left
  · (intro ws hSw; (try dsimp only at hSw); (try go_simp); (try with_reducible rfl))
  (try simp only [Act.put, List.setIfInBounds_toArray, List.set_cons_zero, List.set_cons_succ])
  refine wpAnyH_take (i := 10) (oi := { dst := some 41, op := Op.build 24 #[], type := 24, pos := "law.go:41", after := #[{ on := 7, ground := Ground.guard }], guard := some (7, true) }) (v := ?_) rfl (by kernel_rfl) (by kernel_rfl) (by kernel_rfl) (fun _ _ _ h => h) (Or.inl ⟨by rfl, ?_⟩) (by assumption) ?_
  rotate_left
  · (intro ws hSw; (try dsimp only at hSw); (try go_simp); (try with_reducible rfl))
  (try simp only [Act.put, List.setIfInBounds_toArray, List.set_cons_zero, List.set_cons_succ])
  refine wpAnyH_ready (rs := [11]) (by kernel_rfl) (by simp) ?_
  refine AllReadyH.cons (o := { dst := some 42, op := Op.call { callee := Callee.value (Operand.func 17), args := #[Operand.tmp 39, Operand.tmp 40, Operand.tmp 41, Operand.const (Value.int IntKind.i64 2)], argTypes := #[24, 28, 24, 3] }, type := 4, pos := "law.go:41", after := #[{ on := 8, ground := Ground.data }, { on := 9, ground := Ground.data }, { on := 10, ground := Ground.data }, { on := 7, ground := Ground.chain }, { on := 7, ground := Ground.guard }], guard := some (7, true) }) rfl (fun K hK => ?_) AllReadyH.nil
  go_simp
  have hc := is_any D1 none _ 0 d1 0 0 0 2 2 _ HX1_1.out.num (Num.nil _ _ _) (by omega) (by omega)
  rw [is_zero] at hc
  refine hc.mono ?_
  clear hc
  rintro e w6_2 ⟨rfl, hb⟩
  have HXA_2 := hid (HXA_1.out.below hb)
  have HX1_2 := hid (HX1_1.out.below hb)
  have qXA_2 := HXA_2.out.cell
  have qX1_2 := HX1_2.out.cell
  have WD_2 := hid (WD_1.out.trans (hb.mono WD_1.out.size))
  clear hb
  refine hK.out _ _ (⟨qXA_2, qX1_2⟩) (fun hHeld11 => ?_)
  clear hK K hHeld
  have hHeld := hHeld11
  clear hHeld11
  (try simp only [Act.put, List.setIfInBounds_toArray, List.set_cons_zero, List.set_cons_succ])
  refine wpAnyH_take (i := 12) (oi := { dst := some 43, op := Op.unOp UnOp.not 4 (Operand.tmp 42), type := 4, pos := "law.go:41", after := #[{ on := 11, ground := Ground.data }, { on := 7, ground := Ground.guard }], guard := some (7, true) }) (v := ?_) rfl (by kernel_rfl) (by kernel_rfl) (by kernel_rfl) (fun _ _ _ h => h) (Or.inl ⟨by rfl, ?_⟩) (by assumption) ?_
  rotate_left
  · (intro ws hSw; (try dsimp only at hSw); (try go_simp); (try with_reducible rfl))
  (try simp only [Act.put, List.setIfInBounds_toArray, List.set_cons_zero, List.set_cons_succ])
  refine wpAnyH_take (i := 13) (oi := { dst := some 44, op := Op.pick (Operand.tmp 38) (Operand.tmp 43) (Operand.const (Value.bool false)), type := 4, pos := "law.go:41", after := #[{ on := 7, ground := Ground.data }, { on := 12, ground := Ground.data }, { on := 4, ground := Ground.guard }], guard := some (4, false) }) (v := ?_) rfl (by kernel_rfl) (by kernel_rfl) (by kernel_rfl) (fun _ _ _ h => h) (Or.inl ⟨by rfl, ?_⟩) (by assumption) ?_
  rotate_left
  · (intro ws hSw; (try dsimp only at hSw); (try go_simp); (try with_reducible rfl))
  (try simp only [Act.put, List.setIfInBounds_toArray, List.set_cons_zero, List.set_cons_succ])
  refine wpAnyH_take (i := 14) (oi := { dst := some 45, op := Op.pick (Operand.tmp 35) (Operand.const (Value.bool true)) (Operand.tmp 44), type := 4, pos := "law.go:41", after := #[{ on := 4, ground := Ground.data }, { on := 13, ground := Ground.data }], guard := none }) (v := ?_) rfl (by kernel_rfl) (by kernel_rfl) (by kernel_rfl) (fun _ _ _ h => h) (Or.inl ⟨by rfl, ?_⟩) (by assumption) ?_
  rotate_left
  · (intro ws hSw; (try dsimp only at hSw); (try go_simp); (try with_reducible rfl))
  (try simp only [Act.put, List.setIfInBounds_toArray, List.set_cons_zero, List.set_cons_succ])
  refine wpAnyH_take (i := 15) (oi := { dst := some 46, op := Op.move (Operand.tmp 45), type := 4, pos := "law.go:41", after := #[{ on := 14, ground := Ground.data }, { on := 11, ground := Ground.chain }], guard := none }) (v := ?_) rfl (by kernel_rfl) (by kernel_rfl) (by kernel_rfl) (fun _ _ _ h => h) (Or.inl ⟨by rfl, ?_⟩) (by assumption) ?_
  rotate_left
  · (intro ws hSw; (try dsimp only at hSw); (try go_simp); (try with_reducible rfl))
  (try simp only [Act.put, List.setIfInBounds_toArray, List.set_cons_zero, List.set_cons_succ])
  refine wpAnyH_take (i := 16) (oi := { dst := some 47, op := Op.move (Operand.tmp 1), type := 3, pos := "law.go:41", after := #[{ on := 15, ground := Ground.guard }], guard := some (15, false) }) (v := ?_) rfl (by kernel_rfl) (by kernel_rfl) (by kernel_rfl) (fun _ _ _ h => h) (Or.inl ⟨by rfl, ?_⟩) (by assumption) ?_
  rotate_left
  · (intro ws hSw; (try dsimp only at hSw); (try go_simp); (try with_reducible rfl))
  (try simp only [Act.put, List.setIfInBounds_toArray, List.set_cons_zero, List.set_cons_succ])
  refine wpAnyH_take (i := 17) (oi := { dst := some 48, op := Op.binOp BinOp.geq 3 (Operand.tmp 47) (Operand.const (Value.int IntKind.i64 0)) 3, type := 4, pos := "law.go:41", after := #[{ on := 16, ground := Ground.data }, { on := 15, ground := Ground.guard }], guard := some (15, false) }) (v := ?_) rfl (by kernel_rfl) (by kernel_rfl) (by kernel_rfl) (fun _ _ _ h => h) (Or.inl ⟨by rfl, ?_⟩) (by assumption) ?_
  rotate_left
  · (intro ws hSw; (try dsimp only at hSw); (try go_simp); (try with_reducible rfl))
  (try simp only [Act.put, List.setIfInBounds_toArray, List.set_cons_zero, List.set_cons_succ])
  refine wpAnyH_take (i := 18) (oi := { dst := some 49, op := Op.move (Operand.tmp 48), type := 4, pos := "law.go:41", after := #[{ on := 17, ground := Ground.data }, { on := 15, ground := Ground.chain }, { on := 15, ground := Ground.guard }], guard := some (15, false) }) (v := ?_) rfl (by kernel_rfl) (by kernel_rfl) (by kernel_rfl) (fun _ _ _ h => h) (Or.inl ⟨by rfl, ?_⟩) (by assumption) ?_
  rotate_left
  · (intro ws hSw; (try dsimp only at hSw); (try go_simp); (try with_reducible rfl))
  (try simp only [Act.put, List.setIfInBounds_toArray, List.set_cons_zero, List.set_cons_succ])
  refine wpAnyH_take (i := 19) (oi := { dst := some 50, op := Op.load 24 (Operand.tmp 8), type := 24, pos := "law.go:41", after := #[{ on := 18, ground := Ground.guard }], guard := some (18, true) }) (v := _) rfl (by kernel_rfl) (by kernel_rfl) (by kernel_rfl) (fun _ _ _ h => h) (Or.inr ⟨by rfl, rfl⟩) (by assumption) ?_
  (try simp only [Act.put, List.setIfInBounds_toArray, List.set_cons_zero, List.set_cons_succ])
  refine wpAnyH_take (i := 20) (oi := { dst := some 51, op := Op.move (Operand.tmp 9), type := 28, pos := "law.go:41", after := #[{ on := 18, ground := Ground.guard }], guard := some (18, true) }) (v := _) rfl (by kernel_rfl) (by kernel_rfl) (by kernel_rfl) (fun _ _ _ h => h) (Or.inr ⟨by rfl, rfl⟩) (by assumption) ?_
  (try simp only [Act.put, List.setIfInBounds_toArray, List.set_cons_zero, List.set_cons_succ])
  refine wpAnyH_take (i := 21) (oi := { dst := some 52, op := Op.move (Operand.tmp 1), type := 3, pos := "law.go:41", after := #[{ on := 18, ground := Ground.guard }], guard := some (18, true) }) (v := _) rfl (by kernel_rfl) (by kernel_rfl) (by kernel_rfl) (fun _ _ _ h => h) (Or.inr ⟨by rfl, rfl⟩) (by assumption) ?_
  (try simp only [Act.put, List.setIfInBounds_toArray, List.set_cons_zero, List.set_cons_succ])
  refine wpAnyH_take (i := 22) (oi := { dst := some 53, op := Op.call { callee := Callee.value (Operand.func 18), args := #[Operand.tmp 52], argTypes := #[3] }, type := 24, pos := "law.go:41", after := #[{ on := 21, ground := Ground.data }, { on := 18, ground := Ground.chain }, { on := 18, ground := Ground.guard }], guard := some (18, true) }) (v := _) rfl (by kernel_rfl) (by kernel_rfl) (by kernel_rfl) (fun _ _ _ h => h) (Or.inr ⟨by rfl, rfl⟩) (by assumption) ?_
  (try simp only [Act.put, List.setIfInBounds_toArray, List.set_cons_zero, List.set_cons_succ])
  refine wpAnyH_take (i := 23) (oi := { dst := some 54, op := Op.call { callee := Callee.value (Operand.func 17), args := #[Operand.tmp 50, Operand.tmp 51, Operand.tmp 53, Operand.const (Value.int IntKind.i64 0)], argTypes := #[24, 28, 24, 3] }, type := 4, pos := "law.go:41", after := #[{ on := 19, ground := Ground.data }, { on := 20, ground := Ground.data }, { on := 22, ground := Ground.data }, { on := 22, ground := Ground.chain }, { on := 18, ground := Ground.guard }], guard := some (18, true) }) (v := _) rfl (by kernel_rfl) (by kernel_rfl) (by kernel_rfl) (fun _ _ _ h => h) (Or.inr ⟨by rfl, rfl⟩) (by assumption) ?_
  (try simp only [Act.put, List.setIfInBounds_toArray, List.set_cons_zero, List.set_cons_succ])
  refine wpAnyH_take (i := 24) (oi := { dst := some 55, op := Op.unOp UnOp.not 4 (Operand.tmp 54), type := 4, pos := "law.go:41", after := #[{ on := 23, ground := Ground.data }, { on := 18, ground := Ground.guard }], guard := some (18, true) }) (v := _) rfl (by kernel_rfl) (by kernel_rfl) (by kernel_rfl) (fun _ _ _ h => h) (Or.inr ⟨by rfl, rfl⟩) (by assumption) ?_
  (try simp only [Act.put, List.setIfInBounds_toArray, List.set_cons_zero, List.set_cons_succ])
  refine wpAnyH_take (i := 25) (oi := { dst := some 56, op := Op.pick (Operand.tmp 49) (Operand.tmp 55) (Operand.const (Value.bool false)), type := 4, pos := "law.go:41", after := #[{ on := 18, ground := Ground.data }, { on := 24, ground := Ground.data }, { on := 15, ground := Ground.guard }], guard := some (15, false) }) (v := ?_) rfl (by kernel_rfl) (by kernel_rfl) (by kernel_rfl) (fun _ _ _ h => h) (Or.inl ⟨by rfl, ?_⟩) (by assumption) ?_
  rotate_left
  · (intro ws hSw; (try dsimp only at hSw); (try go_simp); (try with_reducible rfl))
  (try simp only [Act.put, List.setIfInBounds_toArray, List.set_cons_zero, List.set_cons_succ])
  refine wpAnyH_take (i := 26) (oi := { dst := some 57, op := Op.pick (Operand.tmp 46) (Operand.const (Value.bool true)) (Operand.tmp 56), type := 4, pos := "law.go:41", after := #[{ on := 15, ground := Ground.data }, { on := 25, ground := Ground.data }], guard := none }) (v := ?_) rfl (by kernel_rfl) (by kernel_rfl) (by kernel_rfl) (fun _ _ _ h => h) (Or.inl ⟨by rfl, ?_⟩) (by assumption) ?_
  rotate_left
  · (intro ws hSw; (try dsimp only at hSw); (try go_simp); (try with_reducible rfl))
  (try simp only [Act.put, List.setIfInBounds_toArray, List.set_cons_zero, List.set_cons_succ])
  refine wpAnyH_done (by kernel_rfl) ?_ _
  clear hHeld
  clear kXA kX1 qXA_1 qX1_1 qXA_2 qX1_2
  have XA := HXA_2.out
  have X1 := HX1_2.out
  have WW := WD_2.out
  clear HXA_0 HX1_0 HXA_1 HX1_1 HXA_2 HX1_2 WDr WD_1 WD_2
  have kXA := XA.cell
  have zXA := XA.lt
  have kX1 := X1.cell
  have zX1 := X1.lt
  go_wp2_with fail
  clear X1 kX1 zX1
  have WDr := hid WW.drew
  have HXA_0 := hid XA.drew
  clear zXA
  clear WW XA
  refine wp_region_held_drew (S := (fun w' => w'.cell? ⟨w.heap.size, 0, none⟩ = some ((.slice A (nw a) c)))) (by kernel_rfl) (kXA) (fun hHeld => ?_)
  refine wpAnyH_take (i := 0) (oi := { dst := some 77, op := Op.load 24 (Operand.tmp 3), type := 24, pos := "law.go:47", after := #[], guard := none }) (v := ?_) rfl (by kernel_rfl) (by kernel_rfl) (by kernel_rfl) (fun _ _ _ h => h) (Or.inl ⟨by rfl, ?_⟩) (by assumption) ?_
  rotate_left
  · (intro ws hSw; (try dsimp only at hSw); (try go_simp); (try with_reducible rfl))
  (try simp only [Act.put, List.setIfInBounds_toArray, List.set_cons_zero, List.set_cons_succ])
  refine wpAnyH_take (i := 2) (oi := { dst := some 79, op := Op.load 24 (Operand.tmp 3), type := 24, pos := "law.go:47", after := #[], guard := none }) (v := ?_) rfl (by kernel_rfl) (by kernel_rfl) (by kernel_rfl) (fun _ _ _ h => h) (Or.inl ⟨by rfl, ?_⟩) (by assumption) ?_
  rotate_left
  · (intro ws hSw; (try dsimp only at hSw); (try go_simp); (try with_reducible rfl))
  (try simp only [Act.put, List.setIfInBounds_toArray, List.set_cons_zero, List.set_cons_succ])
  refine wpAnyH_ready (rs := [1]) (by kernel_rfl) (by simp) ?_
  refine AllReadyH.cons (o := { dst := some 78, op := Op.call { callee := Callee.value (Operand.func 19), args := #[Operand.tmp 77], argTypes := #[24] }, type := 3, pos := "law.go:47", after := #[{ on := 0, ground := Ground.data }], guard := none }) rfl (fun K hK => ?_) AllReadyH.nil
  go_simp
  have hc := bits_any A _ c a _ HXA_0.out.num hn'
  rw [BA.out] at hc
  refine hc.mono ?_
  clear hc
  rintro e w7_1 ⟨rfl, hb⟩
  have HXA_1 := hid (HXA_0.out.below hb)
  have qXA_1 := HXA_1.out.cell
  have WD_1 := hid (WDr.out.trans (hb.mono WDr.out.size))
  clear hb
  refine hK.out _ _ (qXA_1) (fun hHeld1 => ?_)
  clear hK K hHeld
  have hHeld := hHeld1
  clear hHeld1
  (try simp only [Act.put, List.setIfInBounds_toArray, List.set_cons_zero, List.set_cons_succ])
  refine wpAnyH_ready (rs := [3]) (by kernel_rfl) (by simp) ?_
  refine AllReadyH.cons (o := { dst := some 80, op := Op.call { callee := Callee.value (Operand.func 21), args := #[Operand.tmp 79], argTypes := #[24] }, type := 3, pos := "law.go:47", after := #[{ on := 2, ground := Ground.data }, { on := 1, ground := Ground.chain }], guard := none }) rfl (fun K hK => ?_) AllReadyH.nil
  go_simp
  have hc := rbits_any A _ c a _ HXA_1.out.num (by omega)
  refine hc.mono ?_
  clear hc
  rintro e w7_2 ⟨rfl, hb⟩
  have HXA_2 := hid (HXA_1.out.below hb)
  have qXA_2 := HXA_2.out.cell
  have WD_2 := hid (WD_1.out.trans (hb.mono WD_1.out.size))
  clear hb
  refine hK.out _ _ (qXA_2) (fun hHeld3 => ?_)
  clear hK K hHeld
  have hHeld := hHeld3
  clear hHeld3
  (try simp only [Act.put, List.setIfInBounds_toArray, List.set_cons_zero, List.set_cons_succ])
  refine wpAnyH_take (i := 4) (oi := { dst := some 81, op := Op.binOp BinOp.neq 3 (Operand.tmp 78) (Operand.tmp 80) 3, type := 4, pos := "law.go:47", after := #[{ on := 1, ground := Ground.data }, { on := 3, ground := Ground.data }], guard := none }) (v := ?_) rfl (by kernel_rfl) (by kernel_rfl) (by kernel_rfl) (fun _ _ _ h => h) (Or.inl ⟨by rfl, ?_⟩) (by assumption) ?_
  rotate_left
  · (intro ws hSw; (try dsimp only at hSw); (try go_simp); (try with_reducible rfl))
  (try simp only [Act.put, List.setIfInBounds_toArray, List.set_cons_zero, List.set_cons_succ])
  refine wpAnyH_take (i := 5) (oi := { dst := some 82, op := Op.move (Operand.tmp 81), type := 4, pos := "law.go:47", after := #[{ on := 4, ground := Ground.data }, { on := 3, ground := Ground.chain }], guard := none }) (v := ?_) rfl (by kernel_rfl) (by kernel_rfl) (by kernel_rfl) (fun _ _ _ h => h) (Or.inl ⟨by rfl, ?_⟩) (by assumption) ?_
  rotate_left
  · (intro ws hSw; (try dsimp only at hSw); (try go_simp); (try with_reducible rfl))
  (try simp only [Act.put, List.setIfInBounds_toArray, List.set_cons_zero, List.set_cons_succ])
  refine wpAnyH_take (i := 6) (oi := { dst := some 83, op := Op.load 24 (Operand.tmp 3), type := 24, pos := "law.go:47", after := #[{ on := 5, ground := Ground.guard }], guard := some (5, false) }) (v := ?_) rfl (by kernel_rfl) (by kernel_rfl) (by kernel_rfl) (fun _ _ _ h => h) (Or.inl ⟨by rfl, ?_⟩) (by assumption) ?_
  rotate_left
  · (intro ws hSw; (try dsimp only at hSw); (try go_simp); (try with_reducible rfl))
  (try simp only [Act.put, List.setIfInBounds_toArray, List.set_cons_zero, List.set_cons_succ])
  refine wpAnyH_take (i := 7) (oi := { dst := some 84, op := Op.move (Operand.tmp 2), type := 3, pos := "law.go:47", after := #[{ on := 5, ground := Ground.guard }], guard := some (5, false) }) (v := ?_) rfl (by kernel_rfl) (by kernel_rfl) (by kernel_rfl) (fun _ _ _ h => h) (Or.inl ⟨by rfl, ?_⟩) (by assumption) ?_
  rotate_left
  · (intro ws hSw; (try dsimp only at hSw); (try go_simp); (try with_reducible rfl))
  (try simp only [Act.put, List.setIfInBounds_toArray, List.set_cons_zero, List.set_cons_succ])
  refine wpAnyH_take (i := 9) (oi := { dst := some 86, op := Op.load 24 (Operand.tmp 3), type := 24, pos := "law.go:47", after := #[{ on := 5, ground := Ground.guard }], guard := some (5, false) }) (v := ?_) rfl (by kernel_rfl) (by kernel_rfl) (by kernel_rfl) (fun _ _ _ h => h) (Or.inl ⟨by rfl, ?_⟩) (by assumption) ?_
  rotate_left
  · (intro ws hSw; (try dsimp only at hSw); (try go_simp); (try with_reducible rfl))
  (try simp only [Act.put, List.setIfInBounds_toArray, List.set_cons_zero, List.set_cons_succ])
  refine wpAnyH_take (i := 10) (oi := { dst := some 87, op := Op.move (Operand.tmp 2), type := 3, pos := "law.go:47", after := #[{ on := 5, ground := Ground.guard }], guard := some (5, false) }) (v := ?_) rfl (by kernel_rfl) (by kernel_rfl) (by kernel_rfl) (fun _ _ _ h => h) (Or.inl ⟨by rfl, ?_⟩) (by assumption) ?_
  rotate_left
  · (intro ws hSw; (try dsimp only at hSw); (try go_simp); (try with_reducible rfl))
  (try simp only [Act.put, List.setIfInBounds_toArray, List.set_cons_zero, List.set_cons_succ])
  refine wpAnyH_ready (rs := [8]) (by kernel_rfl) (by simp) ?_
  refine AllReadyH.cons (o := { dst := some 85, op := Op.call { callee := Callee.value (Operand.func 20), args := #[Operand.tmp 83, Operand.tmp 84], argTypes := #[24, 3] }, type := 4, pos := "law.go:47", after := #[{ on := 6, ground := Ground.data }, { on := 7, ground := Ground.data }, { on := 5, ground := Ground.chain }, { on := 5, ground := Ground.guard }], guard := some (5, false) }) rfl (fun K hK => ?_) AllReadyH.nil
  go_simp
  have hc := bit_any A _ c a i _ HXA_2.out.num hn' i0 i1
  rw [TA.out] at hc
  refine hc.mono ?_
  clear hc
  rintro e w7_3 ⟨rfl, hb⟩
  have HXA_3 := hid (HXA_2.out.below hb)
  have qXA_3 := HXA_3.out.cell
  have WD_3 := hid (WD_2.out.trans (hb.mono WD_2.out.size))
  clear hb
  refine hK.out _ _ (qXA_3) (fun hHeld8 => ?_)
  clear hK K hHeld
  have hHeld := hHeld8
  clear hHeld8
  (try simp only [Act.put, List.setIfInBounds_toArray, List.set_cons_zero, List.set_cons_succ])
  refine wpAnyH_ready (rs := [11]) (by kernel_rfl) (by simp) ?_
  refine AllReadyH.cons (o := { dst := some 88, op := Op.call { callee := Callee.value (Operand.func 22), args := #[Operand.tmp 86, Operand.tmp 87], argTypes := #[24, 3] }, type := 4, pos := "law.go:47", after := #[{ on := 9, ground := Ground.data }, { on := 10, ground := Ground.data }, { on := 8, ground := Ground.chain }, { on := 5, ground := Ground.guard }], guard := some (5, false) }) rfl (fun K hK => ?_) AllReadyH.nil
  go_simp
  have hc := rbit_any A _ c a i _ HXA_3.out.num (by omega) i0 i1
  rw [TR.out] at hc
  refine hc.mono ?_
  clear hc
  rintro e w7_4 ⟨rfl, hb⟩
  have HXA_4 := hid (HXA_3.out.below hb)
  have qXA_4 := HXA_4.out.cell
  have WD_4 := hid (WD_3.out.trans (hb.mono WD_3.out.size))
  clear hb
  refine hK.out _ _ (qXA_4) (fun hHeld11 => ?_)
  clear hK K hHeld
  have hHeld := hHeld11
  clear hHeld11
  (try simp only [Act.put, List.setIfInBounds_toArray, List.set_cons_zero, List.set_cons_succ])
  refine wpAnyH_take (i := 12) (oi := { dst := some 89, op := Op.binOp BinOp.neq 4 (Operand.tmp 85) (Operand.tmp 88) 4, type := 4, pos := "law.go:47", after := #[{ on := 8, ground := Ground.data }, { on := 11, ground := Ground.data }, { on := 5, ground := Ground.guard }], guard := some (5, false) }) (v := ?_) rfl (by kernel_rfl) (by kernel_rfl) (by kernel_rfl) (fun _ _ _ h => h) (Or.inl ⟨by rfl, ?_⟩) (by assumption) ?_
  rotate_left
  · (intro ws hSw; (try dsimp only at hSw); (try go_simp); (try with_reducible rfl))
  (try simp only [Act.put, List.setIfInBounds_toArray, List.set_cons_zero, List.set_cons_succ])
  refine wpAnyH_take (i := 13) (oi := { dst := some 90, op := Op.pick (Operand.tmp 82) (Operand.const (Value.bool true)) (Operand.tmp 89), type := 4, pos := "law.go:47", after := #[{ on := 5, ground := Ground.data }, { on := 12, ground := Ground.data }], guard := none }) (v := ?_) rfl (by kernel_rfl) (by kernel_rfl) (by kernel_rfl) (fun _ _ _ h => h) (Or.inl ⟨by rfl, ?_⟩) (by assumption) ?_
  rotate_left
  · (intro ws hSw; (try dsimp only at hSw); (try go_simp); (try with_reducible rfl))
  (try simp only [Act.put, List.setIfInBounds_toArray, List.set_cons_zero, List.set_cons_succ])
  refine wpAnyH_done (by kernel_rfl) ?_ _
  clear hHeld
  clear kXA qXA_1 qXA_2 qXA_3 qXA_4
  have XA := HXA_4.out
  have WW := WD_4.out
  clear HXA_0 HXA_1 HXA_2 HXA_3 HXA_4 WDr WD_1 WD_2 WD_3 WD_4
  have kXA := XA.cell
  have zXA := XA.lt
  go_wp2_with fail
  have hc := rint_any A c a w7_4 XA.num hn1
  rw [RA.out] at hc
  refine hc.mono ?_
  clear hc
  rintro e V9 ⟨rfl, hb⟩
  clear kXA zXA
  replace XA := XA.below hb
  replace WW := WW.trans (hb.mono WW.size)
  have kXA := XA.cell
  have zXA := XA.lt
  clear hb
  go_wp2_with fail
  go_ret
  exact ⟨rfl, WW⟩

set_option maxHeartbeats 8000000 in
set_option maxRecDepth 100000 in
theorem ints_p_bad (A : Option Addr) (c a n k : Nat) (x i : Int) (w : World) (hA : Num w w.heap.size A n a) (hn : n ≤ 100) (H1 : Hid (okB n a = false)) (hx : x = (k : Int) ∧ k ≤ 9223372036854775807) (i0 : -9223372036854775808 ≤ i) (i1 : i ≤ 9223372036854775807) :
    Calls Try.prog 3 #[.agg #[.slice A n c], .int .i64 x, .int .i64 i] w (RetB (.bool true) w) := by
  have HG : Hid (decide (100 < n) = false) := decide_eq_false (by omega)
  have IA := hid (intS_no H1.out)
  have BA := hid (bitsS_no H1.out)
  have TA := hid (bitS_no (i := i) H1.out)
  have hn' : n ≤ 9223372036854775807 := by omega
  obtain ⟨rfl, hk⟩ := hx
  have x2 : decide ((k : Int) < 0) = false := by simp
  have x3 : decide ((0 : Int) ≤ (k : Int)) = true := by simp
  have OX := hid (ofS_nat k)
  have hkn : nw k ≤ 2 := nw_le (n := 2) (by rw [show 2 ^ (32 * 2) = 18446744073709551616 from rfl]; omega)
  obtain ⟨b0, bw⟩ := boxes1 w (.slice A n c)
  have XA := Box.mk b0 hA bw
  have WW := bw
  clear bw b0
  go_enter Try.func3, Try.ntmps3
  go_wp2_with fail
  generalize hV : (w.alloc (.cells #[.slice A n c] 24)) = V0 at XA WW ⊢
  clear hV
  have hc := awake_any V0
  refine hc.mono ?_
  clear hc
  rintro e V1 ⟨rfl, hb⟩
  replace XA := XA.below hb
  replace WW := WW.trans (hb.mono WW.size)
  have kXA := XA.cell
  have zXA := XA.lt
  clear hb
  go_wp2_with fail
  have hc := great_1 V1 A _ c hn'
  rw [HG.out] at hc
  refine hc.mono ?_
  clear hc
  rintro e V2 ⟨rfl, hb⟩
  clear kXA zXA
  replace XA := XA.below hb
  replace WW := WW.trans (hb.mono WW.size)
  have kXA := XA.cell
  have zXA := XA.lt
  clear hb
  go_wp2_with fail
  have hc := rvalid_any A _ c a _ V2 XA.num (Nat.le_refl _) hn'
  rw [H1.out] at hc
  refine hc.mono ?_
  clear hc
  rintro e V3 ⟨rfl, hb⟩
  clear kXA zXA
  replace XA := XA.below hb
  replace WW := WW.trans (hb.mono WW.size)
  have kXA := XA.cell
  have zXA := XA.lt
  clear hb
  go_wp2_with fail
  have hc := of_any (k : Int) V3 (by omega) (by omega)
  rw [OX.out] at hc
  refine hc.mono ?_
  clear hc
  rintro e V4 ⟨v, rfl, hv, hb⟩
  clear kXA zXA
  replace XA := XA.below hb
  replace WW := WW.trans (hb.mono WW.size)
  obtain ⟨D1, d1, rfl, hv'⟩ := hv.open_
  clear hv
  have kXA := XA.cell
  have zXA := XA.lt
  clear hb
  go_wp2_with fail
  obtain ⟨b0, bw⟩ := boxes1 V4 (.slice D1 (nw k) d1)
  clear kXA zXA
  replace XA := XA.below bw
  have X1 := Box.mk b0 hv' bw
  replace WW := WW.trans (bw.mono WW.size)
  clear bw b0 hv'
  generalize hV : (V4.alloc (.cells #[.slice D1 (nw k) d1] 24)) = V5 at XA X1 WW ⊢
  clear hV
  have kXA := XA.cell
  have zXA := XA.lt
  have kX1 := X1.cell
  have zX1 := X1.lt
  have hc := int_any A _ c a V5 XA.num hn'
  rw [IA.out] at hc
  refine hc.mono ?_
  clear hc
  rintro e V6 ⟨rfl, hb⟩
  clear kXA zXA kX1 zX1
  replace XA := XA.below hb
  replace X1 := X1.below hb
  replace WW := WW.trans (hb.mono WW.size)
  have kXA := XA.cell
  have zXA := XA.lt
  have kX1 := X1.cell
  have zX1 := X1.lt
  clear hb
  go_wp2_with fail
  have WDr := hid WW.drew
  have HXA_0 := hid XA.drew
  have HX1_0 := hid X1.drew
  clear zXA zX1
  clear WW XA X1
  refine wp_region_held_drew (S := (fun w' => w'.cell? ⟨w.heap.size, 0, none⟩ = some ((.slice A n c)) ∧ w'.cell? ⟨V4.heap.size, 0, none⟩ = some ((.slice D1 (nw k) d1)))) (by kernel_rfl) (⟨kXA, kX1⟩) (fun hHeld => ?_)
  refine wpAnyH_take (i := 0) (oi := { dst := some 31, op := Op.load 24 (Operand.tmp 3), type := 24, pos := "law.go:41", after := #[], guard := none }) (v := ?_) rfl (by kernel_rfl) (by kernel_rfl) (by kernel_rfl) (fun _ _ _ h => h) (Or.inl ⟨by rfl, ?_⟩) (by assumption) ?_
  rotate_left
  · (intro ws hSw; (try dsimp only at hSw); (try go_simp); (try with_reducible rfl))
  (try simp only [Act.put, List.setIfInBounds_toArray, List.set_cons_zero, List.set_cons_succ])
  refine wpAnyH_take (i := 2) (oi := { dst := some 33, op := Op.move (Operand.tmp 7), type := 4, pos := "law.go:41", after := #[], guard := none }) (v := ?_) rfl (by kernel_rfl) (by kernel_rfl) (by kernel_rfl) (fun _ _ _ h => h) (Or.inl ⟨by rfl, ?_⟩) (by assumption) ?_
  rotate_left
  · (intro ws hSw; (try dsimp only at hSw); (try go_simp); (try with_reducible rfl))
  (try simp only [Act.put, List.setIfInBounds_toArray, List.set_cons_zero, List.set_cons_succ])
  refine wpAnyH_ready (rs := [1]) (by kernel_rfl) (by simp) ?_
  refine AllReadyH.cons (o := { dst := some 32, op := Op.call { callee := Callee.value (Operand.func 16), args := #[Operand.tmp 31], argTypes := #[24] }, type := 4, pos := "law.go:41", after := #[{ on := 0, ground := Ground.data }], guard := none }) rfl (fun K hK => ?_) AllReadyH.nil
  go_simp
  have hc := valid_any A _ c a _ _ HXA_0.out.num (Nat.le_refl _) hn'
  rw [H1.out] at hc
  refine hc.mono ?_
  clear hc
  rintro e w6_1 ⟨rfl, hb⟩
  have HXA_1 := hid (HXA_0.out.below hb)
  have HX1_1 := hid (HX1_0.out.below hb)
  have qXA_1 := HXA_1.out.cell
  have qX1_1 := HX1_1.out.cell
  have WD_1 := hid (WDr.out.trans (hb.mono WDr.out.size))
  clear hb
  refine hK.out _ _ (⟨qXA_1, qX1_1⟩) (fun hHeld1 => ?_)
  clear hK K hHeld
  have hHeld := hHeld1
  clear hHeld1
  (try simp only [Act.put, List.setIfInBounds_toArray, List.set_cons_zero, List.set_cons_succ])
  refine wpAnyH_take (i := 3) (oi := { dst := some 34, op := Op.binOp BinOp.neq 4 (Operand.tmp 32) (Operand.tmp 33) 4, type := 4, pos := "law.go:41", after := #[{ on := 1, ground := Ground.data }, { on := 2, ground := Ground.data }], guard := none }) (v := ?_) rfl (by kernel_rfl) (by kernel_rfl) (by kernel_rfl) (fun _ _ _ h => h) (Or.inl ⟨by rfl, ?_⟩) (by assumption) ?_
  rotate_left
  · (intro ws hSw; (try dsimp only at hSw); (try go_simp); (try with_reducible rfl))
  (try simp only [Act.put, List.setIfInBounds_toArray, List.set_cons_zero, List.set_cons_succ])
  refine wpAnyH_take (i := 4) (oi := { dst := some 35, op := Op.move (Operand.tmp 34), type := 4, pos := "law.go:41", after := #[{ on := 3, ground := Ground.data }, { on := 1, ground := Ground.chain }], guard := none }) (v := ?_) rfl (by kernel_rfl) (by kernel_rfl) (by kernel_rfl) (fun _ _ _ h => h) (Or.inl ⟨by rfl, ?_⟩) (by assumption) ?_
  rotate_left
  · (intro ws hSw; (try dsimp only at hSw); (try go_simp); (try with_reducible rfl))
  (try simp only [Act.put, List.setIfInBounds_toArray, List.set_cons_zero, List.set_cons_succ])
  refine wpAnyH_take (i := 5) (oi := { dst := some 36, op := Op.move (Operand.tmp 1), type := 3, pos := "law.go:41", after := #[{ on := 4, ground := Ground.guard }], guard := some (4, false) }) (v := ?_) rfl (by kernel_rfl) (by kernel_rfl) (by kernel_rfl) (fun _ _ _ h => h) (Or.inl ⟨by rfl, ?_⟩) (by assumption) ?_
  rotate_left
  · (intro ws hSw; (try dsimp only at hSw); (try go_simp); (try with_reducible rfl))
  (try simp only [Act.put, List.setIfInBounds_toArray, List.set_cons_zero, List.set_cons_succ])
  refine wpAnyH_take (i := 6) (oi := { dst := some 37, op := Op.binOp BinOp.lss 3 (Operand.tmp 36) (Operand.const (Value.int IntKind.i64 0)) 3, type := 4, pos := "law.go:41", after := #[{ on := 5, ground := Ground.data }, { on := 4, ground := Ground.guard }], guard := some (4, false) }) (v := ?_) rfl (by kernel_rfl) (by kernel_rfl) (by kernel_rfl) (fun _ _ _ h => h) (Or.inl ⟨by rfl, ?_⟩) (by assumption) ?_
  rotate_left
  · (intro ws hSw; (try dsimp only at hSw); (try go_simp); (try with_reducible rfl))
  (try simp only [Act.put, List.setIfInBounds_toArray, List.set_cons_zero, List.set_cons_succ])
  refine wpAnyH_take (i := 7) (oi := { dst := some 38, op := Op.move (Operand.tmp 37), type := 4, pos := "law.go:41", after := #[{ on := 6, ground := Ground.data }, { on := 4, ground := Ground.chain }, { on := 4, ground := Ground.guard }], guard := some (4, false) }) (v := ?_) rfl (by kernel_rfl) (by kernel_rfl) (by kernel_rfl) (fun _ _ _ h => h) (Or.inl ⟨by rfl, ?_⟩) (by assumption) ?_
  rotate_left
  · (intro ws hSw; (try dsimp only at hSw); (try go_simp); (try with_reducible rfl))
  (try simp only [Act.put, List.setIfInBounds_toArray, List.set_cons_zero, List.set_cons_succ])
  refine wpAnyH_take (i := 8) (oi := { dst := some 39, op := Op.load 24 (Operand.tmp 8), type := 24, pos := "law.go:41", after := #[{ on := 7, ground := Ground.guard }], guard := some (7, true) }) (v := _) rfl (by kernel_rfl) (by kernel_rfl) (by kernel_rfl) (fun _ _ _ h => h) (Or.inr ⟨by rfl, rfl⟩) (by assumption) ?_
  (try simp only [Act.put, List.setIfInBounds_toArray, List.set_cons_zero, List.set_cons_succ])
  refine wpAnyH_take (i := 9) (oi := { dst := some 40, op := Op.move (Operand.tmp 9), type := 28, pos := "law.go:41", after := #[{ on := 7, ground := Ground.guard }], guard := some (7, true) }) (v := _) rfl (by kernel_rfl) (by kernel_rfl) (by kernel_rfl) (fun _ _ _ h => h) (Or.inr ⟨by rfl, rfl⟩) (by assumption) ?_
  (try simp only [Act.put, List.setIfInBounds_toArray, List.set_cons_zero, List.set_cons_succ])
  refine wpAnyH_take (i := 10) (oi := { dst := some 41, op := Op.build 24 #[], type := 24, pos := "law.go:41", after := #[{ on := 7, ground := Ground.guard }], guard := some (7, true) }) (v := _) rfl (by kernel_rfl) (by kernel_rfl) (by kernel_rfl) (fun _ _ _ h => h) (Or.inr ⟨by rfl, rfl⟩) (by assumption) ?_
  (try simp only [Act.put, List.setIfInBounds_toArray, List.set_cons_zero, List.set_cons_succ])
  refine wpAnyH_take (i := 11) (oi := { dst := some 42, op := Op.call { callee := Callee.value (Operand.func 17), args := #[Operand.tmp 39, Operand.tmp 40, Operand.tmp 41, Operand.const (Value.int IntKind.i64 2)], argTypes := #[24, 28, 24, 3] }, type := 4, pos := "law.go:41", after := #[{ on := 8, ground := Ground.data }, { on := 9, ground := Ground.data }, { on := 10, ground := Ground.data }, { on := 7, ground := Ground.chain }, { on := 7, ground := Ground.guard }], guard := some (7, true) }) (v := _) rfl (by kernel_rfl) (by kernel_rfl) (by kernel_rfl) (fun _ _ _ h => h) (Or.inr ⟨by rfl, rfl⟩) (by assumption) ?_
  (try simp only [Act.put, List.setIfInBounds_toArray, List.set_cons_zero, List.set_cons_succ])
  refine wpAnyH_take (i := 12) (oi := { dst := some 43, op := Op.unOp UnOp.not 4 (Operand.tmp 42), type := 4, pos := "law.go:41", after := #[{ on := 11, ground := Ground.data }, { on := 7, ground := Ground.guard }], guard := some (7, true) }) (v := _) rfl (by kernel_rfl) (by kernel_rfl) (by kernel_rfl) (fun _ _ _ h => h) (Or.inr ⟨by rfl, rfl⟩) (by assumption) ?_
  (try simp only [Act.put, List.setIfInBounds_toArray, List.set_cons_zero, List.set_cons_succ])
  refine wpAnyH_take (i := 13) (oi := { dst := some 44, op := Op.pick (Operand.tmp 38) (Operand.tmp 43) (Operand.const (Value.bool false)), type := 4, pos := "law.go:41", after := #[{ on := 7, ground := Ground.data }, { on := 12, ground := Ground.data }, { on := 4, ground := Ground.guard }], guard := some (4, false) }) (v := ?_) rfl (by kernel_rfl) (by kernel_rfl) (by kernel_rfl) (fun _ _ _ h => h) (Or.inl ⟨by rfl, ?_⟩) (by assumption) ?_
  rotate_left
  · (intro ws hSw; (try dsimp only at hSw); (try go_simp); (try with_reducible rfl))
  (try simp only [Act.put, List.setIfInBounds_toArray, List.set_cons_zero, List.set_cons_succ])
  refine wpAnyH_take (i := 14) (oi := { dst := some 45, op := Op.pick (Operand.tmp 35) (Operand.const (Value.bool true)) (Operand.tmp 44), type := 4, pos := "law.go:41", after := #[{ on := 4, ground := Ground.data }, { on := 13, ground := Ground.data }], guard := none }) (v := ?_) rfl (by kernel_rfl) (by kernel_rfl) (by kernel_rfl) (fun _ _ _ h => h) (Or.inl ⟨by rfl, ?_⟩) (by assumption) ?_
  rotate_left
  · (intro ws hSw; (try dsimp only at hSw); (try go_simp); (try with_reducible rfl))
  (try simp only [Act.put, List.setIfInBounds_toArray, List.set_cons_zero, List.set_cons_succ])
  refine wpAnyH_take (i := 15) (oi := { dst := some 46, op := Op.move (Operand.tmp 45), type := 4, pos := "law.go:41", after := #[{ on := 14, ground := Ground.data }, { on := 11, ground := Ground.chain }], guard := none }) (v := ?_) rfl (by kernel_rfl) (by kernel_rfl) (by kernel_rfl) (fun _ _ _ h => h) (Or.inl ⟨by rfl, ?_⟩) (by assumption) ?_
  rotate_left
  · (intro ws hSw; (try dsimp only at hSw); (try go_simp); (try with_reducible rfl))
  (try simp only [Act.put, List.setIfInBounds_toArray, List.set_cons_zero, List.set_cons_succ])
  refine wpAnyH_take (i := 16) (oi := { dst := some 47, op := Op.move (Operand.tmp 1), type := 3, pos := "law.go:41", after := #[{ on := 15, ground := Ground.guard }], guard := some (15, false) }) (v := ?_) rfl (by kernel_rfl) (by kernel_rfl) (by kernel_rfl) (fun _ _ _ h => h) (Or.inl ⟨by rfl, ?_⟩) (by assumption) ?_
  rotate_left
  · (intro ws hSw; (try dsimp only at hSw); (try go_simp); (try with_reducible rfl))
  (try simp only [Act.put, List.setIfInBounds_toArray, List.set_cons_zero, List.set_cons_succ])
  refine wpAnyH_take (i := 17) (oi := { dst := some 48, op := Op.binOp BinOp.geq 3 (Operand.tmp 47) (Operand.const (Value.int IntKind.i64 0)) 3, type := 4, pos := "law.go:41", after := #[{ on := 16, ground := Ground.data }, { on := 15, ground := Ground.guard }], guard := some (15, false) }) (v := ?_) rfl (by kernel_rfl) (by kernel_rfl) (by kernel_rfl) (fun _ _ _ h => h) (Or.inl ⟨by rfl, ?_⟩) (by assumption) ?_
  rotate_left
  · (intro ws hSw; (try dsimp only at hSw); (try go_simp); (try with_reducible rfl))
  (try simp only [Act.put, List.setIfInBounds_toArray, List.set_cons_zero, List.set_cons_succ])
  refine wpAnyH_take (i := 18) (oi := { dst := some 49, op := Op.move (Operand.tmp 48), type := 4, pos := "law.go:41", after := #[{ on := 17, ground := Ground.data }, { on := 15, ground := Ground.chain }, { on := 15, ground := Ground.guard }], guard := some (15, false) }) (v := ?_) rfl (by kernel_rfl) (by kernel_rfl) (by kernel_rfl) (fun _ _ _ h => h) (Or.inl ⟨by rfl, ?_⟩) (by assumption) ?_
  rotate_left
  · (intro ws hSw; (try dsimp only at hSw); (try go_simp); (try with_reducible rfl))
  (try simp only [Act.put, List.setIfInBounds_toArray, List.set_cons_zero, List.set_cons_succ])
  refine wpAnyH_take (i := 19) (oi := { dst := some 50, op := Op.load 24 (Operand.tmp 8), type := 24, pos := "law.go:41", after := #[{ on := 18, ground := Ground.guard }], guard := some (18, true) }) (v := ?_) rfl (by kernel_rfl) (by kernel_rfl) (by kernel_rfl) (fun _ _ _ h => h) (Or.inl ⟨by rfl, ?_⟩) (by assumption) ?_
  rotate_left
  · (intro ws hSw; (try dsimp only at hSw); (try go_simp); (try with_reducible rfl))
  (try simp only [Act.put, List.setIfInBounds_toArray, List.set_cons_zero, List.set_cons_succ])
  refine wpAnyH_take (i := 20) (oi := { dst := some 51, op := Op.move (Operand.tmp 9), type := 28, pos := "law.go:41", after := #[{ on := 18, ground := Ground.guard }], guard := some (18, true) }) (v := ?_) rfl (by kernel_rfl) (by kernel_rfl) (by kernel_rfl) (fun _ _ _ h => h) (Or.inl ⟨by rfl, ?_⟩) (by assumption) ?_
  rotate_left
  · (intro ws hSw; (try dsimp only at hSw); (try go_simp); (try with_reducible rfl))
  (try simp only [Act.put, List.setIfInBounds_toArray, List.set_cons_zero, List.set_cons_succ])
  refine wpAnyH_take (i := 21) (oi := { dst := some 52, op := Op.move (Operand.tmp 1), type := 3, pos := "law.go:41", after := #[{ on := 18, ground := Ground.guard }], guard := some (18, true) }) (v := ?_) rfl (by kernel_rfl) (by kernel_rfl) (by kernel_rfl) (fun _ _ _ h => h) (Or.inl ⟨by rfl, ?_⟩) (by assumption) ?_
  rotate_left
  · (intro ws hSw; (try dsimp only at hSw); (try go_simp); (try with_reducible rfl))
  (try simp only [Act.put, List.setIfInBounds_toArray, List.set_cons_zero, List.set_cons_succ])
  refine wpAnyH_ready (rs := [22]) (by kernel_rfl) (by simp) ?_
  refine AllReadyH.cons (o := { dst := some 53, op := Op.call { callee := Callee.value (Operand.func 18), args := #[Operand.tmp 52], argTypes := #[3] }, type := 24, pos := "law.go:41", after := #[{ on := 21, ground := Ground.data }, { on := 18, ground := Ground.chain }, { on := 18, ground := Ground.guard }], guard := some (18, true) }) rfl (fun K hK => ?_) AllReadyH.nil
  go_simp
  have hc := rof_any k w6_1 (by omega)
  refine hc.mono ?_
  clear hc
  rintro e w6_2 ⟨v, rfl, hv, hb⟩
  obtain ⟨DY, dY, rfl, hv'⟩ := hv.open_
  have NY_2 := hid hv'
  clear hv hv'
  have HXA_2 := hid (HXA_1.out.below hb)
  have HX1_2 := hid (HX1_1.out.below hb)
  have qXA_2 := HXA_2.out.cell
  have qX1_2 := HX1_2.out.cell
  have WD_2 := hid (WD_1.out.trans (hb.mono WD_1.out.size))
  clear hb
  refine hK.out _ _ (⟨qXA_2, qX1_2⟩) (fun hHeld22 => ?_)
  clear hK K hHeld
  have hHeld := hHeld22
  clear hHeld22
  (try simp only [Act.put, List.setIfInBounds_toArray, List.set_cons_zero, List.set_cons_succ])
  refine wpAnyH_ready (rs := [23]) (by kernel_rfl) (by simp) ?_
  refine AllReadyH.cons (o := { dst := some 54, op := Op.call { callee := Callee.value (Operand.func 17), args := #[Operand.tmp 50, Operand.tmp 51, Operand.tmp 53, Operand.const (Value.int IntKind.i64 0)], argTypes := #[24, 28, 24, 3] }, type := 4, pos := "law.go:41", after := #[{ on := 19, ground := Ground.data }, { on := 20, ground := Ground.data }, { on := 22, ground := Ground.data }, { on := 22, ground := Ground.chain }, { on := 18, ground := Ground.guard }], guard := some (18, true) }) rfl (fun K hK => ?_) AllReadyH.nil
  go_simp
  have hc := is_any D1 DY _ _ d1 dY k k 0 0 _ HX1_2.out.num NY_2.out (by omega) (by omega)
  rw [is_self] at hc
  refine hc.mono ?_
  clear hc
  rintro e w6_3 ⟨rfl, hb⟩
  have HXA_3 := hid (HXA_2.out.below hb)
  have HX1_3 := hid (HX1_2.out.below hb)
  have qXA_3 := HXA_3.out.cell
  have qX1_3 := HX1_3.out.cell
  have NY_3 := hid ((NY_2.out.below hb).more hb.size)
  have WD_3 := hid (WD_2.out.trans (hb.mono WD_2.out.size))
  clear hb
  refine hK.out _ _ (⟨qXA_3, qX1_3⟩) (fun hHeld23 => ?_)
  clear hK K hHeld
  have hHeld := hHeld23
  clear hHeld23
  (try simp only [Act.put, List.setIfInBounds_toArray, List.set_cons_zero, List.set_cons_succ])
  refine wpAnyH_take (i := 24) (oi := { dst := some 55, op := Op.unOp UnOp.not 4 (Operand.tmp 54), type := 4, pos := "law.go:41", after := #[{ on := 23, ground := Ground.data }, { on := 18, ground := Ground.guard }], guard := some (18, true) }) (v := ?_) rfl (by kernel_rfl) (by kernel_rfl) (by kernel_rfl) (fun _ _ _ h => h) (Or.inl ⟨by rfl, ?_⟩) (by assumption) ?_
  rotate_left
  · (intro ws hSw; (try dsimp only at hSw); (try go_simp); (try with_reducible rfl))
  (try simp only [Act.put, List.setIfInBounds_toArray, List.set_cons_zero, List.set_cons_succ])
  refine wpAnyH_take (i := 25) (oi := { dst := some 56, op := Op.pick (Operand.tmp 49) (Operand.tmp 55) (Operand.const (Value.bool false)), type := 4, pos := "law.go:41", after := #[{ on := 18, ground := Ground.data }, { on := 24, ground := Ground.data }, { on := 15, ground := Ground.guard }], guard := some (15, false) }) (v := ?_) rfl (by kernel_rfl) (by kernel_rfl) (by kernel_rfl) (fun _ _ _ h => h) (Or.inl ⟨by rfl, ?_⟩) (by assumption) ?_
  rotate_left
  · (intro ws hSw; (try dsimp only at hSw); (try go_simp); (try with_reducible rfl))
  (try simp only [Act.put, List.setIfInBounds_toArray, List.set_cons_zero, List.set_cons_succ])
  refine wpAnyH_take (i := 26) (oi := { dst := some 57, op := Op.pick (Operand.tmp 46) (Operand.const (Value.bool true)) (Operand.tmp 56), type := 4, pos := "law.go:41", after := #[{ on := 15, ground := Ground.data }, { on := 25, ground := Ground.data }], guard := none }) (v := ?_) rfl (by kernel_rfl) (by kernel_rfl) (by kernel_rfl) (fun _ _ _ h => h) (Or.inl ⟨by rfl, ?_⟩) (by assumption) ?_
  rotate_left
  · (intro ws hSw; (try dsimp only at hSw); (try go_simp); (try with_reducible rfl))
  (try simp only [Act.put, List.setIfInBounds_toArray, List.set_cons_zero, List.set_cons_succ])
  refine wpAnyH_done (by kernel_rfl) ?_ _
  clear hHeld
  clear kXA kX1 qXA_1 qX1_1 qXA_2 qX1_2 qXA_3 qX1_3
  have XA := HXA_3.out
  have X1 := HX1_3.out
  have WW := WD_3.out
  clear HXA_0 HX1_0 HXA_1 HX1_1 HXA_2 HX1_2 HXA_3 HX1_3 WDr WD_1 WD_2 WD_3
  have kXA := XA.cell
  have zXA := XA.lt
  have kX1 := X1.cell
  have zX1 := X1.lt
  go_wp2_with fail
  have hc := bits_any A _ c a w6_3 XA.num hn'
  rw [BA.out] at hc
  refine hc.mono ?_
  clear hc
  rintro e V8 ⟨rfl, hb⟩
  clear kXA zXA kX1 zX1
  replace XA := XA.below hb
  replace X1 := X1.below hb
  replace WW := WW.trans (hb.mono WW.size)
  have kXA := XA.cell
  have zXA := XA.lt
  have kX1 := X1.cell
  have zX1 := X1.lt
  clear hb
  go_wp2_with fail
  have hc := bit_any A _ c a i V8 XA.num hn' i0 i1
  rw [TA.out] at hc
  refine hc.mono ?_
  clear hc
  rintro e V9 ⟨rfl, hb⟩
  clear kXA zXA kX1 zX1
  replace XA := XA.below hb
  replace X1 := X1.below hb
  replace WW := WW.trans (hb.mono WW.size)
  have kXA := XA.cell
  have zXA := XA.lt
  have kX1 := X1.cell
  have zX1 := X1.lt
  clear hb
  go_wp2_with fail
  go_ret
  exact ⟨rfl, WW⟩

set_option maxHeartbeats 8000000 in
set_option maxRecDepth 100000 in
theorem ints_p_fits (A : Option Addr) (c a k : Nat) (x i : Int) (w : World) (hA : Num w w.heap.size A (nw a) a) (hn1 : nw a ≤ 64) (hb : bl a ≤ 63) (hx : x = (k : Int) ∧ k ≤ 9223372036854775807) (i0 : -9223372036854775808 ≤ i) (i1 : i ≤ 9223372036854775807) :
    Calls Try.prog 3 #[.agg #[.slice A (nw a) c], .int .i64 x, .int .i64 i] w (RetB (.bool true) w) := by
  have HG : Hid (decide (100 < nw a) = false) := decide_eq_false (by omega)
  have H1 := hid (okB_nw hn1)
  have BA := hid (bitsS_yes H1.out)
  have TA := hid (bitS_r (i := i) H1.out)
  have hn' : nw a ≤ 9223372036854775807 := by omega
  have hbl : bl a ≤ 2048 := bl_nw.1 hn1
  have IA := hid (intS_ok H1.out hb)
  have RA : Hid (rintS a = ((a : Int), true)) := by show _ = _; unfold rintS; rw [if_pos hb]
  have ha63 : (a : Int) ≤ 9223372036854775807 := by have h5 := lt_bl a; have h6 : 2 ^ bl a ≤ 2 ^ 63 := Nat.pow_le_pow_right (by omega) hb; rw [show 2 ^ 63 = 9223372036854775808 from rfl] at h6; omega
  obtain ⟨ti, hti⟩ : ∃ t, t = rbitS a i := ⟨_, rfl⟩
  rw [← hti] at TA
  have TR : Hid (rbitS a i = ti) := hti.symm
  clear hti hb
  have eq1 : (((bl a : Nat) : Int) != ((bl a : Nat) : Int)) = false := by simp
  have eq2 : (ti != ti) = false := by simp
  have eq3 : ((a : Int) == (a : Int)) = true := by simp
  obtain ⟨rfl, hk⟩ := hx
  have x2 : decide ((k : Int) < 0) = false := by simp
  have x3 : decide ((0 : Int) ≤ (k : Int)) = true := by simp
  have OX := hid (ofS_nat k)
  have hkn : nw k ≤ 2 := nw_le (n := 2) (by rw [show 2 ^ (32 * 2) = 18446744073709551616 from rfl]; omega)
  obtain ⟨b0, bw⟩ := boxes1 w (.slice A (nw a) c)
  have XA := Box.mk b0 hA bw
  have WW := bw
  clear bw b0
  go_enter Try.func3, Try.ntmps3
  go_wp2_with fail
  generalize hV : (w.alloc (.cells #[.slice A (nw a) c] 24)) = V0 at XA WW ⊢
  clear hV
  have hc := awake_any V0
  refine hc.mono ?_
  clear hc
  rintro e V1 ⟨rfl, hb⟩
  replace XA := XA.below hb
  replace WW := WW.trans (hb.mono WW.size)
  have kXA := XA.cell
  have zXA := XA.lt
  clear hb
  go_wp2_with fail
  have hc := great_1 V1 A _ c hn'
  rw [HG.out] at hc
  refine hc.mono ?_
  clear hc
  rintro e V2 ⟨rfl, hb⟩
  clear kXA zXA
  replace XA := XA.below hb
  replace WW := WW.trans (hb.mono WW.size)
  have kXA := XA.cell
  have zXA := XA.lt
  clear hb
  go_wp2_with fail
  have hc := rvalid_any A _ c a _ V2 XA.num (Nat.le_refl _) hn'
  rw [H1.out] at hc
  refine hc.mono ?_
  clear hc
  rintro e V3 ⟨rfl, hb⟩
  clear kXA zXA
  replace XA := XA.below hb
  replace WW := WW.trans (hb.mono WW.size)
  have kXA := XA.cell
  have zXA := XA.lt
  clear hb
  go_wp2_with fail
  have hc := of_any (k : Int) V3 (by omega) (by omega)
  rw [OX.out] at hc
  refine hc.mono ?_
  clear hc
  rintro e V4 ⟨v, rfl, hv, hb⟩
  clear kXA zXA
  replace XA := XA.below hb
  replace WW := WW.trans (hb.mono WW.size)
  obtain ⟨D1, d1, rfl, hv'⟩ := hv.open_
  clear hv
  have kXA := XA.cell
  have zXA := XA.lt
  clear hb
  go_wp2_with fail
  obtain ⟨b0, bw⟩ := boxes1 V4 (.slice D1 (nw k) d1)
  clear kXA zXA
  replace XA := XA.below bw
  have X1 := Box.mk b0 hv' bw
  replace WW := WW.trans (bw.mono WW.size)
  clear bw b0 hv'
  generalize hV : (V4.alloc (.cells #[.slice D1 (nw k) d1] 24)) = V5 at XA X1 WW ⊢
  clear hV
  have kXA := XA.cell
  have zXA := XA.lt
  have kX1 := X1.cell
  have zX1 := X1.lt
  have hc := int_any A _ c a V5 XA.num hn'
  rw [IA.out] at hc
  refine hc.mono ?_
  clear hc
  rintro e V6 ⟨rfl, hb⟩
  clear kXA zXA kX1 zX1
  replace XA := XA.below hb
  replace X1 := X1.below hb
  replace WW := WW.trans (hb.mono WW.size)
  have kXA := XA.cell
  have zXA := XA.lt
  have kX1 := X1.cell
  have zX1 := X1.lt
  clear hb
  go_wp2_with fail
  have WDr := hid WW.drew
  have HXA_0 := hid XA.drew
  have HX1_0 := hid X1.drew
  clear zXA zX1
  clear WW XA X1
  refine wp_region_held_drew (S := (fun w' => w'.cell? ⟨w.heap.size, 0, none⟩ = some ((.slice A (nw a) c)) ∧ w'.cell? ⟨V4.heap.size, 0, none⟩ = some ((.slice D1 (nw k) d1)))) (by kernel_rfl) (⟨kXA, kX1⟩) (fun hHeld => ?_)
  refine wpAnyH_take (i := 0) (oi := { dst := some 31, op := Op.load 24 (Operand.tmp 3), type := 24, pos := "law.go:41", after := #[], guard := none }) (v := ?_) rfl (by kernel_rfl) (by kernel_rfl) (by kernel_rfl) (fun _ _ _ h => h) (Or.inl ⟨by rfl, ?_⟩) (by assumption) ?_
  rotate_left
  · (intro ws hSw; (try dsimp only at hSw); (try go_simp); (try with_reducible rfl))
  (try simp only [Act.put, List.setIfInBounds_toArray, List.set_cons_zero, List.set_cons_succ])
  refine wpAnyH_take (i := 2) (oi := { dst := some 33, op := Op.move (Operand.tmp 7), type := 4, pos := "law.go:41", after := #[], guard := none }) (v := ?_) rfl (by kernel_rfl) (by kernel_rfl) (by kernel_rfl) (fun _ _ _ h => h) (Or.inl ⟨by rfl, ?_⟩) (by assumption) ?_
  rotate_left
  · (intro ws hSw; (try dsimp only at hSw); (try go_simp); (try with_reducible rfl))
  (try simp only [Act.put, List.setIfInBounds_toArray, List.set_cons_zero, List.set_cons_succ])
  refine wpAnyH_ready (rs := [1]) (by kernel_rfl) (by simp) ?_
  refine AllReadyH.cons (o := { dst := some 32, op := Op.call { callee := Callee.value (Operand.func 16), args := #[Operand.tmp 31], argTypes := #[24] }, type := 4, pos := "law.go:41", after := #[{ on := 0, ground := Ground.data }], guard := none }) rfl (fun K hK => ?_) AllReadyH.nil
  go_simp
  have hc := valid_any A _ c a _ _ HXA_0.out.num (Nat.le_refl _) hn'
  rw [H1.out] at hc
  refine hc.mono ?_
  clear hc
  rintro e w6_1 ⟨rfl, hb⟩
  have HXA_1 := hid (HXA_0.out.below hb)
  have HX1_1 := hid (HX1_0.out.below hb)
  have qXA_1 := HXA_1.out.cell
  have qX1_1 := HX1_1.out.cell
  have WD_1 := hid (WDr.out.trans (hb.mono WDr.out.size))
  clear hb
  refine hK.out _ _ (⟨qXA_1, qX1_1⟩) (fun hHeld1 => ?_)
  clear hK K hHeld
  have hHeld := hHeld1
  clear hHeld1
  (try simp only [Act.put, List.setIfInBounds_toArray, List.set_cons_zero, List.set_cons_succ])
  refine wpAnyH_take (i := 3) (oi := { dst := some 34, op := Op.binOp BinOp.neq 4 (Operand.tmp 32) (Operand.tmp 33) 4, type := 4, pos := "law.go:41", after := #[{ on := 1, ground := Ground.data }, { on := 2, ground := Ground.data }], guard := none }) (v := ?_) rfl (by kernel_rfl) (by kernel_rfl) (by kernel_rfl) (fun _ _ _ h => h) (Or.inl ⟨by rfl, ?_⟩) (by assumption) ?_
  rotate_left
  · (intro ws hSw; (try dsimp only at hSw); (try go_simp); (try with_reducible rfl))
  (try simp only [Act.put, List.setIfInBounds_toArray, List.set_cons_zero, List.set_cons_succ])
  refine wpAnyH_take (i := 4) (oi := { dst := some 35, op := Op.move (Operand.tmp 34), type := 4, pos := "law.go:41", after := #[{ on := 3, ground := Ground.data }, { on := 1, ground := Ground.chain }], guard := none }) (v := ?_) rfl (by kernel_rfl) (by kernel_rfl) (by kernel_rfl) (fun _ _ _ h => h) (Or.inl ⟨by rfl, ?_⟩) (by assumption) ?_
  rotate_left
  · (intro ws hSw; (try dsimp only at hSw); (try go_simp); (try with_reducible rfl))
  (try simp only [Act.put, List.setIfInBounds_toArray, List.set_cons_zero, List.set_cons_succ])
  refine wpAnyH_take (i := 5) (oi := { dst := some 36, op := Op.move (Operand.tmp 1), type := 3, pos := "law.go:41", after := #[{ on := 4, ground := Ground.guard }], guard := some (4, false) }) (v := ?_) rfl (by kernel_rfl) (by kernel_rfl) (by kernel_rfl) (fun _ _ _ h => h) (Or.inl ⟨by rfl, ?_⟩) (by assumption) ?_
  rotate_left
  · (intro ws hSw; (try dsimp only at hSw); (try go_simp); (try with_reducible rfl))
  (try simp only [Act.put, List.setIfInBounds_toArray, List.set_cons_zero, List.set_cons_succ])
  refine wpAnyH_take (i := 6) (oi := { dst := some 37, op := Op.binOp BinOp.lss 3 (Operand.tmp 36) (Operand.const (Value.int IntKind.i64 0)) 3, type := 4, pos := "law.go:41", after := #[{ on := 5, ground := Ground.data }, { on := 4, ground := Ground.guard }], guard := some (4, false) }) (v := ?_) rfl (by kernel_rfl) (by kernel_rfl) (by kernel_rfl) (fun _ _ _ h => h) (Or.inl ⟨by rfl, ?_⟩) (by assumption) ?_
  rotate_left
  · (intro ws hSw; (try dsimp only at hSw); (try go_simp); (try with_reducible rfl))
  (try simp only [Act.put, List.setIfInBounds_toArray, List.set_cons_zero, List.set_cons_succ])
  refine wpAnyH_take (i := 7) (oi := { dst := some 38, op := Op.move (Operand.tmp 37), type := 4, pos := "law.go:41", after := #[{ on := 6, ground := Ground.data }, { on := 4, ground := Ground.chain }, { on := 4, ground := Ground.guard }], guard := some (4, false) }) (v := ?_) rfl (by kernel_rfl) (by kernel_rfl) (by kernel_rfl) (fun _ _ _ h => h) (Or.inl ⟨by rfl, ?_⟩) (by assumption) ?_
  rotate_left
  · (intro ws hSw; (try dsimp only at hSw); (try go_simp); (try with_reducible rfl))
  (try simp only [Act.put, List.setIfInBounds_toArray, List.set_cons_zero, List.set_cons_succ])
  refine wpAnyH_take (i := 8) (oi := { dst := some 39, op := Op.load 24 (Operand.tmp 8), type := 24, pos := "law.go:41", after := #[{ on := 7, ground := Ground.guard }], guard := some (7, true) }) (v := _) rfl (by kernel_rfl) (by kernel_rfl) (by kernel_rfl) (fun _ _ _ h => h) (Or.inr ⟨by rfl, rfl⟩) (by assumption) ?_
  (try simp only [Act.put, List.setIfInBounds_toArray, List.set_cons_zero, List.set_cons_succ])
  refine wpAnyH_take (i := 9) (oi := { dst := some 40, op := Op.move (Operand.tmp 9), type := 28, pos := "law.go:41", after := #[{ on := 7, ground := Ground.guard }], guard := some (7, true) }) (v := _) rfl (by kernel_rfl) (by kernel_rfl) (by kernel_rfl) (fun _ _ _ h => h) (Or.inr ⟨by rfl, rfl⟩) (by assumption) ?_
  (try simp only [Act.put, List.setIfInBounds_toArray, List.set_cons_zero, List.set_cons_succ])
  refine wpAnyH_take (i := 10) (oi := { dst := some 41, op := Op.build 24 #[], type := 24, pos := "law.go:41", after := #[{ on := 7, ground := Ground.guard }], guard := some (7, true) }) (v := _) rfl (by kernel_rfl) (by kernel_rfl) (by kernel_rfl) (fun _ _ _ h => h) (Or.inr ⟨by rfl, rfl⟩) (by assumption) ?_
  (try simp only [Act.put, List.setIfInBounds_toArray, List.set_cons_zero, List.set_cons_succ])
  refine wpAnyH_take (i := 11) (oi := { dst := some 42, op := Op.call { callee := Callee.value (Operand.func 17), args := #[Operand.tmp 39, Operand.tmp 40, Operand.tmp 41, Operand.const (Value.int IntKind.i64 2)], argTypes := #[24, 28, 24, 3] }, type := 4, pos := "law.go:41", after := #[{ on := 8, ground := Ground.data }, { on := 9, ground := Ground.data }, { on := 10, ground := Ground.data }, { on := 7, ground := Ground.chain }, { on := 7, ground := Ground.guard }], guard := some (7, true) }) (v := _) rfl (by kernel_rfl) (by kernel_rfl) (by kernel_rfl) (fun _ _ _ h => h) (Or.inr ⟨by rfl, rfl⟩) (by assumption) ?_
  (try simp only [Act.put, List.setIfInBounds_toArray, List.set_cons_zero, List.set_cons_succ])
  refine wpAnyH_take (i := 12) (oi := { dst := some 43, op := Op.unOp UnOp.not 4 (Operand.tmp 42), type := 4, pos := "law.go:41", after := #[{ on := 11, ground := Ground.data }, { on := 7, ground := Ground.guard }], guard := some (7, true) }) (v := _) rfl (by kernel_rfl) (by kernel_rfl) (by kernel_rfl) (fun _ _ _ h => h) (Or.inr ⟨by rfl, rfl⟩) (by assumption) ?_
  (try simp only [Act.put, List.setIfInBounds_toArray, List.set_cons_zero, List.set_cons_succ])
  refine wpAnyH_take (i := 13) (oi := { dst := some 44, op := Op.pick (Operand.tmp 38) (Operand.tmp 43) (Operand.const (Value.bool false)), type := 4, pos := "law.go:41", after := #[{ on := 7, ground := Ground.data }, { on := 12, ground := Ground.data }, { on := 4, ground := Ground.guard }], guard := some (4, false) }) (v := ?_) rfl (by kernel_rfl) (by kernel_rfl) (by kernel_rfl) (fun _ _ _ h => h) (Or.inl ⟨by rfl, ?_⟩) (by assumption) ?_
  rotate_left
  · (intro ws hSw; (try dsimp only at hSw); (try go_simp); (try with_reducible rfl))
  (try simp only [Act.put, List.setIfInBounds_toArray, List.set_cons_zero, List.set_cons_succ])
  refine wpAnyH_take (i := 14) (oi := { dst := some 45, op := Op.pick (Operand.tmp 35) (Operand.const (Value.bool true)) (Operand.tmp 44), type := 4, pos := "law.go:41", after := #[{ on := 4, ground := Ground.data }, { on := 13, ground := Ground.data }], guard := none }) (v := ?_) rfl (by kernel_rfl) (by kernel_rfl) (by kernel_rfl) (fun _ _ _ h => h) (Or.inl ⟨by rfl, ?_⟩) (by assumption) ?_
  rotate_left
  · (intro ws hSw; (try dsimp only at hSw); (try go_simp); (try with_reducible rfl))
  (try simp only [Act.put, List.setIfInBounds_toArray, List.set_cons_zero, List.set_cons_succ])
  refine wpAnyH_take (i := 15) (oi := { dst := some 46, op := Op.move (Operand.tmp 45), type := 4, pos := "law.go:41", after := #[{ on := 14, ground := Ground.data }, { on := 11, ground := Ground.chain }], guard := none }) (v := ?_) rfl (by kernel_rfl) (by kernel_rfl) (by kernel_rfl) (fun _ _ _ h => h) (Or.inl ⟨by rfl, ?_⟩) (by assumption) ?_
  rotate_left
  · (intro ws hSw; (try dsimp only at hSw); (try go_simp); (try with_reducible rfl))
  (try simp only [Act.put, List.setIfInBounds_toArray, List.set_cons_zero, List.set_cons_succ])
  refine wpAnyH_take (i := 16) (oi := { dst := some 47, op := Op.move (Operand.tmp 1), type := 3, pos := "law.go:41", after := #[{ on := 15, ground := Ground.guard }], guard := some (15, false) }) (v := ?_) rfl (by kernel_rfl) (by kernel_rfl) (by kernel_rfl) (fun _ _ _ h => h) (Or.inl ⟨by rfl, ?_⟩) (by assumption) ?_
  rotate_left
  · (intro ws hSw; (try dsimp only at hSw); (try go_simp); (try with_reducible rfl))
  (try simp only [Act.put, List.setIfInBounds_toArray, List.set_cons_zero, List.set_cons_succ])
  refine wpAnyH_take (i := 17) (oi := { dst := some 48, op := Op.binOp BinOp.geq 3 (Operand.tmp 47) (Operand.const (Value.int IntKind.i64 0)) 3, type := 4, pos := "law.go:41", after := #[{ on := 16, ground := Ground.data }, { on := 15, ground := Ground.guard }], guard := some (15, false) }) (v := ?_) rfl (by kernel_rfl) (by kernel_rfl) (by kernel_rfl) (fun _ _ _ h => h) (Or.inl ⟨by rfl, ?_⟩) (by assumption) ?_
  rotate_left
  · (intro ws hSw; (try dsimp only at hSw); (try go_simp); (try with_reducible rfl))
  (try simp only [Act.put, List.setIfInBounds_toArray, List.set_cons_zero, List.set_cons_succ])
  refine wpAnyH_take (i := 18) (oi := { dst := some 49, op := Op.move (Operand.tmp 48), type := 4, pos := "law.go:41", after := #[{ on := 17, ground := Ground.data }, { on := 15, ground := Ground.chain }, { on := 15, ground := Ground.guard }], guard := some (15, false) }) (v := ?_) rfl (by kernel_rfl) (by kernel_rfl) (by kernel_rfl) (fun _ _ _ h => h) (Or.inl ⟨by rfl, ?_⟩) (by assumption) ?_
  rotate_left
  · (intro ws hSw; (try dsimp only at hSw); (try go_simp); (try with_reducible rfl))
  (try simp only [Act.put, List.setIfInBounds_toArray, List.set_cons_zero, List.set_cons_succ])
  refine wpAnyH_take (i := 19) (oi := { dst := some 50, op := Op.load 24 (Operand.tmp 8), type := 24, pos := "law.go:41", after := #[{ on := 18, ground := Ground.guard }], guard := some (18, true) }) (v := ?_) rfl (by kernel_rfl) (by kernel_rfl) (by kernel_rfl) (fun _ _ _ h => h) (Or.inl ⟨by rfl, ?_⟩) (by assumption) ?_
  rotate_left
  · (intro ws hSw; (try dsimp only at hSw); (try go_simp); (try with_reducible rfl))
  (try simp only [Act.put, List.setIfInBounds_toArray, List.set_cons_zero, List.set_cons_succ])
  refine wpAnyH_take (i := 20) (oi := { dst := some 51, op := Op.move (Operand.tmp 9), type := 28, pos := "law.go:41", after := #[{ on := 18, ground := Ground.guard }], guard := some (18, true) }) (v := ?_) rfl (by kernel_rfl) (by kernel_rfl) (by kernel_rfl) (fun _ _ _ h => h) (Or.inl ⟨by rfl, ?_⟩) (by assumption) ?_
  rotate_left
  · (intro ws hSw; (try dsimp only at hSw); (try go_simp); (try with_reducible rfl))
  (try simp only [Act.put, List.setIfInBounds_toArray, List.set_cons_zero, List.set_cons_succ])
  refine wpAnyH_take (i := 21) (oi := { dst := some 52, op := Op.move (Operand.tmp 1), type := 3, pos := "law.go:41", after := #[{ on := 18, ground := Ground.guard }], guard := some (18, true) }) (v := ?_) rfl (by kernel_rfl) (by kernel_rfl) (by kernel_rfl) (fun _ _ _ h => h) (Or.inl ⟨by rfl, ?_⟩) (by assumption) ?_
  rotate_left
  · (intro ws hSw; (try dsimp only at hSw); (try go_simp); (try with_reducible rfl))
  (try simp only [Act.put, List.setIfInBounds_toArray, List.set_cons_zero, List.set_cons_succ])
  refine wpAnyH_ready (rs := [22]) (by kernel_rfl) (by simp) ?_
  refine AllReadyH.cons (o := { dst := some 53, op := Op.call { callee := Callee.value (Operand.func 18), args := #[Operand.tmp 52], argTypes := #[3] }, type := 24, pos := "law.go:41", after := #[{ on := 21, ground := Ground.data }, { on := 18, ground := Ground.chain }, { on := 18, ground := Ground.guard }], guard := some (18, true) }) rfl (fun K hK => ?_) AllReadyH.nil
  go_simp
  have hc := rof_any k w6_1 (by omega)
  refine hc.mono ?_
  clear hc
  rintro e w6_2 ⟨v, rfl, hv, hb⟩
  obtain ⟨DY, dY, rfl, hv'⟩ := hv.open_
  have NY_2 := hid hv'
  clear hv hv'
  have HXA_2 := hid (HXA_1.out.below hb)
  have HX1_2 := hid (HX1_1.out.below hb)
  have qXA_2 := HXA_2.out.cell
  have qX1_2 := HX1_2.out.cell
  have WD_2 := hid (WD_1.out.trans (hb.mono WD_1.out.size))
  clear hb
  refine hK.out _ _ (⟨qXA_2, qX1_2⟩) (fun hHeld22 => ?_)
  clear hK K hHeld
  have hHeld := hHeld22
  clear hHeld22
  (try simp only [Act.put, List.setIfInBounds_toArray, List.set_cons_zero, List.set_cons_succ])
  refine wpAnyH_ready (rs := [23]) (by kernel_rfl) (by simp) ?_
  refine AllReadyH.cons (o := { dst := some 54, op := Op.call { callee := Callee.value (Operand.func 17), args := #[Operand.tmp 50, Operand.tmp 51, Operand.tmp 53, Operand.const (Value.int IntKind.i64 0)], argTypes := #[24, 28, 24, 3] }, type := 4, pos := "law.go:41", after := #[{ on := 19, ground := Ground.data }, { on := 20, ground := Ground.data }, { on := 22, ground := Ground.data }, { on := 22, ground := Ground.chain }, { on := 18, ground := Ground.guard }], guard := some (18, true) }) rfl (fun K hK => ?_) AllReadyH.nil
  go_simp
  have hc := is_any D1 DY _ _ d1 dY k k 0 0 _ HX1_2.out.num NY_2.out (by omega) (by omega)
  rw [is_self] at hc
  refine hc.mono ?_
  clear hc
  rintro e w6_3 ⟨rfl, hb⟩
  have HXA_3 := hid (HXA_2.out.below hb)
  have HX1_3 := hid (HX1_2.out.below hb)
  have qXA_3 := HXA_3.out.cell
  have qX1_3 := HX1_3.out.cell
  have NY_3 := hid ((NY_2.out.below hb).more hb.size)
  have WD_3 := hid (WD_2.out.trans (hb.mono WD_2.out.size))
  clear hb
  refine hK.out _ _ (⟨qXA_3, qX1_3⟩) (fun hHeld23 => ?_)
  clear hK K hHeld
  have hHeld := hHeld23
  clear hHeld23
  (try simp only [Act.put, List.setIfInBounds_toArray, List.set_cons_zero, List.set_cons_succ])
  refine wpAnyH_take (i := 24) (oi := { dst := some 55, op := Op.unOp UnOp.not 4 (Operand.tmp 54), type := 4, pos := "law.go:41", after := #[{ on := 23, ground := Ground.data }, { on := 18, ground := Ground.guard }], guard := some (18, true) }) (v := ?_) rfl (by kernel_rfl) (by kernel_rfl) (by kernel_rfl) (fun _ _ _ h => h) (Or.inl ⟨by rfl, ?_⟩) (by assumption) ?_
  rotate_left
  · (intro ws hSw; (try dsimp only at hSw); (try go_simp); (try with_reducible rfl))
  (try simp only [Act.put, List.setIfInBounds_toArray, List.set_cons_zero, List.set_cons_succ])
  refine wpAnyH_take (i := 25) (oi := { dst := some 56, op := Op.pick (Operand.tmp 49) (Operand.tmp 55) (Operand.const (Value.bool false)), type := 4, pos := "law.go:41", after := #[{ on := 18, ground := Ground.data }, { on := 24, ground := Ground.data }, { on := 15, ground := Ground.guard }], guard := some (15, false) }) (v := ?_) rfl (by kernel_rfl) (by kernel_rfl) (by kernel_rfl) (fun _ _ _ h => h) (Or.inl ⟨by rfl, ?_⟩) (by assumption) ?_
  rotate_left
  · (intro ws hSw; (try dsimp only at hSw); (try go_simp); (try with_reducible rfl))
  (try simp only [Act.put, List.setIfInBounds_toArray, List.set_cons_zero, List.set_cons_succ])
  refine wpAnyH_take (i := 26) (oi := { dst := some 57, op := Op.pick (Operand.tmp 46) (Operand.const (Value.bool true)) (Operand.tmp 56), type := 4, pos := "law.go:41", after := #[{ on := 15, ground := Ground.data }, { on := 25, ground := Ground.data }], guard := none }) (v := ?_) rfl (by kernel_rfl) (by kernel_rfl) (by kernel_rfl) (fun _ _ _ h => h) (Or.inl ⟨by rfl, ?_⟩) (by assumption) ?_
  rotate_left
  · (intro ws hSw; (try dsimp only at hSw); (try go_simp); (try with_reducible rfl))
  (try simp only [Act.put, List.setIfInBounds_toArray, List.set_cons_zero, List.set_cons_succ])
  refine wpAnyH_done (by kernel_rfl) ?_ _
  clear hHeld
  clear kXA kX1 qXA_1 qX1_1 qXA_2 qX1_2 qXA_3 qX1_3
  have XA := HXA_3.out
  have X1 := HX1_3.out
  have WW := WD_3.out
  clear HXA_0 HX1_0 HXA_1 HX1_1 HXA_2 HX1_2 HXA_3 HX1_3 WDr WD_1 WD_2 WD_3
  have kXA := XA.cell
  have zXA := XA.lt
  have kX1 := X1.cell
  have zX1 := X1.lt
  go_wp2_with fail
  clear X1 kX1 zX1
  have WDr := hid WW.drew
  have HXA_0 := hid XA.drew
  clear zXA
  clear WW XA
  refine wp_region_held_drew (S := (fun w' => w'.cell? ⟨w.heap.size, 0, none⟩ = some ((.slice A (nw a) c)))) (by kernel_rfl) (kXA) (fun hHeld => ?_)
  refine wpAnyH_take (i := 0) (oi := { dst := some 77, op := Op.load 24 (Operand.tmp 3), type := 24, pos := "law.go:47", after := #[], guard := none }) (v := ?_) rfl (by kernel_rfl) (by kernel_rfl) (by kernel_rfl) (fun _ _ _ h => h) (Or.inl ⟨by rfl, ?_⟩) (by assumption) ?_
  rotate_left
  · (intro ws hSw; (try dsimp only at hSw); (try go_simp); (try with_reducible rfl))
  (try simp only [Act.put, List.setIfInBounds_toArray, List.set_cons_zero, List.set_cons_succ])
  refine wpAnyH_take (i := 2) (oi := { dst := some 79, op := Op.load 24 (Operand.tmp 3), type := 24, pos := "law.go:47", after := #[], guard := none }) (v := ?_) rfl (by kernel_rfl) (by kernel_rfl) (by kernel_rfl) (fun _ _ _ h => h) (Or.inl ⟨by rfl, ?_⟩) (by assumption) ?_
  rotate_left
  · (intro ws hSw; (try dsimp only at hSw); (try go_simp); (try with_reducible rfl))
  (try simp only [Act.put, List.setIfInBounds_toArray, List.set_cons_zero, List.set_cons_succ])
  refine wpAnyH_ready (rs := [1]) (by kernel_rfl) (by simp) ?_
  refine AllReadyH.cons (o := { dst := some 78, op := Op.call { callee := Callee.value (Operand.func 19), args := #[Operand.tmp 77], argTypes := #[24] }, type := 3, pos := "law.go:47", after := #[{ on := 0, ground := Ground.data }], guard := none }) rfl (fun K hK => ?_) AllReadyH.nil
  go_simp
  have hc := bits_any A _ c a _ HXA_0.out.num hn'
  rw [BA.out] at hc
  refine hc.mono ?_
  clear hc
  rintro e w7_1 ⟨rfl, hb⟩
  have HXA_1 := hid (HXA_0.out.below hb)
  have qXA_1 := HXA_1.out.cell
  have WD_1 := hid (WDr.out.trans (hb.mono WDr.out.size))
  clear hb
  refine hK.out _ _ (qXA_1) (fun hHeld1 => ?_)
  clear hK K hHeld
  have hHeld := hHeld1
  clear hHeld1
  (try simp only [Act.put, List.setIfInBounds_toArray, List.set_cons_zero, List.set_cons_succ])
  refine wpAnyH_ready (rs := [3]) (by kernel_rfl) (by simp) ?_
  refine AllReadyH.cons (o := { dst := some 80, op := Op.call { callee := Callee.value (Operand.func 21), args := #[Operand.tmp 79], argTypes := #[24] }, type := 3, pos := "law.go:47", after := #[{ on := 2, ground := Ground.data }, { on := 1, ground := Ground.chain }], guard := none }) rfl (fun K hK => ?_) AllReadyH.nil
  go_simp
  have hc := rbits_any A _ c a _ HXA_1.out.num (by omega)
  refine hc.mono ?_
  clear hc
  rintro e w7_2 ⟨rfl, hb⟩
  have HXA_2 := hid (HXA_1.out.below hb)
  have qXA_2 := HXA_2.out.cell
  have WD_2 := hid (WD_1.out.trans (hb.mono WD_1.out.size))
  clear hb
  refine hK.out _ _ (qXA_2) (fun hHeld3 => ?_)
  clear hK K hHeld
  have hHeld := hHeld3
  clear hHeld3
  (try simp only [Act.put, List.setIfInBounds_toArray, List.set_cons_zero, List.set_cons_succ])
  refine wpAnyH_take (i := 4) (oi := { dst := some 81, op := Op.binOp BinOp.neq 3 (Operand.tmp 78) (Operand.tmp 80) 3, type := 4, pos := "law.go:47", after := #[{ on := 1, ground := Ground.data }, { on := 3, ground := Ground.data }], guard := none }) (v := ?_) rfl (by kernel_rfl) (by kernel_rfl) (by kernel_rfl) (fun _ _ _ h => h) (Or.inl ⟨by rfl, ?_⟩) (by assumption) ?_
  rotate_left
  · (intro ws hSw; (try dsimp only at hSw); (try go_simp); (try with_reducible rfl))
  (try simp only [Act.put, List.setIfInBounds_toArray, List.set_cons_zero, List.set_cons_succ])
  refine wpAnyH_take (i := 5) (oi := { dst := some 82, op := Op.move (Operand.tmp 81), type := 4, pos := "law.go:47", after := #[{ on := 4, ground := Ground.data }, { on := 3, ground := Ground.chain }], guard := none }) (v := ?_) rfl (by kernel_rfl) (by kernel_rfl) (by kernel_rfl) (fun _ _ _ h => h) (Or.inl ⟨by rfl, ?_⟩) (by assumption) ?_
  rotate_left
  · (intro ws hSw; (try dsimp only at hSw); (try go_simp); (try with_reducible rfl))
  (try simp only [Act.put, List.setIfInBounds_toArray, List.set_cons_zero, List.set_cons_succ])
  refine wpAnyH_take (i := 6) (oi := { dst := some 83, op := Op.load 24 (Operand.tmp 3), type := 24, pos := "law.go:47", after := #[{ on := 5, ground := Ground.guard }], guard := some (5, false) }) (v := ?_) rfl (by kernel_rfl) (by kernel_rfl) (by kernel_rfl) (fun _ _ _ h => h) (Or.inl ⟨by rfl, ?_⟩) (by assumption) ?_
  rotate_left
  · (intro ws hSw; (try dsimp only at hSw); (try go_simp); (try with_reducible rfl))
  (try simp only [Act.put, List.setIfInBounds_toArray, List.set_cons_zero, List.set_cons_succ])
  refine wpAnyH_take (i := 7) (oi := { dst := some 84, op := Op.move (Operand.tmp 2), type := 3, pos := "law.go:47", after := #[{ on := 5, ground := Ground.guard }], guard := some (5, false) }) (v := ?_) rfl (by kernel_rfl) (by kernel_rfl) (by kernel_rfl) (fun _ _ _ h => h) (Or.inl ⟨by rfl, ?_⟩) (by assumption) ?_
  rotate_left
  · (intro ws hSw; (try dsimp only at hSw); (try go_simp); (try with_reducible rfl))
  (try simp only [Act.put, List.setIfInBounds_toArray, List.set_cons_zero, List.set_cons_succ])
  refine wpAnyH_take (i := 9) (oi := { dst := some 86, op := Op.load 24 (Operand.tmp 3), type := 24, pos := "law.go:47", after := #[{ on := 5, ground := Ground.guard }], guard := some (5, false) }) (v := ?_) rfl (by kernel_rfl) (by kernel_rfl) (by kernel_rfl) (fun _ _ _ h => h) (Or.inl ⟨by rfl, ?_⟩) (by assumption) ?_
  rotate_left
  · (intro ws hSw; (try dsimp only at hSw); (try go_simp); (try with_reducible rfl))
  (try simp only [Act.put, List.setIfInBounds_toArray, List.set_cons_zero, List.set_cons_succ])
  refine wpAnyH_take (i := 10) (oi := { dst := some 87, op := Op.move (Operand.tmp 2), type := 3, pos := "law.go:47", after := #[{ on := 5, ground := Ground.guard }], guard := some (5, false) }) (v := ?_) rfl (by kernel_rfl) (by kernel_rfl) (by kernel_rfl) (fun _ _ _ h => h) (Or.inl ⟨by rfl, ?_⟩) (by assumption) ?_
  rotate_left
  · (intro ws hSw; (try dsimp only at hSw); (try go_simp); (try with_reducible rfl))
  (try simp only [Act.put, List.setIfInBounds_toArray, List.set_cons_zero, List.set_cons_succ])
  refine wpAnyH_ready (rs := [8]) (by kernel_rfl) (by simp) ?_
  refine AllReadyH.cons (o := { dst := some 85, op := Op.call { callee := Callee.value (Operand.func 20), args := #[Operand.tmp 83, Operand.tmp 84], argTypes := #[24, 3] }, type := 4, pos := "law.go:47", after := #[{ on := 6, ground := Ground.data }, { on := 7, ground := Ground.data }, { on := 5, ground := Ground.chain }, { on := 5, ground := Ground.guard }], guard := some (5, false) }) rfl (fun K hK => ?_) AllReadyH.nil
  go_simp
  have hc := bit_any A _ c a i _ HXA_2.out.num hn' i0 i1
  rw [TA.out] at hc
  refine hc.mono ?_
  clear hc
  rintro e w7_3 ⟨rfl, hb⟩
  have HXA_3 := hid (HXA_2.out.below hb)
  have qXA_3 := HXA_3.out.cell
  have WD_3 := hid (WD_2.out.trans (hb.mono WD_2.out.size))
  clear hb
  refine hK.out _ _ (qXA_3) (fun hHeld8 => ?_)
  clear hK K hHeld
  have hHeld := hHeld8
  clear hHeld8
  (try simp only [Act.put, List.setIfInBounds_toArray, List.set_cons_zero, List.set_cons_succ])
  refine wpAnyH_ready (rs := [11]) (by kernel_rfl) (by simp) ?_
  refine AllReadyH.cons (o := { dst := some 88, op := Op.call { callee := Callee.value (Operand.func 22), args := #[Operand.tmp 86, Operand.tmp 87], argTypes := #[24, 3] }, type := 4, pos := "law.go:47", after := #[{ on := 9, ground := Ground.data }, { on := 10, ground := Ground.data }, { on := 8, ground := Ground.chain }, { on := 5, ground := Ground.guard }], guard := some (5, false) }) rfl (fun K hK => ?_) AllReadyH.nil
  go_simp
  have hc := rbit_any A _ c a i _ HXA_3.out.num (by omega) i0 i1
  rw [TR.out] at hc
  refine hc.mono ?_
  clear hc
  rintro e w7_4 ⟨rfl, hb⟩
  have HXA_4 := hid (HXA_3.out.below hb)
  have qXA_4 := HXA_4.out.cell
  have WD_4 := hid (WD_3.out.trans (hb.mono WD_3.out.size))
  clear hb
  refine hK.out _ _ (qXA_4) (fun hHeld11 => ?_)
  clear hK K hHeld
  have hHeld := hHeld11
  clear hHeld11
  (try simp only [Act.put, List.setIfInBounds_toArray, List.set_cons_zero, List.set_cons_succ])
  refine wpAnyH_take (i := 12) (oi := { dst := some 89, op := Op.binOp BinOp.neq 4 (Operand.tmp 85) (Operand.tmp 88) 4, type := 4, pos := "law.go:47", after := #[{ on := 8, ground := Ground.data }, { on := 11, ground := Ground.data }, { on := 5, ground := Ground.guard }], guard := some (5, false) }) (v := ?_) rfl (by kernel_rfl) (by kernel_rfl) (by kernel_rfl) (fun _ _ _ h => h) (Or.inl ⟨by rfl, ?_⟩) (by assumption) ?_
  rotate_left
  · (intro ws hSw; (try dsimp only at hSw); (try go_simp); (try with_reducible rfl))
  (try simp only [Act.put, List.setIfInBounds_toArray, List.set_cons_zero, List.set_cons_succ])
  refine wpAnyH_take (i := 13) (oi := { dst := some 90, op := Op.pick (Operand.tmp 82) (Operand.const (Value.bool true)) (Operand.tmp 89), type := 4, pos := "law.go:47", after := #[{ on := 5, ground := Ground.data }, { on := 12, ground := Ground.data }], guard := none }) (v := ?_) rfl (by kernel_rfl) (by kernel_rfl) (by kernel_rfl) (fun _ _ _ h => h) (Or.inl ⟨by rfl, ?_⟩) (by assumption) ?_
  rotate_left
  · (intro ws hSw; (try dsimp only at hSw); (try go_simp); (try with_reducible rfl))
  (try simp only [Act.put, List.setIfInBounds_toArray, List.set_cons_zero, List.set_cons_succ])
  refine wpAnyH_done (by kernel_rfl) ?_ _
  clear hHeld
  clear kXA qXA_1 qXA_2 qXA_3 qXA_4
  have XA := HXA_4.out
  have WW := WD_4.out
  clear HXA_0 HXA_1 HXA_2 HXA_3 HXA_4 WDr WD_1 WD_2 WD_3 WD_4
  have kXA := XA.cell
  have zXA := XA.lt
  go_wp2_with fail
  have hc := rint_any A c a w7_4 XA.num hn1
  rw [RA.out] at hc
  refine hc.mono ?_
  clear hc
  rintro e V9 ⟨rfl, hb⟩
  clear kXA zXA
  replace XA := XA.below hb
  replace WW := WW.trans (hb.mono WW.size)
  have kXA := XA.cell
  have zXA := XA.lt
  clear hb
  go_wp2_with fail
  go_ret
  exact ⟨rfl, WW⟩

set_option maxHeartbeats 8000000 in
set_option maxRecDepth 100000 in
theorem ints_p_big (A : Option Addr) (c a k : Nat) (x i : Int) (w : World) (hA : Num w w.heap.size A (nw a) a) (hn1 : nw a ≤ 64) (hb : ¬ bl a ≤ 63) (hx : x = (k : Int) ∧ k ≤ 9223372036854775807) (i0 : -9223372036854775808 ≤ i) (i1 : i ≤ 9223372036854775807) :
    Calls Try.prog 3 #[.agg #[.slice A (nw a) c], .int .i64 x, .int .i64 i] w (RetB (.bool true) w) := by
  have HG : Hid (decide (100 < nw a) = false) := decide_eq_false (by omega)
  have H1 := hid (okB_nw hn1)
  have BA := hid (bitsS_yes H1.out)
  have TA := hid (bitS_r (i := i) H1.out)
  have hn' : nw a ≤ 9223372036854775807 := by omega
  have hbl : bl a ≤ 2048 := bl_nw.1 hn1
  have IA := hid (intS_big H1.out hb)
  have RA : Hid (rintS a = (0, false)) := by show _ = _; unfold rintS; rw [if_neg hb]
  obtain ⟨ti, hti⟩ : ∃ t, t = rbitS a i := ⟨_, rfl⟩
  rw [← hti] at TA
  have TR : Hid (rbitS a i = ti) := hti.symm
  clear hti hb
  have eq1 : (((bl a : Nat) : Int) != ((bl a : Nat) : Int)) = false := by simp
  have eq2 : (ti != ti) = false := by simp
  obtain ⟨rfl, hk⟩ := hx
  have x2 : decide ((k : Int) < 0) = false := by simp
  have x3 : decide ((0 : Int) ≤ (k : Int)) = true := by simp
  have OX := hid (ofS_nat k)
  have hkn : nw k ≤ 2 := nw_le (n := 2) (by rw [show 2 ^ (32 * 2) = 18446744073709551616 from rfl]; omega)
  obtain ⟨b0, bw⟩ := boxes1 w (.slice A (nw a) c)
  have XA := Box.mk b0 hA bw
  have WW := bw
  clear bw b0
  go_enter Try.func3, Try.ntmps3
  go_wp2_with fail
  generalize hV : (w.alloc (.cells #[.slice A (nw a) c] 24)) = V0 at XA WW ⊢
  clear hV
  have hc := awake_any V0
  refine hc.mono ?_
  clear hc
  rintro e V1 ⟨rfl, hb⟩
  replace XA := XA.below hb
  replace WW := WW.trans (hb.mono WW.size)
  have kXA := XA.cell
  have zXA := XA.lt
  clear hb
  go_wp2_with fail
  have hc := great_1 V1 A _ c hn'
  rw [HG.out] at hc
  refine hc.mono ?_
  clear hc
  rintro e V2 ⟨rfl, hb⟩
  clear kXA zXA
  replace XA := XA.below hb
  replace WW := WW.trans (hb.mono WW.size)
  have kXA := XA.cell
  have zXA := XA.lt
  clear hb
  go_wp2_with fail
  have hc := rvalid_any A _ c a _ V2 XA.num (Nat.le_refl _) hn'
  rw [H1.out] at hc
  refine hc.mono ?_
  clear hc
  rintro e V3 ⟨rfl, hb⟩
  clear kXA zXA
  replace XA := XA.below hb
  replace WW := WW.trans (hb.mono WW.size)
  have kXA := XA.cell
  have zXA := XA.lt
  clear hb
  go_wp2_with fail
  have hc := of_any (k : Int) V3 (by omega) (by omega)
  rw [OX.out] at hc
  refine hc.mono ?_
  clear hc
  rintro e V4 ⟨v, rfl, hv, hb⟩
  clear kXA zXA
  replace XA := XA.below hb
  replace WW := WW.trans (hb.mono WW.size)
  obtain ⟨D1, d1, rfl, hv'⟩ := hv.open_
  clear hv
  have kXA := XA.cell
  have zXA := XA.lt
  clear hb
  go_wp2_with fail
  obtain ⟨b0, bw⟩ := boxes1 V4 (.slice D1 (nw k) d1)
  clear kXA zXA
  replace XA := XA.below bw
  have X1 := Box.mk b0 hv' bw
  replace WW := WW.trans (bw.mono WW.size)
  clear bw b0 hv'
  generalize hV : (V4.alloc (.cells #[.slice D1 (nw k) d1] 24)) = V5 at XA X1 WW ⊢
  clear hV
  have kXA := XA.cell
  have zXA := XA.lt
  have kX1 := X1.cell
  have zX1 := X1.lt
  have hc := int_any A _ c a V5 XA.num hn'
  rw [IA.out] at hc
  refine hc.mono ?_
  clear hc
  rintro e V6 ⟨rfl, hb⟩
  clear kXA zXA kX1 zX1
  replace XA := XA.below hb
  replace X1 := X1.below hb
  replace WW := WW.trans (hb.mono WW.size)
  have kXA := XA.cell
  have zXA := XA.lt
  have kX1 := X1.cell
  have zX1 := X1.lt
  clear hb
  go_wp2_with fail
  have WDr := hid WW.drew
  have HXA_0 := hid XA.drew
  have HX1_0 := hid X1.drew
  clear zXA zX1
  clear WW XA X1
  refine wp_region_held_drew (S := (fun w' => w'.cell? ⟨w.heap.size, 0, none⟩ = some ((.slice A (nw a) c)) ∧ w'.cell? ⟨V4.heap.size, 0, none⟩ = some ((.slice D1 (nw k) d1)))) (by kernel_rfl) (⟨kXA, kX1⟩) (fun hHeld => ?_)
  refine wpAnyH_take (i := 0) (oi := { dst := some 31, op := Op.load 24 (Operand.tmp 3), type := 24, pos := "law.go:41", after := #[], guard := none }) (v := ?_) rfl (by kernel_rfl) (by kernel_rfl) (by kernel_rfl) (fun _ _ _ h => h) (Or.inl ⟨by rfl, ?_⟩) (by assumption) ?_
  rotate_left
  · (intro ws hSw; (try dsimp only at hSw); (try go_simp); (try with_reducible rfl))
  (try simp only [Act.put, List.setIfInBounds_toArray, List.set_cons_zero, List.set_cons_succ])
  refine wpAnyH_take (i := 2) (oi := { dst := some 33, op := Op.move (Operand.tmp 7), type := 4, pos := "law.go:41", after := #[], guard := none }) (v := ?_) rfl (by kernel_rfl) (by kernel_rfl) (by kernel_rfl) (fun _ _ _ h => h) (Or.inl ⟨by rfl, ?_⟩) (by assumption) ?_
  rotate_left
  · (intro ws hSw; (try dsimp only at hSw); (try go_simp); (try with_reducible rfl))
  (try simp only [Act.put, List.setIfInBounds_toArray, List.set_cons_zero, List.set_cons_succ])
  refine wpAnyH_ready (rs := [1]) (by kernel_rfl) (by simp) ?_
  refine AllReadyH.cons (o := { dst := some 32, op := Op.call { callee := Callee.value (Operand.func 16), args := #[Operand.tmp 31], argTypes := #[24] }, type := 4, pos := "law.go:41", after := #[{ on := 0, ground := Ground.data }], guard := none }) rfl (fun K hK => ?_) AllReadyH.nil
  go_simp
  have hc := valid_any A _ c a _ _ HXA_0.out.num (Nat.le_refl _) hn'
  rw [H1.out] at hc
  refine hc.mono ?_
  clear hc
  rintro e w6_1 ⟨rfl, hb⟩
  have HXA_1 := hid (HXA_0.out.below hb)
  have HX1_1 := hid (HX1_0.out.below hb)
  have qXA_1 := HXA_1.out.cell
  have qX1_1 := HX1_1.out.cell
  have WD_1 := hid (WDr.out.trans (hb.mono WDr.out.size))
  clear hb
  refine hK.out _ _ (⟨qXA_1, qX1_1⟩) (fun hHeld1 => ?_)
  clear hK K hHeld
  have hHeld := hHeld1
  clear hHeld1
  (try simp only [Act.put, List.setIfInBounds_toArray, List.set_cons_zero, List.set_cons_succ])
  refine wpAnyH_take (i := 3) (oi := { dst := some 34, op := Op.binOp BinOp.neq 4 (Operand.tmp 32) (Operand.tmp 33) 4, type := 4, pos := "law.go:41", after := #[{ on := 1, ground := Ground.data }, { on := 2, ground := Ground.data }], guard := none }) (v := ?_) rfl (by kernel_rfl) (by kernel_rfl) (by kernel_rfl) (fun _ _ _ h => h) (Or.inl ⟨by rfl, ?_⟩) (by assumption) ?_
  rotate_left
  · (intro ws hSw; (try dsimp only at hSw); (try go_simp); (try with_reducible rfl))
  (try simp only [Act.put, List.setIfInBounds_toArray, List.set_cons_zero, List.set_cons_succ])
  refine wpAnyH_take (i := 4) (oi := { dst := some 35, op := Op.move (Operand.tmp 34), type := 4, pos := "law.go:41", after := #[{ on := 3, ground := Ground.data }, { on := 1, ground := Ground.chain }], guard := none }) (v := ?_) rfl (by kernel_rfl) (by kernel_rfl) (by kernel_rfl) (fun _ _ _ h => h) (Or.inl ⟨by rfl, ?_⟩) (by assumption) ?_
  rotate_left
  · (intro ws hSw; (try dsimp only at hSw); (try go_simp); (try with_reducible rfl))
  (try simp only [Act.put, List.setIfInBounds_toArray, List.set_cons_zero, List.set_cons_succ])
  refine wpAnyH_take (i := 5) (oi := { dst := some 36, op := Op.move (Operand.tmp 1), type := 3, pos := "law.go:41", after := #[{ on := 4, ground := Ground.guard }], guard := some (4, false) }) (v := ?_) rfl (by kernel_rfl) (by kernel_rfl) (by kernel_rfl) (fun _ _ _ h => h) (Or.inl ⟨by rfl, ?_⟩) (by assumption) ?_
  rotate_left
  · (intro ws hSw; (try dsimp only at hSw); (try go_simp); (try with_reducible rfl))
  (try simp only [Act.put, List.setIfInBounds_toArray, List.set_cons_zero, List.set_cons_succ])
  refine wpAnyH_take (i := 6) (oi := { dst := some 37, op := Op.binOp BinOp.lss 3 (Operand.tmp 36) (Operand.const (Value.int IntKind.i64 0)) 3, type := 4, pos := "law.go:41", after := #[{ on := 5, ground := Ground.data }, { on := 4, ground := Ground.guard }], guard := some (4, false) }) (v := ?_) rfl (by kernel_rfl) (by kernel_rfl) (by kernel_rfl) (fun _ _ _ h => h) (Or.inl ⟨by rfl, ?_⟩) (by assumption) ?_
  rotate_left
  · (intro ws hSw; (try dsimp only at hSw); (try go_simp); (try with_reducible rfl))
  (try simp only [Act.put, List.setIfInBounds_toArray, List.set_cons_zero, List.set_cons_succ])
  refine wpAnyH_take (i := 7) (oi := { dst := some 38, op := Op.move (Operand.tmp 37), type := 4, pos := "law.go:41", after := #[{ on := 6, ground := Ground.data }, { on := 4, ground := Ground.chain }, { on := 4, ground := Ground.guard }], guard := some (4, false) }) (v := ?_) rfl (by kernel_rfl) (by kernel_rfl) (by kernel_rfl) (fun _ _ _ h => h) (Or.inl ⟨by rfl, ?_⟩) (by assumption) ?_
  rotate_left
  · (intro ws hSw; (try dsimp only at hSw); (try go_simp); (try with_reducible rfl))
  (try simp only [Act.put, List.setIfInBounds_toArray, List.set_cons_zero, List.set_cons_succ])
  refine wpAnyH_take (i := 8) (oi := { dst := some 39, op := Op.load 24 (Operand.tmp 8), type := 24, pos := "law.go:41", after := #[{ on := 7, ground := Ground.guard }], guard := some (7, true) }) (v := _) rfl (by kernel_rfl) (by kernel_rfl) (by kernel_rfl) (fun _ _ _ h => h) (Or.inr ⟨by rfl, rfl⟩) (by assumption) ?_
  (try simp only [Act.put, List.setIfInBounds_toArray, List.set_cons_zero, List.set_cons_succ])
  refine wpAnyH_take (i := 9) (oi := { dst := some 40, op := Op.move (Operand.tmp 9), type := 28, pos := "law.go:41", after := #[{ on := 7, ground := Ground.guard }], guard := some (7, true) }) (v := _) rfl (by kernel_rfl) (by kernel_rfl) (by kernel_rfl) (fun _ _ _ h => h) (Or.inr ⟨by rfl, rfl⟩) (by assumption) ?_
  (try simp only [Act.put, List.setIfInBounds_toArray, List.set_cons_zero, List.set_cons_succ])
  refine wpAnyH_take (i := 10) (oi := { dst := some 41, op := Op.build 24 #[], type := 24, pos := "law.go:41", after := #[{ on := 7, ground := Ground.guard }], guard := some (7, true) }) (v := _) rfl (by kernel_rfl) (by kernel_rfl) (by kernel_rfl) (fun _ _ _ h => h) (Or.inr ⟨by rfl, rfl⟩) (by assumption) ?_
  (try simp only [Act.put, List.setIfInBounds_toArray, List.set_cons_zero, List.set_cons_succ])
  refine wpAnyH_take (i := 11) (oi := { dst := some 42, op := Op.call { callee := Callee.value (Operand.func 17), args := #[Operand.tmp 39, Operand.tmp 40, Operand.tmp 41, Operand.const (Value.int IntKind.i64 2)], argTypes := #[24, 28, 24, 3] }, type := 4, pos := "law.go:41", after := #[{ on := 8, ground := Ground.data }, { on := 9, ground := Ground.data }, { on := 10, ground := Ground.data }, { on := 7, ground := Ground.chain }, { on := 7, ground := Ground.guard }], guard := some (7, true) }) (v := _) rfl (by kernel_rfl) (by kernel_rfl) (by kernel_rfl) (fun _ _ _ h => h) (Or.inr ⟨by rfl, rfl⟩) (by assumption) ?_
  (try simp only [Act.put, List.setIfInBounds_toArray, List.set_cons_zero, List.set_cons_succ])
  refine wpAnyH_take (i := 12) (oi := { dst := some 43, op := Op.unOp UnOp.not 4 (Operand.tmp 42), type := 4, pos := "law.go:41", after := #[{ on := 11, ground := Ground.data }, { on := 7, ground := Ground.guard }], guard := some (7, true) }) (v := _) rfl (by kernel_rfl) (by kernel_rfl) (by kernel_rfl) (fun _ _ _ h => h) (Or.inr ⟨by rfl, rfl⟩) (by assumption) ?_
  (try simp only [Act.put, List.setIfInBounds_toArray, List.set_cons_zero, List.set_cons_succ])
  refine wpAnyH_take (i := 13) (oi := { dst := some 44, op := Op.pick (Operand.tmp 38) (Operand.tmp 43) (Operand.const (Value.bool false)), type := 4, pos := "law.go:41", after := #[{ on := 7, ground := Ground.data }, { on := 12, ground := Ground.data }, { on := 4, ground := Ground.guard }], guard := some (4, false) }) (v := ?_) rfl (by kernel_rfl) (by kernel_rfl) (by kernel_rfl) (fun _ _ _ h => h) (Or.inl ⟨by rfl, ?_⟩) (by assumption) ?_
  rotate_left
  · (intro ws hSw; (try dsimp only at hSw); (try go_simp); (try with_reducible rfl))
  (try simp only [Act.put, List.setIfInBounds_toArray, List.set_cons_zero, List.set_cons_succ])
  refine wpAnyH_take (i := 14) (oi := { dst := some 45, op := Op.pick (Operand.tmp 35) (Operand.const (Value.bool true)) (Operand.tmp 44), type := 4, pos := "law.go:41", after := #[{ on := 4, ground := Ground.data }, { on := 13, ground := Ground.data }], guard := none }) (v := ?_) rfl (by kernel_rfl) (by kernel_rfl) (by kernel_rfl) (fun _ _ _ h => h) (Or.inl ⟨by rfl, ?_⟩) (by assumption) ?_
  rotate_left
  · (intro ws hSw; (try dsimp only at hSw); (try go_simp); (try with_reducible rfl))
  (try simp only [Act.put, List.setIfInBounds_toArray, List.set_cons_zero, List.set_cons_succ])
  refine wpAnyH_take (i := 15) (oi := { dst := some 46, op := Op.move (Operand.tmp 45), type := 4, pos := "law.go:41", after := #[{ on := 14, ground := Ground.data }, { on := 11, ground := Ground.chain }], guard := none }) (v := ?_) rfl (by kernel_rfl) (by kernel_rfl) (by kernel_rfl) (fun _ _ _ h => h) (Or.inl ⟨by rfl, ?_⟩) (by assumption) ?_
  rotate_left
  · (intro ws hSw; (try dsimp only at hSw); (try go_simp); (try with_reducible rfl))
  (try simp only [Act.put, List.setIfInBounds_toArray, List.set_cons_zero, List.set_cons_succ])
  refine wpAnyH_take (i := 16) (oi := { dst := some 47, op := Op.move (Operand.tmp 1), type := 3, pos := "law.go:41", after := #[{ on := 15, ground := Ground.guard }], guard := some (15, false) }) (v := ?_) rfl (by kernel_rfl) (by kernel_rfl) (by kernel_rfl) (fun _ _ _ h => h) (Or.inl ⟨by rfl, ?_⟩) (by assumption) ?_
  rotate_left
  · (intro ws hSw; (try dsimp only at hSw); (try go_simp); (try with_reducible rfl))
  (try simp only [Act.put, List.setIfInBounds_toArray, List.set_cons_zero, List.set_cons_succ])
  refine wpAnyH_take (i := 17) (oi := { dst := some 48, op := Op.binOp BinOp.geq 3 (Operand.tmp 47) (Operand.const (Value.int IntKind.i64 0)) 3, type := 4, pos := "law.go:41", after := #[{ on := 16, ground := Ground.data }, { on := 15, ground := Ground.guard }], guard := some (15, false) }) (v := ?_) rfl (by kernel_rfl) (by kernel_rfl) (by kernel_rfl) (fun _ _ _ h => h) (Or.inl ⟨by rfl, ?_⟩) (by assumption) ?_
  rotate_left
  · (intro ws hSw; (try dsimp only at hSw); (try go_simp); (try with_reducible rfl))
  (try simp only [Act.put, List.setIfInBounds_toArray, List.set_cons_zero, List.set_cons_succ])
  refine wpAnyH_take (i := 18) (oi := { dst := some 49, op := Op.move (Operand.tmp 48), type := 4, pos := "law.go:41", after := #[{ on := 17, ground := Ground.data }, { on := 15, ground := Ground.chain }, { on := 15, ground := Ground.guard }], guard := some (15, false) }) (v := ?_) rfl (by kernel_rfl) (by kernel_rfl) (by kernel_rfl) (fun _ _ _ h => h) (Or.inl ⟨by rfl, ?_⟩) (by assumption) ?_
  rotate_left
  · (intro ws hSw; (try dsimp only at hSw); (try go_simp); (try with_reducible rfl))
  (try simp only [Act.put, List.setIfInBounds_toArray, List.set_cons_zero, List.set_cons_succ])
  refine wpAnyH_take (i := 19) (oi := { dst := some 50, op := Op.load 24 (Operand.tmp 8), type := 24, pos := "law.go:41", after := #[{ on := 18, ground := Ground.guard }], guard := some (18, true) }) (v := ?_) rfl (by kernel_rfl) (by kernel_rfl) (by kernel_rfl) (fun _ _ _ h => h) (Or.inl ⟨by rfl, ?_⟩) (by assumption) ?_
  rotate_left
  · (intro ws hSw; (try dsimp only at hSw); (try go_simp); (try with_reducible rfl))
  (try simp only [Act.put, List.setIfInBounds_toArray, List.set_cons_zero, List.set_cons_succ])
  refine wpAnyH_take (i := 20) (oi := { dst := some 51, op := Op.move (Operand.tmp 9), type := 28, pos := "law.go:41", after := #[{ on := 18, ground := Ground.guard }], guard := some (18, true) }) (v := ?_) rfl (by kernel_rfl) (by kernel_rfl) (by kernel_rfl) (fun _ _ _ h => h) (Or.inl ⟨by rfl, ?_⟩) (by assumption) ?_
  rotate_left
  · (intro ws hSw; (try dsimp only at hSw); (try go_simp); (try with_reducible rfl))
  (try simp only [Act.put, List.setIfInBounds_toArray, List.set_cons_zero, List.set_cons_succ])
  refine wpAnyH_take (i := 21) (oi := { dst := some 52, op := Op.move (Operand.tmp 1), type := 3, pos := "law.go:41", after := #[{ on := 18, ground := Ground.guard }], guard := some (18, true) }) (v := ?_) rfl (by kernel_rfl) (by kernel_rfl) (by kernel_rfl) (fun _ _ _ h => h) (Or.inl ⟨by rfl, ?_⟩) (by assumption) ?_
  rotate_left
  · (intro ws hSw; (try dsimp only at hSw); (try go_simp); (try with_reducible rfl))
  (try simp only [Act.put, List.setIfInBounds_toArray, List.set_cons_zero, List.set_cons_succ])
  refine wpAnyH_ready (rs := [22]) (by kernel_rfl) (by simp) ?_
  refine AllReadyH.cons (o := { dst := some 53, op := Op.call { callee := Callee.value (Operand.func 18), args := #[Operand.tmp 52], argTypes := #[3] }, type := 24, pos := "law.go:41", after := #[{ on := 21, ground := Ground.data }, { on := 18, ground := Ground.chain }, { on := 18, ground := Ground.guard }], guard := some (18, true) }) rfl (fun K hK => ?_) AllReadyH.nil
  go_simp
  have hc := rof_any k w6_1 (by omega)
  refine hc.mono ?_
  clear hc
  rintro e w6_2 ⟨v, rfl, hv, hb⟩
  obtain ⟨DY, dY, rfl, hv'⟩ := hv.open_
  have NY_2 := hid hv'
  clear hv hv'
  have HXA_2 := hid (HXA_1.out.below hb)
  have HX1_2 := hid (HX1_1.out.below hb)
  have qXA_2 := HXA_2.out.cell
  have qX1_2 := HX1_2.out.cell
  have WD_2 := hid (WD_1.out.trans (hb.mono WD_1.out.size))
  clear hb
  refine hK.out _ _ (⟨qXA_2, qX1_2⟩) (fun hHeld22 => ?_)
  clear hK K hHeld
  have hHeld := hHeld22
  clear hHeld22
  (try simp only [Act.put, List.setIfInBounds_toArray, List.set_cons_zero, List.set_cons_succ])
  refine wpAnyH_ready (rs := [23]) (by kernel_rfl) (by simp) ?_
  refine AllReadyH.cons (o := { dst := some 54, op := Op.call { callee := Callee.value (Operand.func 17), args := #[Operand.tmp 50, Operand.tmp 51, Operand.tmp 53, Operand.const (Value.int IntKind.i64 0)], argTypes := #[24, 28, 24, 3] }, type := 4, pos := "law.go:41", after := #[{ on := 19, ground := Ground.data }, { on := 20, ground := Ground.data }, { on := 22, ground := Ground.data }, { on := 22, ground := Ground.chain }, { on := 18, ground := Ground.guard }], guard := some (18, true) }) rfl (fun K hK => ?_) AllReadyH.nil
  go_simp
  have hc := is_any D1 DY _ _ d1 dY k k 0 0 _ HX1_2.out.num NY_2.out (by omega) (by omega)
  rw [is_self] at hc
  refine hc.mono ?_
  clear hc
  rintro e w6_3 ⟨rfl, hb⟩
  have HXA_3 := hid (HXA_2.out.below hb)
  have HX1_3 := hid (HX1_2.out.below hb)
  have qXA_3 := HXA_3.out.cell
  have qX1_3 := HX1_3.out.cell
  have NY_3 := hid ((NY_2.out.below hb).more hb.size)
  have WD_3 := hid (WD_2.out.trans (hb.mono WD_2.out.size))
  clear hb
  refine hK.out _ _ (⟨qXA_3, qX1_3⟩) (fun hHeld23 => ?_)
  clear hK K hHeld
  have hHeld := hHeld23
  clear hHeld23
  (try simp only [Act.put, List.setIfInBounds_toArray, List.set_cons_zero, List.set_cons_succ])
  refine wpAnyH_take (i := 24) (oi := { dst := some 55, op := Op.unOp UnOp.not 4 (Operand.tmp 54), type := 4, pos := "law.go:41", after := #[{ on := 23, ground := Ground.data }, { on := 18, ground := Ground.guard }], guard := some (18, true) }) (v := ?_) rfl (by kernel_rfl) (by kernel_rfl) (by kernel_rfl) (fun _ _ _ h => h) (Or.inl ⟨by rfl, ?_⟩) (by assumption) ?_
  rotate_left
  · (intro ws hSw; (try dsimp only at hSw); (try go_simp); (try with_reducible rfl))
  (try simp only [Act.put, List.setIfInBounds_toArray, List.set_cons_zero, List.set_cons_succ])
  refine wpAnyH_take (i := 25) (oi := { dst := some 56, op := Op.pick (Operand.tmp 49) (Operand.tmp 55) (Operand.const (Value.bool false)), type := 4, pos := "law.go:41", after := #[{ on := 18, ground := Ground.data }, { on := 24, ground := Ground.data }, { on := 15, ground := Ground.guard }], guard := some (15, false) }) (v := ?_) rfl (by kernel_rfl) (by kernel_rfl) (by kernel_rfl) (fun _ _ _ h => h) (Or.inl ⟨by rfl, ?_⟩) (by assumption) ?_
  rotate_left
  · (intro ws hSw; (try dsimp only at hSw); (try go_simp); (try with_reducible rfl))
  (try simp only [Act.put, List.setIfInBounds_toArray, List.set_cons_zero, List.set_cons_succ])
  refine wpAnyH_take (i := 26) (oi := { dst := some 57, op := Op.pick (Operand.tmp 46) (Operand.const (Value.bool true)) (Operand.tmp 56), type := 4, pos := "law.go:41", after := #[{ on := 15, ground := Ground.data }, { on := 25, ground := Ground.data }], guard := none }) (v := ?_) rfl (by kernel_rfl) (by kernel_rfl) (by kernel_rfl) (fun _ _ _ h => h) (Or.inl ⟨by rfl, ?_⟩) (by assumption) ?_
  rotate_left
  · (intro ws hSw; (try dsimp only at hSw); (try go_simp); (try with_reducible rfl))
  (try simp only [Act.put, List.setIfInBounds_toArray, List.set_cons_zero, List.set_cons_succ])
  refine wpAnyH_done (by kernel_rfl) ?_ _
  clear hHeld
  clear kXA kX1 qXA_1 qX1_1 qXA_2 qX1_2 qXA_3 qX1_3
  have XA := HXA_3.out
  have X1 := HX1_3.out
  have WW := WD_3.out
  clear HXA_0 HX1_0 HXA_1 HX1_1 HXA_2 HX1_2 HXA_3 HX1_3 WDr WD_1 WD_2 WD_3
  have kXA := XA.cell
  have zXA := XA.lt
  have kX1 := X1.cell
  have zX1 := X1.lt
  go_wp2_with fail
  clear X1 kX1 zX1
  have WDr := hid WW.drew
  have HXA_0 := hid XA.drew
  clear zXA
  clear WW XA
  refine wp_region_held_drew (S := (fun w' => w'.cell? ⟨w.heap.size, 0, none⟩ = some ((.slice A (nw a) c)))) (by kernel_rfl) (kXA) (fun hHeld => ?_)
  refine wpAnyH_take (i := 0) (oi := { dst := some 77, op := Op.load 24 (Operand.tmp 3), type := 24, pos := "law.go:47", after := #[], guard := none }) (v := ?_) rfl (by kernel_rfl) (by kernel_rfl) (by kernel_rfl) (fun _ _ _ h => h) (Or.inl ⟨by rfl, ?_⟩) (by assumption) ?_
  rotate_left
  · (intro ws hSw; (try dsimp only at hSw); (try go_simp); (try with_reducible rfl))
  (try simp only [Act.put, List.setIfInBounds_toArray, List.set_cons_zero, List.set_cons_succ])
  refine wpAnyH_take (i := 2) (oi := { dst := some 79, op := Op.load 24 (Operand.tmp 3), type := 24, pos := "law.go:47", after := #[], guard := none }) (v := ?_) rfl (by kernel_rfl) (by kernel_rfl) (by kernel_rfl) (fun _ _ _ h => h) (Or.inl ⟨by rfl, ?_⟩) (by assumption) ?_
  rotate_left
  · (intro ws hSw; (try dsimp only at hSw); (try go_simp); (try with_reducible rfl))
  (try simp only [Act.put, List.setIfInBounds_toArray, List.set_cons_zero, List.set_cons_succ])
  refine wpAnyH_ready (rs := [1]) (by kernel_rfl) (by simp) ?_
  refine AllReadyH.cons (o := { dst := some 78, op := Op.call { callee := Callee.value (Operand.func 19), args := #[Operand.tmp 77], argTypes := #[24] }, type := 3, pos := "law.go:47", after := #[{ on := 0, ground := Ground.data }], guard := none }) rfl (fun K hK => ?_) AllReadyH.nil
  go_simp
  have hc := bits_any A _ c a _ HXA_0.out.num hn'
  rw [BA.out] at hc
  refine hc.mono ?_
  clear hc
  rintro e w7_1 ⟨rfl, hb⟩
  have HXA_1 := hid (HXA_0.out.below hb)
  have qXA_1 := HXA_1.out.cell
  have WD_1 := hid (WDr.out.trans (hb.mono WDr.out.size))
  clear hb
  refine hK.out _ _ (qXA_1) (fun hHeld1 => ?_)
  clear hK K hHeld
  have hHeld := hHeld1
  clear hHeld1
  (try simp only [Act.put, List.setIfInBounds_toArray, List.set_cons_zero, List.set_cons_succ])
  refine wpAnyH_ready (rs := [3]) (by kernel_rfl) (by simp) ?_
  refine AllReadyH.cons (o := { dst := some 80, op := Op.call { callee := Callee.value (Operand.func 21), args := #[Operand.tmp 79], argTypes := #[24] }, type := 3, pos := "law.go:47", after := #[{ on := 2, ground := Ground.data }, { on := 1, ground := Ground.chain }], guard := none }) rfl (fun K hK => ?_) AllReadyH.nil
  go_simp
  have hc := rbits_any A _ c a _ HXA_1.out.num (by omega)
  refine hc.mono ?_
  clear hc
  rintro e w7_2 ⟨rfl, hb⟩
  have HXA_2 := hid (HXA_1.out.below hb)
  have qXA_2 := HXA_2.out.cell
  have WD_2 := hid (WD_1.out.trans (hb.mono WD_1.out.size))
  clear hb
  refine hK.out _ _ (qXA_2) (fun hHeld3 => ?_)
  clear hK K hHeld
  have hHeld := hHeld3
  clear hHeld3
  (try simp only [Act.put, List.setIfInBounds_toArray, List.set_cons_zero, List.set_cons_succ])
  refine wpAnyH_take (i := 4) (oi := { dst := some 81, op := Op.binOp BinOp.neq 3 (Operand.tmp 78) (Operand.tmp 80) 3, type := 4, pos := "law.go:47", after := #[{ on := 1, ground := Ground.data }, { on := 3, ground := Ground.data }], guard := none }) (v := ?_) rfl (by kernel_rfl) (by kernel_rfl) (by kernel_rfl) (fun _ _ _ h => h) (Or.inl ⟨by rfl, ?_⟩) (by assumption) ?_
  rotate_left
  · (intro ws hSw; (try dsimp only at hSw); (try go_simp); (try with_reducible rfl))
  (try simp only [Act.put, List.setIfInBounds_toArray, List.set_cons_zero, List.set_cons_succ])
  refine wpAnyH_take (i := 5) (oi := { dst := some 82, op := Op.move (Operand.tmp 81), type := 4, pos := "law.go:47", after := #[{ on := 4, ground := Ground.data }, { on := 3, ground := Ground.chain }], guard := none }) (v := ?_) rfl (by kernel_rfl) (by kernel_rfl) (by kernel_rfl) (fun _ _ _ h => h) (Or.inl ⟨by rfl, ?_⟩) (by assumption) ?_
  rotate_left
  · (intro ws hSw; (try dsimp only at hSw); (try go_simp); (try with_reducible rfl))
  (try simp only [Act.put, List.setIfInBounds_toArray, List.set_cons_zero, List.set_cons_succ])
  refine wpAnyH_take (i := 6) (oi := { dst := some 83, op := Op.load 24 (Operand.tmp 3), type := 24, pos := "law.go:47", after := #[{ on := 5, ground := Ground.guard }], guard := some (5, false) }) (v := ?_) rfl (by kernel_rfl) (by kernel_rfl) (by kernel_rfl) (fun _ _ _ h => h) (Or.inl ⟨by rfl, ?_⟩) (by assumption) ?_
  rotate_left
  · (intro ws hSw; (try dsimp only at hSw); (try go_simp); (try with_reducible rfl))
  (try simp only [Act.put, List.setIfInBounds_toArray, List.set_cons_zero, List.set_cons_succ])
  refine wpAnyH_take (i := 7) (oi := { dst := some 84, op := Op.move (Operand.tmp 2), type := 3, pos := "law.go:47", after := #[{ on := 5, ground := Ground.guard }], guard := some (5, false) }) (v := ?_) rfl (by kernel_rfl) (by kernel_rfl) (by kernel_rfl) (fun _ _ _ h => h) (Or.inl ⟨by rfl, ?_⟩) (by assumption) ?_
  rotate_left
  · (intro ws hSw; (try dsimp only at hSw); (try go_simp); (try with_reducible rfl))
  (try simp only [Act.put, List.setIfInBounds_toArray, List.set_cons_zero, List.set_cons_succ])
  refine wpAnyH_take (i := 9) (oi := { dst := some 86, op := Op.load 24 (Operand.tmp 3), type := 24, pos := "law.go:47", after := #[{ on := 5, ground := Ground.guard }], guard := some (5, false) }) (v := ?_) rfl (by kernel_rfl) (by kernel_rfl) (by kernel_rfl) (fun _ _ _ h => h) (Or.inl ⟨by rfl, ?_⟩) (by assumption) ?_
  rotate_left
  · (intro ws hSw; (try dsimp only at hSw); (try go_simp); (try with_reducible rfl))
  (try simp only [Act.put, List.setIfInBounds_toArray, List.set_cons_zero, List.set_cons_succ])
  refine wpAnyH_take (i := 10) (oi := { dst := some 87, op := Op.move (Operand.tmp 2), type := 3, pos := "law.go:47", after := #[{ on := 5, ground := Ground.guard }], guard := some (5, false) }) (v := ?_) rfl (by kernel_rfl) (by kernel_rfl) (by kernel_rfl) (fun _ _ _ h => h) (Or.inl ⟨by rfl, ?_⟩) (by assumption) ?_
  rotate_left
  · (intro ws hSw; (try dsimp only at hSw); (try go_simp); (try with_reducible rfl))
  (try simp only [Act.put, List.setIfInBounds_toArray, List.set_cons_zero, List.set_cons_succ])
  refine wpAnyH_ready (rs := [8]) (by kernel_rfl) (by simp) ?_
  refine AllReadyH.cons (o := { dst := some 85, op := Op.call { callee := Callee.value (Operand.func 20), args := #[Operand.tmp 83, Operand.tmp 84], argTypes := #[24, 3] }, type := 4, pos := "law.go:47", after := #[{ on := 6, ground := Ground.data }, { on := 7, ground := Ground.data }, { on := 5, ground := Ground.chain }, { on := 5, ground := Ground.guard }], guard := some (5, false) }) rfl (fun K hK => ?_) AllReadyH.nil
  go_simp
  have hc := bit_any A _ c a i _ HXA_2.out.num hn' i0 i1
  rw [TA.out] at hc
  refine hc.mono ?_
  clear hc
  rintro e w7_3 ⟨rfl, hb⟩
  have HXA_3 := hid (HXA_2.out.below hb)
  have qXA_3 := HXA_3.out.cell
  have WD_3 := hid (WD_2.out.trans (hb.mono WD_2.out.size))
  clear hb
  refine hK.out _ _ (qXA_3) (fun hHeld8 => ?_)
  clear hK K hHeld
  have hHeld := hHeld8
  clear hHeld8
  (try simp only [Act.put, List.setIfInBounds_toArray, List.set_cons_zero, List.set_cons_succ])
  refine wpAnyH_ready (rs := [11]) (by kernel_rfl) (by simp) ?_
  refine AllReadyH.cons (o := { dst := some 88, op := Op.call { callee := Callee.value (Operand.func 22), args := #[Operand.tmp 86, Operand.tmp 87], argTypes := #[24, 3] }, type := 4, pos := "law.go:47", after := #[{ on := 9, ground := Ground.data }, { on := 10, ground := Ground.data }, { on := 8, ground := Ground.chain }, { on := 5, ground := Ground.guard }], guard := some (5, false) }) rfl (fun K hK => ?_) AllReadyH.nil
  go_simp
  have hc := rbit_any A _ c a i _ HXA_3.out.num (by omega) i0 i1
  rw [TR.out] at hc
  refine hc.mono ?_
  clear hc
  rintro e w7_4 ⟨rfl, hb⟩
  have HXA_4 := hid (HXA_3.out.below hb)
  have qXA_4 := HXA_4.out.cell
  have WD_4 := hid (WD_3.out.trans (hb.mono WD_3.out.size))
  clear hb
  refine hK.out _ _ (qXA_4) (fun hHeld11 => ?_)
  clear hK K hHeld
  have hHeld := hHeld11
  clear hHeld11
  (try simp only [Act.put, List.setIfInBounds_toArray, List.set_cons_zero, List.set_cons_succ])
  refine wpAnyH_take (i := 12) (oi := { dst := some 89, op := Op.binOp BinOp.neq 4 (Operand.tmp 85) (Operand.tmp 88) 4, type := 4, pos := "law.go:47", after := #[{ on := 8, ground := Ground.data }, { on := 11, ground := Ground.data }, { on := 5, ground := Ground.guard }], guard := some (5, false) }) (v := ?_) rfl (by kernel_rfl) (by kernel_rfl) (by kernel_rfl) (fun _ _ _ h => h) (Or.inl ⟨by rfl, ?_⟩) (by assumption) ?_
  rotate_left
  · (intro ws hSw; (try dsimp only at hSw); (try go_simp); (try with_reducible rfl))
  (try simp only [Act.put, List.setIfInBounds_toArray, List.set_cons_zero, List.set_cons_succ])
  refine wpAnyH_take (i := 13) (oi := { dst := some 90, op := Op.pick (Operand.tmp 82) (Operand.const (Value.bool true)) (Operand.tmp 89), type := 4, pos := "law.go:47", after := #[{ on := 5, ground := Ground.data }, { on := 12, ground := Ground.data }], guard := none }) (v := ?_) rfl (by kernel_rfl) (by kernel_rfl) (by kernel_rfl) (fun _ _ _ h => h) (Or.inl ⟨by rfl, ?_⟩) (by assumption) ?_
  rotate_left
  · (intro ws hSw; (try dsimp only at hSw); (try go_simp); (try with_reducible rfl))
  (try simp only [Act.put, List.setIfInBounds_toArray, List.set_cons_zero, List.set_cons_succ])
  refine wpAnyH_done (by kernel_rfl) ?_ _
  clear hHeld
  clear kXA qXA_1 qXA_2 qXA_3 qXA_4
  have XA := HXA_4.out
  have WW := WD_4.out
  clear HXA_0 HXA_1 HXA_2 HXA_3 HXA_4 WDr WD_1 WD_2 WD_3 WD_4
  have kXA := XA.cell
  have zXA := XA.lt
  go_wp2_with fail
  have hc := rint_any A c a w7_4 XA.num hn1
  rw [RA.out] at hc
  refine hc.mono ?_
  clear hc
  rintro e V9 ⟨rfl, hb⟩
  clear kXA zXA
  replace XA := XA.below hb
  replace WW := WW.trans (hb.mono WW.size)
  have kXA := XA.cell
  have zXA := XA.lt
  clear hb
  go_wp2_with fail
  go_ret
  exact ⟨rfl, WW⟩

theorem naturalInts_walk (A : Option Addr) (n c a : Nat) (x i : Int) (w : World) (hA : Num w w.heap.size A n a) (hn : n ≤ 9223372036854775807) (hx : -9223372036854775808 ≤ x ∧ x ≤ 9223372036854775807) (hi : -9223372036854775808 ≤ i ∧ i ≤ 9223372036854775807) :
    Calls Try.prog 3 #[.agg #[.slice A n c], .int .i64 x, .int .i64 i] w (RetB (.bool true) w) := by
  by_cases hg : 100 < n
  · have HG := hid (decide_eq_true hg)
    clear hg
    obtain ⟨b0, bw⟩ := boxes1 w (.slice A n c)
    have XA := Box.mk b0 hA bw
    have WW := bw
    clear bw b0
    go_enter Try.func3, Try.ntmps3
    go_wp2_with fail
    generalize hV : (w.alloc (.cells #[.slice A n c] 24)) = V0 at XA WW ⊢
    clear hV
    have hc := awake_any V0
    refine hc.mono ?_
    clear hc
    rintro e V1 ⟨rfl, hb⟩
    replace XA := XA.below hb
    replace WW := WW.trans (hb.mono WW.size)
    have kXA := XA.cell
    have zXA := XA.lt
    clear hb
    go_wp2_with fail
    have hc := great_1 V1 A _ c hn
    rw [HG.out] at hc
    refine hc.mono ?_
    clear hc
    rintro e V2 ⟨rfl, hb⟩
    clear kXA zXA
    replace XA := XA.below hb
    replace WW := WW.trans (hb.mono WW.size)
    have kXA := XA.cell
    have zXA := XA.lt
    clear hb
    go_wp2_with fail
    go_ret
    exact ⟨rfl, WW⟩
  · cases h1 : okB n a
    · by_cases h0 : x < 0
      · exact ints_n_bad A c a n 0 x i w hA (by omega) h1 ⟨h0, hx.1⟩ hi.1 hi.2
      · exact ints_p_bad A c a n x.toNat x i w hA (by omega) h1 ⟨by omega, by omega⟩ hi.1 hi.2
    · obtain ⟨hna, hn1⟩ := okB_yes.1 h1
      subst hna
      by_cases h0 : x < 0
      · by_cases hb : bl a ≤ 63
        · exact ints_n_fits A c a 0 x i w hA hn1 hb ⟨h0, hx.1⟩ hi.1 hi.2
        · exact ints_n_big A c a 0 x i w hA hn1 hb ⟨h0, hx.1⟩ hi.1 hi.2
      · by_cases hb : bl a ≤ 63
        · exact ints_p_fits A c a x.toNat x i w hA hn1 hb ⟨by omega, by omega⟩ hi.1 hi.2
        · exact ints_p_big A c a x.toNat x i w hA hn1 hb ⟨by omega, by omega⟩ hi.1 hi.2

end Go.Proofs.Ytlhfaaghfhiaoaa
