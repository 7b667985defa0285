/- The reference's Hex. -/
import Derived.Test.YtenmdfhdiepfcaaDoorLTx1
set_option linter.unusedVariables false
set_option linter.unusedSimpArgs false
namespace Go.Proofs.YtenmdfhdiepfcaaDoor
open Go Go.RowKit
def oq25_6_0 : Oper := { dst := some 10, op := Op.move (Operand.tmp 4), type := 22, pos := "ref.go:128", after := #[], guard := none }
def oq25_6_1 : Oper := { dst := some 11, op := Op.move (Operand.tmp 3), type := 9, pos := "ref.go:128", after := #[], guard := none }
def oq25_6_2 : Oper := { dst := some 12, op := Op.move (Operand.tmp 5), type := 3, pos := "ref.go:128", after := #[], guard := none }
def oq25_6_3 : Oper := { dst := some 13, op := Op.indexAddr 25 (Operand.tmp 1) (Operand.tmp 12), type := 0, pos := "ref.go:128", after := #[{ on := 2, ground := Ground.data }], guard := none }
def oq25_6_4 : Oper := { dst := some 14, op := Op.load 5 (Operand.tmp 13), type := 5, pos := "ref.go:128", after := #[{ on := 3, ground := Ground.data }], guard := none }
def oq25_6_5 : Oper := { dst := some 15, op := Op.binOp BinOp.quo 5 (Operand.tmp 14) (Operand.const (Value.int IntKind.u8 16)) 5, type := 5, pos := "ref.go:128", after := #[{ on := 4, ground := Ground.data }], guard := none }
def oq25_6_6 : Oper := { dst := some 16, op := Op.index 9 (Operand.tmp 11) (Operand.tmp 15), type := 5, pos := "ref.go:128", after := #[{ on := 1, ground := Ground.data }, { on := 5, ground := Ground.data }], guard := none }
def oq25_6_7 : Oper := { dst := some 17, op := Op.move (Operand.tmp 3), type := 9, pos := "ref.go:128", after := #[], guard := none }
def oq25_6_8 : Oper := { dst := some 18, op := Op.move (Operand.tmp 5), type := 3, pos := "ref.go:128", after := #[], guard := none }
def oq25_6_9 : Oper := { dst := some 19, op := Op.indexAddr 25 (Operand.tmp 1) (Operand.tmp 18), type := 0, pos := "ref.go:128", after := #[{ on := 8, ground := Ground.data }], guard := none }
def oq25_6_10 : Oper := { dst := some 20, op := Op.load 5 (Operand.tmp 19), type := 5, pos := "ref.go:128", after := #[{ on := 9, ground := Ground.data }], guard := none }
def oq25_6_11 : Oper := { dst := some 21, op := Op.binOp BinOp.rem 5 (Operand.tmp 20) (Operand.const (Value.int IntKind.u8 16)) 5, type := 5, pos := "ref.go:128", after := #[{ on := 10, ground := Ground.data }], guard := none }
def oq25_6_12 : Oper := { dst := some 22, op := Op.index 9 (Operand.tmp 17) (Operand.tmp 21), type := 5, pos := "ref.go:128", after := #[{ on := 7, ground := Ground.data }, { on := 11, ground := Ground.data }], guard := none }
def oq25_6_13 : Oper := { dst := some 23, op := Op.buildSlice 22 2 #[(0, Operand.tmp 16), (1, Operand.tmp 22)], type := 22, pos := "ref.go:128", after := #[{ on := 6, ground := Ground.data }, { on := 12, ground := Ground.data }], guard := none }
def oq25_6_14 : Oper := { dst := some 24, op := Op.call { callee := Callee.builtin Builtin.append, args := #[Operand.tmp 10, Operand.tmp 23], argTypes := #[22, 22] }, type := 22, pos := "ref.go:128", after := #[{ on := 0, ground := Ground.data }, { on := 13, ground := Ground.data }], guard := none }
def oq25_6_15 : Oper := { dst := some 4, op := Op.assign (Operand.tmp 24), type := 22, pos := "ref.go:128", after := #[{ on := 14, ground := Ground.data }, { on := 14, ground := Ground.chain }, { on := 0, ground := Ground.phase }, { on := 1, ground := Ground.phase }, { on := 2, ground := Ground.phase }, { on := 3, ground := Ground.phase }, { on := 4, ground := Ground.phase }, { on := 5, ground := Ground.phase }, { on := 6, ground := Ground.phase }, { on := 7, ground := Ground.phase }, { on := 8, ground := Ground.phase }, { on := 9, ground := Ground.phase }, { on := 10, ground := Ground.phase }, { on := 11, ground := Ground.phase }, { on := 12, ground := Ground.phase }, { on := 13, ground := Ground.phase }, { on := 14, ground := Ground.phase }], guard := none }

set_option maxRecDepth 100000 in
set_option maxHeartbeats 4000000 in
theorem ref_hex (l : List Nat) (w : World) (hl : l.length = 32) (h8 : ∀ i, l.getD i 0 < 256) :
    Calls Tryd.prog 25 #[hv l] w (fun e w' => e = .returned (.string (strN (hexL l))) ∧ Below w.heap.size w w') := by
  obtain ⟨ca, hca⟩ : ∃ cs, cs = brow l := ⟨_, rfl⟩
  have hv1 : hv l = .agg ca := by rw [hca]; rfl
  rw [hv1]
  have HCA := hid hca
  have HL := hid hl
  have H8 := hid h8
  have b1 := Blk.new w 25 ca
  have WW0 := (Below.refl w.heap.size w).alloc (Nat.le_refl _) (.cells ca 25)
  have hz0 : w.heap.size < (w.alloc (.cells ca 25)).heap.size := by simp
  clear hca hv1 hl h8
  go_enter Tryd.func25, Tryd.ntmps25
  go_wp2_with fail
  generalize hV : w.alloc (.cells ca 25) = V0 at b1 WW0 hz0 ⊢
  clear hV
  have HB1 := hid b1
  clear b1
  go_loopw [4, 5] (fun v i wr => ∃ k : Nat, k ≤ 32 ∧ i = .int .i64 ((k : Nat) : Int) ∧ Below V0.heap.size V0 wr ∧ OB wr V0.heap.size v (hexL (l.take k))) (fun v i wr => 32 - (intOf i).toNat)
  case atStart => exact ⟨0, by omega, rfl, Below.refl _ _, OB.nil _ _⟩
  case round =>
    obtain ⟨k, hk, rfl, WW, OO⟩ := hrel
    by_cases hlt : k < 32
    · have hcell : ∀ V, Blk V w.heap.size 25 ca → V.cell? ⟨w.heap.size, k, none⟩ = some (.int .u8 ((l.getD k 0 : Nat) : Int)) := fun V h => by rw [HCA.out] at h; exact h.readb (by rw [HL.out]; exact hlt)
      have hx8 := H8.out k
      have HX : Hid (_ = _) := hexL_snoc l (k := k) (by rw [HL.out]; exact hlt)
      have HLL : Hid ((hexL (l.take k)).length ≤ 1000000) := (show _ ≤ _ by rw [hexL_len, List.length_take]; omega)
      generalize l.getD k 0 = x at hcell HX hx8
      obtain ⟨y, hy⟩ : ∃ y, y = x / 16 := ⟨_, rfl⟩
      obtain ⟨z, hz⟩ : ∃ z, z = x % 16 := ⟨_, rfl⟩
      rw [← hy, ← hz] at HX
      have ey : ((x : Nat) : Int) / 16 = ((y : Nat) : Int) := by omega
      have ez : ((x : Nat) : Int) % 16 = ((z : Nat) : Int) := by omega
      have eyt : ((x : Nat) : Int).tdiv 16 = ((y : Nat) : Int) := by rw [hy]; rfl
      have ezt : ((x : Nat) : Int).tmod 16 = ((z : Nat) : Int) := by rw [hz]; rfl
      have eyv : IntKind.u8.wrap ((y : Nat) : Int) = ((y : Nat) : Int) := by rw [IntKind.wrap_u8]; omega
      have ezv : IntKind.u8.wrap ((z : Nat) : Int) = ((z : Nat) : Int) := by rw [IntKind.wrap_u8]; omega
      have i1 : ∀ w', (Instr.index 9 (.string { data := #[48, 49, 50, 51, 52, 53, 54, 55, 56, 57, 97, 98, 99, 100, 101, 102] }) (.int .u8 ((y : Nat) : Int))).run Tryd.prog w' = .ok (.int .u8 ((sym y : Nat) : Int)) w' := fun w' => index_sym y (by omega) w'
      have i2 : ∀ w', (Instr.index 9 (.string { data := #[48, 49, 50, 51, 52, 53, 54, 55, 56, 57, 97, 98, 99, 100, 101, 102] }) (.int .u8 ((z : Nat) : Int))).run Tryd.prog w' = .ok (.int .u8 ((sym z : Nat) : Int)) w' := fun w' => index_sym z (by omega) w'
      have hk32 : ((k : Nat) : Int) < 32 := by omega
      have hk33 : ¬ ((k : Nat) : Int) < 0 := by omega
      clear hy hz
      go_wp2_with fail
      have hsz : V0.heap.size ≤ wr.drew.heap.size := WW.size
      replace WW := WW.drew
      replace OO : OB wr.drew V0.heap.size u4 (hexL (l.take k)) := OO.drew
      have hst : (fun V => Blk V w.heap.size 25 ca) wr.drew := HB1.out.below WW HB1.out.lt
      refine region_L 23 (fun V => Blk V w.heap.size 25 ca) (by kernel_rfl) hst (fun hHeld => ?_)
      clear hst
      generalize hV : wr.drew = V2 at hHeld WW OO hsz ⊢
      clear hV
      refine AnyL_take (i := 0) (oi := oq25_6_0) (v := ?_) rfl (by kernel_rfl) (by kernel_rfl) (by kernel_rfl) (by kernel_rfl) (fun _ _ _ h => h) (Or.inl ⟨by rfl, ?_⟩) (by assumption) ?_
      rotate_left
      · (delta oq25_6_0; intro ws hSw; (try dsimp only at hSw); (try go_simp); (try with_reducible rfl))
      (try simp only [oq25_6_0, Act.put, List.setIfInBounds_toArray, List.set_cons_zero, List.set_cons_succ])
      refine AnyL_take (i := 1) (oi := oq25_6_1) (v := ?_) rfl (by kernel_rfl) (by kernel_rfl) (by kernel_rfl) (by kernel_rfl) (fun _ _ _ h => h) (Or.inl ⟨by rfl, ?_⟩) (by assumption) ?_
      rotate_left
      · (delta oq25_6_1; intro ws hSw; (try dsimp only at hSw); (try go_simp); (try with_reducible rfl))
      (try simp only [oq25_6_1, Act.put, List.setIfInBounds_toArray, List.set_cons_zero, List.set_cons_succ])
      refine AnyL_take (i := 2) (oi := oq25_6_2) (v := ?_) rfl (by kernel_rfl) (by kernel_rfl) (by kernel_rfl) (by kernel_rfl) (fun _ _ _ h => h) (Or.inl ⟨by rfl, ?_⟩) (by assumption) ?_
      rotate_left
      · (delta oq25_6_2; intro ws hSw; (try dsimp only at hSw); (try go_simp); (try with_reducible rfl))
      (try simp only [oq25_6_2, Act.put, List.setIfInBounds_toArray, List.set_cons_zero, List.set_cons_succ])
      refine AnyL_take (i := 3) (oi := oq25_6_3) (v := .pointer (some ⟨w.heap.size, k, none⟩)) rfl (by kernel_rfl) (by kernel_rfl) (by kernel_rfl) (by kernel_rfl) (fun _ _ _ h => h) (Or.inl ⟨by rfl, fun ws h => by delta oq25_6_3; go_simp⟩) (by assumption) ?_
      (try simp only [oq25_6_3, Act.put, List.setIfInBounds_toArray, List.set_cons_zero, List.set_cons_succ])
      refine AnyL_take (i := 4) (oi := oq25_6_4) (v := .int .u8 ((x : Nat) : Int)) rfl (by kernel_rfl) (by kernel_rfl) (by kernel_rfl) (by kernel_rfl) (fun _ _ _ h => h) (Or.inl ⟨by rfl, fun ws h => by have hc9 := hcell ws h; delta oq25_6_4; go_simp⟩) (by assumption) ?_
      (try simp only [oq25_6_4, Act.put, List.setIfInBounds_toArray, List.set_cons_zero, List.set_cons_succ])
      refine AnyL_take (i := 5) (oi := oq25_6_5) (v := ?_) rfl (by kernel_rfl) (by kernel_rfl) (by kernel_rfl) (by kernel_rfl) (fun _ _ _ h => h) (Or.inl ⟨by rfl, ?_⟩) (by assumption) ?_
      rotate_left
      · (delta oq25_6_5; intro ws hSw; (try dsimp only at hSw); (try go_simp); (try with_reducible rfl))
      (try simp only [oq25_6_5, Act.put, List.setIfInBounds_toArray, List.set_cons_zero, List.set_cons_succ])
      refine AnyL_take (i := 6) (oi := oq25_6_6) (v := ?_) rfl (by kernel_rfl) (by kernel_rfl) (by kernel_rfl) (by kernel_rfl) (fun _ _ _ h => h) (Or.inl ⟨by rfl, ?_⟩) (by assumption) ?_
      rotate_left
      · (delta oq25_6_6; intro ws hSw; (try dsimp only at hSw); (try go_simp); (try with_reducible rfl))
      (try simp only [oq25_6_6, Act.put, List.setIfInBounds_toArray, List.set_cons_zero, List.set_cons_succ])
      refine AnyL_take (i := 7) (oi := oq25_6_7) (v := ?_) rfl (by kernel_rfl) (by kernel_rfl) (by kernel_rfl) (by kernel_rfl) (fun _ _ _ h => h) (Or.inl ⟨by rfl, ?_⟩) (by assumption) ?_
      rotate_left
      · (delta oq25_6_7; intro ws hSw; (try dsimp only at hSw); (try go_simp); (try with_reducible rfl))
      (try simp only [oq25_6_7, Act.put, List.setIfInBounds_toArray, List.set_cons_zero, List.set_cons_succ])
      refine AnyL_take (i := 8) (oi := oq25_6_8) (v := ?_) rfl (by kernel_rfl) (by kernel_rfl) (by kernel_rfl) (by kernel_rfl) (fun _ _ _ h => h) (Or.inl ⟨by rfl, ?_⟩) (by assumption) ?_
      rotate_left
      · (delta oq25_6_8; intro ws hSw; (try dsimp only at hSw); (try go_simp); (try with_reducible rfl))
      (try simp only [oq25_6_8, Act.put, List.setIfInBounds_toArray, List.set_cons_zero, List.set_cons_succ])
      refine AnyL_take (i := 9) (oi := oq25_6_9) (v := .pointer (some ⟨w.heap.size, k, none⟩)) rfl (by kernel_rfl) (by kernel_rfl) (by kernel_rfl) (by kernel_rfl) (fun _ _ _ h => h) (Or.inl ⟨by rfl, fun ws h => by delta oq25_6_9; go_simp⟩) (by assumption) ?_
      (try simp only [oq25_6_9, Act.put, List.setIfInBounds_toArray, List.set_cons_zero, List.set_cons_succ])
      refine AnyL_take (i := 10) (oi := oq25_6_10) (v := .int .u8 ((x : Nat) : Int)) rfl (by kernel_rfl) (by kernel_rfl) (by kernel_rfl) (by kernel_rfl) (fun _ _ _ h => h) (Or.inl ⟨by rfl, fun ws h => by have hc9 := hcell ws h; delta oq25_6_10; go_simp⟩) (by assumption) ?_
      (try simp only [oq25_6_10, Act.put, List.setIfInBounds_toArray, List.set_cons_zero, List.set_cons_succ])
      refine AnyL_take (i := 11) (oi := oq25_6_11) (v := ?_) rfl (by kernel_rfl) (by kernel_rfl) (by kernel_rfl) (by kernel_rfl) (fun _ _ _ h => h) (Or.inl ⟨by rfl, ?_⟩) (by assumption) ?_
      rotate_left
      · (delta oq25_6_11; intro ws hSw; (try dsimp only at hSw); (try go_simp); (try with_reducible rfl))
      (try simp only [oq25_6_11, Act.put, List.setIfInBounds_toArray, List.set_cons_zero, List.set_cons_succ])
      refine AnyL_take (i := 12) (oi := oq25_6_12) (v := ?_) rfl (by kernel_rfl) (by kernel_rfl) (by kernel_rfl) (by kernel_rfl) (fun _ _ _ h => h) (Or.inl ⟨by rfl, ?_⟩) (by assumption) ?_
      rotate_left
      · (delta oq25_6_12; intro ws hSw; (try dsimp only at hSw); (try go_simp); (try with_reducible rfl))
      (try simp only [oq25_6_12, Act.put, List.setIfInBounds_toArray, List.set_cons_zero, List.set_cons_succ])
      refine AnyL_ready (rs := [13]) (by kernel_rfl) (by simp) ?_
      refine ReadyL.cons (o := oq25_6_13) rfl (fun K hK => ?_) ReadyL.nil
      delta oq25_6_13
      go_simp
      refine hK.out _ _ (hHeld.alloc _) (fun hHeld2 => ?_)
      clear hK K
      (try simp only [oq25_6_13, Act.put, List.setIfInBounds_toArray, List.set_cons_zero, List.set_cons_succ])
      refine AnyL_ready (rs := [14]) (by kernel_rfl) (by simp) ?_
      refine ReadyL.cons (o := oq25_6_14) rfl (fun K hK => ?_) ReadyL.nil
      delta oq25_6_14
      obtain ⟨v9, V9, hrun, ho9, hg9⟩ := run_app2 V0.heap.size V2 u4 (hexL (l.take k)) (sym y) (sym z) OO HLL.out hsz
      replace WW := OO.gbelow hg9 (Nat.le_refl _) hsz WW
      have hS9 : (fun V => Blk V w.heap.size 25 ca) V9 := HB1.out.below WW HB1.out.lt
      refine op_append rfl (.tmp 10) (.tmp 23) rfl rfl rfl rfl hrun ?_
      refine hK.out _ _ hS9 (fun hHeld3 => ?_)
      clear hK K hrun hS9
      (try simp only [oq25_6_14, Act.put, List.setIfInBounds_toArray, List.set_cons_zero, List.set_cons_succ])
      refine AnyL_take (i := 15) (oi := oq25_6_15) (v := ?_) rfl (by kernel_rfl) (by kernel_rfl) (by kernel_rfl) (by kernel_rfl) (fun _ _ _ h => h) (Or.inl ⟨by rfl, ?_⟩) (by assumption) ?_
      rotate_left
      · (delta oq25_6_15; intro ws hSw; (try dsimp only at hSw); (try go_simp); (try with_reducible rfl))
      (try simp only [oq25_6_15, Act.put, List.setIfInBounds_toArray, List.set_cons_zero, List.set_cons_succ])
      refine AnyL_done (by kernel_rfl) ?_ _
      rw [HX.out] at ho9
      clear hHeld hHeld2 hHeld3 hg9 OO
      go_wp2_with fail
      exact ⟨⟨k + 1, by omega, rfl, WW, ho9⟩, by simp [intOf]; omega⟩
    · rw [show k = 32 from by omega, List.take_of_length_le (by rw [HL.out]; exact Nat.le_refl _)] at OO
      obtain ⟨A6, c6, e6⟩ := OO.slc
      subst e6
      have hst := OO.str
      go_wp2_with fail
      go_ret
      exact ⟨rfl, WW0.trans (WW.mono (Nat.le_of_lt hz0))⟩
end Go.Proofs.YtenmdfhdiepfcaaDoor
