/- DigestOrder: the walk. -/
import Derived.Test.YtenmdfhdiepfcaaDoorL12
import Derived.Test.YtenmdfhdiepfcaaDoorPhase
set_option linter.unusedVariables false
set_option linter.unusedSimpArgs false
namespace Go.Proofs.YtenmdfhdiepfcaaDoor
open Go Go.RowKit
def oq9_3_0 : Oper := { dst := some 12, op := Op.load 25 (Operand.tmp 3), type := 25, pos := "law.go:126", after := #[], guard := none }
def oq9_3_1 : Oper := { dst := some 13, op := Op.load 25 (Operand.tmp 4), type := 25, pos := "law.go:126", after := #[], guard := none }
def oq9_3_2 : Oper := { dst := some 14, op := Op.call { callee := Callee.value (Operand.func 26), args := #[Operand.tmp 12, Operand.tmp 13], argTypes := #[25, 25] }, type := 3, pos := "law.go:126", after := #[{ on := 0, ground := Ground.data }, { on := 1, ground := Ground.data }], guard := none }
def oq9_3_3 : Oper := { dst := some 15, op := Op.load 25 (Operand.tmp 4), type := 25, pos := "law.go:126", after := #[], guard := none }
def oq9_3_4 : Oper := { dst := some 16, op := Op.load 25 (Operand.tmp 5), type := 25, pos := "law.go:126", after := #[], guard := none }
def oq9_3_5 : Oper := { dst := some 17, op := Op.call { callee := Callee.value (Operand.func 26), args := #[Operand.tmp 15, Operand.tmp 16], argTypes := #[25, 25] }, type := 3, pos := "law.go:126", after := #[{ on := 3, ground := Ground.data }, { on := 4, ground := Ground.data }, { on := 2, ground := Ground.chain }], guard := none }
def oq9_3_6 : Oper := { dst := some 18, op := Op.load 25 (Operand.tmp 3), type := 25, pos := "law.go:126", after := #[], guard := none }
def oq9_3_7 : Oper := { dst := some 19, op := Op.load 25 (Operand.tmp 5), type := 25, pos := "law.go:126", after := #[], guard := none }
def oq9_3_8 : Oper := { dst := some 20, op := Op.call { callee := Callee.value (Operand.func 26), args := #[Operand.tmp 18, Operand.tmp 19], argTypes := #[25, 25] }, type := 3, pos := "law.go:126", after := #[{ on := 6, ground := Ground.data }, { on := 7, ground := Ground.data }, { on := 5, ground := Ground.chain }], guard := none }
def oq9_3_9 : Oper := { dst := some 7, op := Op.assign (Operand.tmp 14), type := 3, pos := "law.go:126", after := #[{ on := 2, ground := Ground.data }, { on := 8, ground := Ground.chain }, { on := 0, ground := Ground.phase }, { on := 1, ground := Ground.phase }, { on := 2, ground := Ground.phase }, { on := 3, ground := Ground.textOnly Departure.lateStores }, { on := 4, ground := Ground.textOnly Departure.lateStores }, { on := 5, ground := Ground.textOnly Departure.lateStoresUnsure }, { on := 6, ground := Ground.textOnly Departure.lateStores }, { on := 7, ground := Ground.textOnly Departure.lateStores }, { on := 8, ground := Ground.textOnly Departure.lateStoresUnsure }], guard := none }
def oq9_3_10 : Oper := { dst := some 8, op := Op.assign (Operand.tmp 17), type := 3, pos := "law.go:126", after := #[{ on := 5, ground := Ground.data }, { on := 9, ground := Ground.chain }, { on := 0, ground := Ground.phase }, { on := 1, ground := Ground.phase }, { on := 2, ground := Ground.phase }, { on := 3, ground := Ground.phase }, { on := 4, ground := Ground.phase }, { on := 5, ground := Ground.phase }, { on := 6, ground := Ground.textOnly Departure.lateStores }, { on := 7, ground := Ground.textOnly Departure.lateStores }, { on := 8, ground := Ground.textOnly Departure.lateStoresUnsure }, { on := 9, ground := Ground.phase }], guard := none }
def oq9_3_11 : Oper := { dst := some 9, op := Op.assign (Operand.tmp 20), type := 3, pos := "law.go:126", after := #[{ on := 8, ground := Ground.data }, { on := 10, ground := Ground.chain }, { on := 0, ground := Ground.phase }, { on := 1, ground := Ground.phase }, { on := 2, ground := Ground.phase }, { on := 3, ground := Ground.phase }, { on := 4, ground := Ground.phase }, { on := 5, ground := Ground.phase }, { on := 6, ground := Ground.phase }, { on := 7, ground := Ground.phase }, { on := 8, ground := Ground.phase }, { on := 9, ground := Ground.phase }, { on := 10, ground := Ground.phase }], guard := none }
def oq9_4_0 : Oper := { dst := some 21, op := Op.move (Operand.tmp 7), type := 3, pos := "law.go:127", after := #[], guard := none }
def oq9_4_1 : Oper := { dst := some 22, op := Op.load 25 (Operand.tmp 3), type := 25, pos := "law.go:127", after := #[], guard := none }
def oq9_4_2 : Oper := { dst := some 23, op := Op.call { callee := Callee.value (Operand.func 23), args := #[Operand.tmp 22], argTypes := #[25] }, type := 9, pos := "law.go:127", after := #[{ on := 1, ground := Ground.data }], guard := none }
def oq9_4_3 : Oper := { dst := some 24, op := Op.load 25 (Operand.tmp 4), type := 25, pos := "law.go:127", after := #[], guard := none }
def oq9_4_4 : Oper := { dst := some 25, op := Op.call { callee := Callee.value (Operand.func 23), args := #[Operand.tmp 24], argTypes := #[25] }, type := 9, pos := "law.go:127", after := #[{ on := 3, ground := Ground.data }, { on := 2, ground := Ground.chain }], guard := none }
def oq9_4_5 : Oper := { dst := some 26, op := Op.call { callee := Callee.value (Operand.func 29), args := #[Operand.tmp 23, Operand.tmp 25], argTypes := #[9, 9] }, type := 3, pos := "law.go:127", after := #[{ on := 2, ground := Ground.data }, { on := 4, ground := Ground.data }, { on := 4, ground := Ground.chain }], guard := none }
def oq9_4_6 : Oper := { dst := some 27, op := Op.binOp BinOp.neq 3 (Operand.tmp 21) (Operand.tmp 26) 3, type := 4, pos := "law.go:127", after := #[{ on := 0, ground := Ground.data }, { on := 5, ground := Ground.data }], guard := none }
def oq9_4_7 : Oper := { dst := some 28, op := Op.move (Operand.tmp 27), type := 4, pos := "law.go:127", after := #[{ on := 6, ground := Ground.data }, { on := 5, ground := Ground.chain }], guard := none }
def oq9_4_8 : Oper := { dst := some 29, op := Op.load 25 (Operand.tmp 4), type := 25, pos := "law.go:127", after := #[{ on := 7, ground := Ground.guard }], guard := some (7, false) }
def oq9_4_9 : Oper := { dst := some 30, op := Op.load 25 (Operand.tmp 3), type := 25, pos := "law.go:127", after := #[{ on := 7, ground := Ground.guard }], guard := some (7, false) }
def oq9_4_10 : Oper := { dst := some 31, op := Op.call { callee := Callee.value (Operand.func 26), args := #[Operand.tmp 29, Operand.tmp 30], argTypes := #[25, 25] }, type := 3, pos := "law.go:127", after := #[{ on := 8, ground := Ground.data }, { on := 9, ground := Ground.data }, { on := 7, ground := Ground.chain }, { on := 7, ground := Ground.guard }], guard := some (7, false) }
def oq9_4_11 : Oper := { dst := some 32, op := Op.move (Operand.tmp 7), type := 3, pos := "law.go:127", after := #[{ on := 7, ground := Ground.guard }], guard := some (7, false) }
def oq9_4_12 : Oper := { dst := some 33, op := Op.unOp UnOp.neg 3 (Operand.tmp 32), type := 3, pos := "law.go:127", after := #[{ on := 11, ground := Ground.data }, { on := 7, ground := Ground.guard }], guard := some (7, false) }
def oq9_4_13 : Oper := { dst := some 34, op := Op.binOp BinOp.neq 3 (Operand.tmp 31) (Operand.tmp 33) 3, type := 4, pos := "law.go:127", after := #[{ on := 10, ground := Ground.data }, { on := 12, ground := Ground.data }, { on := 7, ground := Ground.guard }], guard := some (7, false) }
def oq9_4_14 : Oper := { dst := some 35, op := Op.pick (Operand.tmp 28) (Operand.const (Value.bool true)) (Operand.tmp 34), type := 4, pos := "law.go:127", after := #[{ on := 7, ground := Ground.data }, { on := 13, ground := Ground.data }], guard := none }
def oq9_4_15 : Oper := { dst := some 36, op := Op.move (Operand.tmp 35), type := 4, pos := "law.go:127", after := #[{ on := 14, ground := Ground.data }, { on := 10, ground := Ground.chain }], guard := none }
def oq9_4_16 : Oper := { dst := some 37, op := Op.move (Operand.tmp 7), type := 3, pos := "law.go:127", after := #[{ on := 15, ground := Ground.guard }], guard := some (15, false) }
def oq9_4_17 : Oper := { dst := some 38, op := Op.binOp BinOp.eql 3 (Operand.tmp 37) (Operand.const (Value.int IntKind.i64 0)) 3, type := 4, pos := "law.go:127", after := #[{ on := 16, ground := Ground.data }, { on := 15, ground := Ground.guard }], guard := some (15, false) }
def oq9_4_18 : Oper := { dst := some 39, op := Op.load 25 (Operand.tmp 3), type := 25, pos := "law.go:127", after := #[{ on := 15, ground := Ground.guard }], guard := some (15, false) }
def oq9_4_19 : Oper := { dst := some 40, op := Op.load 25 (Operand.tmp 4), type := 25, pos := "law.go:127", after := #[{ on := 15, ground := Ground.guard }], guard := some (15, false) }
def oq9_4_20 : Oper := { dst := some 41, op := Op.binOp BinOp.eql 25 (Operand.tmp 39) (Operand.tmp 40) 25, type := 4, pos := "law.go:127", after := #[{ on := 18, ground := Ground.data }, { on := 19, ground := Ground.data }, { on := 15, ground := Ground.guard }], guard := some (15, false) }
def oq9_4_21 : Oper := { dst := some 42, op := Op.binOp BinOp.neq 4 (Operand.tmp 38) (Operand.tmp 41) 4, type := 4, pos := "law.go:127", after := #[{ on := 17, ground := Ground.data }, { on := 20, ground := Ground.data }, { on := 15, ground := Ground.guard }], guard := some (15, false) }
def oq9_4_22 : Oper := { dst := some 43, op := Op.pick (Operand.tmp 36) (Operand.const (Value.bool true)) (Operand.tmp 42), type := 4, pos := "law.go:127", after := #[{ on := 15, ground := Ground.data }, { on := 21, ground := Ground.data }], guard := none }

set_option maxRecDepth 100000 in
set_option maxHeartbeats 8000000 in
theorem order_walk (a b c : List Nat) (w : World) (hT : Tabs w) (ha : a.length = 32) (hb : b.length = 32) (hc : c.length = 32) (ha8 : ∀ x ∈ a, x < 256) (hb8 : ∀ x ∈ b, x < 256) (hc8 : ∀ x ∈ c, x < 256) :
    Calls Tryd.prog 9 #[hv a, hv b, hv c] w (fun e w' => e = .returned (.bool true) ∧ Below w.heap.size w w') := by
  obtain ⟨ca, hca⟩ : ∃ cs, cs = brow a := ⟨_, rfl⟩
  obtain ⟨cb, hcb⟩ : ∃ cs, cs = brow b := ⟨_, rfl⟩
  obtain ⟨cc, hcc⟩ : ∃ cs, cs = brow c := ⟨_, rfl⟩
  have e1 : hv a = .agg ca := by rw [hca]; rfl
  have e2 : hv b = .agg cb := by rw [hcb]; rfl
  have e3 : hv c = .agg cc := by rw [hcc]; rfl
  have za : ca.size = 32 := by rw [hca, brow_size, ha]
  have zb : cb.size = 32 := by rw [hcb, brow_size, hb]
  have zc : cc.size = 32 := by rw [hcc, brow_size, hc]
  obtain ⟨x, hx⟩ : ∃ x, x = cmpN a b := ⟨_, rfl⟩
  obtain ⟨y, hy⟩ : ∃ x, x = cmpN b c := ⟨_, rfl⟩
  obtain ⟨z, hz⟩ : ∃ x, x = cmpN a c := ⟨_, rfl⟩
  have lt_get : ∀ (l : List Nat), (∀ x ∈ l, x < 256) → ∀ i, l.getD i 0 < 256 := fun l h i => by
    rw [List.getD_eq_getElem?_getD]
    cases e : l[i]? with
    | none => simp
    | some v => exact h v (List.mem_of_getElem? e)
  have HAB : Hid (∀ V, Calls Tryd.prog 26 #[.agg ca, .agg cb] V (fun e w' => e = .returned (.int .i64 x) ∧ Below V.heap.size V w')) := (show ∀ V, _ from fun V => by rw [← e1, ← e2, hx]; exact compare_any a b V ha hb ha8 hb8)
  have HBC : Hid (∀ V, Calls Tryd.prog 26 #[.agg cb, .agg cc] V (fun e w' => e = .returned (.int .i64 y) ∧ Below V.heap.size V w')) := (show ∀ V, _ from fun V => by rw [← e2, ← e3, hy]; exact compare_any b c V hb hc hb8 hc8)
  have HAC : Hid (∀ V, Calls Tryd.prog 26 #[.agg ca, .agg cc] V (fun e w' => e = .returned (.int .i64 z) ∧ Below V.heap.size V w')) := (show ∀ V, _ from fun V => by rw [← e1, ← e3, hz]; exact compare_any a c V ha hc ha8 hc8)
  have HBA : Hid (∀ V, Calls Tryd.prog 26 #[.agg cb, .agg ca] V (fun e w' => e = .returned (.int .i64 (-x)) ∧ Below V.heap.size V w')) := (show ∀ V, _ from fun V => by rw [← e1, ← e2, hx, ← cmpN_neg]; exact compare_any b a V hb ha hb8 ha8)
  obtain ⟨Sa, hSa⟩ : ∃ s, s = strN (hexL a) := ⟨_, rfl⟩
  obtain ⟨Sb, hSb⟩ : ∃ s, s = strN (hexL b) := ⟨_, rfl⟩
  have HXA : Hid (∀ V, Calls Tryd.prog 23 #[.agg ca] V (fun e w' => e = .returned (.string Sa) ∧ Below V.heap.size V w')) := (show ∀ V, _ from fun V => by rw [← e1, hSa]; exact hex_any a V ha (lt_get a ha8))
  have HXB : Hid (∀ V, Calls Tryd.prog 23 #[.agg cb] V (fun e w' => e = .returned (.string Sb) ∧ Below V.heap.size V w')) := (show ∀ V, _ from fun V => by rw [← e2, hSb]; exact hex_any b V hb (lt_get b hb8))
  have HSC : Hid (∀ V, Calls Tryd.prog 29 #[.string Sa, .string Sb] V (Ex (.int .i64 x) V)) := (show ∀ V, _ from fun V => by
    have h := strcompare_any Sa Sb V
    rw [hSa, hSb, cmp_bytes _ _ (hexL_lt ha8) (hexL_lt hb8), cmp_hex a b ha8 hb8, ← hx, ← hSa, ← hSb] at h
    exact h)
  have hq : ∀ V : World, (Op.equalIn 10000 25 (.agg ca) (.agg cb)).run Tryd.prog V = .ok (x == 0) V := fun V => by
    rw [hca, hcb, eq25 a b V ha hb, hx]
    congr 1
    rw [Bool.eq_iff_iff, decide_eq_true_iff, beq_iff_eq, cmpN_zero]
  have hxr : x = -1 ∨ x = 0 ∨ x = 1 := by rw [hx]; exact cmpN_range a b
  have hfin : Hid ((x ≤ 0 ∧ y ≤ 0) → z ≤ 0) := (show (x ≤ 0 ∧ y ≤ 0) → z ≤ 0 from fun h => by rw [hz]; rw [hx] at h; rw [hy] at h; exact cmpN_trans h.1 h.2)
  have hng : IntKind.i64.wrap (-x) = -x := by rw [IntKind.wrap_i64]; omega
  have HT := hid hT
  have WW := (((Below.refl w.heap.size w).alloc (Nat.le_refl _) (.cells ca 25)).alloc (by simp) (.cells cb 25)).alloc (by simp; omega) (.cells cc 25)
  have b1 := ((Blk.new w 25 ca).alloc (.cells cb 25)).alloc (.cells cc 25)
  have b2 := (Blk.new (w.alloc (.cells ca 25)) 25 cb).alloc (.cells cc 25)
  have b3 := Blk.new ((w.alloc (.cells ca 25)).alloc (.cells cb 25)) 25 cc
  simp only [World.size_alloc] at b2 b3
  rw [e1, e2, e3]
  clear hca hcb hcc e1 e2 e3 ha hb hc ha8 hb8 hc8 hx hy hz hSa hSb hT lt_get
  go_enter Tryd.func9, Tryd.ntmps9
  go_wp2_with fail
  generalize hV : ((w.alloc (.cells ca 25)).alloc (.cells cb 25)).alloc (.cells cc 25) = V0 at b1 b2 b3 WW ⊢
  clear hV
  refine (awake_any V0 (HT.out.below' HT.out.big WW)).mono ?_
  rintro e V00 ⟨rfl, hb⟩
  replace b1 := b1.below hb b1.lt
  replace b2 := b2.below hb b2.lt
  replace b3 := b3.below hb b3.lt
  replace WW := WW.trans (hb.mono WW.size)
  clear hb
  go_wp2_with fail
  replace WW := WW.drew
  have hst : (fun V => Blk V w.heap.size 25 ca ∧ Blk V (w.heap.size + 1) 25 cb ∧ Blk V (w.heap.size + 1 + 1) 25 cc) V00.drew := ⟨b1, b2, b3⟩
  clear b1 b2 b3
  refine region_L 19 (fun V => Blk V w.heap.size 25 ca ∧ Blk V (w.heap.size + 1) 25 cb ∧ Blk V (w.heap.size + 1 + 1) 25 cc) (by kernel_rfl) hst (fun hHeld => ?_)
  clear hst
  generalize hV : V00.drew = V01 at hHeld WW ⊢
  clear hV
  refine AnyL_take (i := 0) (oi := oq9_3_0) (v := .agg ca) rfl (by kernel_rfl) (by kernel_rfl) (by kernel_rfl) (by kernel_rfl) (fun _ _ _ h => h) (yields_hash w.heap.size ca (by rfl) (.tmp 3) rfl rfl (fun _ h => h.1) za) (by assumption) ?_
  (try simp only [oq9_3_0, Act.put, List.setIfInBounds_toArray, List.set_cons_zero, List.set_cons_succ])
  refine AnyL_take (i := 1) (oi := oq9_3_1) (v := .agg cb) rfl (by kernel_rfl) (by kernel_rfl) (by kernel_rfl) (by kernel_rfl) (fun _ _ _ h => h) (yields_hash (w.heap.size + 1) cb (by rfl) (.tmp 4) rfl rfl (fun _ h => h.2.1) zb) (by assumption) ?_
  (try simp only [oq9_3_1, Act.put, List.setIfInBounds_toArray, List.set_cons_zero, List.set_cons_succ])
  refine AnyL_take (i := 3) (oi := oq9_3_3) (v := .agg cb) rfl (by kernel_rfl) (by kernel_rfl) (by kernel_rfl) (by kernel_rfl) (fun _ _ _ h => h) (yields_hash (w.heap.size + 1) cb (by rfl) (.tmp 4) rfl rfl (fun _ h => h.2.1) zb) (by assumption) ?_
  (try simp only [oq9_3_3, Act.put, List.setIfInBounds_toArray, List.set_cons_zero, List.set_cons_succ])
  refine AnyL_take (i := 4) (oi := oq9_3_4) (v := .agg cc) rfl (by kernel_rfl) (by kernel_rfl) (by kernel_rfl) (by kernel_rfl) (fun _ _ _ h => h) (yields_hash (w.heap.size + 1 + 1) cc (by rfl) (.tmp 5) rfl rfl (fun _ h => h.2.2) zc) (by assumption) ?_
  (try simp only [oq9_3_4, Act.put, List.setIfInBounds_toArray, List.set_cons_zero, List.set_cons_succ])
  refine AnyL_take (i := 6) (oi := oq9_3_6) (v := .agg ca) rfl (by kernel_rfl) (by kernel_rfl) (by kernel_rfl) (by kernel_rfl) (fun _ _ _ h => h) (yields_hash w.heap.size ca (by rfl) (.tmp 3) rfl rfl (fun _ h => h.1) za) (by assumption) ?_
  (try simp only [oq9_3_6, Act.put, List.setIfInBounds_toArray, List.set_cons_zero, List.set_cons_succ])
  refine AnyL_take (i := 7) (oi := oq9_3_7) (v := .agg cc) rfl (by kernel_rfl) (by kernel_rfl) (by kernel_rfl) (by kernel_rfl) (fun _ _ _ h => h) (yields_hash (w.heap.size + 1 + 1) cc (by rfl) (.tmp 5) rfl rfl (fun _ h => h.2.2) zc) (by assumption) ?_
  (try simp only [oq9_3_7, Act.put, List.setIfInBounds_toArray, List.set_cons_zero, List.set_cons_succ])
  refine AnyL_ready (rs := [2]) (by kernel_rfl) (by simp) ?_
  refine ReadyL.cons (o := oq9_3_2) rfl (fun K hK => ?_) ReadyL.nil
  delta oq9_3_2
  go_simp
  refine (HAB.out _).mono ?_
  rintro e V1 ⟨rfl, hb⟩
  have hSV1 : (fun V => Blk V w.heap.size 25 ca ∧ Blk V (w.heap.size + 1) 25 cb ∧ Blk V (w.heap.size + 1 + 1) 25 cc) V1 := ⟨hHeld.1.below hb hHeld.1.lt, hHeld.2.1.below hb hHeld.2.1.lt, hHeld.2.2.below hb hHeld.2.2.lt⟩
  replace WW := WW.trans (hb.mono WW.size)
  refine hK.out _ _ hSV1 (fun hHeld2 => ?_)
  clear hK K hHeld hSV1 hb
  have hHeld := hHeld2
  clear hHeld2
  (try simp only [oq9_3_2, Act.put, List.setIfInBounds_toArray, List.set_cons_zero, List.set_cons_succ])
  refine AnyL_ready (rs := [5]) (by kernel_rfl) (by simp) ?_
  refine ReadyL.cons (o := oq9_3_5) rfl (fun K hK => ?_) ReadyL.nil
  delta oq9_3_5
  go_simp
  refine (HBC.out _).mono ?_
  rintro e V2 ⟨rfl, hb⟩
  have hSV2 : (fun V => Blk V w.heap.size 25 ca ∧ Blk V (w.heap.size + 1) 25 cb ∧ Blk V (w.heap.size + 1 + 1) 25 cc) V2 := ⟨hHeld.1.below hb hHeld.1.lt, hHeld.2.1.below hb hHeld.2.1.lt, hHeld.2.2.below hb hHeld.2.2.lt⟩
  replace WW := WW.trans (hb.mono WW.size)
  refine hK.out _ _ hSV2 (fun hHeld2 => ?_)
  clear hK K hHeld hSV2 hb
  have hHeld := hHeld2
  clear hHeld2
  (try simp only [oq9_3_5, Act.put, List.setIfInBounds_toArray, List.set_cons_zero, List.set_cons_succ])
  refine AnyL_ready (rs := [8]) (by kernel_rfl) (by simp) ?_
  refine ReadyL.cons (o := oq9_3_8) rfl (fun K hK => ?_) ReadyL.nil
  delta oq9_3_8
  go_simp
  refine (HAC.out _).mono ?_
  rintro e V3 ⟨rfl, hb⟩
  have hSV3 : (fun V => Blk V w.heap.size 25 ca ∧ Blk V (w.heap.size + 1) 25 cb ∧ Blk V (w.heap.size + 1 + 1) 25 cc) V3 := ⟨hHeld.1.below hb hHeld.1.lt, hHeld.2.1.below hb hHeld.2.1.lt, hHeld.2.2.below hb hHeld.2.2.lt⟩
  replace WW := WW.trans (hb.mono WW.size)
  refine hK.out _ _ hSV3 (fun hHeld2 => ?_)
  clear hK K hHeld hSV3 hb
  have hHeld := hHeld2
  clear hHeld2
  (try simp only [oq9_3_8, Act.put, List.setIfInBounds_toArray, List.set_cons_zero, List.set_cons_succ])
  refine AnyL_take (i := 9) (oi := oq9_3_9) (v := ?_) rfl (by kernel_rfl) (by kernel_rfl) (by kernel_rfl) (by kernel_rfl) (fun _ _ _ h => h) (Or.inl ⟨by rfl, ?_⟩) (by assumption) ?_
  rotate_left
  · (delta oq9_3_9; intro ws hSw; (try dsimp only at hSw); (try go_simp); (try with_reducible rfl))
  (try simp only [oq9_3_9, Act.put, List.setIfInBounds_toArray, List.set_cons_zero, List.set_cons_succ])
  refine AnyL_take (i := 10) (oi := oq9_3_10) (v := ?_) rfl (by kernel_rfl) (by kernel_rfl) (by kernel_rfl) (by kernel_rfl) (fun _ _ _ h => h) (Or.inl ⟨by rfl, ?_⟩) (by assumption) ?_
  rotate_left
  · (delta oq9_3_10; intro ws hSw; (try dsimp only at hSw); (try go_simp); (try with_reducible rfl))
  (try simp only [oq9_3_10, Act.put, List.setIfInBounds_toArray, List.set_cons_zero, List.set_cons_succ])
  refine AnyL_take (i := 11) (oi := oq9_3_11) (v := ?_) rfl (by kernel_rfl) (by kernel_rfl) (by kernel_rfl) (by kernel_rfl) (fun _ _ _ h => h) (Or.inl ⟨by rfl, ?_⟩) (by assumption) ?_
  rotate_left
  · (delta oq9_3_11; intro ws hSw; (try dsimp only at hSw); (try go_simp); (try with_reducible rfl))
  (try simp only [oq9_3_11, Act.put, List.setIfInBounds_toArray, List.set_cons_zero, List.set_cons_succ])
  refine AnyL_done (by kernel_rfl) ?_ _
  go_wp2_with fail
  obtain ⟨b1, b2, b3⟩ := hHeld
  replace WW := WW.drew
  have hst : (fun V => Blk V w.heap.size 25 ca ∧ Blk V (w.heap.size + 1) 25 cb ∧ Blk V (w.heap.size + 1 + 1) 25 cc) V3.drew := ⟨b1, b2, b3⟩
  clear b1 b2 b3
  refine region_L 30 (fun V => Blk V w.heap.size 25 ca ∧ Blk V (w.heap.size + 1) 25 cb ∧ Blk V (w.heap.size + 1 + 1) 25 cc) (by kernel_rfl) hst (fun hHeld => ?_)
  clear hst
  generalize hV : V3.drew = V31 at hHeld WW ⊢
  clear hV
  refine AnyL_take (i := 0) (oi := oq9_4_0) (v := ?_) rfl (by kernel_rfl) (by kernel_rfl) (by kernel_rfl) (by kernel_rfl) (fun _ _ _ h => h) (Or.inl ⟨by rfl, ?_⟩) (by assumption) ?_
  rotate_left
  · (delta oq9_4_0; intro ws hSw; (try dsimp only at hSw); (try go_simp); (try with_reducible rfl))
  (try simp only [oq9_4_0, Act.put, List.setIfInBounds_toArray, List.set_cons_zero, List.set_cons_succ])
  refine AnyL_take (i := 1) (oi := oq9_4_1) (v := .agg ca) rfl (by kernel_rfl) (by kernel_rfl) (by kernel_rfl) (by kernel_rfl) (fun _ _ _ h => h) (yields_hash w.heap.size ca (by rfl) (.tmp 3) rfl rfl (fun _ h => h.1) za) (by assumption) ?_
  (try simp only [oq9_4_1, Act.put, List.setIfInBounds_toArray, List.set_cons_zero, List.set_cons_succ])
  refine AnyL_take (i := 3) (oi := oq9_4_3) (v := .agg cb) rfl (by kernel_rfl) (by kernel_rfl) (by kernel_rfl) (by kernel_rfl) (fun _ _ _ h => h) (yields_hash (w.heap.size + 1) cb (by rfl) (.tmp 4) rfl rfl (fun _ h => h.2.1) zb) (by assumption) ?_
  (try simp only [oq9_4_3, Act.put, List.setIfInBounds_toArray, List.set_cons_zero, List.set_cons_succ])
  refine AnyL_ready (rs := [2]) (by kernel_rfl) (by simp) ?_
  refine ReadyL.cons (o := oq9_4_2) rfl (fun K hK => ?_) ReadyL.nil
  delta oq9_4_2
  go_simp
  refine (HXA.out _).mono ?_
  rintro e V4 ⟨rfl, hb⟩
  have hSV4 : (fun V => Blk V w.heap.size 25 ca ∧ Blk V (w.heap.size + 1) 25 cb ∧ Blk V (w.heap.size + 1 + 1) 25 cc) V4 := ⟨hHeld.1.below hb hHeld.1.lt, hHeld.2.1.below hb hHeld.2.1.lt, hHeld.2.2.below hb hHeld.2.2.lt⟩
  replace WW := WW.trans (hb.mono WW.size)
  refine hK.out _ _ hSV4 (fun hHeld2 => ?_)
  clear hK K hHeld hSV4 hb
  have hHeld := hHeld2
  clear hHeld2
  (try simp only [oq9_4_2, Act.put, List.setIfInBounds_toArray, List.set_cons_zero, List.set_cons_succ])
  refine AnyL_ready (rs := [4]) (by kernel_rfl) (by simp) ?_
  refine ReadyL.cons (o := oq9_4_4) rfl (fun K hK => ?_) ReadyL.nil
  delta oq9_4_4
  go_simp
  refine (HXB.out _).mono ?_
  rintro e V5 ⟨rfl, hb⟩
  have hSV5 : (fun V => Blk V w.heap.size 25 ca ∧ Blk V (w.heap.size + 1) 25 cb ∧ Blk V (w.heap.size + 1 + 1) 25 cc) V5 := ⟨hHeld.1.below hb hHeld.1.lt, hHeld.2.1.below hb hHeld.2.1.lt, hHeld.2.2.below hb hHeld.2.2.lt⟩
  replace WW := WW.trans (hb.mono WW.size)
  refine hK.out _ _ hSV5 (fun hHeld2 => ?_)
  clear hK K hHeld hSV5 hb
  have hHeld := hHeld2
  clear hHeld2
  (try simp only [oq9_4_4, Act.put, List.setIfInBounds_toArray, List.set_cons_zero, List.set_cons_succ])
  refine AnyL_ready (rs := [5]) (by kernel_rfl) (by simp) ?_
  refine ReadyL.cons (o := oq9_4_5) rfl (fun K hK => ?_) ReadyL.nil
  delta oq9_4_5
  go_simp
  refine (HSC.out _).mono ?_
  rintro e w' ⟨rfl, rfl⟩
  refine hK.out _ _ hHeld (fun hHeld2 => ?_)
  clear hK K hHeld
  have hHeld := hHeld2
  clear hHeld2
  (try simp only [oq9_4_5, Act.put, List.setIfInBounds_toArray, List.set_cons_zero, List.set_cons_succ])
  refine AnyL_take (i := 6) (oi := oq9_4_6) (v := ?_) rfl (by kernel_rfl) (by kernel_rfl) (by kernel_rfl) (by kernel_rfl) (fun _ _ _ h => h) (Or.inl ⟨by rfl, ?_⟩) (by assumption) ?_
  rotate_left
  · (delta oq9_4_6; intro ws hSw; (try dsimp only at hSw); (try go_simp); (try with_reducible rfl))
  (try simp only [oq9_4_6, Act.put, List.setIfInBounds_toArray, List.set_cons_zero, List.set_cons_succ])
  refine AnyL_take (i := 7) (oi := oq9_4_7) (v := ?_) rfl (by kernel_rfl) (by kernel_rfl) (by kernel_rfl) (by kernel_rfl) (fun _ _ _ h => h) (Or.inl ⟨by rfl, ?_⟩) (by assumption) ?_
  rotate_left
  · (delta oq9_4_7; intro ws hSw; (try dsimp only at hSw); (try go_simp); (try with_reducible rfl))
  (try simp only [oq9_4_7, Act.put, List.setIfInBounds_toArray, List.set_cons_zero, List.set_cons_succ])
  refine AnyL_take (i := 8) (oi := oq9_4_8) (v := .agg cb) rfl (by kernel_rfl) (by kernel_rfl) (by kernel_rfl) (by kernel_rfl) (fun _ _ _ h => h) (yields_hash (w.heap.size + 1) cb (by rfl) (.tmp 4) rfl rfl (fun _ h => h.2.1) zb) (by assumption) ?_
  (try simp only [oq9_4_8, Act.put, List.setIfInBounds_toArray, List.set_cons_zero, List.set_cons_succ])
  refine AnyL_take (i := 9) (oi := oq9_4_9) (v := .agg ca) rfl (by kernel_rfl) (by kernel_rfl) (by kernel_rfl) (by kernel_rfl) (fun _ _ _ h => h) (yields_hash w.heap.size ca (by rfl) (.tmp 3) rfl rfl (fun _ h => h.1) za) (by assumption) ?_
  (try simp only [oq9_4_9, Act.put, List.setIfInBounds_toArray, List.set_cons_zero, List.set_cons_succ])
  refine AnyL_take (i := 11) (oi := oq9_4_11) (v := ?_) rfl (by kernel_rfl) (by kernel_rfl) (by kernel_rfl) (by kernel_rfl) (fun _ _ _ h => h) (Or.inl ⟨by rfl, ?_⟩) (by assumption) ?_
  rotate_left
  · (delta oq9_4_11; intro ws hSw; (try dsimp only at hSw); (try go_simp); (try with_reducible rfl))
  (try simp only [oq9_4_11, Act.put, List.setIfInBounds_toArray, List.set_cons_zero, List.set_cons_succ])
  refine AnyL_take (i := 12) (oi := oq9_4_12) (v := ?_) rfl (by kernel_rfl) (by kernel_rfl) (by kernel_rfl) (by kernel_rfl) (fun _ _ _ h => h) (Or.inl ⟨by rfl, ?_⟩) (by assumption) ?_
  rotate_left
  · (delta oq9_4_12; intro ws hSw; (try dsimp only at hSw); (try go_simp); (try with_reducible rfl))
  (try simp only [oq9_4_12, Act.put, List.setIfInBounds_toArray, List.set_cons_zero, List.set_cons_succ])
  refine AnyL_ready (rs := [10]) (by kernel_rfl) (by simp) ?_
  refine ReadyL.cons (o := oq9_4_10) rfl (fun K hK => ?_) ReadyL.nil
  delta oq9_4_10
  go_simp
  refine (HBA.out _).mono ?_
  rintro e V6 ⟨rfl, hb⟩
  have hSV6 : (fun V => Blk V w.heap.size 25 ca ∧ Blk V (w.heap.size + 1) 25 cb ∧ Blk V (w.heap.size + 1 + 1) 25 cc) V6 := ⟨hHeld.1.below hb hHeld.1.lt, hHeld.2.1.below hb hHeld.2.1.lt, hHeld.2.2.below hb hHeld.2.2.lt⟩
  replace WW := WW.trans (hb.mono WW.size)
  refine hK.out _ _ hSV6 (fun hHeld2 => ?_)
  clear hK K hHeld hSV6 hb
  have hHeld := hHeld2
  clear hHeld2
  (try simp only [oq9_4_10, Act.put, List.setIfInBounds_toArray, List.set_cons_zero, List.set_cons_succ])
  refine AnyL_take (i := 13) (oi := oq9_4_13) (v := ?_) rfl (by kernel_rfl) (by kernel_rfl) (by kernel_rfl) (by kernel_rfl) (fun _ _ _ h => h) (Or.inl ⟨by rfl, ?_⟩) (by assumption) ?_
  rotate_left
  · (delta oq9_4_13; intro ws hSw; (try dsimp only at hSw); (try go_simp); (try with_reducible rfl))
  (try simp only [oq9_4_13, Act.put, List.setIfInBounds_toArray, List.set_cons_zero, List.set_cons_succ])
  refine AnyL_take (i := 14) (oi := oq9_4_14) (v := ?_) rfl (by kernel_rfl) (by kernel_rfl) (by kernel_rfl) (by kernel_rfl) (fun _ _ _ h => h) (Or.inl ⟨by rfl, ?_⟩) (by assumption) ?_
  rotate_left
  · (delta oq9_4_14; intro ws hSw; (try dsimp only at hSw); (try go_simp); (try with_reducible rfl))
  (try simp only [oq9_4_14, Act.put, List.setIfInBounds_toArray, List.set_cons_zero, List.set_cons_succ])
  refine AnyL_take (i := 15) (oi := oq9_4_15) (v := ?_) rfl (by kernel_rfl) (by kernel_rfl) (by kernel_rfl) (by kernel_rfl) (fun _ _ _ h => h) (Or.inl ⟨by rfl, ?_⟩) (by assumption) ?_
  rotate_left
  · (delta oq9_4_15; intro ws hSw; (try dsimp only at hSw); (try go_simp); (try with_reducible rfl))
  (try simp only [oq9_4_15, Act.put, List.setIfInBounds_toArray, List.set_cons_zero, List.set_cons_succ])
  refine AnyL_take (i := 16) (oi := oq9_4_16) (v := ?_) rfl (by kernel_rfl) (by kernel_rfl) (by kernel_rfl) (by kernel_rfl) (fun _ _ _ h => h) (Or.inl ⟨by rfl, ?_⟩) (by assumption) ?_
  rotate_left
  · (delta oq9_4_16; intro ws hSw; (try dsimp only at hSw); (try go_simp); (try with_reducible rfl))
  (try simp only [oq9_4_16, Act.put, List.setIfInBounds_toArray, List.set_cons_zero, List.set_cons_succ])
  refine AnyL_take (i := 17) (oi := oq9_4_17) (v := ?_) rfl (by kernel_rfl) (by kernel_rfl) (by kernel_rfl) (by kernel_rfl) (fun _ _ _ h => h) (Or.inl ⟨by rfl, ?_⟩) (by assumption) ?_
  rotate_left
  · (delta oq9_4_17; intro ws hSw; (try dsimp only at hSw); (try go_simp); (try with_reducible rfl))
  (try simp only [oq9_4_17, Act.put, List.setIfInBounds_toArray, List.set_cons_zero, List.set_cons_succ])
  refine AnyL_take (i := 18) (oi := oq9_4_18) (v := .agg ca) rfl (by kernel_rfl) (by kernel_rfl) (by kernel_rfl) (by kernel_rfl) (fun _ _ _ h => h) (yields_hash w.heap.size ca (by rfl) (.tmp 3) rfl rfl (fun _ h => h.1) za) (by assumption) ?_
  (try simp only [oq9_4_18, Act.put, List.setIfInBounds_toArray, List.set_cons_zero, List.set_cons_succ])
  refine AnyL_take (i := 19) (oi := oq9_4_19) (v := .agg cb) rfl (by kernel_rfl) (by kernel_rfl) (by kernel_rfl) (by kernel_rfl) (fun _ _ _ h => h) (yields_hash (w.heap.size + 1) cb (by rfl) (.tmp 4) rfl rfl (fun _ h => h.2.1) zb) (by assumption) ?_
  (try simp only [oq9_4_19, Act.put, List.setIfInBounds_toArray, List.set_cons_zero, List.set_cons_succ])
  refine AnyL_take (i := 20) (oi := oq9_4_20) (v := ?_) rfl (by kernel_rfl) (by kernel_rfl) (by kernel_rfl) (by kernel_rfl) (fun _ _ _ h => h) (Or.inl ⟨by rfl, ?_⟩) (by assumption) ?_
  rotate_left
  · (delta oq9_4_20; intro ws hSw; (try dsimp only at hSw); (try go_simp); (try with_reducible rfl))
  (try simp only [oq9_4_20, Act.put, List.setIfInBounds_toArray, List.set_cons_zero, List.set_cons_succ])
  refine AnyL_take (i := 21) (oi := oq9_4_21) (v := ?_) rfl (by kernel_rfl) (by kernel_rfl) (by kernel_rfl) (by kernel_rfl) (fun _ _ _ h => h) (Or.inl ⟨by rfl, ?_⟩) (by assumption) ?_
  rotate_left
  · (delta oq9_4_21; intro ws hSw; (try dsimp only at hSw); (try go_simp); (try with_reducible rfl))
  (try simp only [oq9_4_21, Act.put, List.setIfInBounds_toArray, List.set_cons_zero, List.set_cons_succ])
  refine AnyL_take (i := 22) (oi := oq9_4_22) (v := ?_) rfl (by kernel_rfl) (by kernel_rfl) (by kernel_rfl) (by kernel_rfl) (fun _ _ _ h => h) (Or.inl ⟨by rfl, ?_⟩) (by assumption) ?_
  rotate_left
  · (delta oq9_4_22; intro ws hSw; (try dsimp only at hSw); (try go_simp); (try with_reducible rfl))
  (try simp only [oq9_4_22, Act.put, List.setIfInBounds_toArray, List.set_cons_zero, List.set_cons_succ])
  refine AnyL_done (by kernel_rfl) ?_ _
  clear hHeld
  have HF := hfin.out
  by_cases h1 : x ≤ 0
  · by_cases h2 : y ≤ 0
    · have h3 := HF ⟨h1, h2⟩
      clear HF
      go_wp2_with fail
      go_ret
      exact ⟨rfl, WW⟩
    · clear HF
      go_wp2_with fail
      go_ret
      exact ⟨rfl, WW⟩
  · clear HF
    go_wp2_with fail
    go_ret
    exact ⟨rfl, WW⟩
end Go.Proofs.YtenmdfhdiepfcaaDoor
