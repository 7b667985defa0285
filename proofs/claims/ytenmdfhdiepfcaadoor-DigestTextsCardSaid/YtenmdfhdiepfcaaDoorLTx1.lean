/- What DigestTexts reaches: the reference's digit and Compare. -/
import Derived.Test.YtenmdfhdiepfcaaDoorLNum
set_option linter.unusedVariables false
set_option linter.unusedSimpArgs false
namespace Go.Proofs.YtenmdfhdiepfcaaDoor
open Go Go.RowKit
/-- The value of a digit; -1 if it is none. -/
def dgt (c : Nat) : Int := if 48 ≤ c ∧ c ≤ 57 then ((c : Nat) : Int) - 48 else if 97 ≤ c ∧ c ≤ 102 then ((c : Nat) : Int) - 87 else -1
theorem dgt_lo (c : Nat) : -1 ≤ dgt c := by unfold dgt; split <;> (try split) <;> omega
theorem dgt_hi (c : Nat) : dgt c ≤ 15 := by unfold dgt; split <;> (try split) <;> omega
set_option maxHeartbeats 400000 in
theorem ref_digit (c : Nat) (w : World) (h : c < 256) : Calls Tryd.prog 52 #[.int .u8 ((c : Nat) : Int)] w (Ret (.int .i64 (dgt c)) w) := by
  have HD : Hid (dgt c = _) := (show dgt c = _ by unfold dgt; rfl)
  by_cases h1 : 48 ≤ c
  · by_cases h2 : c ≤ 57
    · have e : dgt c = ((c : Nat) : Int) - 48 := by rw [HD.out, if_pos ⟨h1, h2⟩]
      rw [e]
      have w1 : IntKind.u8.wrap (((c : Nat) : Int) - 48) = ((c : Nat) : Int) - 48 := by rw [IntKind.wrap_u8]; omega
      have w2 : IntKind.i64.wrap (((c : Nat) : Int) - 48) = ((c : Nat) : Int) - 48 := by rw [IntKind.wrap_i64]; omega
      clear e HD
      go_enter Tryd.func52, Tryd.ntmps52
      go_wp2_with fail
      go_ret
      exact ⟨rfl, 0, rfl⟩
    · by_cases h3 : 97 ≤ c ∧ c ≤ 102
      · have e : dgt c = ((c : Nat) : Int) - 97 + 10 := by rw [HD.out, if_neg (by omega), if_pos h3]; omega
        rw [e]
        have w1 : IntKind.u8.wrap (((c : Nat) : Int) - 97) = ((c : Nat) : Int) - 97 := by rw [IntKind.wrap_u8]; omega
        have w2 : IntKind.i64.wrap (((c : Nat) : Int) - 97) = ((c : Nat) : Int) - 97 := by rw [IntKind.wrap_i64]; omega
        have w3 : IntKind.i64.wrap (((c : Nat) : Int) - 97 + 10) = ((c : Nat) : Int) - 97 + 10 := by rw [IntKind.wrap_i64]; omega
        obtain ⟨h4, h5⟩ := h3
        clear e HD
        go_enter Tryd.func52, Tryd.ntmps52
        go_wp2_with fail
        go_ret
        exact ⟨rfl, 0, rfl⟩
      · have e : dgt c = -1 := by rw [HD.out, if_neg (by omega), if_neg h3]
        rw [e]
        have h4 : (57 < c ∧ c < 97) ∨ (97 ≤ c ∧ 102 < c) := by omega
        clear e HD h3
        rcases h4 with ⟨h4, h5⟩ | ⟨h4, h5⟩
        all_goals
          go_enter Tryd.func52, Tryd.ntmps52
          go_wp2_with fail
          go_ret
          exact ⟨rfl, 0, rfl⟩
  · have e : dgt c = -1 := by rw [HD.out, if_neg (by omega), if_neg (by omega)]
    rw [e]
    clear e HD
    go_enter Tryd.func52, Tryd.ntmps52
    go_wp2_with fail
    go_ret
    exact ⟨rfl, 0, rfl⟩
theorem drop_cons (l : List Nat) {k : Nat} (h : k < l.length) : l.drop k = l.getD k 0 :: l.drop (k + 1) := by
  rw [List.drop_eq_getElem_cons h, List.getD_eq_getElem?_getD, List.getElem?_eq_getElem h]; rfl
def oq27_4_0 : Oper := { dst := some 10, op := Op.move (Operand.tmp 5), type := 3, pos := "ref.go:163", after := #[], guard := none }
def oq27_4_1 : Oper := { dst := some 11, op := Op.indexAddr 25 (Operand.tmp 2) (Operand.tmp 10), type := 0, pos := "ref.go:163", after := #[{ on := 0, ground := Ground.data }], guard := none }
def oq27_4_2 : Oper := { dst := some 12, op := Op.load 5 (Operand.tmp 11), type := 5, pos := "ref.go:163", after := #[{ on := 1, ground := Ground.data }], guard := none }
def oq27_4_3 : Oper := { dst := some 13, op := Op.move (Operand.tmp 5), type := 3, pos := "ref.go:163", after := #[], guard := none }
def oq27_4_4 : Oper := { dst := some 14, op := Op.indexAddr 25 (Operand.tmp 3) (Operand.tmp 13), type := 0, pos := "ref.go:163", after := #[{ on := 3, ground := Ground.data }], guard := none }
def oq27_4_5 : Oper := { dst := some 15, op := Op.load 5 (Operand.tmp 14), type := 5, pos := "ref.go:163", after := #[{ on := 4, ground := Ground.data }], guard := none }
def oq27_4_6 : Oper := { dst := some 16, op := Op.binOp BinOp.lss 5 (Operand.tmp 12) (Operand.tmp 15) 5, type := 4, pos := "ref.go:163", after := #[{ on := 2, ground := Ground.data }, { on := 5, ground := Ground.data }], guard := none }
def oq27_6_0 : Oper := { dst := some 17, op := Op.move (Operand.tmp 5), type := 3, pos := "ref.go:166", after := #[], guard := none }
def oq27_6_1 : Oper := { dst := some 18, op := Op.indexAddr 25 (Operand.tmp 2) (Operand.tmp 17), type := 0, pos := "ref.go:166", after := #[{ on := 0, ground := Ground.data }], guard := none }
def oq27_6_2 : Oper := { dst := some 19, op := Op.load 5 (Operand.tmp 18), type := 5, pos := "ref.go:166", after := #[{ on := 1, ground := Ground.data }], guard := none }
def oq27_6_3 : Oper := { dst := some 20, op := Op.move (Operand.tmp 5), type := 3, pos := "ref.go:166", after := #[], guard := none }
def oq27_6_4 : Oper := { dst := some 21, op := Op.indexAddr 25 (Operand.tmp 3) (Operand.tmp 20), type := 0, pos := "ref.go:166", after := #[{ on := 3, ground := Ground.data }], guard := none }
def oq27_6_5 : Oper := { dst := some 22, op := Op.load 5 (Operand.tmp 21), type := 5, pos := "ref.go:166", after := #[{ on := 4, ground := Ground.data }], guard := none }
def oq27_6_6 : Oper := { dst := some 23, op := Op.binOp BinOp.gtr 5 (Operand.tmp 19) (Operand.tmp 22) 5, type := 4, pos := "ref.go:166", after := #[{ on := 2, ground := Ground.data }, { on := 5, ground := Ground.data }], guard := none }

set_option maxRecDepth 100000 in
set_option maxHeartbeats 4000000 in
theorem ref_compare (a b : List Nat) (w : World) (ha : a.length = 32) (hb : b.length = 32) (ha8 : ∀ x ∈ a, x < 256) (hb8 : ∀ x ∈ b, x < 256) :
    Calls Tryd.prog 27 #[hv a, hv b] w (fun e w' => e = .returned (.int .i64 (cmpN a b)) ∧ Below w.heap.size w w') := by
  obtain ⟨ca, hca⟩ : ∃ cs, cs = brow a := ⟨_, rfl⟩
  obtain ⟨cb, hcb⟩ : ∃ cs, cs = brow b := ⟨_, rfl⟩
  have e1 : hv a = .agg ca := by rw [hca]; rfl
  have e2 : hv b = .agg cb := by rw [hcb]; rfl
  have lt_get : ∀ (l : List Nat), (∀ x ∈ l, x < 256) → ∀ i, l.getD i 0 < 256 := fun l h i => by
    rw [List.getD_eq_getElem?_getD]
    cases e : l[i]? with
    | none => simp
    | some v => exact h v (List.mem_of_getElem? e)
  obtain ⟨r, hr⟩ : ∃ r, r = cmpN a b := ⟨_, rfl⟩
  rw [e1, e2, ← hr]
  have HR := hid hr
  have HA := hid hca
  have HB := hid hcb
  have LA := hid ha
  have LB := hid hb
  have GA := hid (lt_get a ha8)
  have GB := hid (lt_get b hb8)
  have WW := ((Below.refl w.heap.size w).alloc (Nat.le_refl _) (.cells ca 25)).alloc (by simp) (.cells cb 25)
  have b1 := (Blk.new w 25 ca).alloc (.cells cb 25)
  have b2 := Blk.new (w.alloc (.cells ca 25)) 25 cb
  simp only [World.size_alloc] at b2
  clear hca hcb e1 e2 ha hb ha8 hb8 hr lt_get
  go_enter Tryd.func27, Tryd.ntmps27
  go_wp2_with fail
  generalize hV : (w.alloc (.cells ca 25)).alloc (.cells cb 25) = V0 at b1 b2 WW ⊢
  clear hV
  go_loopw [5] (fun i wr => ∃ k : Nat, k ≤ 32 ∧ i = .int .i64 ((k : Nat) : Int) ∧ cmpN (a.drop k) (b.drop k) = r ∧ Below w.heap.size w wr ∧ Blk wr w.heap.size 25 ca ∧ Blk wr (w.heap.size + 1) 25 cb) (fun i wr => 32 - (intOf i).toNat)
  case atStart => exact ⟨0, by omega, rfl, HR.out.symm, WW, b1, b2⟩
  case round =>
    clear WW b1 b2
    obtain ⟨k, hk, rfl, he, WW, b1, b2⟩ := hrel
    by_cases hlt : k < 32
    · have hla := LA.out
      have hlb := LB.out
      rw [drop_cons a (by omega), drop_cons b (by omega)] at he
      have hxa := GA.out k
      have hxb := GB.out k
      have cca : ∀ V, Blk V w.heap.size 25 ca → V.cell? ⟨w.heap.size, k, none⟩ = some (.int .u8 ((a.getD k 0 : Nat) : Int)) := fun V h => by rw [HA.out] at h; exact h.readb (by omega)
      have ccb : ∀ V, Blk V (w.heap.size + 1) 25 cb → V.cell? ⟨w.heap.size + 1, k, none⟩ = some (.int .u8 ((b.getD k 0 : Nat) : Int)) := fun V h => by rw [HB.out] at h; exact h.readb (by omega)
      have hH := And.intro b1 b2
      clear b1 b2
      clear hla hlb
      generalize a.getD k 0 = x at he hxa cca
      generalize b.getD k 0 = y at he hxb ccb
      have hk32 : ((k : Nat) : Int) < 32 := by omega
      have hk33 : ¬ ((k : Nat) : Int) < 0 := by omega
      unfold cmpN at he
      by_cases hxy : x < y
      · rw [if_pos hxy] at he
        subst he
        go_wp2_with fail
        replace WW := WW.drew
        have hst : (fun V => Blk V w.heap.size 25 ca ∧ Blk V (w.heap.size + 1) 25 cb) wr.drew := hH
        clear hH
        refine region_L 14 (fun V => Blk V w.heap.size 25 ca ∧ Blk V (w.heap.size + 1) 25 cb) (by kernel_rfl) hst (fun hHeld => ?_)
        clear hst
        generalize hV : wr.drew = W1 at hHeld WW ⊢
        clear hV
        refine AnyL_take (i := 0) (oi := oq27_4_0) (v := ?_) rfl (by kernel_rfl) (by kernel_rfl) (by kernel_rfl) (by kernel_rfl) (fun _ _ _ h => h) (Or.inl ⟨by rfl, ?_⟩) (by assumption) ?_
        rotate_left
        · (delta oq27_4_0; intro ws hSw; (try dsimp only at hSw); (try go_simp); (try with_reducible rfl))
        (try simp only [oq27_4_0, Act.put, List.setIfInBounds_toArray, List.set_cons_zero, List.set_cons_succ])
        refine AnyL_take (i := 1) (oi := oq27_4_1) (v := .pointer (some ⟨w.heap.size, k, none⟩)) rfl (by kernel_rfl) (by kernel_rfl) (by kernel_rfl) (by kernel_rfl) (fun _ _ _ h => h) (Or.inl ⟨by rfl, fun ws h => by delta oq27_4_1; go_simp⟩) (by assumption) ?_
        (try simp only [oq27_4_1, Act.put, List.setIfInBounds_toArray, List.set_cons_zero, List.set_cons_succ])
        refine AnyL_take (i := 2) (oi := oq27_4_2) (v := .int .u8 ((x : Nat) : Int)) rfl (by kernel_rfl) (by kernel_rfl) (by kernel_rfl) (by kernel_rfl) (fun _ _ _ h => h) (Or.inl ⟨by rfl, fun ws h => by have hc9 := cca ws h.1; delta oq27_4_2; go_simp⟩) (by assumption) ?_
        (try simp only [oq27_4_2, Act.put, List.setIfInBounds_toArray, List.set_cons_zero, List.set_cons_succ])
        refine AnyL_take (i := 3) (oi := oq27_4_3) (v := ?_) rfl (by kernel_rfl) (by kernel_rfl) (by kernel_rfl) (by kernel_rfl) (fun _ _ _ h => h) (Or.inl ⟨by rfl, ?_⟩) (by assumption) ?_
        rotate_left
        · (delta oq27_4_3; intro ws hSw; (try dsimp only at hSw); (try go_simp); (try with_reducible rfl))
        (try simp only [oq27_4_3, Act.put, List.setIfInBounds_toArray, List.set_cons_zero, List.set_cons_succ])
        refine AnyL_take (i := 4) (oi := oq27_4_4) (v := .pointer (some ⟨w.heap.size + 1, k, none⟩)) rfl (by kernel_rfl) (by kernel_rfl) (by kernel_rfl) (by kernel_rfl) (fun _ _ _ h => h) (Or.inl ⟨by rfl, fun ws h => by delta oq27_4_4; go_simp⟩) (by assumption) ?_
        (try simp only [oq27_4_4, Act.put, List.setIfInBounds_toArray, List.set_cons_zero, List.set_cons_succ])
        refine AnyL_take (i := 5) (oi := oq27_4_5) (v := .int .u8 ((y : Nat) : Int)) rfl (by kernel_rfl) (by kernel_rfl) (by kernel_rfl) (by kernel_rfl) (fun _ _ _ h => h) (Or.inl ⟨by rfl, fun ws h => by have hc9 := ccb ws h.2; delta oq27_4_5; go_simp⟩) (by assumption) ?_
        (try simp only [oq27_4_5, Act.put, List.setIfInBounds_toArray, List.set_cons_zero, List.set_cons_succ])
        refine AnyL_take (i := 6) (oi := oq27_4_6) (v := ?_) rfl (by kernel_rfl) (by kernel_rfl) (by kernel_rfl) (by kernel_rfl) (fun _ _ _ h => h) (Or.inl ⟨by rfl, ?_⟩) (by assumption) ?_
        rotate_left
        · (delta oq27_4_6; intro ws hSw; (try dsimp only at hSw); (try go_simp); (try with_reducible rfl))
        (try simp only [oq27_4_6, Act.put, List.setIfInBounds_toArray, List.set_cons_zero, List.set_cons_succ])
        refine AnyL_done (by kernel_rfl) ?_ _
        have hH := hHeld
        clear hHeld
        go_wp2_with fail
        go_ret
        exact ⟨rfl, WW⟩
      · rw [if_neg hxy] at he
        by_cases hyx : y < x
        · rw [if_pos hyx] at he
          subst he
          go_wp2_with fail
          replace WW := WW.drew
          have hst : (fun V => Blk V w.heap.size 25 ca ∧ Blk V (w.heap.size + 1) 25 cb) wr.drew := hH
          clear hH
          refine region_L 14 (fun V => Blk V w.heap.size 25 ca ∧ Blk V (w.heap.size + 1) 25 cb) (by kernel_rfl) hst (fun hHeld => ?_)
          clear hst
          generalize hV : wr.drew = W1 at hHeld WW ⊢
          clear hV
          refine AnyL_take (i := 0) (oi := oq27_4_0) (v := ?_) rfl (by kernel_rfl) (by kernel_rfl) (by kernel_rfl) (by kernel_rfl) (fun _ _ _ h => h) (Or.inl ⟨by rfl, ?_⟩) (by assumption) ?_
          rotate_left
          · (delta oq27_4_0; intro ws hSw; (try dsimp only at hSw); (try go_simp); (try with_reducible rfl))
          (try simp only [oq27_4_0, Act.put, List.setIfInBounds_toArray, List.set_cons_zero, List.set_cons_succ])
          refine AnyL_take (i := 1) (oi := oq27_4_1) (v := .pointer (some ⟨w.heap.size, k, none⟩)) rfl (by kernel_rfl) (by kernel_rfl) (by kernel_rfl) (by kernel_rfl) (fun _ _ _ h => h) (Or.inl ⟨by rfl, fun ws h => by delta oq27_4_1; go_simp⟩) (by assumption) ?_
          (try simp only [oq27_4_1, Act.put, List.setIfInBounds_toArray, List.set_cons_zero, List.set_cons_succ])
          refine AnyL_take (i := 2) (oi := oq27_4_2) (v := .int .u8 ((x : Nat) : Int)) rfl (by kernel_rfl) (by kernel_rfl) (by kernel_rfl) (by kernel_rfl) (fun _ _ _ h => h) (Or.inl ⟨by rfl, fun ws h => by have hc9 := cca ws h.1; delta oq27_4_2; go_simp⟩) (by assumption) ?_
          (try simp only [oq27_4_2, Act.put, List.setIfInBounds_toArray, List.set_cons_zero, List.set_cons_succ])
          refine AnyL_take (i := 3) (oi := oq27_4_3) (v := ?_) rfl (by kernel_rfl) (by kernel_rfl) (by kernel_rfl) (by kernel_rfl) (fun _ _ _ h => h) (Or.inl ⟨by rfl, ?_⟩) (by assumption) ?_
          rotate_left
          · (delta oq27_4_3; intro ws hSw; (try dsimp only at hSw); (try go_simp); (try with_reducible rfl))
          (try simp only [oq27_4_3, Act.put, List.setIfInBounds_toArray, List.set_cons_zero, List.set_cons_succ])
          refine AnyL_take (i := 4) (oi := oq27_4_4) (v := .pointer (some ⟨w.heap.size + 1, k, none⟩)) rfl (by kernel_rfl) (by kernel_rfl) (by kernel_rfl) (by kernel_rfl) (fun _ _ _ h => h) (Or.inl ⟨by rfl, fun ws h => by delta oq27_4_4; go_simp⟩) (by assumption) ?_
          (try simp only [oq27_4_4, Act.put, List.setIfInBounds_toArray, List.set_cons_zero, List.set_cons_succ])
          refine AnyL_take (i := 5) (oi := oq27_4_5) (v := .int .u8 ((y : Nat) : Int)) rfl (by kernel_rfl) (by kernel_rfl) (by kernel_rfl) (by kernel_rfl) (fun _ _ _ h => h) (Or.inl ⟨by rfl, fun ws h => by have hc9 := ccb ws h.2; delta oq27_4_5; go_simp⟩) (by assumption) ?_
          (try simp only [oq27_4_5, Act.put, List.setIfInBounds_toArray, List.set_cons_zero, List.set_cons_succ])
          refine AnyL_take (i := 6) (oi := oq27_4_6) (v := ?_) rfl (by kernel_rfl) (by kernel_rfl) (by kernel_rfl) (by kernel_rfl) (fun _ _ _ h => h) (Or.inl ⟨by rfl, ?_⟩) (by assumption) ?_
          rotate_left
          · (delta oq27_4_6; intro ws hSw; (try dsimp only at hSw); (try go_simp); (try with_reducible rfl))
          (try simp only [oq27_4_6, Act.put, List.setIfInBounds_toArray, List.set_cons_zero, List.set_cons_succ])
          refine AnyL_done (by kernel_rfl) ?_ _
          have hH := hHeld
          clear hHeld
          go_wp2_with fail
          replace WW := WW.drew
          have hst : (fun V => Blk V w.heap.size 25 ca ∧ Blk V (w.heap.size + 1) 25 cb) W1.drew := hH
          clear hH
          refine region_L 14 (fun V => Blk V w.heap.size 25 ca ∧ Blk V (w.heap.size + 1) 25 cb) (by kernel_rfl) hst (fun hHeld => ?_)
          clear hst
          generalize hV : W1.drew = W2 at hHeld WW ⊢
          clear hV
          refine AnyL_take (i := 0) (oi := oq27_6_0) (v := ?_) rfl (by kernel_rfl) (by kernel_rfl) (by kernel_rfl) (by kernel_rfl) (fun _ _ _ h => h) (Or.inl ⟨by rfl, ?_⟩) (by assumption) ?_
          rotate_left
          · (delta oq27_6_0; intro ws hSw; (try dsimp only at hSw); (try go_simp); (try with_reducible rfl))
          (try simp only [oq27_6_0, Act.put, List.setIfInBounds_toArray, List.set_cons_zero, List.set_cons_succ])
          refine AnyL_take (i := 1) (oi := oq27_6_1) (v := .pointer (some ⟨w.heap.size, k, none⟩)) rfl (by kernel_rfl) (by kernel_rfl) (by kernel_rfl) (by kernel_rfl) (fun _ _ _ h => h) (Or.inl ⟨by rfl, fun ws h => by delta oq27_6_1; go_simp⟩) (by assumption) ?_
          (try simp only [oq27_6_1, Act.put, List.setIfInBounds_toArray, List.set_cons_zero, List.set_cons_succ])
          refine AnyL_take (i := 2) (oi := oq27_6_2) (v := .int .u8 ((x : Nat) : Int)) rfl (by kernel_rfl) (by kernel_rfl) (by kernel_rfl) (by kernel_rfl) (fun _ _ _ h => h) (Or.inl ⟨by rfl, fun ws h => by have hc9 := cca ws h.1; delta oq27_6_2; go_simp⟩) (by assumption) ?_
          (try simp only [oq27_6_2, Act.put, List.setIfInBounds_toArray, List.set_cons_zero, List.set_cons_succ])
          refine AnyL_take (i := 3) (oi := oq27_6_3) (v := ?_) rfl (by kernel_rfl) (by kernel_rfl) (by kernel_rfl) (by kernel_rfl) (fun _ _ _ h => h) (Or.inl ⟨by rfl, ?_⟩) (by assumption) ?_
          rotate_left
          · (delta oq27_6_3; intro ws hSw; (try dsimp only at hSw); (try go_simp); (try with_reducible rfl))
          (try simp only [oq27_6_3, Act.put, List.setIfInBounds_toArray, List.set_cons_zero, List.set_cons_succ])
          refine AnyL_take (i := 4) (oi := oq27_6_4) (v := .pointer (some ⟨w.heap.size + 1, k, none⟩)) rfl (by kernel_rfl) (by kernel_rfl) (by kernel_rfl) (by kernel_rfl) (fun _ _ _ h => h) (Or.inl ⟨by rfl, fun ws h => by delta oq27_6_4; go_simp⟩) (by assumption) ?_
          (try simp only [oq27_6_4, Act.put, List.setIfInBounds_toArray, List.set_cons_zero, List.set_cons_succ])
          refine AnyL_take (i := 5) (oi := oq27_6_5) (v := .int .u8 ((y : Nat) : Int)) rfl (by kernel_rfl) (by kernel_rfl) (by kernel_rfl) (by kernel_rfl) (fun _ _ _ h => h) (Or.inl ⟨by rfl, fun ws h => by have hc9 := ccb ws h.2; delta oq27_6_5; go_simp⟩) (by assumption) ?_
          (try simp only [oq27_6_5, Act.put, List.setIfInBounds_toArray, List.set_cons_zero, List.set_cons_succ])
          refine AnyL_take (i := 6) (oi := oq27_6_6) (v := ?_) rfl (by kernel_rfl) (by kernel_rfl) (by kernel_rfl) (by kernel_rfl) (fun _ _ _ h => h) (Or.inl ⟨by rfl, ?_⟩) (by assumption) ?_
          rotate_left
          · (delta oq27_6_6; intro ws hSw; (try dsimp only at hSw); (try go_simp); (try with_reducible rfl))
          (try simp only [oq27_6_6, Act.put, List.setIfInBounds_toArray, List.set_cons_zero, List.set_cons_succ])
          refine AnyL_done (by kernel_rfl) ?_ _
          have hH := hHeld
          clear hHeld
          go_wp2_with fail
          go_ret
          exact ⟨rfl, WW⟩
        · rw [if_neg hyx] at he
          have HE := hid he
          clear he
          go_wp2_with fail
          replace WW := WW.drew
          have hst : (fun V => Blk V w.heap.size 25 ca ∧ Blk V (w.heap.size + 1) 25 cb) wr.drew := hH
          clear hH
          refine region_L 14 (fun V => Blk V w.heap.size 25 ca ∧ Blk V (w.heap.size + 1) 25 cb) (by kernel_rfl) hst (fun hHeld => ?_)
          clear hst
          generalize hV : wr.drew = W1 at hHeld WW ⊢
          clear hV
          refine AnyL_take (i := 0) (oi := oq27_4_0) (v := ?_) rfl (by kernel_rfl) (by kernel_rfl) (by kernel_rfl) (by kernel_rfl) (fun _ _ _ h => h) (Or.inl ⟨by rfl, ?_⟩) (by assumption) ?_
          rotate_left
          · (delta oq27_4_0; intro ws hSw; (try dsimp only at hSw); (try go_simp); (try with_reducible rfl))
          (try simp only [oq27_4_0, Act.put, List.setIfInBounds_toArray, List.set_cons_zero, List.set_cons_succ])
          refine AnyL_take (i := 1) (oi := oq27_4_1) (v := .pointer (some ⟨w.heap.size, k, none⟩)) rfl (by kernel_rfl) (by kernel_rfl) (by kernel_rfl) (by kernel_rfl) (fun _ _ _ h => h) (Or.inl ⟨by rfl, fun ws h => by delta oq27_4_1; go_simp⟩) (by assumption) ?_
          (try simp only [oq27_4_1, Act.put, List.setIfInBounds_toArray, List.set_cons_zero, List.set_cons_succ])
          refine AnyL_take (i := 2) (oi := oq27_4_2) (v := .int .u8 ((x : Nat) : Int)) rfl (by kernel_rfl) (by kernel_rfl) (by kernel_rfl) (by kernel_rfl) (fun _ _ _ h => h) (Or.inl ⟨by rfl, fun ws h => by have hc9 := cca ws h.1; delta oq27_4_2; go_simp⟩) (by assumption) ?_
          (try simp only [oq27_4_2, Act.put, List.setIfInBounds_toArray, List.set_cons_zero, List.set_cons_succ])
          refine AnyL_take (i := 3) (oi := oq27_4_3) (v := ?_) rfl (by kernel_rfl) (by kernel_rfl) (by kernel_rfl) (by kernel_rfl) (fun _ _ _ h => h) (Or.inl ⟨by rfl, ?_⟩) (by assumption) ?_
          rotate_left
          · (delta oq27_4_3; intro ws hSw; (try dsimp only at hSw); (try go_simp); (try with_reducible rfl))
          (try simp only [oq27_4_3, Act.put, List.setIfInBounds_toArray, List.set_cons_zero, List.set_cons_succ])
          refine AnyL_take (i := 4) (oi := oq27_4_4) (v := .pointer (some ⟨w.heap.size + 1, k, none⟩)) rfl (by kernel_rfl) (by kernel_rfl) (by kernel_rfl) (by kernel_rfl) (fun _ _ _ h => h) (Or.inl ⟨by rfl, fun ws h => by delta oq27_4_4; go_simp⟩) (by assumption) ?_
          (try simp only [oq27_4_4, Act.put, List.setIfInBounds_toArray, List.set_cons_zero, List.set_cons_succ])
          refine AnyL_take (i := 5) (oi := oq27_4_5) (v := .int .u8 ((y : Nat) : Int)) rfl (by kernel_rfl) (by kernel_rfl) (by kernel_rfl) (by kernel_rfl) (fun _ _ _ h => h) (Or.inl ⟨by rfl, fun ws h => by have hc9 := ccb ws h.2; delta oq27_4_5; go_simp⟩) (by assumption) ?_
          (try simp only [oq27_4_5, Act.put, List.setIfInBounds_toArray, List.set_cons_zero, List.set_cons_succ])
          refine AnyL_take (i := 6) (oi := oq27_4_6) (v := ?_) rfl (by kernel_rfl) (by kernel_rfl) (by kernel_rfl) (by kernel_rfl) (fun _ _ _ h => h) (Or.inl ⟨by rfl, ?_⟩) (by assumption) ?_
          rotate_left
          · (delta oq27_4_6; intro ws hSw; (try dsimp only at hSw); (try go_simp); (try with_reducible rfl))
          (try simp only [oq27_4_6, Act.put, List.setIfInBounds_toArray, List.set_cons_zero, List.set_cons_succ])
          refine AnyL_done (by kernel_rfl) ?_ _
          have hH := hHeld
          clear hHeld
          go_wp2_with fail
          replace WW := WW.drew
          have hst : (fun V => Blk V w.heap.size 25 ca ∧ Blk V (w.heap.size + 1) 25 cb) W1.drew := hH
          clear hH
          refine region_L 14 (fun V => Blk V w.heap.size 25 ca ∧ Blk V (w.heap.size + 1) 25 cb) (by kernel_rfl) hst (fun hHeld => ?_)
          clear hst
          generalize hV : W1.drew = W2 at hHeld WW ⊢
          clear hV
          refine AnyL_take (i := 0) (oi := oq27_6_0) (v := ?_) rfl (by kernel_rfl) (by kernel_rfl) (by kernel_rfl) (by kernel_rfl) (fun _ _ _ h => h) (Or.inl ⟨by rfl, ?_⟩) (by assumption) ?_
          rotate_left
          · (delta oq27_6_0; intro ws hSw; (try dsimp only at hSw); (try go_simp); (try with_reducible rfl))
          (try simp only [oq27_6_0, Act.put, List.setIfInBounds_toArray, List.set_cons_zero, List.set_cons_succ])
          refine AnyL_take (i := 1) (oi := oq27_6_1) (v := .pointer (some ⟨w.heap.size, k, none⟩)) rfl (by kernel_rfl) (by kernel_rfl) (by kernel_rfl) (by kernel_rfl) (fun _ _ _ h => h) (Or.inl ⟨by rfl, fun ws h => by delta oq27_6_1; go_simp⟩) (by assumption) ?_
          (try simp only [oq27_6_1, Act.put, List.setIfInBounds_toArray, List.set_cons_zero, List.set_cons_succ])
          refine AnyL_take (i := 2) (oi := oq27_6_2) (v := .int .u8 ((x : Nat) : Int)) rfl (by kernel_rfl) (by kernel_rfl) (by kernel_rfl) (by kernel_rfl) (fun _ _ _ h => h) (Or.inl ⟨by rfl, fun ws h => by have hc9 := cca ws h.1; delta oq27_6_2; go_simp⟩) (by assumption) ?_
          (try simp only [oq27_6_2, Act.put, List.setIfInBounds_toArray, List.set_cons_zero, List.set_cons_succ])
          refine AnyL_take (i := 3) (oi := oq27_6_3) (v := ?_) rfl (by kernel_rfl) (by kernel_rfl) (by kernel_rfl) (by kernel_rfl) (fun _ _ _ h => h) (Or.inl ⟨by rfl, ?_⟩) (by assumption) ?_
          rotate_left
          · (delta oq27_6_3; intro ws hSw; (try dsimp only at hSw); (try go_simp); (try with_reducible rfl))
          (try simp only [oq27_6_3, Act.put, List.setIfInBounds_toArray, List.set_cons_zero, List.set_cons_succ])
          refine AnyL_take (i := 4) (oi := oq27_6_4) (v := .pointer (some ⟨w.heap.size + 1, k, none⟩)) rfl (by kernel_rfl) (by kernel_rfl) (by kernel_rfl) (by kernel_rfl) (fun _ _ _ h => h) (Or.inl ⟨by rfl, fun ws h => by delta oq27_6_4; go_simp⟩) (by assumption) ?_
          (try simp only [oq27_6_4, Act.put, List.setIfInBounds_toArray, List.set_cons_zero, List.set_cons_succ])
          refine AnyL_take (i := 5) (oi := oq27_6_5) (v := .int .u8 ((y : Nat) : Int)) rfl (by kernel_rfl) (by kernel_rfl) (by kernel_rfl) (by kernel_rfl) (fun _ _ _ h => h) (Or.inl ⟨by rfl, fun ws h => by have hc9 := ccb ws h.2; delta oq27_6_5; go_simp⟩) (by assumption) ?_
          (try simp only [oq27_6_5, Act.put, List.setIfInBounds_toArray, List.set_cons_zero, List.set_cons_succ])
          refine AnyL_take (i := 6) (oi := oq27_6_6) (v := ?_) rfl (by kernel_rfl) (by kernel_rfl) (by kernel_rfl) (by kernel_rfl) (fun _ _ _ h => h) (Or.inl ⟨by rfl, ?_⟩) (by assumption) ?_
          rotate_left
          · (delta oq27_6_6; intro ws hSw; (try dsimp only at hSw); (try go_simp); (try with_reducible rfl))
          (try simp only [oq27_6_6, Act.put, List.setIfInBounds_toArray, List.set_cons_zero, List.set_cons_succ])
          refine AnyL_done (by kernel_rfl) ?_ _
          have hH := hHeld
          clear hHeld
          go_wp2_with fail
          exact ⟨⟨k + 1, by omega, rfl, HE.out, WW, hH.1, hH.2⟩, by simp [intOf]; omega⟩
    · have hk2 : k = 32 := by omega
      subst hk2
      rw [List.drop_of_length_le (by rw [LA.out]; exact Nat.le_refl _), List.drop_of_length_le (by rw [LB.out]; exact Nat.le_refl _)] at he
      unfold cmpN at he
      subst he
      go_wp2_with fail
      go_ret
      exact ⟨rfl, WW⟩
end Go.Proofs.YtenmdfhdiepfcaaDoor
