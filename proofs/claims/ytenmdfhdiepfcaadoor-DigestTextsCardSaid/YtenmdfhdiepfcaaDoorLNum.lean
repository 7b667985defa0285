/- The reference's Number, and DigestNumbers. -/
import Derived.Test.YtenmdfhdiepfcaaDoorLNb
set_option linter.unusedVariables false
set_option linter.unusedSimpArgs false
namespace Go.Proofs.YtenmdfhdiepfcaaDoor
open Go Go.RowKit
def oq22_5_0 : Oper := { dst := some 11, op := Op.move (Operand.tmp 5), type := 3, pos := "ref.go:118", after := #[], guard := none }
def oq22_5_1 : Oper := { dst := some 12, op := Op.move (Operand.tmp 1), type := 3, pos := "ref.go:118", after := #[], guard := none }
def oq22_5_2 : Oper := { dst := some 13, op := Op.binOp BinOp.rem 3 (Operand.const (Value.int IntKind.i64 256)) (Operand.tmp 12) 3, type := 3, pos := "ref.go:118", after := #[{ on := 1, ground := Ground.data }], guard := none }
def oq22_5_3 : Oper := { dst := some 14, op := Op.move (Operand.tmp 1), type := 3, pos := "ref.go:118", after := #[], guard := none }
def oq22_5_4 : Oper := { dst := some 15, op := Op.call { callee := Callee.value (Operand.func 49), args := #[Operand.tmp 11, Operand.tmp 13, Operand.tmp 14], argTypes := #[3, 3, 3] }, type := 3, pos := "ref.go:118", after := #[{ on := 0, ground := Ground.data }, { on := 2, ground := Ground.data }, { on := 3, ground := Ground.data }], guard := none }
def oq22_5_5 : Oper := { dst := some 16, op := Op.move (Operand.tmp 6), type := 3, pos := "ref.go:118", after := #[], guard := none }
def oq22_5_6 : Oper := { dst := some 17, op := Op.indexAddr 25 (Operand.tmp 2) (Operand.tmp 16), type := 0, pos := "ref.go:118", after := #[{ on := 5, ground := Ground.data }], guard := none }
def oq22_5_7 : Oper := { dst := some 18, op := Op.load 5 (Operand.tmp 17), type := 5, pos := "ref.go:118", after := #[{ on := 6, ground := Ground.data }], guard := none }
def oq22_5_8 : Oper := { dst := some 19, op := Op.convert 5 3 (Operand.tmp 18), type := 3, pos := "ref.go:118", after := #[{ on := 7, ground := Ground.data }], guard := none }
def oq22_5_9 : Oper := { dst := some 20, op := Op.binOp BinOp.add 3 (Operand.tmp 15) (Operand.tmp 19) 3, type := 3, pos := "ref.go:118", after := #[{ on := 4, ground := Ground.data }, { on := 8, ground := Ground.data }], guard := none }
def oq22_5_10 : Oper := { dst := some 21, op := Op.move (Operand.tmp 1), type := 3, pos := "ref.go:118", after := #[], guard := none }
def oq22_5_11 : Oper := { dst := some 22, op := Op.call { callee := Callee.value (Operand.func 48), args := #[Operand.tmp 20, Operand.tmp 21], argTypes := #[3, 3] }, type := 3, pos := "ref.go:118", after := #[{ on := 9, ground := Ground.data }, { on := 10, ground := Ground.data }, { on := 4, ground := Ground.chain }], guard := none }
def oq22_5_12 : Oper := { dst := some 5, op := Op.assign (Operand.tmp 22), type := 3, pos := "ref.go:118", after := #[{ on := 11, ground := Ground.data }, { on := 11, ground := Ground.chain }, { on := 0, ground := Ground.phase }, { on := 1, ground := Ground.phase }, { on := 2, ground := Ground.phase }, { on := 3, ground := Ground.phase }, { on := 4, ground := Ground.phase }, { on := 5, ground := Ground.phase }, { on := 6, ground := Ground.phase }, { on := 7, ground := Ground.phase }, { on := 8, ground := Ground.phase }, { on := 9, ground := Ground.phase }, { on := 10, ground := Ground.phase }, { on := 11, ground := Ground.phase }], guard := none }

theorem vb_snoc (l : List Nat) {k : Nat} (h : k < l.length) : vb 256 (l.take (k + 1)) = vb 256 (l.take k) * 256 + l.getD k 0 := by
  rw [List.take_add_one, vb_append, List.getElem?_eq_getElem h, List.getD_eq_getElem?_getD, List.getElem?_eq_getElem h]
  simp [vb]
theorem step_one (v b m : Nat) : ((v % m * (256 % m) % m + b) % m) = (v * 256 + b) % m := by
  rw [← Nat.mul_mod, Nat.mod_add_mod]
set_option maxRecDepth 100000 in
set_option maxHeartbeats 4000000 in
theorem ref_number (l : List Nat) (m : Nat) (w : World) (hl : l.length = 32) (h8 : ∀ x ∈ l, x < 256) (h1 : 1 ≤ m) (h2 : m < 2305843009213693952) :
    Calls Tryd.prog 22 #[hv l, .int .i64 ((m : Nat) : Int)] w (fun e w' => e = .returned (.int .i64 ((vb 256 (l.take 16) % m : Nat) : Int)) ∧ Below w.heap.size w w') := by
  obtain ⟨ca, hca⟩ : ∃ cs, cs = brow l := ⟨_, rfl⟩
  have e1 : hv l = .agg ca := by rw [hca]; rfl
  have za : ca.size = 32 := by rw [hca, brow_size, hl]
  have HCA := hid hca
  have HL := hid hl
  have H8 := hid h8
  have WW := (Below.refl w.heap.size w).alloc (Nat.le_refl _) (.cells ca 25)
  have b1 := Blk.new w 25 ca
  rw [e1]
  clear hca e1 hl h8
  go_enter Tryd.func22, Tryd.ntmps22
  go_wp2_with fail
  generalize hV : w.alloc (.cells ca 25) = V0 at b1 WW ⊢
  clear hV
  go_loopw [5, 6] (fun v i wr => ∃ k : Nat, k ≤ 16 ∧ i = .int .i64 ((k : Nat) : Int) ∧ v = .int .i64 ((vb 256 (l.take k) % m : Nat) : Int) ∧ Below w.heap.size w wr ∧ Blk wr w.heap.size 25 ca) (fun v i wr => 16 - (intOf i).toNat)
  case atStart => exact ⟨0, by omega, rfl, by simp [vb], WW, b1⟩
  case round =>
    clear WW b1
    obtain ⟨k, hk, rfl, rfl, WW, b1⟩ := hrel
    by_cases hlt : k < 16
    · have hx : Hid (vb 256 (l.take (k + 1)) % m = _) := (show _ = _ by rw [vb_snoc l (by rw [HL.out]; omega), ← step_one])
      have hxl := HL.out
      have hx8 : l.getD k 0 < 256 := by
        rw [List.getD_eq_getElem?_getD, List.getElem?_eq_getElem (by omega)]
        exact H8.out _ (List.getElem_mem _)
      have hcell : ∀ V, Blk V w.heap.size 25 ca → V.cell? ⟨w.heap.size, k, none⟩ = some (.int .u8 ((l.getD k 0 : Nat) : Int)) := fun V h => by
        rw [HCA.out] at h
        exact h.readb (by omega)
      clear hxl
      generalize l.getD k 0 = x at hx hx8 hcell
      obtain ⟨X, hX⟩ : ∃ X, X = vb 256 (l.take k) % m := ⟨_, rfl⟩
      have hXm : X < m := by rw [hX]; exact Nat.mod_lt _ (by omega)
      rw [← hX] at hx ⊢
      clear hX
      obtain ⟨q, hq⟩ : ∃ q, q = 256 % m := ⟨_, rfl⟩
      have hqm : q < m := by rw [hq]; exact Nat.mod_lt _ (by omega)
      have hq2 : (256 : Int).tmod ((m : Nat) : Int) = ((q : Nat) : Int) := by rw [hq]; rfl
      rw [← hq] at hx
      clear hq
      obtain ⟨hi, hhi⟩ : ∃ h, h = X * q % m := ⟨_, rfl⟩
      have hhm : hi < m := by rw [hhi]; exact Nat.mod_lt _ (by omega)
      have HMU : Hid (∀ V, Calls Tryd.prog 49 #[.int .i64 ((X : Nat) : Int), .int .i64 ((q : Nat) : Int), .int .i64 ((m : Nat) : Int)] V (Ret (.int .i64 ((hi : Nat) : Int)) V)) := (show ∀ V, _ from fun V => by
        have h := ref_mul ((X : Nat) : Int) ((q : Nat) : Int) ((m : Nat) : Int) V (by omega) (by omega) (by omega) (by omega) (by omega) (by omega)
        rw [show ((X : Nat) : Int) * ((q : Nat) : Int) % ((m : Nat) : Int) = ((hi : Nat) : Int) by rw [hhi]; simp] at h
        exact h)
      rw [← hhi] at hx
      clear hhi
      obtain ⟨X2, hX2⟩ : ∃ h, h = (hi + x) % m := ⟨_, rfl⟩
      have HRE : Hid (∀ V, Calls Tryd.prog 48 #[.int .i64 (((hi : Nat) : Int) + ((x : Nat) : Int)), .int .i64 ((m : Nat) : Int)] V (Ret (.int .i64 ((X2 : Nat) : Int)) V)) := (show ∀ V, _ from fun V => by
        have h := ref_reduce (((hi : Nat) : Int) + ((x : Nat) : Int)) ((m : Nat) : Int) V (by omega) (by omega) (by omega) (by omega)
        rw [show (((hi : Nat) : Int) + ((x : Nat) : Int)) % ((m : Nat) : Int) = ((X2 : Nat) : Int) by rw [hX2]; simp] at h
        exact h)
      rw [← hX2] at hx
      clear hX2
      have hwr : IntKind.i64.wrap (((hi : Nat) : Int) + ((x : Nat) : Int)) = ((hi : Nat) : Int) + ((x : Nat) : Int) := by rw [IntKind.wrap_i64]; omega
      have hwx : IntKind.i64.wrap ((x : Nat) : Int) = ((x : Nat) : Int) := wrap_nat (by omega)
      have hwq : IntKind.i64.wrap ((q : Nat) : Int) = ((q : Nat) : Int) := wrap_nat (by omega)
      have hk1 := hcell _ b1
      go_wp2_with fail
      have hst : (fun V => Blk V w.heap.size 25 ca) wr := b1
      have hk32 : ((k : Nat) : Int) < 32 := by omega
      have hm0 : ¬ (m = 0) := by omega
      have hk33 : ¬ ((k : Nat) : Int) < 0 := by omega
      clear b1 hk1
      refine region_L 20 (fun V => Blk V w.heap.size 25 ca) (by kernel_rfl) hst (fun hHeld => ?_)
      refine AnyL_take (i := 0) (oi := oq22_5_0) (v := ?_) rfl (by kernel_rfl) (by kernel_rfl) (by kernel_rfl) (by kernel_rfl) (fun _ _ _ h => h) (Or.inl ⟨by rfl, ?_⟩) (by assumption) ?_
      rotate_left
      · (delta oq22_5_0; intro ws hSw; (try dsimp only at hSw); (try go_simp); (try with_reducible rfl))
      (try simp only [oq22_5_0, Act.put, List.setIfInBounds_toArray, List.set_cons_zero, List.set_cons_succ])
      refine AnyL_take (i := 1) (oi := oq22_5_1) (v := ?_) rfl (by kernel_rfl) (by kernel_rfl) (by kernel_rfl) (by kernel_rfl) (fun _ _ _ h => h) (Or.inl ⟨by rfl, ?_⟩) (by assumption) ?_
      rotate_left
      · (delta oq22_5_1; intro ws hSw; (try dsimp only at hSw); (try go_simp); (try with_reducible rfl))
      (try simp only [oq22_5_1, Act.put, List.setIfInBounds_toArray, List.set_cons_zero, List.set_cons_succ])
      refine AnyL_take (i := 2) (oi := oq22_5_2) (v := .int .i64 ((q : Nat) : Int)) rfl (by kernel_rfl) (by kernel_rfl) (by kernel_rfl) (by kernel_rfl) (fun _ _ _ h => h) (Or.inl ⟨by rfl, fun ws h => by delta oq22_5_2; go_simp⟩) (by assumption) ?_
      (try simp only [oq22_5_2, Act.put, List.setIfInBounds_toArray, List.set_cons_zero, List.set_cons_succ])
      refine AnyL_take (i := 3) (oi := oq22_5_3) (v := ?_) rfl (by kernel_rfl) (by kernel_rfl) (by kernel_rfl) (by kernel_rfl) (fun _ _ _ h => h) (Or.inl ⟨by rfl, ?_⟩) (by assumption) ?_
      rotate_left
      · (delta oq22_5_3; intro ws hSw; (try dsimp only at hSw); (try go_simp); (try with_reducible rfl))
      (try simp only [oq22_5_3, Act.put, List.setIfInBounds_toArray, List.set_cons_zero, List.set_cons_succ])
      refine AnyL_take (i := 5) (oi := oq22_5_5) (v := ?_) rfl (by kernel_rfl) (by kernel_rfl) (by kernel_rfl) (by kernel_rfl) (fun _ _ _ h => h) (Or.inl ⟨by rfl, ?_⟩) (by assumption) ?_
      rotate_left
      · (delta oq22_5_5; intro ws hSw; (try dsimp only at hSw); (try go_simp); (try with_reducible rfl))
      (try simp only [oq22_5_5, Act.put, List.setIfInBounds_toArray, List.set_cons_zero, List.set_cons_succ])
      refine AnyL_take (i := 6) (oi := oq22_5_6) (v := ?_) rfl (by kernel_rfl) (by kernel_rfl) (by kernel_rfl) (by kernel_rfl) (fun _ _ _ h => h) (Or.inl ⟨by rfl, ?_⟩) (by assumption) ?_
      rotate_left
      · (delta oq22_5_6; intro ws hSw; (try dsimp only at hSw); (try go_simp); (try with_reducible rfl))
      (try simp only [oq22_5_6, Act.put, List.setIfInBounds_toArray, List.set_cons_zero, List.set_cons_succ])
      refine AnyL_take (i := 7) (oi := oq22_5_7) (v := .int .u8 ((x : Nat) : Int)) rfl (by kernel_rfl) (by kernel_rfl) (by kernel_rfl) (by kernel_rfl) (fun _ _ _ h => h) (Or.inl ⟨by rfl, fun ws h => by have hk9 := hcell _ h; delta oq22_5_7; go_simp⟩) (by assumption) ?_
      (try simp only [oq22_5_7, Act.put, List.setIfInBounds_toArray, List.set_cons_zero, List.set_cons_succ])
      refine AnyL_take (i := 8) (oi := oq22_5_8) (v := ?_) rfl (by kernel_rfl) (by kernel_rfl) (by kernel_rfl) (by kernel_rfl) (fun _ _ _ h => h) (Or.inl ⟨by rfl, ?_⟩) (by assumption) ?_
      rotate_left
      · (delta oq22_5_8; intro ws hSw; (try dsimp only at hSw); (try go_simp); (try with_reducible rfl))
      (try simp only [oq22_5_8, Act.put, List.setIfInBounds_toArray, List.set_cons_zero, List.set_cons_succ])
      refine AnyL_take (i := 10) (oi := oq22_5_10) (v := ?_) rfl (by kernel_rfl) (by kernel_rfl) (by kernel_rfl) (by kernel_rfl) (fun _ _ _ h => h) (Or.inl ⟨by rfl, ?_⟩) (by assumption) ?_
      rotate_left
      · (delta oq22_5_10; intro ws hSw; (try dsimp only at hSw); (try go_simp); (try with_reducible rfl))
      (try simp only [oq22_5_10, Act.put, List.setIfInBounds_toArray, List.set_cons_zero, List.set_cons_succ])
      refine AnyL_ready (rs := [4]) (by kernel_rfl) (by simp) ?_
      refine ReadyL.cons (o := oq22_5_4) rfl (fun K hK => ?_) ReadyL.nil
      delta oq22_5_4
      go_simp
      refine (HMU.out _).mono ?_
      rintro e w' ⟨rfl, n1, rfl⟩
      have hSV : (fun V => Blk V w.heap.size 25 ca) _ := hHeld.drewN n1
      refine hK.out _ _ hSV (fun hHeld2 => ?_)
      clear hK K hHeld hSV
      have hHeld := hHeld2
      clear hHeld2
      (try simp only [oq22_5_4, Act.put, List.setIfInBounds_toArray, List.set_cons_zero, List.set_cons_succ])
      refine AnyL_take (i := 9) (oi := oq22_5_9) (v := ?_) rfl (by kernel_rfl) (by kernel_rfl) (by kernel_rfl) (by kernel_rfl) (fun _ _ _ h => h) (Or.inl ⟨by rfl, ?_⟩) (by assumption) ?_
      rotate_left
      · (delta oq22_5_9; intro ws hSw; (try dsimp only at hSw); (try go_simp); (try with_reducible rfl))
      (try simp only [oq22_5_9, Act.put, List.setIfInBounds_toArray, List.set_cons_zero, List.set_cons_succ])
      refine AnyL_ready (rs := [11]) (by kernel_rfl) (by simp) ?_
      refine ReadyL.cons (o := oq22_5_11) rfl (fun K hK => ?_) ReadyL.nil
      delta oq22_5_11
      go_simp
      refine (HRE.out _).mono ?_
      rintro e w' ⟨rfl, n1, rfl⟩
      have hSV : (fun V => Blk V w.heap.size 25 ca) _ := hHeld.drewN n1
      refine hK.out _ _ hSV (fun hHeld2 => ?_)
      clear hK K hHeld hSV
      have hHeld := hHeld2
      clear hHeld2
      (try simp only [oq22_5_11, Act.put, List.setIfInBounds_toArray, List.set_cons_zero, List.set_cons_succ])
      refine AnyL_take (i := 12) (oi := oq22_5_12) (v := ?_) rfl (by kernel_rfl) (by kernel_rfl) (by kernel_rfl) (by kernel_rfl) (fun _ _ _ h => h) (Or.inl ⟨by rfl, ?_⟩) (by assumption) ?_
      rotate_left
      · (delta oq22_5_12; intro ws hSw; (try dsimp only at hSw); (try go_simp); (try with_reducible rfl))
      (try simp only [oq22_5_12, Act.put, List.setIfInBounds_toArray, List.set_cons_zero, List.set_cons_succ])
      refine AnyL_done (by kernel_rfl) ?_ _
      go_wp2_with fail
      exact ⟨⟨k + 1, by omega, rfl, by rw [hx.out], below_drewN WW _, hHeld⟩, by simp [intOf]; omega⟩
    · have hk2 : k = 16 := by omega
      subst hk2
      go_wp2_with fail
      go_ret
      exact ⟨rfl, WW⟩
def oq6_6_0 : Oper := { dst := some 27, op := Op.move (Operand.tmp 6), type := 28, pos := "law.go:73", after := #[], guard := none }
def oq6_6_1 : Oper := { dst := some 28, op := Op.binOp BinOp.eql 28 (Operand.tmp 27) (Operand.const (Value.int IntKind.i64 0)) 28, type := 4, pos := "law.go:73", after := #[{ on := 0, ground := Ground.data }], guard := none }
def oq6_6_2 : Oper := { dst := some 29, op := Op.move (Operand.tmp 28), type := 4, pos := "law.go:73", after := #[{ on := 1, ground := Ground.data }], guard := none }
def oq6_6_3 : Oper := { dst := some 30, op := Op.move (Operand.tmp 5), type := 3, pos := "law.go:73", after := #[{ on := 2, ground := Ground.guard }], guard := some (2, true) }
def oq6_6_4 : Oper := { dst := some 31, op := Op.load 25 (Operand.tmp 2), type := 25, pos := "law.go:73", after := #[{ on := 2, ground := Ground.guard }], guard := some (2, true) }
def oq6_6_5 : Oper := { dst := some 32, op := Op.move (Operand.tmp 1), type := 3, pos := "law.go:73", after := #[{ on := 2, ground := Ground.guard }], guard := some (2, true) }
def oq6_6_6 : Oper := { dst := some 33, op := Op.call { callee := Callee.value (Operand.func 22), args := #[Operand.tmp 31, Operand.tmp 32], argTypes := #[25, 3] }, type := 3, pos := "law.go:73", after := #[{ on := 4, ground := Ground.data }, { on := 5, ground := Ground.data }, { on := 2, ground := Ground.chain }, { on := 2, ground := Ground.guard }], guard := some (2, true) }
def oq6_6_7 : Oper := { dst := some 34, op := Op.binOp BinOp.eql 3 (Operand.tmp 30) (Operand.tmp 33) 3, type := 4, pos := "law.go:73", after := #[{ on := 3, ground := Ground.data }, { on := 6, ground := Ground.data }, { on := 2, ground := Ground.guard }], guard := some (2, true) }
def oq6_6_8 : Oper := { dst := some 35, op := Op.pick (Operand.tmp 29) (Operand.tmp 34) (Operand.const (Value.bool false)), type := 4, pos := "law.go:73", after := #[{ on := 2, ground := Ground.data }, { on := 7, ground := Ground.data }], guard := none }
def oq6_6_9 : Oper := { dst := some 4, op := Op.assign (Operand.tmp 35), type := 4, pos := "law.go:73", after := #[{ on := 8, ground := Ground.data }, { on := 6, ground := Ground.chain }, { on := 0, ground := Ground.phase }, { on := 1, ground := Ground.phase }, { on := 2, ground := Ground.phase }, { on := 3, ground := Ground.phase }, { on := 4, ground := Ground.phase }, { on := 5, ground := Ground.phase }, { on := 6, ground := Ground.phase }, { on := 7, ground := Ground.phase }, { on := 8, ground := Ground.phase }], guard := none }

theorem list_take {P : Program} {ops : Array Oper} {Q : Exit → Act → World → Prop} {a : Act} {w : World} {rest : List Oper} {o : Oper} {v : Value} {S : World → Prop} (h : YieldsIf P ops S o v a) (hS : S w) (hk : wpList P ops Q rest (a.put o.dst v) w) : wpList P ops Q (o :: rest) a w := by
  unfold wpList
  rcases h with ⟨hw, hr⟩ | ⟨hw, rfl⟩
  · rw [if_pos hw]
    left
    unfold Oper.wp
    rw [hr w hS]
    exact hk
  · rw [if_neg (by simpa using hw)]
    exact hk
theorem list_step {P : Program} {ops : Array Oper} {Q : Exit → Act → World → Prop} {a : Act} {w : World} {rest : List Oper} {o : Oper} {S : World → Prop} (hw : Region.wanted o (yielded ops a.tmps) = true)
    (h : ∀ K, Hid (∀ b u, S u → (S u → wpList P ops Q rest b u) → K b u) → o.wp P a w K Q) : wpList P ops Q (o :: rest) a w := by
  unfold wpList
  rw [if_pos hw]
  exact .inl (h _ (hid fun b u hs k => k hs))

set_option maxRecDepth 100000 in
set_option maxHeartbeats 4000000 in
theorem numbers_walk (l : List Nat) (m : Int) (w : World) (hT : Tabs w) (hl : l.length = 32) (h8 : ∀ x ∈ l, x < 256) (hlo : -9223372036854775808 ≤ m) (hhi : m ≤ 9223372036854775807) :
    Calls Tryd.prog 6 #[hv l, .int .i64 m] w (fun e w' => e = .returned (.bool true) ∧ Below w.heap.size w w') := by
  by_cases hm : m < 1 ∨ 2305843009213693952 ≤ m
  · obtain ⟨ca, hca⟩ : ∃ cs, cs = brow l := ⟨_, rfl⟩
    have e1 : hv l = .agg ca := by rw [hca]; rfl
    have za : ca.size = 32 := by rw [hca, brow_size, hl]
    have HN : Hid (∀ V, Calls Tryd.prog 21 #[.agg ca, .int .i64 m] V (fun e w' => e = .returned (.tuple #[.int .i64 0, .int .i64 1]) ∧ Below V.heap.size V w')) := (show ∀ V, _ from fun V => by rw [← e1]; exact number_err l m V hm)
    have HT := hid hT
    have WW := (Below.refl w.heap.size w).alloc (Nat.le_refl _) (.cells ca 25)
    have b1 := Blk.new w 25 ca
    rw [e1]
    clear hca e1 hl h8 hT
    go_enter Tryd.func6, Tryd.ntmps6
    refine wp_seq_k (fun K1 hK1 => ?_)
    have HK1 := hid hK1
    clear hK1
    go_wp2_with fail
    refine HK1.out _ _ ?_
    clear HK1
    generalize hV : w.alloc (.cells ca 25) = V0 at b1 WW ⊢
    clear hV
    refine wp_seq_k (fun K2 hK2 => ?_)
    have HK2 := hid hK2
    clear hK2
    go_wp2_with fail
    refine (awake_any V0 (HT.out.below' HT.out.big WW)).mono ?_
    rintro e V00 ⟨rfl, hb⟩
    replace b1 := b1.below hb b1.lt
    replace WW := WW.trans (hb.mono WW.size)
    clear hb
    go_wp2_with fail
    refine HK2.out _ _ ?_
    clear HK2
    refine wp_seq_k (fun K3 hK3 => ?_)
    have HK3 := hid hK3
    clear hK3
    refine wp_region_lit ?_
    refine wpList_load_row rfl 25 (.tmp 2) rfl w.heap.size rfl 25 ca (0, 0) _ b1 Tryd.underlying25 rfl (by rw [za]; kernel_rfl) ?_
    go_wp2_with fail
    refine (HN.out _).mono ?_
    rintro e V1 ⟨rfl, hb⟩
    replace b1 := b1.below hb b1.lt
    replace WW := WW.trans (hb.mono WW.size)
    clear hb
    go_wp2_with fail
    refine HK3.out _ _ ?_
    clear HK3
    have hcases : (m < 1) ∨ (1 ≤ m ∧ 2305843009213693952 ≤ m) := by omega
    clear hm
    rcases hcases with h | ⟨h, h'⟩
    · go_wp2_with fail
      go_ret
      exact ⟨rfl, WW⟩
    · go_wp2_with fail
      go_ret
      exact ⟨rfl, WW⟩
  · obtain ⟨q, rfl⟩ : ∃ q : Nat, m = ((q : Nat) : Int) := ⟨m.toNat, by omega⟩
    obtain ⟨ca, hca⟩ : ∃ cs, cs = brow l := ⟨_, rfl⟩
    have e1 : hv l = .agg ca := by rw [hca]; rfl
    have za : ca.size = 32 := by rw [hca, brow_size, hl]
    obtain ⟨X, hX⟩ : ∃ X, X = vb 256 (l.take 16) % q := ⟨_, rfl⟩
    have HN : Hid (∀ V, Calls Tryd.prog 21 #[.agg ca, .int .i64 ((q : Nat) : Int)] V (fun e w' => e = .returned (.tuple #[.int .i64 ((X : Nat) : Int), .int .i64 0]) ∧ Below V.heap.size V w')) := (show ∀ V, _ from fun V => by rw [← e1, hX]; exact number_ok l q V hl h8 (by omega) (by omega))
    have HRN : Hid (∀ V, Calls Tryd.prog 22 #[.agg ca, .int .i64 ((q : Nat) : Int)] V (fun e w' => e = .returned (.int .i64 ((X : Nat) : Int)) ∧ Below V.heap.size V w')) := (show ∀ V, _ from fun V => by rw [← e1, hX]; exact ref_number l q V hl h8 (by omega) (by omega))
    clear hX
    have HT := hid hT
    have WW := (Below.refl w.heap.size w).alloc (Nat.le_refl _) (.cells ca 25)
    have b1 := Blk.new w 25 ca
    rw [e1]
    clear hca e1 hl h8 hT
    go_enter Tryd.func6, Tryd.ntmps6
    refine wp_seq_k (fun K1 hK1 => ?_)
    have HK1 := hid hK1
    clear hK1
    go_wp2_with fail
    refine HK1.out _ _ ?_
    clear HK1
    generalize hV : w.alloc (.cells ca 25) = V0 at b1 WW ⊢
    clear hV
    refine wp_seq_k (fun K2 hK2 => ?_)
    have HK2 := hid hK2
    clear hK2
    go_wp2_with fail
    refine (awake_any V0 (HT.out.below' HT.out.big WW)).mono ?_
    rintro e V00 ⟨rfl, hb⟩
    replace b1 := b1.below hb b1.lt
    replace WW := WW.trans (hb.mono WW.size)
    clear hb
    go_wp2_with fail
    refine HK2.out _ _ ?_
    clear HK2
    refine wp_seq_k (fun K3 hK3 => ?_)
    have HK3 := hid hK3
    clear hK3
    refine wp_region_lit ?_
    refine wpList_load_row rfl 25 (.tmp 2) rfl w.heap.size rfl 25 ca (0, 0) _ b1 Tryd.underlying25 rfl (by rw [za]; kernel_rfl) ?_
    go_wp2_with fail
    refine (HN.out _).mono ?_
    rintro e V1 ⟨rfl, hb⟩
    replace b1 := b1.below hb b1.lt
    replace WW := WW.trans (hb.mono WW.size)
    clear hb
    go_wp2_with fail
    refine HK3.out _ _ ?_
    clear HK3
    have hq1 : 1 ≤ q := by omega
    have hq2 : q < 2305843009213693952 := by omega
    clear hm
    have hql : ¬ (((q : Nat) : Int) < 1) := by omega
    have hqh : ¬ (2305843009213693952 ≤ ((q : Nat) : Int)) := by omega
    refine wp_seq_k (fun K4 hK4 => ?_)
    have HK4 := hid hK4
    clear hK4
    go_wp2_with fail
    refine HK4.out _ _ ?_
    clear HK4
    refine wp_seq_k (fun K5 hK5 => ?_)
    have hHeld : (fun V => Blk V w.heap.size 25 ca) V1 := b1
    clear b1
    refine wp_region_lit ?_
    refine list_take (o := oq6_6_0) (v := ?_) (S := (fun V => Blk V w.heap.size 25 ca)) (Or.inl ⟨by rfl, ?_⟩) hHeld ?_
    rotate_left
    · (delta oq6_6_0; intro ws hSw; (try dsimp only at hSw); (try go_simp); (try with_reducible rfl))
    (try simp only [oq6_6_0, Act.put, List.setIfInBounds_toArray, List.set_cons_zero, List.set_cons_succ])
    refine list_take (o := oq6_6_1) (v := ?_) (S := (fun V => Blk V w.heap.size 25 ca)) (Or.inl ⟨by rfl, ?_⟩) hHeld ?_
    rotate_left
    · (delta oq6_6_1; intro ws hSw; (try dsimp only at hSw); (try go_simp); (try with_reducible rfl))
    (try simp only [oq6_6_1, Act.put, List.setIfInBounds_toArray, List.set_cons_zero, List.set_cons_succ])
    refine list_take (o := oq6_6_2) (v := ?_) (S := (fun V => Blk V w.heap.size 25 ca)) (Or.inl ⟨by rfl, ?_⟩) hHeld ?_
    rotate_left
    · (delta oq6_6_2; intro ws hSw; (try dsimp only at hSw); (try go_simp); (try with_reducible rfl))
    (try simp only [oq6_6_2, Act.put, List.setIfInBounds_toArray, List.set_cons_zero, List.set_cons_succ])
    refine list_take (o := oq6_6_3) (v := ?_) (S := (fun V => Blk V w.heap.size 25 ca)) (Or.inl ⟨by rfl, ?_⟩) hHeld ?_
    rotate_left
    · (delta oq6_6_3; intro ws hSw; (try dsimp only at hSw); (try go_simp); (try with_reducible rfl))
    (try simp only [oq6_6_3, Act.put, List.setIfInBounds_toArray, List.set_cons_zero, List.set_cons_succ])
    refine list_take (o := oq6_6_4) (v := .agg ca) (S := (fun V => Blk V w.heap.size 25 ca)) (yields_hash w.heap.size ca (by rfl) (.tmp 2) rfl rfl (fun _ h => h) za) hHeld ?_
    (try simp only [oq6_6_4, Act.put, List.setIfInBounds_toArray, List.set_cons_zero, List.set_cons_succ])
    refine list_take (o := oq6_6_5) (v := ?_) (S := (fun V => Blk V w.heap.size 25 ca)) (Or.inl ⟨by rfl, ?_⟩) hHeld ?_
    rotate_left
    · (delta oq6_6_5; intro ws hSw; (try dsimp only at hSw); (try go_simp); (try with_reducible rfl))
    (try simp only [oq6_6_5, Act.put, List.setIfInBounds_toArray, List.set_cons_zero, List.set_cons_succ])
    refine list_step (o := oq6_6_6) (S := (fun V => Blk V w.heap.size 25 ca)) (by rfl) (fun K hK => ?_)
    delta oq6_6_6
    go_simp
    refine (HRN.out _).mono ?_
    rintro e V2 ⟨rfl, hb⟩
    have hSV : (fun V => Blk V w.heap.size 25 ca) V2 := hHeld.below hb hHeld.lt
    replace WW := WW.trans (hb.mono WW.size)
    refine hK.out _ _ hSV (fun hHeld2 => ?_)
    clear hK K hHeld hSV hb
    have hHeld := hHeld2
    clear hHeld2
    (try simp only [oq6_6_6, Act.put, List.setIfInBounds_toArray, List.set_cons_zero, List.set_cons_succ])
    refine list_take (o := oq6_6_7) (v := ?_) (S := (fun V => Blk V w.heap.size 25 ca)) (Or.inl ⟨by rfl, ?_⟩) hHeld ?_
    rotate_left
    · (delta oq6_6_7; intro ws hSw; (try dsimp only at hSw); (try go_simp); (try with_reducible rfl))
    (try simp only [oq6_6_7, Act.put, List.setIfInBounds_toArray, List.set_cons_zero, List.set_cons_succ])
    refine list_take (o := oq6_6_8) (v := ?_) (S := (fun V => Blk V w.heap.size 25 ca)) (Or.inl ⟨by rfl, ?_⟩) hHeld ?_
    rotate_left
    · (delta oq6_6_8; intro ws hSw; (try dsimp only at hSw); (try go_simp); (try with_reducible rfl))
    (try simp only [oq6_6_8, Act.put, List.setIfInBounds_toArray, List.set_cons_zero, List.set_cons_succ])
    refine list_take (o := oq6_6_9) (v := ?_) (S := (fun V => Blk V w.heap.size 25 ca)) (Or.inl ⟨by rfl, ?_⟩) hHeld ?_
    rotate_left
    · (delta oq6_6_9; intro ws hSw; (try dsimp only at hSw); (try go_simp); (try with_reducible rfl))
    (try simp only [oq6_6_9, Act.put, List.setIfInBounds_toArray, List.set_cons_zero, List.set_cons_succ])
    refine hK5 _ _ ?_
    go_wp2_with fail
    go_ret
    exact ⟨rfl, WW⟩

end Go.Proofs.YtenmdfhdiepfcaaDoor
