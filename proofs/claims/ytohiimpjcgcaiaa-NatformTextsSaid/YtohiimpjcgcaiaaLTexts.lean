/- NatformTexts: the walk. -/
import Derived.Test.YtohiimpjcgcaiaaAw
set_option linter.unusedVariables false
set_option linter.unusedSimpArgs false
namespace Go.Proofs.Ytohiimpjcgcaiaa
open Go.RowKit

def oq3_7_0 : Oper := { dst := some 18, op := Op.load 24 (Operand.tmp 1), type := 24, pos := "law.go:33", after := #[], guard := none }
def oq3_7_1 : Oper := { dst := some 19, op := Op.call { callee := Callee.value (Operand.func 12), args := #[Operand.tmp 18], argTypes := #[24] }, type := 9, pos := "law.go:33", after := #[{ on := 0, ground := Ground.data }], guard := none }
def oq3_7_2 : Oper := { dst := some 20, op := Op.load 24 (Operand.tmp 1), type := 24, pos := "law.go:33", after := #[], guard := none }
def oq3_7_3 : Oper := { dst := some 21, op := Op.call { callee := Callee.value (Operand.func 14), args := #[Operand.tmp 20, Operand.const (Value.int IntKind.u64 10)], argTypes := #[24, 29] }, type := 9, pos := "law.go:33", after := #[{ on := 2, ground := Ground.data }, { on := 1, ground := Ground.chain }], guard := none }
def oq3_7_4 : Oper := { dst := some 22, op := Op.binOp BinOp.eql 9 (Operand.tmp 19) (Operand.tmp 21) 9, type := 4, pos := "law.go:33", after := #[{ on := 1, ground := Ground.data }, { on := 3, ground := Ground.data }], guard := none }
def oq3_7_5 : Oper := { dst := some 23, op := Op.move (Operand.tmp 22), type := 4, pos := "law.go:33", after := #[{ on := 4, ground := Ground.data }, { on := 3, ground := Ground.chain }], guard := none }
def oq3_7_6 : Oper := { dst := some 24, op := Op.load 24 (Operand.tmp 1), type := 24, pos := "law.go:33", after := #[{ on := 5, ground := Ground.guard }], guard := some (5, true) }
def oq3_7_7 : Oper := { dst := some 25, op := Op.call { callee := Callee.value (Operand.func 13), args := #[Operand.tmp 24], argTypes := #[24] }, type := 9, pos := "law.go:33", after := #[{ on := 6, ground := Ground.data }, { on := 5, ground := Ground.chain }, { on := 5, ground := Ground.guard }], guard := some (5, true) }
def oq3_7_8 : Oper := { dst := some 26, op := Op.load 24 (Operand.tmp 1), type := 24, pos := "law.go:33", after := #[{ on := 5, ground := Ground.guard }], guard := some (5, true) }
def oq3_7_9 : Oper := { dst := some 27, op := Op.call { callee := Callee.value (Operand.func 14), args := #[Operand.tmp 26, Operand.const (Value.int IntKind.u64 16)], argTypes := #[24, 29] }, type := 9, pos := "law.go:33", after := #[{ on := 8, ground := Ground.data }, { on := 7, ground := Ground.chain }, { on := 5, ground := Ground.guard }], guard := some (5, true) }
def oq3_7_10 : Oper := { dst := some 28, op := Op.binOp BinOp.eql 9 (Operand.tmp 25) (Operand.tmp 27) 9, type := 4, pos := "law.go:33", after := #[{ on := 7, ground := Ground.data }, { on := 9, ground := Ground.data }, { on := 5, ground := Ground.guard }], guard := some (5, true) }
def oq3_7_11 : Oper := { dst := some 29, op := Op.pick (Operand.tmp 23) (Operand.tmp 28) (Operand.const (Value.bool false)), type := 4, pos := "law.go:33", after := #[{ on := 5, ground := Ground.data }, { on := 10, ground := Ground.data }], guard := none }
def oq3_7_12 : Oper := { dst := some 2, op := Op.assign (Operand.tmp 29), type := 4, pos := "law.go:33", after := #[{ on := 11, ground := Ground.data }, { on := 9, ground := Ground.chain }, { on := 0, ground := Ground.phase }, { on := 1, ground := Ground.phase }, { on := 2, ground := Ground.phase }, { on := 3, ground := Ground.phase }, { on := 4, ground := Ground.phase }, { on := 5, ground := Ground.phase }, { on := 6, ground := Ground.phase }, { on := 7, ground := Ground.phase }, { on := 8, ground := Ground.phase }, { on := 9, ground := Ground.phase }, { on := 10, ground := Ground.phase }, { on := 11, ground := Ground.phase }], guard := none }
set_option maxHeartbeats 4000000 in
set_option maxRecDepth 100000 in
theorem natformTexts_walk (A : Option Addr) (n c a : Nat) (w : World) (hA : Num w w.heap.size A n a) (hn : n ≤ 9223372036854775807) :
    Calls Try.prog 3 #[.agg #[.slice A n c]] w (RetB (.bool true) w) := by
  obtain ⟨b0, bw⟩ := boxes1 w (.slice A n c)
  have XN := VB.mk (B := w.heap.size) (a := a) b0 (.inl hA) bw (Nat.le_refl _) (by omega)
  have WW := bw
  clear bw b0
  go_enter Try.func3, Try.ntmps3
  go_wp2_with fail
  generalize hV : (w.alloc (.cells #[.slice A n c] 24)) = V0 at XN WW ⊢
  clear hV
  have hbs : w.heap.size ≤ V0.heap.size := WW.size
  have hc := awake_any V0
  refine hc.mono ?_
  clear hc
  rintro e V1 ⟨rfl, hb⟩
  replace XN := XN.below hb
  replace WW := WW.trans (hb.mono WW.size)
  have kXN := XN.cell
  have zXN := XN.lt
  clear hb hbs
  go_wp2_with fail
  by_cases h : 100 < n
  · have hbs : w.heap.size ≤ V1.heap.size := WW.size
    have hc := great1_any A n c V1 (by omega)
    rw [decide_eq_true h] at hc
    refine hc.mono ?_
    clear hc
    rintro e V2 ⟨rfl, hb⟩
    clear kXN zXN
    replace XN := XN.below hb
    replace WW := WW.trans (hb.mono WW.size)
    have kXN := XN.cell
    have zXN := XN.lt
    clear hb hbs
    go_wp2_with fail
    go_ret
    exact ⟨rfl, WW⟩
  · have hbs : w.heap.size ≤ V1.heap.size := WW.size
    have hc := great1_any A n c V1 (by omega)
    rw [decide_eq_false h] at hc
    refine hc.mono ?_
    clear hc
    rintro e V2 ⟨rfl, hb⟩
    clear kXN zXN
    replace XN := XN.below hb
    replace WW := WW.trans (hb.mono WW.size)
    have kXN := XN.cell
    have zXN := XN.lt
    clear hb hbs
    go_wp2_with fail
    cases hok : okB n a
    · have hbs : w.heap.size ≤ V2.heap.size := WW.size
      have hc := rvalid_any A n c a V2.heap.size V2 XN.num (Nat.le_refl _) (by omega)
      rw [hok] at hc
      refine hc.mono ?_
      clear hc
      rintro e V3 ⟨rfl, hb⟩
      clear kXN zXN
      replace XN := XN.below hb
      replace WW := WW.trans (hb.mono WW.size)
      have kXN := XN.cell
      have zXN := XN.lt
      clear hb hbs
      go_wp2_with fail
      have HT1 : Hid (strN (textS 10 n a) = { data := #[] }) := (show _ = _ by unfold textS; rw [hok]; rfl)
      have HT2 : Hid (strN (textS 16 n a) = { data := #[] }) := (show _ = _ by unfold textS; rw [hok]; rfl)
      have HOK := hid hok
      clear hok
      have hbs : w.heap.size ≤ V3.heap.size := WW.size
      have hc := text_any A n c a V3 XN.num (by omega)
      rw [HT1.out] at hc
      refine hc.mono ?_
      clear hc
      rintro e V4 ⟨rfl, hb⟩
      clear kXN zXN
      replace XN := XN.below hb
      replace WW := WW.trans (hb.mono WW.size)
      have kXN := XN.cell
      have zXN := XN.lt
      clear hb hbs
      go_wp2_with fail
      have hbs : w.heap.size ≤ V4.heap.size := WW.size
      have hc := hex_any A n c a V4 XN.num (by omega)
      rw [HT2.out] at hc
      refine hc.mono ?_
      clear hc
      rintro e V5 ⟨rfl, hb⟩
      clear kXN zXN
      replace XN := XN.below hb
      replace WW := WW.trans (hb.mono WW.size)
      have kXN := XN.cell
      have zXN := XN.lt
      clear hb hbs
      go_wp2_with fail
      go_ret
      exact ⟨rfl, WW⟩
    · have hbs : w.heap.size ≤ V2.heap.size := WW.size
      have hc := rvalid_any A n c a V2.heap.size V2 XN.num (Nat.le_refl _) (by omega)
      rw [hok] at hc
      refine hc.mono ?_
      clear hc
      rintro e V3 ⟨rfl, hb⟩
      clear kXN zXN
      replace XN := XN.below hb
      replace WW := WW.trans (hb.mono WW.size)
      have kXN := XN.cell
      have zXN := XN.lt
      clear hb hbs
      obtain ⟨T1, hT1⟩ : ∃ T, T = strN (textS 10 n a) := ⟨_, rfl⟩
      obtain ⟨T2, hT2⟩ : ∃ T, T = strN (textS 16 n a) := ⟨_, rfl⟩
      have HT1 := hid hT1
      have HT2 := hid hT2
      obtain ⟨hnw, h64⟩ := okB_yes.1 hok
      have HR1 : Hid (strN (textN 10 a) = T1) := (show _ = _ by rw [hT1]; unfold textS; rw [if_pos hok])
      have HR2 : Hid (strN (textN 16 a) = T2) := (show _ = _ by rw [hT2]; unfold textS; rw [if_pos hok])
      clear hT1 hT2 hok
      have HNW := hid hnw
      clear hnw
      go_wp2_with fail
      have hst : (fun w' => w'.cell? ⟨w.heap.size, 0, none⟩ = some (.slice A n c)) V3.drew := XN.cell
      clear kXN zXN
      replace WW := WW.drew
      replace XN := XN.drew
      have qq0 := XN.lt
      refine region_L 20 (fun w' => w'.cell? ⟨w.heap.size, 0, none⟩ = some (.slice A n c)) (by kernel_rfl) hst (fun hHeld => ?_)
      clear hst
      generalize hV : V3.drew = U3x0 at hHeld WW qq0 XN ⊢
      clear hV
      refine AnyL_take (i := 0) (oi := oq3_7_0) (v := ?_) rfl (by kernel_rfl) (by kernel_rfl) (by kernel_rfl) (by kernel_rfl) (fun _ _ _ h => h) (Or.inl ⟨by rfl, ?_⟩) (by assumption) ?_
      rotate_left
      · (delta oq3_7_0; intro ws hSw; (try dsimp only at hSw); (try go_simp); (try with_reducible rfl))
      (try simp only [oq3_7_0, Act.put, List.setIfInBounds_toArray, List.set_cons_zero, List.set_cons_succ])
      refine AnyL_take (i := 2) (oi := oq3_7_2) (v := ?_) rfl (by kernel_rfl) (by kernel_rfl) (by kernel_rfl) (by kernel_rfl) (fun _ _ _ h => h) (Or.inl ⟨by rfl, ?_⟩) (by assumption) ?_
      rotate_left
      · (delta oq3_7_2; intro ws hSw; (try dsimp only at hSw); (try go_simp); (try with_reducible rfl))
      (try simp only [oq3_7_2, Act.put, List.setIfInBounds_toArray, List.set_cons_zero, List.set_cons_succ])
      refine AnyL_ready (rs := [1]) (by kernel_rfl) (by simp) ?_
      refine ReadyL.cons (o := oq3_7_1) rfl (fun K hK => ?_) ReadyL.nil
      delta oq3_7_1
      go_simp
      have hbs : w.heap.size ≤ U3x0.heap.size := WW.size
      have hc := text_any A n c a U3x0 XN.num (by omega)
      rw [← HT1.out] at hc
      refine hc.mono ?_
      clear hc
      rintro e V5 ⟨rfl, hb⟩
      replace XN := XN.below hb
      replace WW := WW.trans (hb.mono WW.size)
      have sz5 := hb.size
      clear hb hbs
      refine hK.out _ _ (XN.cell) (fun hHeld2 => ?_)
      clear hK K hHeld
      have hHeld := hHeld2
      clear hHeld2
      (try simp only [oq3_7_1, Act.put, List.setIfInBounds_toArray, List.set_cons_zero, List.set_cons_succ])
      refine AnyL_ready (rs := [3]) (by kernel_rfl) (by simp) ?_
      refine ReadyL.cons (o := oq3_7_3) rfl (fun K hK => ?_) ReadyL.nil
      delta oq3_7_3
      go_simp
      have hbs : w.heap.size ≤ V5.heap.size := WW.size
      have hc := (show Calls Try.prog 14 #[.agg #[.slice A n c], .int .u64 10] V5 (RetB (.string T1) V5) by have h := rtext_any A c a 10 V5 (by rw [HNW.out]; exact XN.num) (by rw [HNW.out]; exact h64) (by decide) (by decide); rw [HNW.out, HR1.out] at h; exact h)
      refine hc.mono ?_
      clear hc
      rintro e V6 ⟨rfl, hb⟩
      replace XN := XN.below hb
      replace WW := WW.trans (hb.mono WW.size)
      have sz6 := hb.size
      clear hb hbs
      refine hK.out _ _ (XN.cell) (fun hHeld2 => ?_)
      clear hK K hHeld
      have hHeld := hHeld2
      clear hHeld2
      (try simp only [oq3_7_3, Act.put, List.setIfInBounds_toArray, List.set_cons_zero, List.set_cons_succ])
      refine AnyL_take (i := 4) (oi := oq3_7_4) (v := ?_) rfl (by kernel_rfl) (by kernel_rfl) (by kernel_rfl) (by kernel_rfl) (fun _ _ _ h => h) (Or.inl ⟨by rfl, ?_⟩) (by assumption) ?_
      rotate_left
      · (delta oq3_7_4; intro ws hSw; (try dsimp only at hSw); (try go_simp); (try with_reducible rfl))
      (try simp only [oq3_7_4, Act.put, List.setIfInBounds_toArray, List.set_cons_zero, List.set_cons_succ])
      refine AnyL_take (i := 5) (oi := oq3_7_5) (v := ?_) rfl (by kernel_rfl) (by kernel_rfl) (by kernel_rfl) (by kernel_rfl) (fun _ _ _ h => h) (Or.inl ⟨by rfl, ?_⟩) (by assumption) ?_
      rotate_left
      · (delta oq3_7_5; intro ws hSw; (try dsimp only at hSw); (try go_simp); (try with_reducible rfl))
      (try simp only [oq3_7_5, Act.put, List.setIfInBounds_toArray, List.set_cons_zero, List.set_cons_succ])
      refine AnyL_take (i := 6) (oi := oq3_7_6) (v := ?_) rfl (by kernel_rfl) (by kernel_rfl) (by kernel_rfl) (by kernel_rfl) (fun _ _ _ h => h) (Or.inl ⟨by rfl, ?_⟩) (by assumption) ?_
      rotate_left
      · (delta oq3_7_6; intro ws hSw; (try dsimp only at hSw); (try go_simp); (try with_reducible rfl))
      (try simp only [oq3_7_6, Act.put, List.setIfInBounds_toArray, List.set_cons_zero, List.set_cons_succ])
      refine AnyL_take (i := 8) (oi := oq3_7_8) (v := ?_) rfl (by kernel_rfl) (by kernel_rfl) (by kernel_rfl) (by kernel_rfl) (fun _ _ _ h => h) (Or.inl ⟨by rfl, ?_⟩) (by assumption) ?_
      rotate_left
      · (delta oq3_7_8; intro ws hSw; (try dsimp only at hSw); (try go_simp); (try with_reducible rfl))
      (try simp only [oq3_7_8, Act.put, List.setIfInBounds_toArray, List.set_cons_zero, List.set_cons_succ])
      refine AnyL_ready (rs := [7]) (by kernel_rfl) (by simp) ?_
      refine ReadyL.cons (o := oq3_7_7) rfl (fun K hK => ?_) ReadyL.nil
      delta oq3_7_7
      go_simp
      have hbs : w.heap.size ≤ V6.heap.size := WW.size
      have hc := hex_any A n c a V6 XN.num (by omega)
      rw [← HT2.out] at hc
      refine hc.mono ?_
      clear hc
      rintro e V7 ⟨rfl, hb⟩
      replace XN := XN.below hb
      replace WW := WW.trans (hb.mono WW.size)
      have sz7 := hb.size
      clear hb hbs
      refine hK.out _ _ (XN.cell) (fun hHeld2 => ?_)
      clear hK K hHeld
      have hHeld := hHeld2
      clear hHeld2
      (try simp only [oq3_7_7, Act.put, List.setIfInBounds_toArray, List.set_cons_zero, List.set_cons_succ])
      refine AnyL_ready (rs := [9]) (by kernel_rfl) (by simp) ?_
      refine ReadyL.cons (o := oq3_7_9) rfl (fun K hK => ?_) ReadyL.nil
      delta oq3_7_9
      go_simp
      have hbs : w.heap.size ≤ V7.heap.size := WW.size
      have hc := (show Calls Try.prog 14 #[.agg #[.slice A n c], .int .u64 16] V7 (RetB (.string T2) V7) by have h := rtext_any A c a 16 V7 (by rw [HNW.out]; exact XN.num) (by rw [HNW.out]; exact h64) (by decide) (by decide); rw [HNW.out, HR2.out] at h; exact h)
      refine hc.mono ?_
      clear hc
      rintro e V8 ⟨rfl, hb⟩
      replace XN := XN.below hb
      replace WW := WW.trans (hb.mono WW.size)
      have sz8 := hb.size
      clear hb hbs
      refine hK.out _ _ (XN.cell) (fun hHeld2 => ?_)
      clear hK K hHeld
      have hHeld := hHeld2
      clear hHeld2
      (try simp only [oq3_7_9, Act.put, List.setIfInBounds_toArray, List.set_cons_zero, List.set_cons_succ])
      refine AnyL_take (i := 10) (oi := oq3_7_10) (v := ?_) rfl (by kernel_rfl) (by kernel_rfl) (by kernel_rfl) (by kernel_rfl) (fun _ _ _ h => h) (Or.inl ⟨by rfl, ?_⟩) (by assumption) ?_
      rotate_left
      · (delta oq3_7_10; intro ws hSw; (try dsimp only at hSw); (try go_simp); (try with_reducible rfl))
      (try simp only [oq3_7_10, Act.put, List.setIfInBounds_toArray, List.set_cons_zero, List.set_cons_succ])
      refine AnyL_take (i := 11) (oi := oq3_7_11) (v := ?_) rfl (by kernel_rfl) (by kernel_rfl) (by kernel_rfl) (by kernel_rfl) (fun _ _ _ h => h) (Or.inl ⟨by rfl, ?_⟩) (by assumption) ?_
      rotate_left
      · (delta oq3_7_11; intro ws hSw; (try dsimp only at hSw); (try go_simp); (try with_reducible rfl))
      (try simp only [oq3_7_11, Act.put, List.setIfInBounds_toArray, List.set_cons_zero, List.set_cons_succ])
      refine AnyL_take (i := 12) (oi := oq3_7_12) (v := ?_) rfl (by kernel_rfl) (by kernel_rfl) (by kernel_rfl) (by kernel_rfl) (fun _ _ _ h => h) (Or.inl ⟨by rfl, ?_⟩) (by assumption) ?_
      rotate_left
      · (delta oq3_7_12; intro ws hSw; (try dsimp only at hSw); (try go_simp); (try with_reducible rfl))
      (try simp only [oq3_7_12, Act.put, List.setIfInBounds_toArray, List.set_cons_zero, List.set_cons_succ])
      refine AnyL_done (by kernel_rfl) ?_ _
      clear hHeld
      have kXN := XN.cell
      have zXN := XN.lt
      go_wp2_with fail
      go_ret
      exact ⟨rfl, WW⟩

end Go.Proofs.Ytohiimpjcgcaiaa
