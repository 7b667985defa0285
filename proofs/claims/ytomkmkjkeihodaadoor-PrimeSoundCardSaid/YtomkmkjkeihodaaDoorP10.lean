/- prime.less. -/
import Derived.Test.YtomkmkjkeihodaaDoorP9
set_option linter.unusedVariables false
set_option linter.unusedSimpArgs false
namespace Go.Proofs.YtomkmkjkeihodaaDoor
open Go.RowKit

def oq81_1_0 : Oper := { dst := some 6, op := Op.load 37 (Operand.tmp 1), type := 37, pos := "certificate.go:117", after := #[], guard := none }
def oq81_1_1 : Oper := { dst := some 7, op := Op.call { callee := Callee.value (Operand.func 41), args := #[Operand.const (Value.int IntKind.i64 1)], argTypes := #[3] }, type := 37, pos := "certificate.go:117", after := #[], guard := none }
def oq81_1_2 : Oper := { dst := some 8, op := Op.call { callee := Callee.value (Operand.func 98), args := #[Operand.tmp 6, Operand.tmp 7], argTypes := #[37, 37] }, type := 80, pos := "certificate.go:117", after := #[{ on := 0, ground := Ground.data }, { on := 1, ground := Ground.data }, { on := 1, ground := Ground.chain }], guard := none }
def oq81_1_3 : Oper := { dst := some 5, op := Op.move (Operand.tmp 8), type := 80, pos := "certificate.go:117", after := #[{ on := 2, ground := Ground.data }], guard := none }
def oq81_1_4 : Oper := { dst := some 9, op := Op.extract (Operand.tmp 5) 0, type := 37, pos := "certificate.go:117", after := #[{ on := 3, ground := Ground.data }], guard := none }
def oq81_1_5 : Oper := { dst := some 10, op := Op.extract (Operand.tmp 5) 1, type := 23, pos := "certificate.go:117", after := #[{ on := 3, ground := Ground.data }, { on := 7, ground := Ground.gcOnly Departure.lateStores }], guard := none }
def oq81_1_6 : Oper := { dst := some 3, op := Op.alloc 37, type := 0, pos := "certificate.go:117", after := #[], guard := none }
def oq81_1_7 : Oper := { dst := none, op := Op.store 37 (Operand.tmp 3) (Operand.tmp 9), type := 0, pos := "certificate.go:117", after := #[{ on := 6, ground := Ground.data }, { on := 4, ground := Ground.data }, { on := 2, ground := Ground.chain }, { on := 0, ground := Ground.phase }, { on := 1, ground := Ground.phase }, { on := 2, ground := Ground.phase }, { on := 3, ground := Ground.phase }, { on := 4, ground := Ground.phase }, { on := 5, ground := Ground.textOnly Departure.lateStores }, { on := 6, ground := Ground.phase }], guard := none }
def oq81_1_8 : Oper := { dst := some 4, op := Op.assign (Operand.tmp 10), type := 23, pos := "certificate.go:117", after := #[{ on := 5, ground := Ground.data }, { on := 7, ground := Ground.chain }, { on := 0, ground := Ground.phase }, { on := 1, ground := Ground.phase }, { on := 2, ground := Ground.phase }, { on := 3, ground := Ground.phase }, { on := 4, ground := Ground.phase }, { on := 5, ground := Ground.phase }, { on := 6, ground := Ground.phase }, { on := 7, ground := Ground.phase }], guard := none }
theorem wp_landL {P : Program} {c : Code} {Q : Exit → Act → World → Prop} {a : Act} {w : World} {F : Nat → Option Addr → Nat → Option Addr → Nat → Act} (R : Nat → Option Addr → Nat → Option Addr → Nat → World → Prop)
    (hreg : c.wp P (fun e a1 w1 => e = Exit.normal ∧ ∃ x0 x1 x2 x3 x4, a1 = F x0 x1 x2 x3 x4 ∧ R x0 x1 x2 x3 x4 w1) a w) (himp : ∀ x0 x1 x2 x3 x4 w1, R x0 x1 x2 x3 x4 w1 → Q Exit.normal (F x0 x1 x2 x3 x4) w1) : c.wp P Q a w :=
  Code.wp_mono (fun e a1 w1 h => by obtain ⟨rfl, x0, x1, x2, x3, x4, rfl, hR⟩ := h; exact himp _ _ _ _ _ w1 hR) hreg
set_option maxHeartbeats 4000000 in
set_option maxRecDepth 100000 in
theorem less_any (A : Option Addr) (c a : Nat) (w : World) (hA : Num w w.heap.size A (nw a) a) (ha : nw a ≤ 64) (h1 : 1 ≤ a) :
    Calls Tryd.prog 81 #[.agg #[.slice A (nw a) c]] w (RetNat w.heap.size (a - 1) w) := by
  have K1 := hid (okB_nw ha)
  have K2 : Hid (okB (nw 1) 1 = true) := okB_nw (a := 1) (by decide)
  have SS : Hid (subS a 1 = (a - 1, 0)) := (show _ = _ by unfold subS; rw [if_neg (by omega)])
  obtain ⟨y, hy⟩ : ∃ y, y = a - 1 := ⟨_, rfl⟩
  have HY := hid hy
  rw [← HY.out]
  rw [← HY.out] at SS
  have ny : nw y ≤ 64 := Nat.le_trans (nw_mono (by omega)) ha
  clear hy h1
  obtain ⟨b0, b1, bw⟩ := boxes2 w (.slice A (nw a) c) (.slice none 0 0)
  have XN := VB.mk (B := w.heap.size) (a := a) b0 (.inl hA) bw (Nat.le_refl _) (by omega)
  have XR := VB.mk (B := w.heap.size) (a := 0) b1 (.inr (Own.nil _ _ _ _ (Nat.zero_le _))) bw (Nat.le_refl _) (by omega)
  have WW := bw
  clear bw b0 b1
  go_enter Tryd.func81, Tryd.ntmps81
  go_wp2_with fail
  generalize hV : ((w.alloc (.cells #[.slice A (nw a) c] 37)).alloc (.cells #[.slice none 0 0] 37)) = V0 at XN XR WW ⊢
  clear hV
  apply wp_landL (R := fun gXL D1 d1 D2 d2 w1 => Below w.heap.size w w1 ∧ VB w.heap.size w1 (w.heap.size) A (nw a) c a ∧ VB w.heap.size w1 (w.heap.size + 1) none 0 0 0 ∧ VB w.heap.size w1 (gXL) D2 (nw y) d2 y ∧ Own w1 w.heap.size D1 (nw 1) d1 1 ∧ Own w1 w.heap.size D2 (nw y) d2 y ∧ w.heap.size + 1 < gXL)
  case hreg =>
    refine wp_region_noPanic ?_
    have hst : (fun w' => w'.cell? ⟨w.heap.size, 0, none⟩ = some (.slice A (nw a) c)) V0.drew := XN.cell
    replace WW := WW.drew
    replace XN := XN.drew
    replace XR := XR.drew
    have qq0 := XR.lt
    refine region_L 16 (fun w' => w'.cell? ⟨w.heap.size, 0, none⟩ = some (.slice A (nw a) c)) (by kernel_rfl) hst (fun hHeld => ?_)
    clear hst
    generalize hV : V0.drew = U0x0 at hHeld WW qq0 XN XR ⊢
    clear hV
    refine AnyL_take (i := 0) (oi := oq81_1_0) (v := ?_) rfl (by kernel_rfl) (by kernel_rfl) (by kernel_rfl) (by kernel_rfl) (fun _ _ _ h => h) (Or.inl ⟨by rfl, ?_⟩) (by assumption) ?_
    rotate_left
    · (delta oq81_1_0; intro ws hSw; (try dsimp only at hSw); (try go_simp); (try with_reducible rfl))
    (try simp only [oq81_1_0, Act.put, List.setIfInBounds_toArray, List.set_cons_zero, List.set_cons_succ])
    refine AnyL_ready (rs := [1, 6]) (by kernel_rfl) (by simp) ?_
    refine ReadyL.cons (o := oq81_1_1) rfl (fun K hK => ?_) ?_
    · delta oq81_1_1
      go_simp
      have hbs : w.heap.size ≤ U0x0.heap.size := WW.size
      have hc := pnum_any 1 U0x0 (by decide)
      refine hc.mono ?_
      clear hc
      rintro e V2 ⟨v, rfl, hv, hb⟩
      replace XN := XN.below hb
      replace XR := XR.below hb
      replace WW := WW.trans (hb.mono WW.size)
      have sz2 := hb.size
      obtain ⟨D1, d1, rfl, ho⟩ := hv
      have O1 := ho.weak (b := w.heap.size) hbs
      clear ho
      clear hb hbs
      refine hK.out _ _ (XN.cell) (fun hHeld2 => ?_)
      clear hK K hHeld
      have hHeld := hHeld2
      clear hHeld2
      (try simp only [oq81_1_1, Act.put, List.setIfInBounds_toArray, List.set_cons_zero, List.set_cons_succ])
      refine AnyL_ready (rs := [2, 6]) (by kernel_rfl) (by simp) ?_
      refine ReadyL.cons (o := oq81_1_2) rfl (fun K hK => ?_) ?_
      · delta oq81_1_2
        go_simp
        have hbs : w.heap.size ≤ V2.heap.size := WW.size
        have hc := sub_any A D1 _ _ c d1 a 1 V2 XN.num O1.num (by omega) (by decide)
        rw [bothS_yes K1.out K2.out] at hc
        rw [SS.out] at hc
        refine hc.mono ?_
        clear hc
        rintro e V3 ⟨v, rfl, hv, hb⟩
        replace XN := XN.below hb
        replace XR := XR.below hb
        replace O1 := O1.below hb (Nat.le_refl _)
        replace WW := WW.trans (hb.mono WW.size)
        have sz3 := hb.size
        obtain ⟨D2, d2, rfl, ho⟩ := hv
        have O2 := ho.weak (b := w.heap.size) hbs
        clear ho
        clear hb hbs
        refine hK.out _ _ (XN.cell) (fun hHeld2 => ?_)
        clear hK K hHeld
        have hHeld := hHeld2
        clear hHeld2
        (try simp only [oq81_1_2, Act.put, List.setIfInBounds_toArray, List.set_cons_zero, List.set_cons_succ])
        refine AnyL_take (i := 3) (oi := oq81_1_3) (v := ?_) rfl (by kernel_rfl) (by kernel_rfl) (by kernel_rfl) (by kernel_rfl) (fun _ _ _ h => h) (Or.inl ⟨by rfl, ?_⟩) (by assumption) ?_
        rotate_left
        · (delta oq81_1_3; intro ws hSw; (try dsimp only at hSw); (try go_simp); (try with_reducible rfl))
        (try simp only [oq81_1_3, Act.put, List.setIfInBounds_toArray, List.set_cons_zero, List.set_cons_succ])
        refine AnyL_take (i := 4) (oi := oq81_1_4) (v := ?_) rfl (by kernel_rfl) (by kernel_rfl) (by kernel_rfl) (by kernel_rfl) (fun _ _ _ h => h) (Or.inl ⟨by rfl, ?_⟩) (by assumption) ?_
        rotate_left
        · (delta oq81_1_4; intro ws hSw; (try dsimp only at hSw); (try go_simp); (try with_reducible rfl))
        (try simp only [oq81_1_4, Act.put, List.setIfInBounds_toArray, List.set_cons_zero, List.set_cons_succ])
        refine AnyL_take (i := 5) (oi := oq81_1_5) (v := ?_) rfl (by kernel_rfl) (by kernel_rfl) (by kernel_rfl) (by kernel_rfl) (fun _ _ _ h => h) (Or.inl ⟨by rfl, ?_⟩) (by assumption) ?_
        rotate_left
        · (delta oq81_1_5; intro ws hSw; (try dsimp only at hSw); (try go_simp); (try with_reducible rfl))
        (try simp only [oq81_1_5, Act.put, List.setIfInBounds_toArray, List.set_cons_zero, List.set_cons_succ])
        refine AnyL_ready (rs := [6]) (by kernel_rfl) (by simp) ?_
        refine ReadyL.cons (o := oq81_1_6) rfl (fun K hK => ?_) ReadyL.nil
        delta oq81_1_6
        have lqXR : w.heap.size + 1 < V3.heap.size := XR.lt
        go_simp
        have ba := (Below.refl V3.heap.size V3).alloc (Nat.le_refl _) (.cells #[.slice none 0 0] 37)
        replace XN := XN.below ba
        replace XR := XR.below ba
        replace O1 := O1.below ba (Nat.le_refl _)
        replace O2 := O2.below ba (Nat.le_refl _)
        have bn := Blk.new V3 37 #[.slice none 0 0]
        have XL := VB.mk (B := w.heap.size) (a := 0) bn (.inr (Own.nil _ _ _ _ (Nat.zero_le _))) ba WW.size WW.size
        replace WW := WW.trans (ba.mono WW.size)
        have sz4 : V3.heap.size < (V3.alloc (.cells #[.slice none 0 0] 37)).heap.size := bn.lt
        refine hK.out _ _ (XN.cell) (fun hHeld2 => ?_)
        clear hK K hHeld
        (try simp only [oq81_1_6, Act.put, List.setIfInBounds_toArray, List.set_cons_zero, List.set_cons_succ])
        generalize hV : V3.alloc (.cells #[.slice none 0 0] 37) = V4 at hHeld2 sz4 WW XN XR XL O1 O2 ⊢
        clear hV ba bn
        have hHeld := hHeld2
        clear hHeld2
        obtain ⟨gXL, hg⟩ : ∃ x, x = V3.heap.size := ⟨_, rfl⟩
        have mXLXR : w.heap.size + 1 < gXL := by omega
        rw [← hg] at XL sz4 ⊢
        clear hg lqXR
        refine AnyL_ready (rs := [7]) (by kernel_rfl) (by simp) ?_
        refine ReadyL.cons (o := oq81_1_7) rfl (fun K hK => ?_) ReadyL.nil
        delta oq81_1_7
        have fz := XL.1.frozen 0
        have cz := XL.cell
        have lz := XL.lt
        go_simp
        have XLn := XL.set_ (A' := D2) (n' := (nw y)) (c' := d2) (a' := y) (.inr O2)
        replace XN := XN.far (p := ⟨gXL, 0, none⟩) XL.1 XL.2.2 (by simp <;> omega) (.slice D2 (nw y) d2)
        replace XR := XR.far (p := ⟨gXL, 0, none⟩) XL.1 XL.2.2 (by simp <;> omega) (.slice D2 (nw y) d2)
        replace O1 := O1.box (p := ⟨gXL, 0, none⟩) XL.1 (by decide) (.slice D2 (nw y) d2)
        replace O2 := O2.box (p := ⟨gXL, 0, none⟩) XL.1 (by decide) (.slice D2 (nw y) d2)
        replace XL := XLn
        clear XLn
        replace WW := WW.setCell (p := ⟨gXL, 0, none⟩) XL.2.2 (.slice D2 (nw y) d2)
        refine hK.out _ _ (XN.cell) (fun hHeld2 => ?_)
        clear hK K hHeld
        (try simp only [oq81_1_7, Act.put, List.setIfInBounds_toArray, List.set_cons_zero, List.set_cons_succ])
        generalize hV : V4.setCell ⟨gXL, 0, none⟩ (.slice D2 (nw y) d2) = V5 at hHeld2 WW XN XR XL O1 O2 ⊢
        clear hV fz cz lz
        have hHeld := hHeld2
        clear hHeld2
        refine AnyL_take (i := 8) (oi := oq81_1_8) (v := ?_) rfl (by kernel_rfl) (by kernel_rfl) (by kernel_rfl) (by kernel_rfl) (fun _ _ _ h => h) (Or.inl ⟨by rfl, ?_⟩) (by assumption) ?_
        rotate_left
        · (delta oq81_1_8; intro ws hSw; (try dsimp only at hSw); (try go_simp); (try with_reducible rfl))
        (try simp only [oq81_1_8, Act.put, List.setIfInBounds_toArray, List.set_cons_zero, List.set_cons_succ])
        refine AnyL_done (by kernel_rfl) ?_ _
        clear hHeld
        refine NoPanic.normal ?_
        exact ⟨rfl, gXL, D1, d1, D2, d2, rfl, WW, XN, XR, XL, O1, O2, (by first | exact mXLXR | omega)⟩
      refine ReadyL.cons (o := oq81_1_6) rfl (fun K hK => ?_) ReadyL.nil
      · delta oq81_1_6
        have lqXR : w.heap.size + 1 < V2.heap.size := XR.lt
        go_simp
        have ba := (Below.refl V2.heap.size V2).alloc (Nat.le_refl _) (.cells #[.slice none 0 0] 37)
        replace XN := XN.below ba
        replace XR := XR.below ba
        replace O1 := O1.below ba (Nat.le_refl _)
        have bn := Blk.new V2 37 #[.slice none 0 0]
        have XL := VB.mk (B := w.heap.size) (a := 0) bn (.inr (Own.nil _ _ _ _ (Nat.zero_le _))) ba WW.size WW.size
        replace WW := WW.trans (ba.mono WW.size)
        have sz3 : V2.heap.size < (V2.alloc (.cells #[.slice none 0 0] 37)).heap.size := bn.lt
        refine hK.out _ _ (XN.cell) (fun hHeld2 => ?_)
        clear hK K hHeld
        (try simp only [oq81_1_6, Act.put, List.setIfInBounds_toArray, List.set_cons_zero, List.set_cons_succ])
        generalize hV : V2.alloc (.cells #[.slice none 0 0] 37) = V3 at hHeld2 sz3 WW XN XR XL O1 ⊢
        clear hV ba bn
        have hHeld := hHeld2
        clear hHeld2
        obtain ⟨gXL, hg⟩ : ∃ x, x = V2.heap.size := ⟨_, rfl⟩
        have mXLXR : w.heap.size + 1 < gXL := by omega
        rw [← hg] at XL sz3 ⊢
        clear hg lqXR
        refine AnyL_ready (rs := [2]) (by kernel_rfl) (by simp) ?_
        refine ReadyL.cons (o := oq81_1_2) rfl (fun K hK => ?_) ReadyL.nil
        delta oq81_1_2
        go_simp
        have hbs : w.heap.size ≤ V3.heap.size := WW.size
        have hc := sub_any A D1 _ _ c d1 a 1 V3 XN.num O1.num (by omega) (by decide)
        rw [bothS_yes K1.out K2.out] at hc
        rw [SS.out] at hc
        refine hc.mono ?_
        clear hc
        rintro e V4 ⟨v, rfl, hv, hb⟩
        replace XN := XN.below hb
        replace XR := XR.below hb
        replace XL := XL.below hb
        replace O1 := O1.below hb (Nat.le_refl _)
        replace WW := WW.trans (hb.mono WW.size)
        have sz4 := hb.size
        obtain ⟨D2, d2, rfl, ho⟩ := hv
        have O2 := ho.weak (b := w.heap.size) hbs
        clear ho
        clear hb hbs
        refine hK.out _ _ (XN.cell) (fun hHeld2 => ?_)
        clear hK K hHeld
        have hHeld := hHeld2
        clear hHeld2
        (try simp only [oq81_1_2, Act.put, List.setIfInBounds_toArray, List.set_cons_zero, List.set_cons_succ])
        refine AnyL_take (i := 3) (oi := oq81_1_3) (v := ?_) rfl (by kernel_rfl) (by kernel_rfl) (by kernel_rfl) (by kernel_rfl) (fun _ _ _ h => h) (Or.inl ⟨by rfl, ?_⟩) (by assumption) ?_
        rotate_left
        · (delta oq81_1_3; intro ws hSw; (try dsimp only at hSw); (try go_simp); (try with_reducible rfl))
        (try simp only [oq81_1_3, Act.put, List.setIfInBounds_toArray, List.set_cons_zero, List.set_cons_succ])
        refine AnyL_take (i := 4) (oi := oq81_1_4) (v := ?_) rfl (by kernel_rfl) (by kernel_rfl) (by kernel_rfl) (by kernel_rfl) (fun _ _ _ h => h) (Or.inl ⟨by rfl, ?_⟩) (by assumption) ?_
        rotate_left
        · (delta oq81_1_4; intro ws hSw; (try dsimp only at hSw); (try go_simp); (try with_reducible rfl))
        (try simp only [oq81_1_4, Act.put, List.setIfInBounds_toArray, List.set_cons_zero, List.set_cons_succ])
        refine AnyL_take (i := 5) (oi := oq81_1_5) (v := ?_) rfl (by kernel_rfl) (by kernel_rfl) (by kernel_rfl) (by kernel_rfl) (fun _ _ _ h => h) (Or.inl ⟨by rfl, ?_⟩) (by assumption) ?_
        rotate_left
        · (delta oq81_1_5; intro ws hSw; (try dsimp only at hSw); (try go_simp); (try with_reducible rfl))
        (try simp only [oq81_1_5, Act.put, List.setIfInBounds_toArray, List.set_cons_zero, List.set_cons_succ])
        refine AnyL_ready (rs := [7]) (by kernel_rfl) (by simp) ?_
        refine ReadyL.cons (o := oq81_1_7) rfl (fun K hK => ?_) ReadyL.nil
        delta oq81_1_7
        have fz := XL.1.frozen 0
        have cz := XL.cell
        have lz := XL.lt
        go_simp
        have XLn := XL.set_ (A' := D2) (n' := (nw y)) (c' := d2) (a' := y) (.inr O2)
        replace XN := XN.far (p := ⟨gXL, 0, none⟩) XL.1 XL.2.2 (by simp <;> omega) (.slice D2 (nw y) d2)
        replace XR := XR.far (p := ⟨gXL, 0, none⟩) XL.1 XL.2.2 (by simp <;> omega) (.slice D2 (nw y) d2)
        replace O1 := O1.box (p := ⟨gXL, 0, none⟩) XL.1 (by decide) (.slice D2 (nw y) d2)
        replace O2 := O2.box (p := ⟨gXL, 0, none⟩) XL.1 (by decide) (.slice D2 (nw y) d2)
        replace XL := XLn
        clear XLn
        replace WW := WW.setCell (p := ⟨gXL, 0, none⟩) XL.2.2 (.slice D2 (nw y) d2)
        refine hK.out _ _ (XN.cell) (fun hHeld2 => ?_)
        clear hK K hHeld
        (try simp only [oq81_1_7, Act.put, List.setIfInBounds_toArray, List.set_cons_zero, List.set_cons_succ])
        generalize hV : V4.setCell ⟨gXL, 0, none⟩ (.slice D2 (nw y) d2) = V5 at hHeld2 WW XN XR XL O1 O2 ⊢
        clear hV fz cz lz
        have hHeld := hHeld2
        clear hHeld2
        refine AnyL_take (i := 8) (oi := oq81_1_8) (v := ?_) rfl (by kernel_rfl) (by kernel_rfl) (by kernel_rfl) (by kernel_rfl) (fun _ _ _ h => h) (Or.inl ⟨by rfl, ?_⟩) (by assumption) ?_
        rotate_left
        · (delta oq81_1_8; intro ws hSw; (try dsimp only at hSw); (try go_simp); (try with_reducible rfl))
        (try simp only [oq81_1_8, Act.put, List.setIfInBounds_toArray, List.set_cons_zero, List.set_cons_succ])
        refine AnyL_done (by kernel_rfl) ?_ _
        clear hHeld
        refine NoPanic.normal ?_
        exact ⟨rfl, gXL, D1, d1, D2, d2, rfl, WW, XN, XR, XL, O1, O2, (by first | exact mXLXR | omega)⟩
    refine ReadyL.cons (o := oq81_1_6) rfl (fun K hK => ?_) ReadyL.nil
    · delta oq81_1_6
      have lqXR : w.heap.size + 1 < U0x0.heap.size := XR.lt
      go_simp
      have ba := (Below.refl U0x0.heap.size U0x0).alloc (Nat.le_refl _) (.cells #[.slice none 0 0] 37)
      replace XN := XN.below ba
      replace XR := XR.below ba
      have bn := Blk.new U0x0 37 #[.slice none 0 0]
      have XL := VB.mk (B := w.heap.size) (a := 0) bn (.inr (Own.nil _ _ _ _ (Nat.zero_le _))) ba WW.size WW.size
      replace WW := WW.trans (ba.mono WW.size)
      have sz2 : U0x0.heap.size < (U0x0.alloc (.cells #[.slice none 0 0] 37)).heap.size := bn.lt
      refine hK.out _ _ (XN.cell) (fun hHeld2 => ?_)
      clear hK K hHeld
      (try simp only [oq81_1_6, Act.put, List.setIfInBounds_toArray, List.set_cons_zero, List.set_cons_succ])
      generalize hV : U0x0.alloc (.cells #[.slice none 0 0] 37) = V2 at hHeld2 sz2 WW XN XR XL ⊢
      clear hV ba bn
      have hHeld := hHeld2
      clear hHeld2
      obtain ⟨gXL, hg⟩ : ∃ x, x = U0x0.heap.size := ⟨_, rfl⟩
      have mXLXR : w.heap.size + 1 < gXL := by omega
      rw [← hg] at XL sz2 ⊢
      clear hg lqXR
      refine AnyL_ready (rs := [1]) (by kernel_rfl) (by simp) ?_
      refine ReadyL.cons (o := oq81_1_1) rfl (fun K hK => ?_) ReadyL.nil
      delta oq81_1_1
      go_simp
      have hbs : w.heap.size ≤ V2.heap.size := WW.size
      have hc := pnum_any 1 V2 (by decide)
      refine hc.mono ?_
      clear hc
      rintro e V3 ⟨v, rfl, hv, hb⟩
      replace XN := XN.below hb
      replace XR := XR.below hb
      replace XL := XL.below hb
      replace WW := WW.trans (hb.mono WW.size)
      have sz3 := hb.size
      obtain ⟨D1, d1, rfl, ho⟩ := hv
      have O1 := ho.weak (b := w.heap.size) hbs
      clear ho
      clear hb hbs
      refine hK.out _ _ (XN.cell) (fun hHeld2 => ?_)
      clear hK K hHeld
      have hHeld := hHeld2
      clear hHeld2
      (try simp only [oq81_1_1, Act.put, List.setIfInBounds_toArray, List.set_cons_zero, List.set_cons_succ])
      refine AnyL_ready (rs := [2]) (by kernel_rfl) (by simp) ?_
      refine ReadyL.cons (o := oq81_1_2) rfl (fun K hK => ?_) ReadyL.nil
      delta oq81_1_2
      go_simp
      have hbs : w.heap.size ≤ V3.heap.size := WW.size
      have hc := sub_any A D1 _ _ c d1 a 1 V3 XN.num O1.num (by omega) (by decide)
      rw [bothS_yes K1.out K2.out] at hc
      rw [SS.out] at hc
      refine hc.mono ?_
      clear hc
      rintro e V4 ⟨v, rfl, hv, hb⟩
      replace XN := XN.below hb
      replace XR := XR.below hb
      replace XL := XL.below hb
      replace O1 := O1.below hb (Nat.le_refl _)
      replace WW := WW.trans (hb.mono WW.size)
      have sz4 := hb.size
      obtain ⟨D2, d2, rfl, ho⟩ := hv
      have O2 := ho.weak (b := w.heap.size) hbs
      clear ho
      clear hb hbs
      refine hK.out _ _ (XN.cell) (fun hHeld2 => ?_)
      clear hK K hHeld
      have hHeld := hHeld2
      clear hHeld2
      (try simp only [oq81_1_2, Act.put, List.setIfInBounds_toArray, List.set_cons_zero, List.set_cons_succ])
      refine AnyL_take (i := 3) (oi := oq81_1_3) (v := ?_) rfl (by kernel_rfl) (by kernel_rfl) (by kernel_rfl) (by kernel_rfl) (fun _ _ _ h => h) (Or.inl ⟨by rfl, ?_⟩) (by assumption) ?_
      rotate_left
      · (delta oq81_1_3; intro ws hSw; (try dsimp only at hSw); (try go_simp); (try with_reducible rfl))
      (try simp only [oq81_1_3, Act.put, List.setIfInBounds_toArray, List.set_cons_zero, List.set_cons_succ])
      refine AnyL_take (i := 4) (oi := oq81_1_4) (v := ?_) rfl (by kernel_rfl) (by kernel_rfl) (by kernel_rfl) (by kernel_rfl) (fun _ _ _ h => h) (Or.inl ⟨by rfl, ?_⟩) (by assumption) ?_
      rotate_left
      · (delta oq81_1_4; intro ws hSw; (try dsimp only at hSw); (try go_simp); (try with_reducible rfl))
      (try simp only [oq81_1_4, Act.put, List.setIfInBounds_toArray, List.set_cons_zero, List.set_cons_succ])
      refine AnyL_take (i := 5) (oi := oq81_1_5) (v := ?_) rfl (by kernel_rfl) (by kernel_rfl) (by kernel_rfl) (by kernel_rfl) (fun _ _ _ h => h) (Or.inl ⟨by rfl, ?_⟩) (by assumption) ?_
      rotate_left
      · (delta oq81_1_5; intro ws hSw; (try dsimp only at hSw); (try go_simp); (try with_reducible rfl))
      (try simp only [oq81_1_5, Act.put, List.setIfInBounds_toArray, List.set_cons_zero, List.set_cons_succ])
      refine AnyL_ready (rs := [7]) (by kernel_rfl) (by simp) ?_
      refine ReadyL.cons (o := oq81_1_7) rfl (fun K hK => ?_) ReadyL.nil
      delta oq81_1_7
      have fz := XL.1.frozen 0
      have cz := XL.cell
      have lz := XL.lt
      go_simp
      have XLn := XL.set_ (A' := D2) (n' := (nw y)) (c' := d2) (a' := y) (.inr O2)
      replace XN := XN.far (p := ⟨gXL, 0, none⟩) XL.1 XL.2.2 (by simp <;> omega) (.slice D2 (nw y) d2)
      replace XR := XR.far (p := ⟨gXL, 0, none⟩) XL.1 XL.2.2 (by simp <;> omega) (.slice D2 (nw y) d2)
      replace O1 := O1.box (p := ⟨gXL, 0, none⟩) XL.1 (by decide) (.slice D2 (nw y) d2)
      replace O2 := O2.box (p := ⟨gXL, 0, none⟩) XL.1 (by decide) (.slice D2 (nw y) d2)
      replace XL := XLn
      clear XLn
      replace WW := WW.setCell (p := ⟨gXL, 0, none⟩) XL.2.2 (.slice D2 (nw y) d2)
      refine hK.out _ _ (XN.cell) (fun hHeld2 => ?_)
      clear hK K hHeld
      (try simp only [oq81_1_7, Act.put, List.setIfInBounds_toArray, List.set_cons_zero, List.set_cons_succ])
      generalize hV : V4.setCell ⟨gXL, 0, none⟩ (.slice D2 (nw y) d2) = V5 at hHeld2 WW XN XR XL O1 O2 ⊢
      clear hV fz cz lz
      have hHeld := hHeld2
      clear hHeld2
      refine AnyL_take (i := 8) (oi := oq81_1_8) (v := ?_) rfl (by kernel_rfl) (by kernel_rfl) (by kernel_rfl) (by kernel_rfl) (fun _ _ _ h => h) (Or.inl ⟨by rfl, ?_⟩) (by assumption) ?_
      rotate_left
      · (delta oq81_1_8; intro ws hSw; (try dsimp only at hSw); (try go_simp); (try with_reducible rfl))
      (try simp only [oq81_1_8, Act.put, List.setIfInBounds_toArray, List.set_cons_zero, List.set_cons_succ])
      refine AnyL_done (by kernel_rfl) ?_ _
      clear hHeld
      refine NoPanic.normal ?_
      exact ⟨rfl, gXL, D1, d1, D2, d2, rfl, WW, XN, XR, XL, O1, O2, (by first | exact mXLXR | omega)⟩
  rintro gXL D1 d1 D2 d2 V50 ⟨WW, XN, XR, XL, O1, O2, mXLXR⟩
  have kXN := XN.cell
  have zXN := XN.lt
  have kXR := XR.cell
  have zXR := XR.lt
  have kXL := XL.cell
  have zXL := XL.lt
  have fXR := XR.1.frozen 0
  go_wp2_with fail
  have ho2 := O2.box (p := ⟨w.heap.size + 1, 0, none⟩) XR.1 (by decide) (.slice D2 (nw y) d2)
  exact bodyPost_ret (v := .agg #[.slice D2 (nw y) d2]) (by simp [results, Tryd.results81, go_sem, kXR, zXR]) rfl ⟨_, rfl, ⟨D2, d2, rfl, ho2⟩, WW.setCell (by simp <;> omega) _⟩

end Go.Proofs.YtomkmkjkeihodaaDoor
