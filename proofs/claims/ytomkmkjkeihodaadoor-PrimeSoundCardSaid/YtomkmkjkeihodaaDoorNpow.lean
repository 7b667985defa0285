/- natmod: Pow. -/
import Derived.Test.YtomkmkjkeihodaaDoorRfB
set_option linter.unusedVariables false
set_option linter.unusedSimpArgs false
namespace Go.Proofs.YtomkmkjkeihodaaDoor
open Go.RowKit

def oq21_6_0 : Oper := { dst := some 23, op := Op.call { callee := Callee.value (Operand.func 87), args := #[], argTypes := #[] }, type := 37, pos := "natmod.go:39", after := #[], guard := none }
def oq21_6_1 : Oper := { dst := some 24, op := Op.load 37 (Operand.tmp 5), type := 37, pos := "natmod.go:39", after := #[], guard := none }
def oq21_6_2 : Oper := { dst := some 25, op := Op.call { callee := Callee.value (Operand.func 86), args := #[Operand.tmp 23, Operand.tmp 24], argTypes := #[37, 37] }, type := 37, pos := "natmod.go:39", after := #[{ on := 0, ground := Ground.data }, { on := 1, ground := Ground.data }, { on := 0, ground := Ground.chain }], guard := none }
def oq21_6_3 : Oper := { dst := some 9, op := Op.alloc 37, type := 0, pos := "natmod.go:39", after := #[], guard := none }
def oq21_6_4 : Oper := { dst := none, op := Op.store 37 (Operand.tmp 9) (Operand.tmp 25), type := 0, pos := "natmod.go:39", after := #[{ on := 3, ground := Ground.data }, { on := 2, ground := Ground.data }, { on := 2, ground := Ground.chain }, { on := 0, ground := Ground.phase }, { on := 1, ground := Ground.phase }, { on := 2, ground := Ground.phase }, { on := 3, ground := Ground.phase }], guard := none }
theorem wp_landQ {P : Program} {c : Code} {Q : Exit → Act → World → Prop} {a : Act} {w : World} {F : Nat → Option Addr → Nat → Option Addr → Nat → Act} (R : Nat → Option Addr → Nat → Option Addr → Nat → World → Prop)
    (hreg : c.wp P (fun e a1 w1 => e = Exit.normal ∧ ∃ x0 x1 x2 x3 x4, a1 = F x0 x1 x2 x3 x4 ∧ R x0 x1 x2 x3 x4 w1) a w) (himp : ∀ x0 x1 x2 x3 x4 w1, R x0 x1 x2 x3 x4 w1 → Q Exit.normal (F x0 x1 x2 x3 x4) w1) : c.wp P Q a w :=
  Code.wp_mono (fun e a1 w1 h => by obtain ⟨rfl, x0, x1, x2, x3, x4, rfl, hR⟩ := h; exact himp _ _ _ _ _ w1 hR) hreg
/-- What Pow returns. -/
def powV (n a k b q m : Nat) : Nat × Int := if okB k b then modS (chkS n a 0 0 q m) (a ^ b % m) else (0, 1)
theorem powV_no {n a k b q m : Nat} (h : okB k b = false) : powV n a k b q m = (0, 1) := by unfold powV; rw [h]; rfl
theorem powV_yes {n a k b q m : Nat} (h : okB k b = true) : powV n a k b q m = modS (chkS n a 0 0 q m) (a ^ b % m) := by unfold powV; rw [h]; rfl
set_option maxHeartbeats 8000000 in
theorem npow_bad (A B' C' : Option Addr) (n k q c d p a b m : Nat) (w : World) (hA : Num w w.heap.size A n a) (hB : Num w w.heap.size B' k b) (hC : Num w w.heap.size C' q m) (hn : n ≤ 9223372036854775807) (hk : k ≤ 9223372036854775807) (hq : q ≤ 9223372036854775807) (h1 : okB k b = false) :
    Calls Tryd.prog 72 #[.agg #[.slice A n c], .agg #[.slice B' k d], .agg #[.slice C' q p]] w (RetTwo w.heap.size (powV n a k b q m).1 (powV n a k b q m).2 w) := by
  have G1 := hid h1
  rw [powV_no h1]
  clear h1
  obtain ⟨b0, b1, b2, b3, bw⟩ := boxes4 w (.slice A n c) (.slice B' k d) (.slice C' q p) (.slice none 0 0)
  have XA := VB.mk (B := w.heap.size) (a := a) b0 (.inl hA) bw (Nat.le_refl _) (by omega)
  have XB := VB.mk (B := w.heap.size) (a := b) b1 (.inl hB) bw (Nat.le_refl _) (by omega)
  have XC := VB.mk (B := w.heap.size) (a := m) b2 (.inl hC) bw (Nat.le_refl _) (by omega)
  have XR := VB.mk (B := w.heap.size) (a := 0) b3 (.inr (Own.nil _ _ _ _ (Nat.zero_le _))) bw (Nat.le_refl _) (by omega)
  have WW := bw
  clear bw b0 b1 b2 b3
  go_enter Tryd.func72, Tryd.ntmps72
  go_wp2_with fail
  generalize hV : ((((w.alloc (.cells #[.slice A n c] 37)).alloc (.cells #[.slice B' k d] 37)).alloc (.cells #[.slice C' q p] 37)).alloc (.cells #[.slice none 0 0] 37)) = V0 at XA XB XC XR WW ⊢
  clear hV
  have hbs : w.heap.size ≤ V0.heap.size := WW.size
  have hc := valid_any B' _ d b _ V0 XB.num (Nat.le_refl _) hk
  rw [G1.out] at hc
  refine hc.mono ?_
  clear hc
  rintro e V1 ⟨rfl, hb⟩
  replace XA := XA.below hb
  replace XB := XB.below hb
  replace XC := XC.below hb
  replace XR := XR.below hb
  replace WW := WW.trans (hb.mono WW.size)
  have fXR := XR.1.frozen 0
  have kXA := XA.cell
  have zXA := XA.lt
  have kXB := XB.cell
  have zXB := XB.lt
  have kXC := XC.cell
  have zXC := XC.lt
  have kXR := XR.cell
  have zXR := XR.lt
  clear hb hbs
  go_wp2_with fail
  exact bodyPost_ret (v := .tuple #[.agg #[.slice none 0 0], .int .i64 1]) (by simp [results, Tryd.results72, go_sem, kXR, zXR]) rfl ⟨_, rfl, NatV.nil _ _, WW.setCell (by simp <;> omega) _⟩

set_option maxHeartbeats 8000000 in
theorem npow_err (A B' C' : Option Addr) (n k q c d p a b m : Nat) (w : World) (hA : Num w w.heap.size A n a) (hB : Num w w.heap.size B' k b) (hC : Num w w.heap.size C' q m) (hn : n ≤ 9223372036854775807) (hk : k ≤ 9223372036854775807) (hq : q ≤ 9223372036854775807) (h1 : okB k b = true) (h0 : ¬ chkS n a 0 0 q m = 0) :
    Calls Tryd.prog 72 #[.agg #[.slice A n c], .agg #[.slice B' k d], .agg #[.slice C' q p]] w (RetTwo w.heap.size (powV n a k b q m).1 (powV n a k b q m).2 w) := by
  have G1 := hid h1
  rw [powV_yes h1]
  obtain ⟨e, he⟩ : ∃ e, chkS n a 0 0 q m = e := ⟨_, rfl⟩
  rw [he] at h0 ⊢
  rw [modS_no h0]
  have HC := hid he
  have he1 := chk_bd n a 0 0 q m
  rw [he] at he1
  have hz1 : (e != 0) = true := by simpa using h0
  clear he h0 h1
  obtain ⟨b0, b1, b2, b3, bw⟩ := boxes4 w (.slice A n c) (.slice B' k d) (.slice C' q p) (.slice none 0 0)
  have XA := VB.mk (B := w.heap.size) (a := a) b0 (.inl hA) bw (Nat.le_refl _) (by omega)
  have XB := VB.mk (B := w.heap.size) (a := b) b1 (.inl hB) bw (Nat.le_refl _) (by omega)
  have XC := VB.mk (B := w.heap.size) (a := m) b2 (.inl hC) bw (Nat.le_refl _) (by omega)
  have XR := VB.mk (B := w.heap.size) (a := 0) b3 (.inr (Own.nil _ _ _ _ (Nat.zero_le _))) bw (Nat.le_refl _) (by omega)
  have WW := bw
  clear bw b0 b1 b2 b3
  go_enter Tryd.func72, Tryd.ntmps72
  go_wp2_with fail
  generalize hV : ((((w.alloc (.cells #[.slice A n c] 37)).alloc (.cells #[.slice B' k d] 37)).alloc (.cells #[.slice C' q p] 37)).alloc (.cells #[.slice none 0 0] 37)) = V0 at XA XB XC XR WW ⊢
  clear hV
  have hbs : w.heap.size ≤ V0.heap.size := WW.size
  have hc := valid_any B' _ d b _ V0 XB.num (Nat.le_refl _) hk
  rw [G1.out] at hc
  refine hc.mono ?_
  clear hc
  rintro e V1 ⟨rfl, hb⟩
  replace XA := XA.below hb
  replace XB := XB.below hb
  replace XC := XC.below hb
  replace XR := XR.below hb
  replace WW := WW.trans (hb.mono WW.size)
  have kXA := XA.cell
  have zXA := XA.lt
  have kXB := XB.cell
  have zXB := XB.lt
  have kXC := XC.cell
  have zXC := XC.lt
  have kXR := XR.cell
  have zXR := XR.lt
  clear hb hbs
  go_wp2_with fail
  have hbs : w.heap.size ≤ V1.heap.size := WW.size
  have hc := check_any A none C' _ _ _ c 0 p a 0 m V1 XA.num (Num.nil _ _ _) XC.num hn (by omega) hq
  rw [HC.out] at hc
  refine hc.mono ?_
  clear hc
  rintro e V2 ⟨rfl, hb⟩
  clear kXA zXA kXB zXB kXC zXC kXR zXR
  replace XA := XA.below hb
  replace XB := XB.below hb
  replace XC := XC.below hb
  replace XR := XR.below hb
  replace WW := WW.trans (hb.mono WW.size)
  have fXR := XR.1.frozen 0
  have kXA := XA.cell
  have zXA := XA.lt
  have kXB := XB.cell
  have zXB := XB.lt
  have kXC := XC.cell
  have zXC := XC.lt
  have kXR := XR.cell
  have zXR := XR.lt
  clear hb hbs
  go_wp2_with fail
  exact bodyPost_ret (v := .tuple #[.agg #[.slice none 0 0], .int .i64 e]) (by simp [results, Tryd.results72, go_sem, kXR, zXR]) rfl ⟨_, rfl, NatV.nil _ _, WW.setCell (by simp <;> omega) _⟩

set_option maxHeartbeats 8000000 in
theorem npow_ok (A B' C' : Option Addr) (n k q c d p a b m : Nat) (w : World) (hA : Num w w.heap.size A n a) (hB : Num w w.heap.size B' k b) (hC : Num w w.heap.size C' q m) (hn : n ≤ 9223372036854775807) (hk : k ≤ 9223372036854775807) (hq : q ≤ 9223372036854775807) (h1 : okB k b = true) (h0 : chkS n a 0 0 q m = 0) :
    Calls Tryd.prog 72 #[.agg #[.slice A n c], .agg #[.slice B' k d], .agg #[.slice C' q p]] w (RetTwo w.heap.size (powV n a k b q m).1 (powV n a k b q m).2 w) := by
  have G1 := hid h1
  rw [powV_yes h1, h0, modS_ok]
  have HC := hid h0
  obtain ⟨hna, _, hqm, hm1, hm0, ha, _⟩ := chk0 h0
  obtain ⟨hkb, hb64⟩ := okB_yes.1 h1
  subst hna hqm hkb
  have HAM := hid ha
  have HM0 := hid hm0
  have ha32 : nw a ≤ 32 := Nat.le_trans (nw_mono (Nat.le_of_lt ha)) hm1
  have hbl := bl_le_nw b
  have h01 : nw 1 ≤ 64 := by decide
  have hne : ¬ m = 0 := by omega
  obtain ⟨t, ht⟩ : ∃ t, t = 1 % m := ⟨_, rfl⟩
  have HT := hid ht
  clear ht h0 h1 ha hm0
  obtain ⟨b0, b1, b2, b3, bw⟩ := boxes4 w (.slice A (nw a) c) (.slice B' (nw b) d) (.slice C' (nw m) p) (.slice none 0 0)
  have XA := VB.mk (B := w.heap.size) (a := a) b0 (.inl hA) bw (Nat.le_refl _) (by omega)
  have XB := VB.mk (B := w.heap.size) (a := b) b1 (.inl hB) bw (Nat.le_refl _) (by omega)
  have XC := VB.mk (B := w.heap.size) (a := m) b2 (.inl hC) bw (Nat.le_refl _) (by omega)
  have XR := VB.mk (B := w.heap.size) (a := 0) b3 (.inr (Own.nil _ _ _ _ (Nat.zero_le _))) bw (Nat.le_refl _) (by omega)
  have WW := bw
  clear bw b0 b1 b2 b3
  go_enter Tryd.func72, Tryd.ntmps72
  go_wp2_with fail
  generalize hV : ((((w.alloc (.cells #[.slice A (nw a) c] 37)).alloc (.cells #[.slice B' (nw b) d] 37)).alloc (.cells #[.slice C' (nw m) p] 37)).alloc (.cells #[.slice none 0 0] 37)) = V0 at XA XB XC XR WW ⊢
  clear hV
  have hbs : w.heap.size ≤ V0.heap.size := WW.size
  have hc := valid_any B' _ d b _ V0 XB.num (Nat.le_refl _) hk
  rw [G1.out] at hc
  refine hc.mono ?_
  clear hc
  rintro e V1 ⟨rfl, hb⟩
  replace XA := XA.below hb
  replace XB := XB.below hb
  replace XC := XC.below hb
  replace XR := XR.below hb
  replace WW := WW.trans (hb.mono WW.size)
  have kXA := XA.cell
  have zXA := XA.lt
  have kXB := XB.cell
  have zXB := XB.lt
  have kXC := XC.cell
  have zXC := XC.lt
  have kXR := XR.cell
  have zXR := XR.lt
  clear hb hbs
  go_wp2_with fail
  have hbs : w.heap.size ≤ V1.heap.size := WW.size
  have hc := check_any A none C' _ _ _ c 0 p a 0 m V1 XA.num (Num.nil _ _ _) XC.num hn (by omega) hq
  rw [HC.out] at hc
  refine hc.mono ?_
  clear hc
  rintro e V2 ⟨rfl, hb⟩
  clear kXA zXA kXB zXB kXC zXC kXR zXR
  replace XA := XA.below hb
  replace XB := XB.below hb
  replace XC := XC.below hb
  replace XR := XR.below hb
  replace WW := WW.trans (hb.mono WW.size)
  have kXA := XA.cell
  have zXA := XA.lt
  have kXB := XB.cell
  have zXB := XB.lt
  have kXC := XC.cell
  have zXC := XC.lt
  have kXR := XR.cell
  have zXR := XR.lt
  clear hb hbs
  go_wp2_with fail
  clear kXA zXA kXB zXB kXC zXC kXR zXR
  apply wp_landQ (R := fun gXO D7 d7 D8 d8 w1 => Below w.heap.size w w1 ∧ VB w.heap.size w1 (w.heap.size) A (nw a) c a ∧ VB w.heap.size w1 (w.heap.size + 1) B' (nw b) d b ∧ VB w.heap.size w1 (w.heap.size + 1 + 1) C' (nw m) p m ∧ VB w.heap.size w1 (w.heap.size + 1 + 1 + 1) none 0 0 0 ∧ VB w.heap.size w1 (gXO) D8 (nw t) d8 t ∧ Own w1 w.heap.size D7 (nw 1) d7 1 ∧ Own w1 w.heap.size D8 (nw t) d8 t ∧ w.heap.size + 1 + 1 + 1 < gXO)
  case hreg =>
    refine wp_region_noPanic ?_
    have WWd := WW.drew
    have XAd := XA.drew
    have XBd := XB.drew
    have XCd := XC.drew
    have XRd := XR.drew
    have hst : (fun w' => w'.cell? ⟨w.heap.size + 1 + 1, 0, none⟩ = some (.slice C' (nw m) p)) V2.drew := XC.cell
    have qq0 := XRd.lt
    refine region_L 12 (fun w' => w'.cell? ⟨w.heap.size + 1 + 1, 0, none⟩ = some (.slice C' (nw m) p)) (by kernel_rfl) hst (fun hHeld => ?_)
    clear hst
    refine AnyL_name (fun W' => Below w.heap.size w W' ∧ VB w.heap.size W' (w.heap.size) A (nw a) c a ∧ VB w.heap.size W' (w.heap.size + 1) B' (nw b) d b ∧ VB w.heap.size W' (w.heap.size + 1 + 1) C' (nw m) p m ∧ VB w.heap.size W' (w.heap.size + 1 + 1 + 1) none 0 0 0 ∧ V2.drew.heap.size ≤ W'.heap.size ∧ (fun w' => w'.cell? ⟨w.heap.size + 1 + 1, 0, none⟩ = some (.slice C' (nw m) p)) W') ⟨WWd, XAd, XBd, XCd, XRd, Nat.le_refl _, hHeld⟩ ?_
    clear hHeld WWd XAd XBd XCd XRd
    rintro U2x0 ⟨WW, XA, XB, XC, XR, sz0, hHeld⟩
    refine AnyL_take (i := 1) (oi := oq21_6_1) (v := ?_) rfl (by kernel_rfl) (by kernel_rfl) (by kernel_rfl) (by kernel_rfl) (fun _ _ _ h => h) (Or.inl ⟨by rfl, ?_⟩) (by assumption) ?_
    rotate_left
    · (delta oq21_6_1; intro ws hSw; (try dsimp only at hSw); (try go_simp); (try with_reducible rfl))
    (try simp only [oq21_6_1, Act.put, List.setIfInBounds_toArray, List.set_cons_zero, List.set_cons_succ])
    refine AnyL_ready (rs := [0, 3]) (by kernel_rfl) (by simp) ?_
    refine ReadyL.cons (o := oq21_6_0) rfl (fun K hK => ?_) ?_
    · delta oq21_6_0
      go_simp
      have hbs : w.heap.size ≤ U2x0.heap.size := WW.size
      have hc := one_any U2x0
      refine hc.mono ?_
      clear hc
      rintro e V4 ⟨v, rfl, hv, hb⟩
      replace XA := XA.below hb
      replace XB := XB.below hb
      replace XC := XC.below hb
      replace XR := XR.below hb
      replace WW := WW.trans (hb.mono WW.size)
      have sz4 := hb.size
      obtain ⟨D7, d7, rfl, ho⟩ := hv
      have O7 := ho.weak (b := w.heap.size) hbs
      clear ho
      clear hb hbs
      refine hK.out _ _ (XC.cell) (fun hHeld2 => ?_)
      clear hK K hHeld
      have hHeld := hHeld2
      clear hHeld2
      (try simp only [oq21_6_0, Act.put, List.setIfInBounds_toArray, List.set_cons_zero, List.set_cons_succ])
      refine AnyL_ready (rs := [2, 3]) (by kernel_rfl) (by simp) ?_
      refine ReadyL.cons (o := oq21_6_2) rfl (fun K hK => ?_) ?_
      · delta oq21_6_2
        go_simp
        have hbs : w.heap.size ≤ V4.heap.size := WW.size
        have hc := remainder_any D7 C' d7 p 1 m V4 O7.num XC.num h01 (by omega) hne
        rw [← HT.out] at hc
        refine hc.mono ?_
        clear hc
        rintro e V5 ⟨v, rfl, hv, hb⟩
        replace XA := XA.below hb
        replace XB := XB.below hb
        replace XC := XC.below hb
        replace XR := XR.below hb
        replace O7 := O7.below hb (Nat.le_refl _)
        replace WW := WW.trans (hb.mono WW.size)
        have sz5 := hb.size
        obtain ⟨D8, d8, rfl, ho⟩ := hv
        have O8 := ho.weak (b := w.heap.size) hbs
        clear ho
        clear hb hbs
        refine hK.out _ _ (XC.cell) (fun hHeld2 => ?_)
        clear hK K hHeld
        have hHeld := hHeld2
        clear hHeld2
        (try simp only [oq21_6_2, Act.put, List.setIfInBounds_toArray, List.set_cons_zero, List.set_cons_succ])
        refine AnyL_ready (rs := [3]) (by kernel_rfl) (by simp) ?_
        refine ReadyL.cons (o := oq21_6_3) rfl (fun K hK => ?_) ReadyL.nil
        delta oq21_6_3
        have lqXR : w.heap.size + 1 + 1 + 1 < V5.heap.size := XR.lt
        go_simp
        have ba := (Below.refl V5.heap.size V5).alloc (Nat.le_refl _) (.cells #[.slice none 0 0] 37)
        have XAn := XA.below ba
        have XBn := XB.below ba
        have XCn := XC.below ba
        have XRn := XR.below ba
        have O7n := O7.below ba (Nat.le_refl _)
        have O8n := O8.below ba (Nat.le_refl _)
        have bn := Blk.new V5 37 #[.slice none 0 0]
        have XOn := VB.mk (B := w.heap.size) (a := 0) bn (.inr (Own.nil _ _ _ _ (Nat.zero_le _))) ba WW.size WW.size
        have WWn := WW.trans (ba.mono WW.size)
        have sn : V5.heap.size < (V5.alloc (.cells #[.slice none 0 0] 37)).heap.size := bn.lt
        refine hK.out _ _ (XCn.cell) (fun hHeld2 => ?_)
        clear hK K hHeld
        (try simp only [oq21_6_3, Act.put, List.setIfInBounds_toArray, List.set_cons_zero, List.set_cons_succ])
        refine AnyL_name (fun W' => Below w.heap.size w W' ∧ VB w.heap.size W' (w.heap.size) A (nw a) c a ∧ VB w.heap.size W' (w.heap.size + 1) B' (nw b) d b ∧ VB w.heap.size W' (w.heap.size + 1 + 1) C' (nw m) p m ∧ VB w.heap.size W' (w.heap.size + 1 + 1 + 1) none 0 0 0 ∧ VB w.heap.size W' (V5.heap.size) none 0 0 0 ∧ Own W' w.heap.size D7 (nw 1) d7 1 ∧ Own W' w.heap.size D8 (nw t) d8 t ∧ V5.heap.size < W'.heap.size ∧ (fun w' => w'.cell? ⟨w.heap.size + 1 + 1, 0, none⟩ = some (.slice C' (nw m) p)) W') ⟨WWn, XAn, XBn, XCn, XRn, XOn, O7n, O8n, sn, hHeld2⟩ ?_
        clear hHeld2 sn ba bn WWn XAn XBn XCn XRn XOn O7n O8n WW XA XB XC XR O7 O8
        rintro V6 ⟨WW, XA, XB, XC, XR, XO, O7, O8, sz6, hHeld⟩
        obtain ⟨gXO, hg⟩ : ∃ x, x = V5.heap.size := ⟨_, rfl⟩
        have mXOXR : w.heap.size + 1 + 1 + 1 < gXO := by omega
        rw [← hg] at XO sz6 ⊢
        clear hg lqXR
        refine AnyL_ready (rs := [4]) (by kernel_rfl) (by simp) ?_
        refine ReadyL.cons (o := oq21_6_4) rfl (fun K hK => ?_) ReadyL.nil
        delta oq21_6_4
        have fz := XO.1.frozen 0
        have cz := XO.cell
        have lz := XO.lt
        go_simp
        have XAn := XA.far (p := ⟨gXO, 0, none⟩) XO.1 XO.2.2 (by simp <;> omega) (.slice D8 (nw t) d8)
        have XBn := XB.far (p := ⟨gXO, 0, none⟩) XO.1 XO.2.2 (by simp <;> omega) (.slice D8 (nw t) d8)
        have XCn := XC.far (p := ⟨gXO, 0, none⟩) XO.1 XO.2.2 (by simp <;> omega) (.slice D8 (nw t) d8)
        have XRn := XR.far (p := ⟨gXO, 0, none⟩) XO.1 XO.2.2 (by simp <;> omega) (.slice D8 (nw t) d8)
        have XOn := XO.set_ (A' := D8) (n' := (nw t)) (c' := d8) (a' := t) (.inr O8)
        have O7n := O7.box (p := ⟨gXO, 0, none⟩) XO.1 (by decide) (.slice D8 (nw t) d8)
        have O8n := O8.box (p := ⟨gXO, 0, none⟩) XO.1 (by decide) (.slice D8 (nw t) d8)
        have WWn := WW.setCell (p := ⟨gXO, 0, none⟩) (by simp <;> omega) (.slice D8 (nw t) d8)
        refine hK.out _ _ (XCn.cell) (fun hHeld2 => ?_)
        clear hK K hHeld
        (try simp only [oq21_6_4, Act.put, List.setIfInBounds_toArray, List.set_cons_zero, List.set_cons_succ])
        refine AnyL_name (fun W' => Below w.heap.size w W' ∧ VB w.heap.size W' (w.heap.size) A (nw a) c a ∧ VB w.heap.size W' (w.heap.size + 1) B' (nw b) d b ∧ VB w.heap.size W' (w.heap.size + 1 + 1) C' (nw m) p m ∧ VB w.heap.size W' (w.heap.size + 1 + 1 + 1) none 0 0 0 ∧ VB w.heap.size W' (gXO) D8 (nw t) d8 t ∧ Own W' w.heap.size D7 (nw 1) d7 1 ∧ Own W' w.heap.size D8 (nw t) d8 t ∧ (fun w' => w'.cell? ⟨w.heap.size + 1 + 1, 0, none⟩ = some (.slice C' (nw m) p)) W') ⟨WWn, XAn, XBn, XCn, XRn, XOn, O7n, O8n, hHeld2⟩ ?_
        clear fz cz lz hHeld2 WWn XAn XBn XCn XRn XOn O7n O8n WW XA XB XC XR XO O7 O8
        rintro V7 ⟨WW, XA, XB, XC, XR, XO, O7, O8, hHeld⟩
        refine AnyL_done (by kernel_rfl) ?_ _
        clear hHeld
        refine NoPanic.normal ?_
        exact ⟨rfl, gXO, D7, d7, D8, d8, rfl, WW, XA, XB, XC, XR, XO, O7, O8, (by first | exact mXOXR | omega)⟩
      refine ReadyL.cons (o := oq21_6_3) rfl (fun K hK => ?_) ReadyL.nil
      · delta oq21_6_3
        have lqXR : w.heap.size + 1 + 1 + 1 < V4.heap.size := XR.lt
        go_simp
        have ba := (Below.refl V4.heap.size V4).alloc (Nat.le_refl _) (.cells #[.slice none 0 0] 37)
        have XAn := XA.below ba
        have XBn := XB.below ba
        have XCn := XC.below ba
        have XRn := XR.below ba
        have O7n := O7.below ba (Nat.le_refl _)
        have bn := Blk.new V4 37 #[.slice none 0 0]
        have XOn := VB.mk (B := w.heap.size) (a := 0) bn (.inr (Own.nil _ _ _ _ (Nat.zero_le _))) ba WW.size WW.size
        have WWn := WW.trans (ba.mono WW.size)
        have sn : V4.heap.size < (V4.alloc (.cells #[.slice none 0 0] 37)).heap.size := bn.lt
        refine hK.out _ _ (XCn.cell) (fun hHeld2 => ?_)
        clear hK K hHeld
        (try simp only [oq21_6_3, Act.put, List.setIfInBounds_toArray, List.set_cons_zero, List.set_cons_succ])
        refine AnyL_name (fun W' => Below w.heap.size w W' ∧ VB w.heap.size W' (w.heap.size) A (nw a) c a ∧ VB w.heap.size W' (w.heap.size + 1) B' (nw b) d b ∧ VB w.heap.size W' (w.heap.size + 1 + 1) C' (nw m) p m ∧ VB w.heap.size W' (w.heap.size + 1 + 1 + 1) none 0 0 0 ∧ VB w.heap.size W' (V4.heap.size) none 0 0 0 ∧ Own W' w.heap.size D7 (nw 1) d7 1 ∧ V4.heap.size < W'.heap.size ∧ (fun w' => w'.cell? ⟨w.heap.size + 1 + 1, 0, none⟩ = some (.slice C' (nw m) p)) W') ⟨WWn, XAn, XBn, XCn, XRn, XOn, O7n, sn, hHeld2⟩ ?_
        clear hHeld2 sn ba bn WWn XAn XBn XCn XRn XOn O7n WW XA XB XC XR O7
        rintro V5 ⟨WW, XA, XB, XC, XR, XO, O7, sz5, hHeld⟩
        obtain ⟨gXO, hg⟩ : ∃ x, x = V4.heap.size := ⟨_, rfl⟩
        have mXOXR : w.heap.size + 1 + 1 + 1 < gXO := by omega
        rw [← hg] at XO sz5 ⊢
        clear hg lqXR
        refine AnyL_ready (rs := [2]) (by kernel_rfl) (by simp) ?_
        refine ReadyL.cons (o := oq21_6_2) rfl (fun K hK => ?_) ReadyL.nil
        delta oq21_6_2
        go_simp
        have hbs : w.heap.size ≤ V5.heap.size := WW.size
        have hc := remainder_any D7 C' d7 p 1 m V5 O7.num XC.num h01 (by omega) hne
        rw [← HT.out] at hc
        refine hc.mono ?_
        clear hc
        rintro e V6 ⟨v, rfl, hv, hb⟩
        replace XA := XA.below hb
        replace XB := XB.below hb
        replace XC := XC.below hb
        replace XR := XR.below hb
        replace XO := XO.below hb
        replace O7 := O7.below hb (Nat.le_refl _)
        replace WW := WW.trans (hb.mono WW.size)
        have sz6 := hb.size
        obtain ⟨D8, d8, rfl, ho⟩ := hv
        have O8 := ho.weak (b := w.heap.size) hbs
        clear ho
        clear hb hbs
        refine hK.out _ _ (XC.cell) (fun hHeld2 => ?_)
        clear hK K hHeld
        have hHeld := hHeld2
        clear hHeld2
        (try simp only [oq21_6_2, Act.put, List.setIfInBounds_toArray, List.set_cons_zero, List.set_cons_succ])
        refine AnyL_ready (rs := [4]) (by kernel_rfl) (by simp) ?_
        refine ReadyL.cons (o := oq21_6_4) rfl (fun K hK => ?_) ReadyL.nil
        delta oq21_6_4
        have fz := XO.1.frozen 0
        have cz := XO.cell
        have lz := XO.lt
        go_simp
        have XAn := XA.far (p := ⟨gXO, 0, none⟩) XO.1 XO.2.2 (by simp <;> omega) (.slice D8 (nw t) d8)
        have XBn := XB.far (p := ⟨gXO, 0, none⟩) XO.1 XO.2.2 (by simp <;> omega) (.slice D8 (nw t) d8)
        have XCn := XC.far (p := ⟨gXO, 0, none⟩) XO.1 XO.2.2 (by simp <;> omega) (.slice D8 (nw t) d8)
        have XRn := XR.far (p := ⟨gXO, 0, none⟩) XO.1 XO.2.2 (by simp <;> omega) (.slice D8 (nw t) d8)
        have XOn := XO.set_ (A' := D8) (n' := (nw t)) (c' := d8) (a' := t) (.inr O8)
        have O7n := O7.box (p := ⟨gXO, 0, none⟩) XO.1 (by decide) (.slice D8 (nw t) d8)
        have O8n := O8.box (p := ⟨gXO, 0, none⟩) XO.1 (by decide) (.slice D8 (nw t) d8)
        have WWn := WW.setCell (p := ⟨gXO, 0, none⟩) (by simp <;> omega) (.slice D8 (nw t) d8)
        refine hK.out _ _ (XCn.cell) (fun hHeld2 => ?_)
        clear hK K hHeld
        (try simp only [oq21_6_4, Act.put, List.setIfInBounds_toArray, List.set_cons_zero, List.set_cons_succ])
        refine AnyL_name (fun W' => Below w.heap.size w W' ∧ VB w.heap.size W' (w.heap.size) A (nw a) c a ∧ VB w.heap.size W' (w.heap.size + 1) B' (nw b) d b ∧ VB w.heap.size W' (w.heap.size + 1 + 1) C' (nw m) p m ∧ VB w.heap.size W' (w.heap.size + 1 + 1 + 1) none 0 0 0 ∧ VB w.heap.size W' (gXO) D8 (nw t) d8 t ∧ Own W' w.heap.size D7 (nw 1) d7 1 ∧ Own W' w.heap.size D8 (nw t) d8 t ∧ (fun w' => w'.cell? ⟨w.heap.size + 1 + 1, 0, none⟩ = some (.slice C' (nw m) p)) W') ⟨WWn, XAn, XBn, XCn, XRn, XOn, O7n, O8n, hHeld2⟩ ?_
        clear fz cz lz hHeld2 WWn XAn XBn XCn XRn XOn O7n O8n WW XA XB XC XR XO O7 O8
        rintro V7 ⟨WW, XA, XB, XC, XR, XO, O7, O8, hHeld⟩
        refine AnyL_done (by kernel_rfl) ?_ _
        clear hHeld
        refine NoPanic.normal ?_
        exact ⟨rfl, gXO, D7, d7, D8, d8, rfl, WW, XA, XB, XC, XR, XO, O7, O8, (by first | exact mXOXR | omega)⟩
    refine ReadyL.cons (o := oq21_6_3) rfl (fun K hK => ?_) ReadyL.nil
    · delta oq21_6_3
      have lqXR : w.heap.size + 1 + 1 + 1 < U2x0.heap.size := XR.lt
      go_simp
      have ba := (Below.refl U2x0.heap.size U2x0).alloc (Nat.le_refl _) (.cells #[.slice none 0 0] 37)
      have XAn := XA.below ba
      have XBn := XB.below ba
      have XCn := XC.below ba
      have XRn := XR.below ba
      have bn := Blk.new U2x0 37 #[.slice none 0 0]
      have XOn := VB.mk (B := w.heap.size) (a := 0) bn (.inr (Own.nil _ _ _ _ (Nat.zero_le _))) ba WW.size WW.size
      have WWn := WW.trans (ba.mono WW.size)
      have sn : U2x0.heap.size < (U2x0.alloc (.cells #[.slice none 0 0] 37)).heap.size := bn.lt
      refine hK.out _ _ (XCn.cell) (fun hHeld2 => ?_)
      clear hK K hHeld
      (try simp only [oq21_6_3, Act.put, List.setIfInBounds_toArray, List.set_cons_zero, List.set_cons_succ])
      refine AnyL_name (fun W' => Below w.heap.size w W' ∧ VB w.heap.size W' (w.heap.size) A (nw a) c a ∧ VB w.heap.size W' (w.heap.size + 1) B' (nw b) d b ∧ VB w.heap.size W' (w.heap.size + 1 + 1) C' (nw m) p m ∧ VB w.heap.size W' (w.heap.size + 1 + 1 + 1) none 0 0 0 ∧ VB w.heap.size W' (U2x0.heap.size) none 0 0 0 ∧ U2x0.heap.size < W'.heap.size ∧ (fun w' => w'.cell? ⟨w.heap.size + 1 + 1, 0, none⟩ = some (.slice C' (nw m) p)) W') ⟨WWn, XAn, XBn, XCn, XRn, XOn, sn, hHeld2⟩ ?_
      clear hHeld2 sn ba bn WWn XAn XBn XCn XRn XOn WW XA XB XC XR
      rintro V4 ⟨WW, XA, XB, XC, XR, XO, sz4, hHeld⟩
      obtain ⟨gXO, hg⟩ : ∃ x, x = U2x0.heap.size := ⟨_, rfl⟩
      have mXOXR : w.heap.size + 1 + 1 + 1 < gXO := by omega
      rw [← hg] at XO sz4 ⊢
      clear hg lqXR
      refine AnyL_ready (rs := [0]) (by kernel_rfl) (by simp) ?_
      refine ReadyL.cons (o := oq21_6_0) rfl (fun K hK => ?_) ReadyL.nil
      delta oq21_6_0
      go_simp
      have hbs : w.heap.size ≤ V4.heap.size := WW.size
      have hc := one_any V4
      refine hc.mono ?_
      clear hc
      rintro e V5 ⟨v, rfl, hv, hb⟩
      replace XA := XA.below hb
      replace XB := XB.below hb
      replace XC := XC.below hb
      replace XR := XR.below hb
      replace XO := XO.below hb
      replace WW := WW.trans (hb.mono WW.size)
      have sz5 := hb.size
      obtain ⟨D7, d7, rfl, ho⟩ := hv
      have O7 := ho.weak (b := w.heap.size) hbs
      clear ho
      clear hb hbs
      refine hK.out _ _ (XC.cell) (fun hHeld2 => ?_)
      clear hK K hHeld
      have hHeld := hHeld2
      clear hHeld2
      (try simp only [oq21_6_0, Act.put, List.setIfInBounds_toArray, List.set_cons_zero, List.set_cons_succ])
      refine AnyL_ready (rs := [2]) (by kernel_rfl) (by simp) ?_
      refine ReadyL.cons (o := oq21_6_2) rfl (fun K hK => ?_) ReadyL.nil
      delta oq21_6_2
      go_simp
      have hbs : w.heap.size ≤ V5.heap.size := WW.size
      have hc := remainder_any D7 C' d7 p 1 m V5 O7.num XC.num h01 (by omega) hne
      rw [← HT.out] at hc
      refine hc.mono ?_
      clear hc
      rintro e V6 ⟨v, rfl, hv, hb⟩
      replace XA := XA.below hb
      replace XB := XB.below hb
      replace XC := XC.below hb
      replace XR := XR.below hb
      replace XO := XO.below hb
      replace O7 := O7.below hb (Nat.le_refl _)
      replace WW := WW.trans (hb.mono WW.size)
      have sz6 := hb.size
      obtain ⟨D8, d8, rfl, ho⟩ := hv
      have O8 := ho.weak (b := w.heap.size) hbs
      clear ho
      clear hb hbs
      refine hK.out _ _ (XC.cell) (fun hHeld2 => ?_)
      clear hK K hHeld
      have hHeld := hHeld2
      clear hHeld2
      (try simp only [oq21_6_2, Act.put, List.setIfInBounds_toArray, List.set_cons_zero, List.set_cons_succ])
      refine AnyL_ready (rs := [4]) (by kernel_rfl) (by simp) ?_
      refine ReadyL.cons (o := oq21_6_4) rfl (fun K hK => ?_) ReadyL.nil
      delta oq21_6_4
      have fz := XO.1.frozen 0
      have cz := XO.cell
      have lz := XO.lt
      go_simp
      have XAn := XA.far (p := ⟨gXO, 0, none⟩) XO.1 XO.2.2 (by simp <;> omega) (.slice D8 (nw t) d8)
      have XBn := XB.far (p := ⟨gXO, 0, none⟩) XO.1 XO.2.2 (by simp <;> omega) (.slice D8 (nw t) d8)
      have XCn := XC.far (p := ⟨gXO, 0, none⟩) XO.1 XO.2.2 (by simp <;> omega) (.slice D8 (nw t) d8)
      have XRn := XR.far (p := ⟨gXO, 0, none⟩) XO.1 XO.2.2 (by simp <;> omega) (.slice D8 (nw t) d8)
      have XOn := XO.set_ (A' := D8) (n' := (nw t)) (c' := d8) (a' := t) (.inr O8)
      have O7n := O7.box (p := ⟨gXO, 0, none⟩) XO.1 (by decide) (.slice D8 (nw t) d8)
      have O8n := O8.box (p := ⟨gXO, 0, none⟩) XO.1 (by decide) (.slice D8 (nw t) d8)
      have WWn := WW.setCell (p := ⟨gXO, 0, none⟩) (by simp <;> omega) (.slice D8 (nw t) d8)
      refine hK.out _ _ (XCn.cell) (fun hHeld2 => ?_)
      clear hK K hHeld
      (try simp only [oq21_6_4, Act.put, List.setIfInBounds_toArray, List.set_cons_zero, List.set_cons_succ])
      refine AnyL_name (fun W' => Below w.heap.size w W' ∧ VB w.heap.size W' (w.heap.size) A (nw a) c a ∧ VB w.heap.size W' (w.heap.size + 1) B' (nw b) d b ∧ VB w.heap.size W' (w.heap.size + 1 + 1) C' (nw m) p m ∧ VB w.heap.size W' (w.heap.size + 1 + 1 + 1) none 0 0 0 ∧ VB w.heap.size W' (gXO) D8 (nw t) d8 t ∧ Own W' w.heap.size D7 (nw 1) d7 1 ∧ Own W' w.heap.size D8 (nw t) d8 t ∧ (fun w' => w'.cell? ⟨w.heap.size + 1 + 1, 0, none⟩ = some (.slice C' (nw m) p)) W') ⟨WWn, XAn, XBn, XCn, XRn, XOn, O7n, O8n, hHeld2⟩ ?_
      clear fz cz lz hHeld2 WWn XAn XBn XCn XRn XOn O7n O8n WW XA XB XC XR XO O7 O8
      rintro V7 ⟨WW, XA, XB, XC, XR, XO, O7, O8, hHeld⟩
      refine AnyL_done (by kernel_rfl) ?_ _
      clear hHeld
      refine NoPanic.normal ?_
      exact ⟨rfl, gXO, D7, d7, D8, d8, rfl, WW, XA, XB, XC, XR, XO, O7, O8, (by first | exact mXOXR | omega)⟩
  rintro gXO D7 d7 D8 d8 V52 ⟨WW, XA, XB, XC, XR, XO, O7, O8, mXOXR⟩
  have kXA := XA.cell
  have zXA := XA.lt
  have kXB := XB.cell
  have zXB := XB.lt
  have kXC := XC.cell
  have zXC := XC.lt
  have kXR := XR.cell
  have zXR := XR.lt
  have kXO := XO.cell
  have zXO := XO.lt
  go_wp2_with fail
  have hbs : w.heap.size ≤ V52.heap.size := WW.size
  have hc := bits_any B' _ d b V52 XB.num hk
  rw [bitsS_yes G1.out] at hc
  refine hc.mono ?_
  clear hc
  rintro e V53 ⟨rfl, hb⟩
  clear kXA zXA kXB zXB kXC zXC kXR zXR kXO zXO
  replace XA := XA.below hb
  replace XB := XB.below hb
  replace XC := XC.below hb
  replace XR := XR.below hb
  replace XO := XO.below hb
  replace O7 := O7.below hb (Nat.le_refl _)
  replace O8 := O8.below hb (Nat.le_refl _)
  replace WW := WW.trans (hb.mono WW.size)
  have kXA := XA.cell
  have zXA := XA.lt
  have kXB := XB.cell
  have zXB := XB.lt
  have kXC := XC.cell
  have zXC := XC.lt
  have kXR := XR.cell
  have zXR := XR.lt
  have kXO := XO.cell
  have zXO := XO.lt
  clear hb hbs
  go_wp2_with fail
  go_loopw [10] (fun i wr => ∃ (k s : Nat) (z : Int) (O : Option Addr) (oc : Nat), k ≤ bl b ∧ i = .int .i64 z ∧ z + 1 = (k : Int) ∧ Hid (s = a ^ (b / 2 ^ k) % m) ∧ Below w.heap.size w wr ∧ VB w.heap.size wr (w.heap.size) A (nw a) c a ∧ VB w.heap.size wr (w.heap.size + 1) B' (nw b) d b ∧ VB w.heap.size wr (w.heap.size + 1 + 1) C' (nw m) p m ∧ VB w.heap.size wr (w.heap.size + 1 + 1 + 1) none 0 0 0 ∧ VB w.heap.size wr (gXO) O (nw s) oc s ∧ Own wr w.heap.size O (nw s) oc s) (fun i wr => ((intOf i) + 1).toNat)
  case atStart => exact ⟨bl b, t, ((bl b : Nat) : Int) - 1, D8, d8, Nat.le_refl _, by go_num, by omega, (show t = a ^ (b / 2 ^ bl b) % m by rw [bits_top, Nat.pow_zero]; exact HT.out), WW, XA, XB, XC, XR, XO, O8⟩
  case round =>
    clear WW kXA zXA kXB zXB kXC zXC kXR zXR kXO zXO XA XB XC XR XO O7 O8
    obtain ⟨k, s, z, O, oc, hk, rfl, hz, HS, WW, XA, XB, XC, XR, XO, OO⟩ := hrel
    have kXA := XA.cell
    have zXA := XA.lt
    have kXB := XB.cell
    have zXB := XB.lt
    have kXC := XC.cell
    have zXC := XC.lt
    have kXR := XR.cell
    have zXR := XR.lt
    have kXO := XO.cell
    have zXO := XO.lt
    by_cases h0 : k = 0
    · subst h0
      have HF : Hid (a ^ b % m = s) := (show a ^ b % m = s by rw [HS.out, bits_all])
      obtain rfl : z = -1 := by omega
      have fXR := XR.1.frozen 0
      clear HS
      go_wp2_with fail
      have ho2 := OO.box (p := ⟨w.heap.size + 1 + 1 + 1, 0, none⟩) XR.1 (by decide) (.slice O (nw s) oc)
      exact bodyPost_ret (v := .tuple #[.agg #[.slice O (nw s) oc], .int .i64 0]) (by simp [results, Tryd.results72, go_sem, kXR, zXR]) rfl ⟨_, rfl, by rw [HF.out]; exact ⟨O, oc, rfl, ho2⟩, WW.setCell (by simp <;> omega) _⟩
    · obtain ⟨j, rfl⟩ : ∃ j, k = j + 1 := ⟨k - 1, by omega⟩
      obtain rfl : z = (j : Int) := by omega
      clear h0 hz
      have HSM : Hid (s < m) := (show s < m by rw [HS.out]; exact Nat.mod_lt _ HM0.out)
      have nws : nw s ≤ 32 := Nat.le_trans (nw_mono (Nat.le_of_lt HSM.out)) hm1
      have nwq : nw (s * s) ≤ 64 := nw_prod (j := 32) (k := 32) nws nws
      obtain ⟨s1, hs1⟩ : ∃ x, x = (s * s) % m := ⟨_, rfl⟩
      have H1 := hid hs1
      have l1 : (0 : Int) ≤ ((j : Nat) : Int) := by omega
      cases hbt : bitN b j
      · have HB := hid hbt
        have H2 : Hid (s1 = a ^ (b / 2 ^ j) % m) := (show s1 = a ^ (b / 2 ^ j) % m by rw [half_no hbt, hs1, HS.out]; exact (pow_even a (b / 2 ^ (j + 1)) m).symm)
        have HSMs1 : Hid (s1 < m) := (show s1 < m by rw [hs1]; exact Nat.mod_lt _ HM0.out)
        have nws1 : nw s1 ≤ 32 := Nat.le_trans (nw_mono (Nat.le_of_lt HSMs1.out)) hm1
        clear hbt hs1
        go_wp2_with fail
        have hbs : w.heap.size ≤ wr.heap.size := WW.size
        have hc := product2_any O O C' oc oc p s s m wr XO.num XO.num XC.num (by omega) (by omega) (by omega) hne nwq
        rw [← H1.out] at hc
        refine hc.mono ?_
        clear hc
        rintro e V54 ⟨v, rfl, hv, hb⟩
        clear kXA zXA kXB zXB kXC zXC kXR zXR kXO zXO
        replace XA := XA.below hb
        replace XB := XB.below hb
        replace XC := XC.below hb
        replace XR := XR.below hb
        replace XO := XO.below hb
        replace OO := OO.below hb (Nat.le_refl _)
        replace WW := WW.trans (hb.mono WW.size)
        obtain ⟨D1, d1, rfl, ho⟩ := hv
        have O1 := ho.weak (b := w.heap.size) hbs
        clear ho
        have kXA := XA.cell
        have zXA := XA.lt
        have kXB := XB.cell
        have zXB := XB.lt
        have kXC := XC.cell
        have zXC := XC.lt
        have kXR := XR.cell
        have zXR := XR.lt
        have kXO := XO.cell
        have zXO := XO.lt
        clear hb hbs
        have fXO := XO.1.frozen 0
        have XAn := XA.far (p := ⟨gXO, 0, none⟩) XO.1 XO.2.2 (by simp <;> omega) (.slice D1 (nw s1) d1)
        have XBn := XB.far (p := ⟨gXO, 0, none⟩) XO.1 XO.2.2 (by simp <;> omega) (.slice D1 (nw s1) d1)
        have XCn := XC.far (p := ⟨gXO, 0, none⟩) XO.1 XO.2.2 (by simp <;> omega) (.slice D1 (nw s1) d1)
        have XRn := XR.far (p := ⟨gXO, 0, none⟩) XO.1 XO.2.2 (by simp <;> omega) (.slice D1 (nw s1) d1)
        have XOn := XO.set_ (A' := D1) (n' := (nw s1)) (c' := d1) (a' := s1) (.inr O1)
        have OOn := OO.box (p := ⟨gXO, 0, none⟩) XO.1 (by decide) (.slice D1 (nw s1) d1)
        have O1n := O1.box (p := ⟨gXO, 0, none⟩) XO.1 (by decide) (.slice D1 (nw s1) d1)
        have WWn := WW.setCell (p := ⟨gXO, 0, none⟩) (by simp <;> omega) (.slice D1 (nw s1) d1)
        go_wp2_with fail
        clear kXA zXA kXB zXB kXC zXC kXR zXR kXO zXO fXO WW XA XB XC XR XO OO O1
        generalize hV : V54.setCell ⟨gXO, 0, none⟩ (.slice D1 (nw s1) d1) = V55 at XAn XBn XCn XRn XOn OOn O1n WWn ⊢
        clear hV
        have XA := XAn
        have XB := XBn
        have XC := XCn
        have XR := XRn
        have XO := XOn
        have OO := OOn
        have O1 := O1n
        have WW := WWn
        clear XAn XBn XCn XRn XOn OOn O1n WWn
        have kXA := XA.cell
        have zXA := XA.lt
        have kXB := XB.cell
        have zXB := XB.lt
        have kXC := XC.cell
        have zXC := XC.lt
        have kXR := XR.cell
        have zXR := XR.lt
        have kXO := XO.cell
        have zXO := XO.lt
        try go_wp2_with fail
        have hbs : w.heap.size ≤ V55.heap.size := WW.size
        have hc := bit_any B' _ d b ((j : Nat) : Int) V55 XB.num (by omega) (by omega) (by omega)
        rw [bitS_yes G1.out] at hc
        rw [HB.out] at hc
        refine hc.mono ?_
        clear hc
        rintro e V56 ⟨rfl, hb⟩
        clear kXA zXA kXB zXB kXC zXC kXR zXR kXO zXO
        replace XA := XA.below hb
        replace XB := XB.below hb
        replace XC := XC.below hb
        replace XR := XR.below hb
        replace XO := XO.below hb
        replace OO := OO.below hb (Nat.le_refl _)
        replace O1 := O1.below hb (Nat.le_refl _)
        replace WW := WW.trans (hb.mono WW.size)
        have kXA := XA.cell
        have zXA := XA.lt
        have kXB := XB.cell
        have zXB := XB.lt
        have kXC := XC.cell
        have zXC := XC.lt
        have kXR := XR.cell
        have zXR := XR.lt
        have kXO := XO.cell
        have zXO := XO.lt
        clear hb hbs
        go_wp2_with fail
        go_roundw
        case rel => exact ⟨j, s1, ((j : Int) - 1), D1, d1, by omega, by go_num, by omega, H2.out, WW, XA, XB, XC, XR, XO, O1⟩
        case measure => simp [intOf] <;> omega
      · have HB := hid hbt
        obtain ⟨s2, hs2⟩ : ∃ x, x = (s1 * a) % m := ⟨_, rfl⟩
        have H3 := hid hs2
        have H2 : Hid (s2 = a ^ (b / 2 ^ j) % m) := (show s2 = a ^ (b / 2 ^ j) % m by rw [half_yes hbt, hs2, hs1, HS.out]; exact (pow_odd a (b / 2 ^ (j + 1)) m).symm)
        have HSMs1 : Hid (s1 < m) := (show s1 < m by rw [hs1]; exact Nat.mod_lt _ HM0.out)
        have nws1 : nw s1 ≤ 32 := Nat.le_trans (nw_mono (Nat.le_of_lt HSMs1.out)) hm1
        have HSMs2 : Hid (s2 < m) := (show s2 < m by rw [hs2]; exact Nat.mod_lt _ HM0.out)
        have nws2 : nw s2 ≤ 32 := Nat.le_trans (nw_mono (Nat.le_of_lt HSMs2.out)) hm1
        clear hbt hs1 hs2
        go_wp2_with fail
        have hbs : w.heap.size ≤ wr.heap.size := WW.size
        have hc := product2_any O O C' oc oc p s s m wr XO.num XO.num XC.num (by omega) (by omega) (by omega) hne nwq
        rw [← H1.out] at hc
        refine hc.mono ?_
        clear hc
        rintro e V54 ⟨v, rfl, hv, hb⟩
        clear kXA zXA kXB zXB kXC zXC kXR zXR kXO zXO
        replace XA := XA.below hb
        replace XB := XB.below hb
        replace XC := XC.below hb
        replace XR := XR.below hb
        replace XO := XO.below hb
        replace OO := OO.below hb (Nat.le_refl _)
        replace WW := WW.trans (hb.mono WW.size)
        obtain ⟨D1, d1, rfl, ho⟩ := hv
        have O1 := ho.weak (b := w.heap.size) hbs
        clear ho
        have kXA := XA.cell
        have zXA := XA.lt
        have kXB := XB.cell
        have zXB := XB.lt
        have kXC := XC.cell
        have zXC := XC.lt
        have kXR := XR.cell
        have zXR := XR.lt
        have kXO := XO.cell
        have zXO := XO.lt
        clear hb hbs
        have fXO := XO.1.frozen 0
        have XAn := XA.far (p := ⟨gXO, 0, none⟩) XO.1 XO.2.2 (by simp <;> omega) (.slice D1 (nw s1) d1)
        have XBn := XB.far (p := ⟨gXO, 0, none⟩) XO.1 XO.2.2 (by simp <;> omega) (.slice D1 (nw s1) d1)
        have XCn := XC.far (p := ⟨gXO, 0, none⟩) XO.1 XO.2.2 (by simp <;> omega) (.slice D1 (nw s1) d1)
        have XRn := XR.far (p := ⟨gXO, 0, none⟩) XO.1 XO.2.2 (by simp <;> omega) (.slice D1 (nw s1) d1)
        have XOn := XO.set_ (A' := D1) (n' := (nw s1)) (c' := d1) (a' := s1) (.inr O1)
        have OOn := OO.box (p := ⟨gXO, 0, none⟩) XO.1 (by decide) (.slice D1 (nw s1) d1)
        have O1n := O1.box (p := ⟨gXO, 0, none⟩) XO.1 (by decide) (.slice D1 (nw s1) d1)
        have WWn := WW.setCell (p := ⟨gXO, 0, none⟩) (by simp <;> omega) (.slice D1 (nw s1) d1)
        go_wp2_with fail
        clear kXA zXA kXB zXB kXC zXC kXR zXR kXO zXO fXO WW XA XB XC XR XO OO O1
        generalize hV : V54.setCell ⟨gXO, 0, none⟩ (.slice D1 (nw s1) d1) = V55 at XAn XBn XCn XRn XOn OOn O1n WWn ⊢
        clear hV
        have XA := XAn
        have XB := XBn
        have XC := XCn
        have XR := XRn
        have XO := XOn
        have OO := OOn
        have O1 := O1n
        have WW := WWn
        clear XAn XBn XCn XRn XOn OOn O1n WWn
        have kXA := XA.cell
        have zXA := XA.lt
        have kXB := XB.cell
        have zXB := XB.lt
        have kXC := XC.cell
        have zXC := XC.lt
        have kXR := XR.cell
        have zXR := XR.lt
        have kXO := XO.cell
        have zXO := XO.lt
        try go_wp2_with fail
        have hbs : w.heap.size ≤ V55.heap.size := WW.size
        have hc := bit_any B' _ d b ((j : Nat) : Int) V55 XB.num (by omega) (by omega) (by omega)
        rw [bitS_yes G1.out] at hc
        rw [HB.out] at hc
        refine hc.mono ?_
        clear hc
        rintro e V56 ⟨rfl, hb⟩
        clear kXA zXA kXB zXB kXC zXC kXR zXR kXO zXO
        replace XA := XA.below hb
        replace XB := XB.below hb
        replace XC := XC.below hb
        replace XR := XR.below hb
        replace XO := XO.below hb
        replace OO := OO.below hb (Nat.le_refl _)
        replace O1 := O1.below hb (Nat.le_refl _)
        replace WW := WW.trans (hb.mono WW.size)
        have kXA := XA.cell
        have zXA := XA.lt
        have kXB := XB.cell
        have zXB := XB.lt
        have kXC := XC.cell
        have zXC := XC.lt
        have kXR := XR.cell
        have zXR := XR.lt
        have kXO := XO.cell
        have zXO := XO.lt
        clear hb hbs
        go_wp2_with fail
        have hbs : w.heap.size ≤ V56.heap.size := WW.size
        have hc := product2_any D1 A C' d1 c p s1 a m V56 XO.num XA.num XC.num (by omega) (by omega) (by omega) hne (nw_prod (j := 32) (k := 32) nws1 ha32)
        rw [← H3.out] at hc
        refine hc.mono ?_
        clear hc
        rintro e V57 ⟨v, rfl, hv, hb⟩
        clear kXA zXA kXB zXB kXC zXC kXR zXR kXO zXO
        replace XA := XA.below hb
        replace XB := XB.below hb
        replace XC := XC.below hb
        replace XR := XR.below hb
        replace XO := XO.below hb
        replace OO := OO.below hb (Nat.le_refl _)
        replace O1 := O1.below hb (Nat.le_refl _)
        replace WW := WW.trans (hb.mono WW.size)
        obtain ⟨D2, d2, rfl, ho⟩ := hv
        have O2 := ho.weak (b := w.heap.size) hbs
        clear ho
        have kXA := XA.cell
        have zXA := XA.lt
        have kXB := XB.cell
        have zXB := XB.lt
        have kXC := XC.cell
        have zXC := XC.lt
        have kXR := XR.cell
        have zXR := XR.lt
        have kXO := XO.cell
        have zXO := XO.lt
        clear hb hbs
        have fXO := XO.1.frozen 0
        have XAn := XA.far (p := ⟨gXO, 0, none⟩) XO.1 XO.2.2 (by simp <;> omega) (.slice D2 (nw s2) d2)
        have XBn := XB.far (p := ⟨gXO, 0, none⟩) XO.1 XO.2.2 (by simp <;> omega) (.slice D2 (nw s2) d2)
        have XCn := XC.far (p := ⟨gXO, 0, none⟩) XO.1 XO.2.2 (by simp <;> omega) (.slice D2 (nw s2) d2)
        have XRn := XR.far (p := ⟨gXO, 0, none⟩) XO.1 XO.2.2 (by simp <;> omega) (.slice D2 (nw s2) d2)
        have XOn := XO.set_ (A' := D2) (n' := (nw s2)) (c' := d2) (a' := s2) (.inr O2)
        have OOn := OO.box (p := ⟨gXO, 0, none⟩) XO.1 (by decide) (.slice D2 (nw s2) d2)
        have O1n := O1.box (p := ⟨gXO, 0, none⟩) XO.1 (by decide) (.slice D2 (nw s2) d2)
        have O2n := O2.box (p := ⟨gXO, 0, none⟩) XO.1 (by decide) (.slice D2 (nw s2) d2)
        have WWn := WW.setCell (p := ⟨gXO, 0, none⟩) (by simp <;> omega) (.slice D2 (nw s2) d2)
        go_wp2_with fail
        clear kXA zXA kXB zXB kXC zXC kXR zXR kXO zXO fXO WW XA XB XC XR XO OO O1 O2
        generalize hV : V57.setCell ⟨gXO, 0, none⟩ (.slice D2 (nw s2) d2) = V58 at XAn XBn XCn XRn XOn OOn O1n O2n WWn ⊢
        clear hV
        have XA := XAn
        have XB := XBn
        have XC := XCn
        have XR := XRn
        have XO := XOn
        have OO := OOn
        have O1 := O1n
        have O2 := O2n
        have WW := WWn
        clear XAn XBn XCn XRn XOn OOn O1n O2n WWn
        have kXA := XA.cell
        have zXA := XA.lt
        have kXB := XB.cell
        have zXB := XB.lt
        have kXC := XC.cell
        have zXC := XC.lt
        have kXR := XR.cell
        have zXR := XR.lt
        have kXO := XO.cell
        have zXO := XO.lt
        try go_wp2_with fail
        go_roundw
        case rel => exact ⟨j, s2, ((j : Int) - 1), D2, d2, by omega, by go_num, by omega, H2.out, WW, XA, XB, XC, XR, XO, O2⟩
        case measure => simp [intOf] <;> omega

theorem npow_any (A B' C' : Option Addr) (n k q c d p a b m : Nat) (w : World) (hA : Num w w.heap.size A n a) (hB : Num w w.heap.size B' k b) (hC : Num w w.heap.size C' q m) (hn : n ≤ 9223372036854775807) (hk : k ≤ 9223372036854775807) (hq : q ≤ 9223372036854775807) :
    Calls Tryd.prog 72 #[.agg #[.slice A n c], .agg #[.slice B' k d], .agg #[.slice C' q p]] w (RetTwo w.heap.size (powV n a k b q m).1 (powV n a k b q m).2 w) := by
  cases h1 : okB k b
  · exact npow_bad A B' C' n k q c d p a b m w hA hB hC hn hk hq h1
  · by_cases h0 : chkS n a 0 0 q m = 0
    · exact npow_ok A B' C' n k q c d p a b m w hA hB hC hn hk hq h1 h0
    · exact npow_err A B' C' n k q c d p a b m w hA hB hC hn hk hq h1 h0

end Go.Proofs.YtomkmkjkeihodaaDoor
