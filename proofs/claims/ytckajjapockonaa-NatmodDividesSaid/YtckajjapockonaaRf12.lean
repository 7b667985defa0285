/- the reference of layer 3: Gcd. -/
import Derived.Test.YtckajjapockonaaRf8
set_option linter.unusedVariables false
set_option linter.unusedSimpArgs false
namespace Go.Proofs.Ytckajjapockonaa
open Go.RowKit

def oq27_2_0 : Oper := { dst := some 9, op := Op.load 24 (Operand.tmp 3), type := 24, pos := "ref.go:151", after := #[], guard := none }
def oq27_2_1 : Oper := { dst := some 10, op := Op.load 24 (Operand.tmp 2), type := 24, pos := "ref.go:151", after := #[], guard := none }
def oq27_2_2 : Oper := { dst := some 11, op := Op.load 24 (Operand.tmp 3), type := 24, pos := "ref.go:151", after := #[], guard := none }
def oq27_2_3 : Oper := { dst := some 12, op := Op.call { callee := Callee.value (Operand.func 41), args := #[Operand.tmp 10, Operand.tmp 11], argTypes := #[24, 24] }, type := 24, pos := "ref.go:151", after := #[{ on := 1, ground := Ground.data }, { on := 2, ground := Ground.data }], guard := none }
def oq27_2_4 : Oper := { dst := none, op := Op.store 24 (Operand.tmp 2) (Operand.tmp 9), type := 0, pos := "ref.go:151", after := #[{ on := 0, ground := Ground.data }, { on := 3, ground := Ground.chain }, { on := 0, ground := Ground.phase }, { on := 1, ground := Ground.phase }, { on := 2, ground := Ground.textOnly Departure.lateStores }, { on := 3, ground := Ground.textOnly Departure.lateStoresUnsure }], guard := none }
def oq27_2_5 : Oper := { dst := none, op := Op.store 24 (Operand.tmp 3) (Operand.tmp 12), type := 0, pos := "ref.go:151", after := #[{ on := 3, ground := Ground.data }, { on := 4, ground := Ground.chain }, { on := 0, ground := Ground.phase }, { on := 1, ground := Ground.phase }, { on := 2, ground := Ground.phase }, { on := 3, ground := Ground.phase }, { on := 4, ground := Ground.phase }], guard := none }
/-- The call returns the number a, in memory of its own or an argument's. -/
def RetVal (B0 a : Nat) (w : World) (e : Ending) (w' : World) : Prop := ∃ D d, e = .returned (.agg #[.slice D (nw a) d]) ∧ Val B0 w' D (nw a) d a ∧ Below w.heap.size w w'
theorem gcd_step (x y : Nat) : Nat.gcd y (x % y) = Nat.gcd x y := by rw [Nat.gcd_comm x y, Nat.gcd_rec y x, Nat.gcd_comm]
set_option maxHeartbeats 8000000 in
theorem rgcd_any (A B' : Option Addr) (c d a b : Nat) (w : World) (hA : Num w w.heap.size A (nw a) a) (hB : Num w w.heap.size B' (nw b) b) (ha : nw a ≤ 64) (hb : nw b ≤ 64) :
    Calls Try.prog 27 #[.agg #[.slice A (nw a) c], .agg #[.slice B' (nw b) d]] w (RetVal w.heap.size (Nat.gcd a b) w) := by
  have h00 : nw 0 = 0 := rfl
  obtain ⟨b0, b1, b2, bw⟩ := boxes3 w (.slice A (nw a) c) (.slice B' (nw b) d) (.slice none 0 0)
  have XA := VB.mk (B := w.heap.size) (a := a) b0 (.inl hA) bw (Nat.le_refl _) (by omega)
  have XB := VB.mk (B := w.heap.size) (a := b) b1 (.inl hB) bw (Nat.le_refl _) (by omega)
  have XR := VB.mk (B := w.heap.size) (a := 0) b2 (.inr (Own.nil _ _ _ _ (Nat.zero_le _))) bw (Nat.le_refl _) (by omega)
  have WW := bw
  clear bw b0 b1 b2
  go_enter Try.func27, Try.ntmps27
  go_wp2_with fail
  generalize hV : (((w.alloc (.cells #[.slice A (nw a) c] 24)).alloc (.cells #[.slice B' (nw b) d] 24)).alloc (.cells #[.slice none 0 0] 24)) = V0 at XA XB XR WW ⊢
  clear hV
  go_loopw [] (fun  wr => ∃ (x y : Nat) (X Y : Option Addr) (xc yc : Nat), nw x ≤ 64 ∧ nw y ≤ 64 ∧ Hid (Nat.gcd x y = Nat.gcd a b) ∧ Below w.heap.size w wr ∧ VB w.heap.size wr (w.heap.size) X (nw x) xc x ∧ VB w.heap.size wr (w.heap.size + 1) Y (nw y) yc y ∧ VB w.heap.size wr (w.heap.size + 1 + 1) none 0 0 0) (fun  wr => numAt wr (w.heap.size + 1))
  case atStart => exact ⟨a, b, A, B', c, d, ha, hb, rfl, WW, XA, XB, XR⟩
  case round =>
    clear WW XA XB XR
    obtain ⟨x, y, X, Y, xc, yc, hx, hy, HG, WW, XA, XB, XR⟩ := hrel
    have kXA := XA.cell
    have zXA := XA.lt
    have kXB := XB.cell
    have zXB := XB.lt
    have kXR := XR.cell
    have zXR := XR.lt
    by_cases h0 : y = 0
    · subst h0
      have HF : Hid (Nat.gcd a b = x) := (show Nat.gcd a b = x by rw [← HG.out, Nat.gcd_zero_right])
      have fXR := XR.1.frozen 0
      have l0 : decide (0 < ((nw 0 : Nat) : Int)) = false := rfl
      clear HG
      go_wp2_with fail
      have hv2 := XA.2.1.box (p := ⟨w.heap.size + 1 + 1, 0, none⟩) XR.1 XR.2.2 (.slice X (nw x) xc)
      exact bodyPost_ret (v := .agg #[.slice X (nw x) xc]) (by simp [results, Try.results27, go_sem, kXR, zXR]) rfl (by show RetVal _ _ _ _ _; rw [HF.out]; exact ⟨X, xc, rfl, hv2, WW.setCell (by simp <;> omega) _⟩)
    · obtain ⟨t, ht⟩ : ∃ t, t = x % y := ⟨_, rfl⟩
      have HT := hid ht
      have HTY : Hid (t < y) := (show t < y by rw [ht]; exact Nat.mod_lt _ (by omega))
      have HG2 : Hid (Nat.gcd y t = Nat.gcd a b) := (show Nat.gcd y t = _ by rw [ht, gcd_step]; exact HG.out)
      have nt : nw t ≤ 64 := Nat.le_trans (nw_mono (Nat.le_of_lt HTY.out)) hy
      have hy0 : 0 < y := by omega
      have HY0 := hid hy0
      have ny0 := nw_pos h0
      have l1 : decide (0 < ((nw y : Nat) : Int)) = true := by simpa using ny0
      have HN0 : Hid (numAt wr (w.heap.size + 1) = y) := numAt_eq kXB XB.num
      clear ht h0 hy0
      go_wp2_with fail
      have WWd := WW.drew
      have XAd := XA.drew
      have XBd := XB.drew
      have XRd := XR.drew
      have hst : (fun w' => w'.cell? ⟨w.heap.size, 0, none⟩ = some (.slice X (nw x) xc) ∧ w'.cell? ⟨w.heap.size + 1, 0, none⟩ = some (.slice Y (nw y) yc)) wr.drew := ⟨XA.cell, XB.cell⟩
      clear WW kXA zXA kXB zXB kXR zXR XA XB XR
      have qq0 := XRd.lt
      refine region_L 4 (fun w' => w'.cell? ⟨w.heap.size, 0, none⟩ = some (.slice X (nw x) xc) ∧ w'.cell? ⟨w.heap.size + 1, 0, none⟩ = some (.slice Y (nw y) yc)) (by kernel_rfl) hst (fun hHeld => ?_)
      clear hst
      refine AnyL_name (fun W' => Below w.heap.size w W' ∧ VB w.heap.size W' (w.heap.size) X (nw x) xc x ∧ VB w.heap.size W' (w.heap.size + 1) Y (nw y) yc y ∧ VB w.heap.size W' (w.heap.size + 1 + 1) none 0 0 0 ∧ wr.drew.heap.size ≤ W'.heap.size ∧ (fun w' => w'.cell? ⟨w.heap.size, 0, none⟩ = some (.slice X (nw x) xc) ∧ w'.cell? ⟨w.heap.size + 1, 0, none⟩ = some (.slice Y (nw y) yc)) W') ⟨WWd, XAd, XBd, XRd, Nat.le_refl _, hHeld⟩ ?_
      clear hHeld WWd XAd XBd XRd
      rintro U0x0 ⟨WW, XA, XB, XR, sz0, hHeld⟩
      refine AnyL_take (i := 0) (oi := oq27_2_0) (v := ?_) rfl (by kernel_rfl) (by kernel_rfl) (by kernel_rfl) (by kernel_rfl) (fun _ _ _ h => h) (Or.inl ⟨by rfl, ?_⟩) (by assumption) ?_
      rotate_left
      · (delta oq27_2_0; intro ws hSw; (try dsimp only at hSw); (try go_simp); (try with_reducible rfl))
      (try simp only [oq27_2_0, Act.put, List.setIfInBounds_toArray, List.set_cons_zero, List.set_cons_succ])
      refine AnyL_take (i := 1) (oi := oq27_2_1) (v := ?_) rfl (by kernel_rfl) (by kernel_rfl) (by kernel_rfl) (by kernel_rfl) (fun _ _ _ h => h) (Or.inl ⟨by rfl, ?_⟩) (by assumption) ?_
      rotate_left
      · (delta oq27_2_1; intro ws hSw; (try dsimp only at hSw); (try go_simp); (try with_reducible rfl))
      (try simp only [oq27_2_1, Act.put, List.setIfInBounds_toArray, List.set_cons_zero, List.set_cons_succ])
      refine AnyL_take (i := 2) (oi := oq27_2_2) (v := ?_) rfl (by kernel_rfl) (by kernel_rfl) (by kernel_rfl) (by kernel_rfl) (fun _ _ _ h => h) (Or.inl ⟨by rfl, ?_⟩) (by assumption) ?_
      rotate_left
      · (delta oq27_2_2; intro ws hSw; (try dsimp only at hSw); (try go_simp); (try with_reducible rfl))
      (try simp only [oq27_2_2, Act.put, List.setIfInBounds_toArray, List.set_cons_zero, List.set_cons_succ])
      refine AnyL_ready (rs := [3]) (by kernel_rfl) (by simp) ?_
      refine ReadyL.cons (o := oq27_2_3) rfl (fun K hK => ?_) ReadyL.nil
      delta oq27_2_3
      go_simp
      have hbs : w.heap.size ≤ U0x0.heap.size := WW.size
      have hc := rmod3_any X Y xc yc x y U0x0 XA.num XB.num (by omega) (by omega) HY0.out
      rw [← HT.out] at hc
      refine hc.mono ?_
      clear hc
      rintro e V2 ⟨v, rfl, hv, hb⟩
      replace XA := XA.below hb
      replace XB := XB.below hb
      replace XR := XR.below hb
      replace WW := WW.trans (hb.mono WW.size)
      have sz2 := hb.size
      obtain ⟨D1, d1, rfl, ho⟩ := hv
      have O1 := ho.weak (b := w.heap.size) hbs
      clear ho
      clear hb hbs
      refine hK.out _ _ (⟨XA.cell, XB.cell⟩) (fun hHeld2 => ?_)
      clear hK K hHeld
      have hHeld := hHeld2
      clear hHeld2
      (try simp only [oq27_2_3, Act.put, List.setIfInBounds_toArray, List.set_cons_zero, List.set_cons_succ])
      refine AnyL_ready (rs := [4]) (by kernel_rfl) (by simp) ?_
      refine ReadyL.late (o := oq27_2_4) rfl (by rfl) (fun K hK => ?_) ReadyL.nil
      delta oq27_2_4
      have fz := XA.1.frozen 0
      have cz := XA.cell
      have lz := XA.lt
      go_simp
      have XBn := XB.far (p := ⟨w.heap.size, 0, none⟩) XA.1 XA.2.2 (by simp <;> omega) (.slice Y (nw y) yc)
      have XRn := XR.far (p := ⟨w.heap.size, 0, none⟩) XA.1 XA.2.2 (by simp <;> omega) (.slice Y (nw y) yc)
      have XAn := XA.set_ (A' := Y) (n' := (nw y)) (c' := yc) (a' := y) (XB.2.1)
      have O1n := O1.box (p := ⟨w.heap.size, 0, none⟩) XA.1 (by decide) (.slice Y (nw y) yc)
      have WWn := WW.setCell (p := ⟨w.heap.size, 0, none⟩) (by simp <;> omega) (.slice Y (nw y) yc)
      refine hK.out _ _ trivial (fun hHeld2 => ?_)
      clear hK K hHeld2 hHeld
      (try simp only [oq27_2_4, Act.put, List.setIfInBounds_toArray, List.set_cons_zero, List.set_cons_succ])
      refine AnyL_name (fun W' => Below w.heap.size w W' ∧ VB w.heap.size W' (w.heap.size) Y (nw y) yc y ∧ VB w.heap.size W' (w.heap.size + 1) Y (nw y) yc y ∧ VB w.heap.size W' (w.heap.size + 1 + 1) none 0 0 0 ∧ Own W' w.heap.size D1 (nw t) d1 t) ⟨WWn, XAn, XBn, XRn, O1n⟩ ?_
      clear fz cz lz WWn XAn XBn XRn O1n WW XA XB XR O1
      rintro V3 ⟨WW, XA, XB, XR, O1⟩
      refine AnyL_ready (rs := [5]) (by kernel_rfl) (by simp) ?_
      refine ReadyL.late (o := oq27_2_5) rfl (by rfl) (fun K hK => ?_) ReadyL.nil
      delta oq27_2_5
      have fz := XB.1.frozen 0
      have cz := XB.cell
      have lz := XB.lt
      go_simp
      have XAn := XA.far (p := ⟨w.heap.size + 1, 0, none⟩) XB.1 XB.2.2 (by simp <;> omega) (.slice D1 (nw t) d1)
      have XRn := XR.far (p := ⟨w.heap.size + 1, 0, none⟩) XB.1 XB.2.2 (by simp <;> omega) (.slice D1 (nw t) d1)
      have XBn := XB.set_ (A' := D1) (n' := (nw t)) (c' := d1) (a' := t) (.inr O1)
      have O1n := O1.box (p := ⟨w.heap.size + 1, 0, none⟩) XB.1 (by decide) (.slice D1 (nw t) d1)
      have WWn := WW.setCell (p := ⟨w.heap.size + 1, 0, none⟩) (by simp <;> omega) (.slice D1 (nw t) d1)
      refine hK.out _ _ trivial (fun hHeld2 => ?_)
      clear hK K hHeld2
      (try simp only [oq27_2_5, Act.put, List.setIfInBounds_toArray, List.set_cons_zero, List.set_cons_succ])
      refine AnyL_name (fun W' => Below w.heap.size w W' ∧ VB w.heap.size W' (w.heap.size) Y (nw y) yc y ∧ VB w.heap.size W' (w.heap.size + 1) D1 (nw t) d1 t ∧ VB w.heap.size W' (w.heap.size + 1 + 1) none 0 0 0 ∧ Own W' w.heap.size D1 (nw t) d1 t) ⟨WWn, XAn, XBn, XRn, O1n⟩ ?_
      clear fz cz lz WWn XAn XBn XRn O1n WW XA XB XR O1
      rintro V4 ⟨WW, XA, XB, XR, O1⟩
      refine AnyL_done (by kernel_rfl) ?_ _
      have kXA := XA.cell
      have zXA := XA.lt
      have kXB := XB.cell
      have zXB := XB.lt
      have kXR := XR.cell
      have zXR := XR.lt
      have HN1 : Hid (numAt V4 (w.heap.size + 1) = t) := numAt_eq kXB XB.num
      go_wp2_with fail
      go_roundw
      case rel => exact ⟨y, t, Y, D1, yc, d1, hy, nt, HG2.out, WW, XA, XB, XR⟩
      case measure => rw [HN1.out, HN0.out]; exact HTY.out

end Go.Proofs.Ytckajjapockonaa
