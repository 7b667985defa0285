/- the reference of layer 3: Crt. -/
import Derived.Test.YtckajjapockonaaRf13
import Derived.Test.YtckajjapockonaaRf10
set_option linter.unusedVariables false
set_option linter.unusedSimpArgs false
namespace Go.Proofs.Ytckajjapockonaa
open Go.RowKit

def oq33_1_0 : Oper := { dst := some 13, op := Op.load 24 (Operand.tmp 5), type := 24, pos := "ref.go:198", after := #[], guard := none }
def oq33_1_1 : Oper := { dst := some 14, op := Op.load 24 (Operand.tmp 7), type := 24, pos := "ref.go:198", after := #[], guard := none }
def oq33_1_2 : Oper := { dst := some 15, op := Op.call { callee := Callee.value (Operand.func 41), args := #[Operand.tmp 13, Operand.tmp 14], argTypes := #[24, 24] }, type := 24, pos := "ref.go:198", after := #[{ on := 0, ground := Ground.data }, { on := 1, ground := Ground.data }], guard := none }
def oq33_1_3 : Oper := { dst := some 16, op := Op.load 24 (Operand.tmp 7), type := 24, pos := "ref.go:198", after := #[], guard := none }
def oq33_1_4 : Oper := { dst := some 17, op := Op.call { callee := Callee.value (Operand.func 28), args := #[Operand.tmp 15, Operand.tmp 16], argTypes := #[24, 24] }, type := 38, pos := "ref.go:198", after := #[{ on := 2, ground := Ground.data }, { on := 3, ground := Ground.data }, { on := 2, ground := Ground.chain }], guard := none }
def oq33_1_5 : Oper := { dst := some 12, op := Op.move (Operand.tmp 17), type := 38, pos := "ref.go:198", after := #[{ on := 4, ground := Ground.data }], guard := none }
def oq33_1_6 : Oper := { dst := some 18, op := Op.extract (Operand.tmp 12) 0, type := 24, pos := "ref.go:198", after := #[{ on := 5, ground := Ground.data }], guard := none }
def oq33_1_7 : Oper := { dst := some 19, op := Op.extract (Operand.tmp 12) 1, type := 4, pos := "ref.go:198", after := #[{ on := 5, ground := Ground.data }, { on := 9, ground := Ground.gcOnly Departure.lateStores }], guard := none }
def oq33_1_8 : Oper := { dst := some 9, op := Op.alloc 24, type := 0, pos := "ref.go:198", after := #[], guard := none }
def oq33_1_9 : Oper := { dst := none, op := Op.store 24 (Operand.tmp 9) (Operand.tmp 18), type := 0, pos := "ref.go:198", after := #[{ on := 8, ground := Ground.data }, { on := 6, ground := Ground.data }, { on := 4, ground := Ground.chain }, { on := 0, ground := Ground.phase }, { on := 1, ground := Ground.phase }, { on := 2, ground := Ground.phase }, { on := 3, ground := Ground.phase }, { on := 4, ground := Ground.phase }, { on := 5, ground := Ground.phase }, { on := 6, ground := Ground.phase }, { on := 7, ground := Ground.textOnly Departure.lateStores }, { on := 8, ground := Ground.phase }], guard := none }
def oq33_1_10 : Oper := { dst := some 10, op := Op.assign (Operand.tmp 19), type := 4, pos := "ref.go:198", after := #[{ on := 7, ground := Ground.data }, { on := 9, ground := Ground.chain }, { on := 0, ground := Ground.phase }, { on := 1, ground := Ground.phase }, { on := 2, ground := Ground.phase }, { on := 3, ground := Ground.phase }, { on := 4, ground := Ground.phase }, { on := 5, ground := Ground.phase }, { on := 6, ground := Ground.phase }, { on := 7, ground := Ground.phase }, { on := 8, ground := Ground.phase }, { on := 9, ground := Ground.phase }], guard := none }
def oq33_2_0 : Oper := { dst := some 20, op := Op.load 24 (Operand.tmp 6), type := 24, pos := "ref.go:200", after := #[], guard := none }
def oq33_2_1 : Oper := { dst := some 21, op := Op.load 24 (Operand.tmp 4), type := 24, pos := "ref.go:200", after := #[], guard := none }
def oq33_2_2 : Oper := { dst := some 22, op := Op.load 24 (Operand.tmp 7), type := 24, pos := "ref.go:200", after := #[], guard := none }
def oq33_2_3 : Oper := { dst := some 23, op := Op.call { callee := Callee.value (Operand.func 41), args := #[Operand.tmp 21, Operand.tmp 22], argTypes := #[24, 24] }, type := 24, pos := "ref.go:200", after := #[{ on := 1, ground := Ground.data }, { on := 2, ground := Ground.data }], guard := none }
def oq33_2_4 : Oper := { dst := some 24, op := Op.load 24 (Operand.tmp 7), type := 24, pos := "ref.go:200", after := #[], guard := none }
def oq33_2_5 : Oper := { dst := some 25, op := Op.call { callee := Callee.value (Operand.func 19), args := #[Operand.tmp 20, Operand.tmp 23, Operand.tmp 24], argTypes := #[24, 24, 24] }, type := 24, pos := "ref.go:200", after := #[{ on := 0, ground := Ground.data }, { on := 3, ground := Ground.data }, { on := 4, ground := Ground.data }, { on := 3, ground := Ground.chain }], guard := none }
def oq33_2_6 : Oper := { dst := some 26, op := Op.load 24 (Operand.tmp 9), type := 24, pos := "ref.go:200", after := #[], guard := none }
def oq33_2_7 : Oper := { dst := some 27, op := Op.load 24 (Operand.tmp 7), type := 24, pos := "ref.go:200", after := #[], guard := none }
def oq33_2_8 : Oper := { dst := some 28, op := Op.call { callee := Callee.value (Operand.func 22), args := #[Operand.tmp 25, Operand.tmp 26, Operand.tmp 27], argTypes := #[24, 24, 24] }, type := 24, pos := "ref.go:200", after := #[{ on := 5, ground := Ground.data }, { on := 6, ground := Ground.data }, { on := 7, ground := Ground.data }, { on := 5, ground := Ground.chain }], guard := none }
def oq33_2_9 : Oper := { dst := some 11, op := Op.alloc 24, type := 0, pos := "ref.go:200", after := #[], guard := none }
def oq33_2_10 : Oper := { dst := none, op := Op.store 24 (Operand.tmp 11) (Operand.tmp 28), type := 0, pos := "ref.go:200", after := #[{ on := 9, ground := Ground.data }, { on := 8, ground := Ground.data }, { on := 8, ground := Ground.chain }, { on := 0, ground := Ground.phase }, { on := 1, ground := Ground.phase }, { on := 2, ground := Ground.phase }, { on := 3, ground := Ground.phase }, { on := 4, ground := Ground.phase }, { on := 5, ground := Ground.phase }, { on := 6, ground := Ground.phase }, { on := 7, ground := Ground.phase }, { on := 8, ground := Ground.phase }, { on := 9, ground := Ground.phase }], guard := none }
def oq33_3_0 : Oper := { dst := some 29, op := Op.load 24 (Operand.tmp 4), type := 24, pos := "ref.go:201", after := #[], guard := none }
def oq33_3_1 : Oper := { dst := some 30, op := Op.load 24 (Operand.tmp 5), type := 24, pos := "ref.go:201", after := #[], guard := none }
def oq33_3_2 : Oper := { dst := some 31, op := Op.load 24 (Operand.tmp 11), type := 24, pos := "ref.go:201", after := #[], guard := none }
def oq33_3_3 : Oper := { dst := some 32, op := Op.call { callee := Callee.value (Operand.func 38), args := #[Operand.tmp 30, Operand.tmp 31], argTypes := #[24, 24] }, type := 24, pos := "ref.go:201", after := #[{ on := 1, ground := Ground.data }, { on := 2, ground := Ground.data }], guard := none }
def oq33_3_4 : Oper := { dst := some 33, op := Op.call { callee := Callee.value (Operand.func 37), args := #[Operand.tmp 29, Operand.tmp 32], argTypes := #[24, 24] }, type := 24, pos := "ref.go:201", after := #[{ on := 0, ground := Ground.data }, { on := 3, ground := Ground.data }, { on := 3, ground := Ground.chain }], guard := none }
def oq33_3_5 : Oper := { dst := none, op := Op.store 24 (Operand.tmp 8) (Operand.tmp 33), type := 0, pos := "ref.go:201", after := #[{ on := 4, ground := Ground.data }, { on := 4, ground := Ground.chain }, { on := 0, ground := Ground.phase }, { on := 1, ground := Ground.phase }, { on := 2, ground := Ground.phase }, { on := 3, ground := Ground.phase }, { on := 4, ground := Ground.phase }], guard := none }
theorem wp_landT {P : Program} {c : Code} {Q : Exit → Act → World → Prop} {a : Act} {w : World} {F : Nat → Option Addr → Nat → Option Addr → Nat → Act} (R : Nat → Option Addr → Nat → Option Addr → Nat → World → Prop)
    (hreg : c.wp P (fun e a1 w1 => e = Exit.normal ∧ ∃ x0 x1 x2 x3 x4, a1 = F x0 x1 x2 x3 x4 ∧ R x0 x1 x2 x3 x4 w1) a w) (himp : ∀ x0 x1 x2 x3 x4 w1, R x0 x1 x2 x3 x4 w1 → Q Exit.normal (F x0 x1 x2 x3 x4) w1) : c.wp P Q a w :=
  Code.wp_mono (fun e a1 w1 h => by obtain ⟨rfl, x0, x1, x2, x3, x4, rfl, hR⟩ := h; exact himp _ _ _ _ _ w1 hR) hreg
theorem wp_landU {P : Program} {c : Code} {Q : Exit → Act → World → Prop} {a : Act} {w : World} {F : Nat → Option Addr → Nat → Option Addr → Nat → Option Addr → Nat → Act} (R : Nat → Option Addr → Nat → Option Addr → Nat → Option Addr → Nat → World → Prop)
    (hreg : c.wp P (fun e a1 w1 => e = Exit.normal ∧ ∃ x0 x1 x2 x3 x4 x5 x6, a1 = F x0 x1 x2 x3 x4 x5 x6 ∧ R x0 x1 x2 x3 x4 x5 x6 w1) a w) (himp : ∀ x0 x1 x2 x3 x4 x5 x6 w1, R x0 x1 x2 x3 x4 x5 x6 w1 → Q Exit.normal (F x0 x1 x2 x3 x4 x5 x6) w1) : c.wp P Q a w :=
  Code.wp_mono (fun e a1 w1 h => by obtain ⟨rfl, x0, x1, x2, x3, x4, x5, x6, rfl, hR⟩ := h; exact himp _ _ _ _ _ _ _ w1 hR) hreg
set_option maxHeartbeats 16000000 in
theorem rcrt_any (A A2 A3 A4 : Option Addr) (c1 c2 c3 c4 a p b q : Nat) (w : World) (hA : Num w w.heap.size A (nw a) a) (hP : Num w w.heap.size A2 (nw p) p) (hB : Num w w.heap.size A3 (nw b) b) (hQ : Num w w.heap.size A4 (nw q) q) (hp : nw p ≤ 32) (hq : nw q ≤ 32) (hap : a < p) (hbq : b < q) (hg : Nat.gcd p q = 1) :
    Calls Try.prog 33 #[.agg #[.slice A (nw a) c1], .agg #[.slice A2 (nw p) c2], .agg #[.slice A3 (nw b) c3], .agg #[.slice A4 (nw q) c4]] w (RetNat w.heap.size (crtN a p b q) w) := by
  have hq0 : 0 < q := by omega
  have HQ0 := hid hq0
  have na : nw a ≤ 32 := Nat.le_trans (nw_mono (Nat.le_of_lt hap)) hp
  have nb : nw b ≤ 32 := Nat.le_trans (nw_mono (Nat.le_of_lt hbq)) hq
  have HBQ := hid hbq
  obtain ⟨t, ht⟩ : ∃ z, z = p % q := ⟨_, rfl⟩
  have HT := hid ht
  have HTQ : Hid (t < q) := (show t < q by rw [ht]; exact Nat.mod_lt _ HQ0.out)
  have hg1 : Nat.gcd t q = 1 := by rw [ht, Nat.gcd_comm, Nat.gcd_comm q, ← Nat.gcd_rec q p, Nat.gcd_comm]; exact hg
  have HG1 := hid hg1
  have nt : nw t ≤ 32 := Nat.le_trans (nw_mono (Nat.le_of_lt HTQ.out)) hq
  obtain ⟨x0, hx0⟩ : ∃ z, z = invN t q := ⟨_, rfl⟩
  have HX0 := hid hx0
  have HX : Hid (∀ x, x < q → (q : Int) ∣ (t : Int) * (x : Int) - (Nat.gcd t q : Int) → x = x0) := (show ∀ x, x < q → (q : Int) ∣ (t : Int) * (x : Int) - (Nat.gcd t q : Int) → x = x0 from fun x h1 h2 => by rw [hg1] at h2; rw [hx0]; exact (invN_eq h1 h2).symm)
  have n0 : nw x0 ≤ 32 := Nat.le_trans (nw_mono (Nat.le_of_lt (by rw [hx0]; exact invN_lt hq0))) hq
  obtain ⟨r1, hr1⟩ : ∃ z, z = a % q := ⟨_, rfl⟩
  have HR1 := hid hr1
  have HRQ : Hid (r1 < q) := (show r1 < q by rw [hr1]; exact Nat.mod_lt _ HQ0.out)
  have n1 : nw r1 ≤ 32 := Nat.le_trans (nw_mono (Nat.le_of_lt HRQ.out)) hq
  obtain ⟨s1, hs1⟩ : ∃ z, z = (b + (q - r1)) % q := ⟨_, rfl⟩
  have HS1 := hid hs1
  have HSQ : Hid (s1 < q) := (show s1 < q by rw [hs1]; exact Nat.mod_lt _ HQ0.out)
  have n2 : nw s1 ≤ 32 := Nat.le_trans (nw_mono (Nat.le_of_lt HSQ.out)) hq
  obtain ⟨k1, hk1⟩ : ∃ z, z = s1 * x0 % q := ⟨_, rfl⟩
  have HK1 := hid hk1
  have HKQ : Hid (k1 < q) := (show k1 < q by rw [hk1]; exact Nat.mod_lt _ HQ0.out)
  have n3 : nw k1 ≤ 32 := Nat.le_trans (nw_mono (Nat.le_of_lt HKQ.out)) hq
  obtain ⟨u1, hu1⟩ : ∃ z, z = p * k1 := ⟨_, rfl⟩
  have HU1 := hid hu1
  have n4 : nw u1 ≤ 64 := by rw [hu1]; exact nw_prod (j := 32) (k := 32) hp n3
  obtain ⟨v1, hv1⟩ : ∃ z, z = a + u1 := ⟨_, rfl⟩
  have HV1 := hid hv1
  have HRES : Hid (crtN a p b q = v1) := (show crtN a p b q = v1 by unfold crtN; rw [hv1, hu1, hk1, hs1, hr1, hx0, ht])
  clear ht hx0 hr1 hs1 hk1 hu1 hv1 hq0 hap hbq hg hg1
  obtain ⟨b0, b1, b2, b3, b4, bw⟩ := boxes5 w (.slice A (nw a) c1) (.slice A2 (nw p) c2) (.slice A3 (nw b) c3) (.slice A4 (nw q) c4) (.slice none 0 0)
  have XA := VB.mk (B := w.heap.size) (a := a) b0 (.inl hA) bw (Nat.le_refl _) (by omega)
  have XP := VB.mk (B := w.heap.size) (a := p) b1 (.inl hP) bw (Nat.le_refl _) (by omega)
  have XB := VB.mk (B := w.heap.size) (a := b) b2 (.inl hB) bw (Nat.le_refl _) (by omega)
  have XQ := VB.mk (B := w.heap.size) (a := q) b3 (.inl hQ) bw (Nat.le_refl _) (by omega)
  have XR := VB.mk (B := w.heap.size) (a := 0) b4 (.inr (Own.nil _ _ _ _ (Nat.zero_le _))) bw (Nat.le_refl _) (by omega)
  have WW := bw
  clear bw b0 b1 b2 b3 b4
  go_enter Try.func33, Try.ntmps33
  go_wp2_with fail
  generalize hV : (((((w.alloc (.cells #[.slice A (nw a) c1] 24)).alloc (.cells #[.slice A2 (nw p) c2] 24)).alloc (.cells #[.slice A3 (nw b) c3] 24)).alloc (.cells #[.slice A4 (nw q) c4] 24)).alloc (.cells #[.slice none 0 0] 24)) = V0 at XA XP XB XQ XR WW ⊢
  clear hV
  apply wp_landT (R := fun gXi D7 d7 D8 d8 w1 => Below w.heap.size w w1 ∧ VB w.heap.size w1 (w.heap.size) A (nw a) c1 a ∧ VB w.heap.size w1 (w.heap.size + 1) A2 (nw p) c2 p ∧ VB w.heap.size w1 (w.heap.size + 1 + 1) A3 (nw b) c3 b ∧ VB w.heap.size w1 (w.heap.size + 1 + 1 + 1) A4 (nw q) c4 q ∧ VB w.heap.size w1 (w.heap.size + 1 + 1 + 1 + 1) none 0 0 0 ∧ VB w.heap.size w1 (gXi) D8 (nw x0) d8 x0 ∧ Own w1 w.heap.size D7 (nw t) d7 t ∧ Own w1 w.heap.size D8 (nw x0) d8 x0 ∧ w.heap.size + 1 + 1 + 1 + 1 < gXi)
  case hreg =>
    refine wp_region_noPanic ?_
    have WWd := WW.drew
    have XAd := XA.drew
    have XPd := XP.drew
    have XBd := XB.drew
    have XQd := XQ.drew
    have XRd := XR.drew
    have hst : (fun w' => w'.cell? ⟨w.heap.size + 1, 0, none⟩ = some (.slice A2 (nw p) c2) ∧ w'.cell? ⟨w.heap.size + 1 + 1 + 1, 0, none⟩ = some (.slice A4 (nw q) c4)) V0.drew := ⟨XP.cell, XQ.cell⟩
    have qq0 := XRd.lt
    refine region_L 18 (fun w' => w'.cell? ⟨w.heap.size + 1, 0, none⟩ = some (.slice A2 (nw p) c2) ∧ w'.cell? ⟨w.heap.size + 1 + 1 + 1, 0, none⟩ = some (.slice A4 (nw q) c4)) (by kernel_rfl) hst (fun hHeld => ?_)
    clear hst
    generalize hV : V0.drew = U0x0 at hHeld WWd qq0 XAd XPd XBd XQd XRd ⊢
    clear hV
    have WW := WWd
    have XA := XAd
    have XP := XPd
    have XB := XBd
    have XQ := XQd
    have XR := XRd
    clear WWd XAd XPd XBd XQd XRd
    refine AnyL_take (i := 0) (oi := oq33_1_0) (v := ?_) rfl (by kernel_rfl) (by kernel_rfl) (by kernel_rfl) (by kernel_rfl) (fun _ _ _ h => h) (Or.inl ⟨by rfl, ?_⟩) (by assumption) ?_
    rotate_left
    · (delta oq33_1_0; intro ws hSw; (try dsimp only at hSw); (try go_simp); (try with_reducible rfl))
    (try simp only [oq33_1_0, Act.put, List.setIfInBounds_toArray, List.set_cons_zero, List.set_cons_succ])
    refine AnyL_take (i := 1) (oi := oq33_1_1) (v := ?_) rfl (by kernel_rfl) (by kernel_rfl) (by kernel_rfl) (by kernel_rfl) (fun _ _ _ h => h) (Or.inl ⟨by rfl, ?_⟩) (by assumption) ?_
    rotate_left
    · (delta oq33_1_1; intro ws hSw; (try dsimp only at hSw); (try go_simp); (try with_reducible rfl))
    (try simp only [oq33_1_1, Act.put, List.setIfInBounds_toArray, List.set_cons_zero, List.set_cons_succ])
    refine AnyL_take (i := 3) (oi := oq33_1_3) (v := ?_) rfl (by kernel_rfl) (by kernel_rfl) (by kernel_rfl) (by kernel_rfl) (fun _ _ _ h => h) (Or.inl ⟨by rfl, ?_⟩) (by assumption) ?_
    rotate_left
    · (delta oq33_1_3; intro ws hSw; (try dsimp only at hSw); (try go_simp); (try with_reducible rfl))
    (try simp only [oq33_1_3, Act.put, List.setIfInBounds_toArray, List.set_cons_zero, List.set_cons_succ])
    refine AnyL_ready (rs := [2, 8]) (by kernel_rfl) (by simp) ?_
    refine ReadyL.cons (o := oq33_1_2) rfl (fun K hK => ?_) ?_
    · delta oq33_1_2
      go_simp
      have hbs : w.heap.size ≤ U0x0.heap.size := WW.size
      have hc := rmod3_any A2 A4 c2 c4 p q U0x0 XP.num XQ.num (by omega) (by omega) HQ0.out
      rw [← HT.out] at hc
      refine hc.mono ?_
      clear hc
      rintro e V2 ⟨v, rfl, hv, hb⟩
      replace XA := XA.below hb
      replace XP := XP.below hb
      replace XB := XB.below hb
      replace XQ := XQ.below hb
      replace XR := XR.below hb
      replace WW := WW.trans (hb.mono WW.size)
      have sz2 := hb.size
      obtain ⟨D7, d7, rfl, ho⟩ := hv
      have O7 := ho.weak (b := w.heap.size) hbs
      clear ho
      clear hb hbs
      refine hK.out _ _ (⟨XP.cell, XQ.cell⟩) (fun hHeld2 => ?_)
      clear hK K hHeld
      have hHeld := hHeld2
      clear hHeld2
      (try simp only [oq33_1_2, Act.put, List.setIfInBounds_toArray, List.set_cons_zero, List.set_cons_succ])
      refine AnyL_ready (rs := [4, 8]) (by kernel_rfl) (by simp) ?_
      refine ReadyL.cons (o := oq33_1_4) rfl (fun K hK => ?_) ?_
      · delta oq33_1_4
        go_simp
        have hbs : w.heap.size ≤ V2.heap.size := WW.size
        have hc := rinverse_any D7 A4 d7 c4 t q V2 O7.num XQ.num (by omega) HTQ.out
        refine hc.mono ?_
        clear hc
        rintro e V3 ⟨D8, d8, x8, rfl, ho, hb, hx1, hx2⟩
        replace XA := XA.below hb
        replace XP := XP.below hb
        replace XB := XB.below hb
        replace XQ := XQ.below hb
        replace XR := XR.below hb
        replace O7 := O7.below hb (Nat.le_refl _)
        replace WW := WW.trans (hb.mono WW.size)
        have sz3 := hb.size
        have hx := HX.out x8 hx1 hx2
        rw [hx] at ho ⊢
        have O8 := ho.weak (b := w.heap.size) hbs
        clear ho hx hx1 hx2
        clear hb hbs
        refine hK.out _ _ (⟨XP.cell, XQ.cell⟩) (fun hHeld2 => ?_)
        clear hK K hHeld
        have hHeld := hHeld2
        clear hHeld2
        (try simp only [oq33_1_4, Act.put, List.setIfInBounds_toArray, List.set_cons_zero, List.set_cons_succ])
        refine AnyL_take (i := 5) (oi := oq33_1_5) (v := ?_) rfl (by kernel_rfl) (by kernel_rfl) (by kernel_rfl) (by kernel_rfl) (fun _ _ _ h => h) (Or.inl ⟨by rfl, ?_⟩) (by assumption) ?_
        rotate_left
        · (delta oq33_1_5; intro ws hSw; (try dsimp only at hSw); (try go_simp); (try with_reducible rfl))
        (try simp only [oq33_1_5, Act.put, List.setIfInBounds_toArray, List.set_cons_zero, List.set_cons_succ])
        refine AnyL_take (i := 6) (oi := oq33_1_6) (v := ?_) rfl (by kernel_rfl) (by kernel_rfl) (by kernel_rfl) (by kernel_rfl) (fun _ _ _ h => h) (Or.inl ⟨by rfl, ?_⟩) (by assumption) ?_
        rotate_left
        · (delta oq33_1_6; intro ws hSw; (try dsimp only at hSw); (try go_simp); (try with_reducible rfl))
        (try simp only [oq33_1_6, Act.put, List.setIfInBounds_toArray, List.set_cons_zero, List.set_cons_succ])
        refine AnyL_take (i := 7) (oi := oq33_1_7) (v := ?_) rfl (by kernel_rfl) (by kernel_rfl) (by kernel_rfl) (by kernel_rfl) (fun _ _ _ h => h) (Or.inl ⟨by rfl, ?_⟩) (by assumption) ?_
        rotate_left
        · (delta oq33_1_7; intro ws hSw; (try dsimp only at hSw); (try go_simp); (try with_reducible rfl))
        (try simp only [oq33_1_7, Act.put, List.setIfInBounds_toArray, List.set_cons_zero, List.set_cons_succ])
        refine AnyL_ready (rs := [8]) (by kernel_rfl) (by simp) ?_
        refine ReadyL.cons (o := oq33_1_8) rfl (fun K hK => ?_) ReadyL.nil
        delta oq33_1_8
        have lqXR : w.heap.size + 1 + 1 + 1 + 1 < V3.heap.size := XR.lt
        go_simp
        have ba := (Below.refl V3.heap.size V3).alloc (Nat.le_refl _) (.cells #[.slice none 0 0] 24)
        have XAn := XA.below ba
        have XPn := XP.below ba
        have XBn := XB.below ba
        have XQn := XQ.below ba
        have XRn := XR.below ba
        have O7n := O7.below ba (Nat.le_refl _)
        have O8n := O8.below ba (Nat.le_refl _)
        have bn := Blk.new V3 24 #[.slice none 0 0]
        have Xin := VB.mk (B := w.heap.size) (a := 0) bn (.inr (Own.nil _ _ _ _ (Nat.zero_le _))) ba WW.size WW.size
        have WWn := WW.trans (ba.mono WW.size)
        have sn : V3.heap.size < (V3.alloc (.cells #[.slice none 0 0] 24)).heap.size := bn.lt
        refine hK.out _ _ (⟨XPn.cell, XQn.cell⟩) (fun hHeld2 => ?_)
        clear hK K hHeld
        (try simp only [oq33_1_8, Act.put, List.setIfInBounds_toArray, List.set_cons_zero, List.set_cons_succ])
        generalize hV : V3.alloc (.cells #[.slice none 0 0] 24) = V4 at hHeld2 sn WWn XAn XPn XBn XQn XRn Xin O7n O8n ⊢
        clear hV ba bn WW XA XP XB XQ XR O7 O8
        have WW := WWn
        have XA := XAn
        have XP := XPn
        have XB := XBn
        have XQ := XQn
        have XR := XRn
        have Xi := Xin
        have O7 := O7n
        have O8 := O8n
        have sz4 := sn
        have hHeld := hHeld2
        clear sn hHeld2 WWn XAn XPn XBn XQn XRn Xin O7n O8n
        obtain ⟨gXi, hg⟩ : ∃ x, x = V3.heap.size := ⟨_, rfl⟩
        have mXiXR : w.heap.size + 1 + 1 + 1 + 1 < gXi := by omega
        rw [← hg] at Xi sz4 ⊢
        clear hg lqXR
        refine AnyL_ready (rs := [9]) (by kernel_rfl) (by simp) ?_
        refine ReadyL.cons (o := oq33_1_9) rfl (fun K hK => ?_) ReadyL.nil
        delta oq33_1_9
        have fz := Xi.1.frozen 0
        have cz := Xi.cell
        have lz := Xi.lt
        go_simp
        have XAn := XA.far (p := ⟨gXi, 0, none⟩) Xi.1 Xi.2.2 (by simp <;> omega) (.slice D8 (nw x0) d8)
        have XPn := XP.far (p := ⟨gXi, 0, none⟩) Xi.1 Xi.2.2 (by simp <;> omega) (.slice D8 (nw x0) d8)
        have XBn := XB.far (p := ⟨gXi, 0, none⟩) Xi.1 Xi.2.2 (by simp <;> omega) (.slice D8 (nw x0) d8)
        have XQn := XQ.far (p := ⟨gXi, 0, none⟩) Xi.1 Xi.2.2 (by simp <;> omega) (.slice D8 (nw x0) d8)
        have XRn := XR.far (p := ⟨gXi, 0, none⟩) Xi.1 Xi.2.2 (by simp <;> omega) (.slice D8 (nw x0) d8)
        have Xin := Xi.set_ (A' := D8) (n' := (nw x0)) (c' := d8) (a' := x0) (.inr O8)
        have O7n := O7.box (p := ⟨gXi, 0, none⟩) Xi.1 (by decide) (.slice D8 (nw x0) d8)
        have O8n := O8.box (p := ⟨gXi, 0, none⟩) Xi.1 (by decide) (.slice D8 (nw x0) d8)
        have WWn := WW.setCell (p := ⟨gXi, 0, none⟩) (by simp <;> omega) (.slice D8 (nw x0) d8)
        refine hK.out _ _ (⟨XPn.cell, XQn.cell⟩) (fun hHeld2 => ?_)
        clear hK K hHeld
        (try simp only [oq33_1_9, Act.put, List.setIfInBounds_toArray, List.set_cons_zero, List.set_cons_succ])
        generalize hV : V4.setCell ⟨gXi, 0, none⟩ (.slice D8 (nw x0) d8) = V5 at hHeld2 WWn XAn XPn XBn XQn XRn Xin O7n O8n ⊢
        clear hV fz cz lz WW XA XP XB XQ XR Xi O7 O8
        have WW := WWn
        have XA := XAn
        have XP := XPn
        have XB := XBn
        have XQ := XQn
        have XR := XRn
        have Xi := Xin
        have O7 := O7n
        have O8 := O8n
        have hHeld := hHeld2
        clear hHeld2
        clear WWn XAn XPn XBn XQn XRn Xin O7n O8n
        refine AnyL_take (i := 10) (oi := oq33_1_10) (v := ?_) rfl (by kernel_rfl) (by kernel_rfl) (by kernel_rfl) (by kernel_rfl) (fun _ _ _ h => h) (Or.inl ⟨by rfl, ?_⟩) (by assumption) ?_
        rotate_left
        · (delta oq33_1_10; intro ws hSw; (try dsimp only at hSw); (try go_simp); (try with_reducible rfl))
        (try simp only [oq33_1_10, Act.put, List.setIfInBounds_toArray, List.set_cons_zero, List.set_cons_succ])
        refine AnyL_done (by kernel_rfl) ?_ _
        clear hHeld
        refine NoPanic.normal ?_
        exact ⟨rfl, gXi, D7, d7, D8, d8, rfl, WW, XA, XP, XB, XQ, XR, Xi, O7, O8, (by first | exact mXiXR | omega)⟩
      refine ReadyL.cons (o := oq33_1_8) rfl (fun K hK => ?_) ReadyL.nil
      · delta oq33_1_8
        have lqXR : w.heap.size + 1 + 1 + 1 + 1 < V2.heap.size := XR.lt
        go_simp
        have ba := (Below.refl V2.heap.size V2).alloc (Nat.le_refl _) (.cells #[.slice none 0 0] 24)
        have XAn := XA.below ba
        have XPn := XP.below ba
        have XBn := XB.below ba
        have XQn := XQ.below ba
        have XRn := XR.below ba
        have O7n := O7.below ba (Nat.le_refl _)
        have bn := Blk.new V2 24 #[.slice none 0 0]
        have Xin := VB.mk (B := w.heap.size) (a := 0) bn (.inr (Own.nil _ _ _ _ (Nat.zero_le _))) ba WW.size WW.size
        have WWn := WW.trans (ba.mono WW.size)
        have sn : V2.heap.size < (V2.alloc (.cells #[.slice none 0 0] 24)).heap.size := bn.lt
        refine hK.out _ _ (⟨XPn.cell, XQn.cell⟩) (fun hHeld2 => ?_)
        clear hK K hHeld
        (try simp only [oq33_1_8, Act.put, List.setIfInBounds_toArray, List.set_cons_zero, List.set_cons_succ])
        generalize hV : V2.alloc (.cells #[.slice none 0 0] 24) = V3 at hHeld2 sn WWn XAn XPn XBn XQn XRn Xin O7n ⊢
        clear hV ba bn WW XA XP XB XQ XR O7
        have WW := WWn
        have XA := XAn
        have XP := XPn
        have XB := XBn
        have XQ := XQn
        have XR := XRn
        have Xi := Xin
        have O7 := O7n
        have sz3 := sn
        have hHeld := hHeld2
        clear sn hHeld2 WWn XAn XPn XBn XQn XRn Xin O7n
        obtain ⟨gXi, hg⟩ : ∃ x, x = V2.heap.size := ⟨_, rfl⟩
        have mXiXR : w.heap.size + 1 + 1 + 1 + 1 < gXi := by omega
        rw [← hg] at Xi sz3 ⊢
        clear hg lqXR
        refine AnyL_ready (rs := [4]) (by kernel_rfl) (by simp) ?_
        refine ReadyL.cons (o := oq33_1_4) rfl (fun K hK => ?_) ReadyL.nil
        delta oq33_1_4
        go_simp
        have hbs : w.heap.size ≤ V3.heap.size := WW.size
        have hc := rinverse_any D7 A4 d7 c4 t q V3 O7.num XQ.num (by omega) HTQ.out
        refine hc.mono ?_
        clear hc
        rintro e V4 ⟨D8, d8, x8, rfl, ho, hb, hx1, hx2⟩
        replace XA := XA.below hb
        replace XP := XP.below hb
        replace XB := XB.below hb
        replace XQ := XQ.below hb
        replace XR := XR.below hb
        replace Xi := Xi.below hb
        replace O7 := O7.below hb (Nat.le_refl _)
        replace WW := WW.trans (hb.mono WW.size)
        have sz4 := hb.size
        have hx := HX.out x8 hx1 hx2
        rw [hx] at ho ⊢
        have O8 := ho.weak (b := w.heap.size) hbs
        clear ho hx hx1 hx2
        clear hb hbs
        refine hK.out _ _ (⟨XP.cell, XQ.cell⟩) (fun hHeld2 => ?_)
        clear hK K hHeld
        have hHeld := hHeld2
        clear hHeld2
        (try simp only [oq33_1_4, Act.put, List.setIfInBounds_toArray, List.set_cons_zero, List.set_cons_succ])
        refine AnyL_take (i := 5) (oi := oq33_1_5) (v := ?_) rfl (by kernel_rfl) (by kernel_rfl) (by kernel_rfl) (by kernel_rfl) (fun _ _ _ h => h) (Or.inl ⟨by rfl, ?_⟩) (by assumption) ?_
        rotate_left
        · (delta oq33_1_5; intro ws hSw; (try dsimp only at hSw); (try go_simp); (try with_reducible rfl))
        (try simp only [oq33_1_5, Act.put, List.setIfInBounds_toArray, List.set_cons_zero, List.set_cons_succ])
        refine AnyL_take (i := 6) (oi := oq33_1_6) (v := ?_) rfl (by kernel_rfl) (by kernel_rfl) (by kernel_rfl) (by kernel_rfl) (fun _ _ _ h => h) (Or.inl ⟨by rfl, ?_⟩) (by assumption) ?_
        rotate_left
        · (delta oq33_1_6; intro ws hSw; (try dsimp only at hSw); (try go_simp); (try with_reducible rfl))
        (try simp only [oq33_1_6, Act.put, List.setIfInBounds_toArray, List.set_cons_zero, List.set_cons_succ])
        refine AnyL_take (i := 7) (oi := oq33_1_7) (v := ?_) rfl (by kernel_rfl) (by kernel_rfl) (by kernel_rfl) (by kernel_rfl) (fun _ _ _ h => h) (Or.inl ⟨by rfl, ?_⟩) (by assumption) ?_
        rotate_left
        · (delta oq33_1_7; intro ws hSw; (try dsimp only at hSw); (try go_simp); (try with_reducible rfl))
        (try simp only [oq33_1_7, Act.put, List.setIfInBounds_toArray, List.set_cons_zero, List.set_cons_succ])
        refine AnyL_ready (rs := [9]) (by kernel_rfl) (by simp) ?_
        refine ReadyL.cons (o := oq33_1_9) rfl (fun K hK => ?_) ReadyL.nil
        delta oq33_1_9
        have fz := Xi.1.frozen 0
        have cz := Xi.cell
        have lz := Xi.lt
        go_simp
        have XAn := XA.far (p := ⟨gXi, 0, none⟩) Xi.1 Xi.2.2 (by simp <;> omega) (.slice D8 (nw x0) d8)
        have XPn := XP.far (p := ⟨gXi, 0, none⟩) Xi.1 Xi.2.2 (by simp <;> omega) (.slice D8 (nw x0) d8)
        have XBn := XB.far (p := ⟨gXi, 0, none⟩) Xi.1 Xi.2.2 (by simp <;> omega) (.slice D8 (nw x0) d8)
        have XQn := XQ.far (p := ⟨gXi, 0, none⟩) Xi.1 Xi.2.2 (by simp <;> omega) (.slice D8 (nw x0) d8)
        have XRn := XR.far (p := ⟨gXi, 0, none⟩) Xi.1 Xi.2.2 (by simp <;> omega) (.slice D8 (nw x0) d8)
        have Xin := Xi.set_ (A' := D8) (n' := (nw x0)) (c' := d8) (a' := x0) (.inr O8)
        have O7n := O7.box (p := ⟨gXi, 0, none⟩) Xi.1 (by decide) (.slice D8 (nw x0) d8)
        have O8n := O8.box (p := ⟨gXi, 0, none⟩) Xi.1 (by decide) (.slice D8 (nw x0) d8)
        have WWn := WW.setCell (p := ⟨gXi, 0, none⟩) (by simp <;> omega) (.slice D8 (nw x0) d8)
        refine hK.out _ _ (⟨XPn.cell, XQn.cell⟩) (fun hHeld2 => ?_)
        clear hK K hHeld
        (try simp only [oq33_1_9, Act.put, List.setIfInBounds_toArray, List.set_cons_zero, List.set_cons_succ])
        generalize hV : V4.setCell ⟨gXi, 0, none⟩ (.slice D8 (nw x0) d8) = V5 at hHeld2 WWn XAn XPn XBn XQn XRn Xin O7n O8n ⊢
        clear hV fz cz lz WW XA XP XB XQ XR Xi O7 O8
        have WW := WWn
        have XA := XAn
        have XP := XPn
        have XB := XBn
        have XQ := XQn
        have XR := XRn
        have Xi := Xin
        have O7 := O7n
        have O8 := O8n
        have hHeld := hHeld2
        clear hHeld2
        clear WWn XAn XPn XBn XQn XRn Xin O7n O8n
        refine AnyL_take (i := 10) (oi := oq33_1_10) (v := ?_) rfl (by kernel_rfl) (by kernel_rfl) (by kernel_rfl) (by kernel_rfl) (fun _ _ _ h => h) (Or.inl ⟨by rfl, ?_⟩) (by assumption) ?_
        rotate_left
        · (delta oq33_1_10; intro ws hSw; (try dsimp only at hSw); (try go_simp); (try with_reducible rfl))
        (try simp only [oq33_1_10, Act.put, List.setIfInBounds_toArray, List.set_cons_zero, List.set_cons_succ])
        refine AnyL_done (by kernel_rfl) ?_ _
        clear hHeld
        refine NoPanic.normal ?_
        exact ⟨rfl, gXi, D7, d7, D8, d8, rfl, WW, XA, XP, XB, XQ, XR, Xi, O7, O8, (by first | exact mXiXR | omega)⟩
    refine ReadyL.cons (o := oq33_1_8) rfl (fun K hK => ?_) ReadyL.nil
    · delta oq33_1_8
      have lqXR : w.heap.size + 1 + 1 + 1 + 1 < U0x0.heap.size := XR.lt
      go_simp
      have ba := (Below.refl U0x0.heap.size U0x0).alloc (Nat.le_refl _) (.cells #[.slice none 0 0] 24)
      have XAn := XA.below ba
      have XPn := XP.below ba
      have XBn := XB.below ba
      have XQn := XQ.below ba
      have XRn := XR.below ba
      have bn := Blk.new U0x0 24 #[.slice none 0 0]
      have Xin := VB.mk (B := w.heap.size) (a := 0) bn (.inr (Own.nil _ _ _ _ (Nat.zero_le _))) ba WW.size WW.size
      have WWn := WW.trans (ba.mono WW.size)
      have sn : U0x0.heap.size < (U0x0.alloc (.cells #[.slice none 0 0] 24)).heap.size := bn.lt
      refine hK.out _ _ (⟨XPn.cell, XQn.cell⟩) (fun hHeld2 => ?_)
      clear hK K hHeld
      (try simp only [oq33_1_8, Act.put, List.setIfInBounds_toArray, List.set_cons_zero, List.set_cons_succ])
      generalize hV : U0x0.alloc (.cells #[.slice none 0 0] 24) = V2 at hHeld2 sn WWn XAn XPn XBn XQn XRn Xin ⊢
      clear hV ba bn WW XA XP XB XQ XR
      have WW := WWn
      have XA := XAn
      have XP := XPn
      have XB := XBn
      have XQ := XQn
      have XR := XRn
      have Xi := Xin
      have sz2 := sn
      have hHeld := hHeld2
      clear sn hHeld2 WWn XAn XPn XBn XQn XRn Xin
      obtain ⟨gXi, hg⟩ : ∃ x, x = U0x0.heap.size := ⟨_, rfl⟩
      have mXiXR : w.heap.size + 1 + 1 + 1 + 1 < gXi := by omega
      rw [← hg] at Xi sz2 ⊢
      clear hg lqXR
      refine AnyL_ready (rs := [2]) (by kernel_rfl) (by simp) ?_
      refine ReadyL.cons (o := oq33_1_2) rfl (fun K hK => ?_) ReadyL.nil
      delta oq33_1_2
      go_simp
      have hbs : w.heap.size ≤ V2.heap.size := WW.size
      have hc := rmod3_any A2 A4 c2 c4 p q V2 XP.num XQ.num (by omega) (by omega) HQ0.out
      rw [← HT.out] at hc
      refine hc.mono ?_
      clear hc
      rintro e V3 ⟨v, rfl, hv, hb⟩
      replace XA := XA.below hb
      replace XP := XP.below hb
      replace XB := XB.below hb
      replace XQ := XQ.below hb
      replace XR := XR.below hb
      replace Xi := Xi.below hb
      replace WW := WW.trans (hb.mono WW.size)
      have sz3 := hb.size
      obtain ⟨D7, d7, rfl, ho⟩ := hv
      have O7 := ho.weak (b := w.heap.size) hbs
      clear ho
      clear hb hbs
      refine hK.out _ _ (⟨XP.cell, XQ.cell⟩) (fun hHeld2 => ?_)
      clear hK K hHeld
      have hHeld := hHeld2
      clear hHeld2
      (try simp only [oq33_1_2, Act.put, List.setIfInBounds_toArray, List.set_cons_zero, List.set_cons_succ])
      refine AnyL_ready (rs := [4]) (by kernel_rfl) (by simp) ?_
      refine ReadyL.cons (o := oq33_1_4) rfl (fun K hK => ?_) ReadyL.nil
      delta oq33_1_4
      go_simp
      have hbs : w.heap.size ≤ V3.heap.size := WW.size
      have hc := rinverse_any D7 A4 d7 c4 t q V3 O7.num XQ.num (by omega) HTQ.out
      refine hc.mono ?_
      clear hc
      rintro e V4 ⟨D8, d8, x8, rfl, ho, hb, hx1, hx2⟩
      replace XA := XA.below hb
      replace XP := XP.below hb
      replace XB := XB.below hb
      replace XQ := XQ.below hb
      replace XR := XR.below hb
      replace Xi := Xi.below hb
      replace O7 := O7.below hb (Nat.le_refl _)
      replace WW := WW.trans (hb.mono WW.size)
      have sz4 := hb.size
      have hx := HX.out x8 hx1 hx2
      rw [hx] at ho ⊢
      have O8 := ho.weak (b := w.heap.size) hbs
      clear ho hx hx1 hx2
      clear hb hbs
      refine hK.out _ _ (⟨XP.cell, XQ.cell⟩) (fun hHeld2 => ?_)
      clear hK K hHeld
      have hHeld := hHeld2
      clear hHeld2
      (try simp only [oq33_1_4, Act.put, List.setIfInBounds_toArray, List.set_cons_zero, List.set_cons_succ])
      refine AnyL_take (i := 5) (oi := oq33_1_5) (v := ?_) rfl (by kernel_rfl) (by kernel_rfl) (by kernel_rfl) (by kernel_rfl) (fun _ _ _ h => h) (Or.inl ⟨by rfl, ?_⟩) (by assumption) ?_
      rotate_left
      · (delta oq33_1_5; intro ws hSw; (try dsimp only at hSw); (try go_simp); (try with_reducible rfl))
      (try simp only [oq33_1_5, Act.put, List.setIfInBounds_toArray, List.set_cons_zero, List.set_cons_succ])
      refine AnyL_take (i := 6) (oi := oq33_1_6) (v := ?_) rfl (by kernel_rfl) (by kernel_rfl) (by kernel_rfl) (by kernel_rfl) (fun _ _ _ h => h) (Or.inl ⟨by rfl, ?_⟩) (by assumption) ?_
      rotate_left
      · (delta oq33_1_6; intro ws hSw; (try dsimp only at hSw); (try go_simp); (try with_reducible rfl))
      (try simp only [oq33_1_6, Act.put, List.setIfInBounds_toArray, List.set_cons_zero, List.set_cons_succ])
      refine AnyL_take (i := 7) (oi := oq33_1_7) (v := ?_) rfl (by kernel_rfl) (by kernel_rfl) (by kernel_rfl) (by kernel_rfl) (fun _ _ _ h => h) (Or.inl ⟨by rfl, ?_⟩) (by assumption) ?_
      rotate_left
      · (delta oq33_1_7; intro ws hSw; (try dsimp only at hSw); (try go_simp); (try with_reducible rfl))
      (try simp only [oq33_1_7, Act.put, List.setIfInBounds_toArray, List.set_cons_zero, List.set_cons_succ])
      refine AnyL_ready (rs := [9]) (by kernel_rfl) (by simp) ?_
      refine ReadyL.cons (o := oq33_1_9) rfl (fun K hK => ?_) ReadyL.nil
      delta oq33_1_9
      have fz := Xi.1.frozen 0
      have cz := Xi.cell
      have lz := Xi.lt
      go_simp
      have XAn := XA.far (p := ⟨gXi, 0, none⟩) Xi.1 Xi.2.2 (by simp <;> omega) (.slice D8 (nw x0) d8)
      have XPn := XP.far (p := ⟨gXi, 0, none⟩) Xi.1 Xi.2.2 (by simp <;> omega) (.slice D8 (nw x0) d8)
      have XBn := XB.far (p := ⟨gXi, 0, none⟩) Xi.1 Xi.2.2 (by simp <;> omega) (.slice D8 (nw x0) d8)
      have XQn := XQ.far (p := ⟨gXi, 0, none⟩) Xi.1 Xi.2.2 (by simp <;> omega) (.slice D8 (nw x0) d8)
      have XRn := XR.far (p := ⟨gXi, 0, none⟩) Xi.1 Xi.2.2 (by simp <;> omega) (.slice D8 (nw x0) d8)
      have Xin := Xi.set_ (A' := D8) (n' := (nw x0)) (c' := d8) (a' := x0) (.inr O8)
      have O7n := O7.box (p := ⟨gXi, 0, none⟩) Xi.1 (by decide) (.slice D8 (nw x0) d8)
      have O8n := O8.box (p := ⟨gXi, 0, none⟩) Xi.1 (by decide) (.slice D8 (nw x0) d8)
      have WWn := WW.setCell (p := ⟨gXi, 0, none⟩) (by simp <;> omega) (.slice D8 (nw x0) d8)
      refine hK.out _ _ (⟨XPn.cell, XQn.cell⟩) (fun hHeld2 => ?_)
      clear hK K hHeld
      (try simp only [oq33_1_9, Act.put, List.setIfInBounds_toArray, List.set_cons_zero, List.set_cons_succ])
      generalize hV : V4.setCell ⟨gXi, 0, none⟩ (.slice D8 (nw x0) d8) = V5 at hHeld2 WWn XAn XPn XBn XQn XRn Xin O7n O8n ⊢
      clear hV fz cz lz WW XA XP XB XQ XR Xi O7 O8
      have WW := WWn
      have XA := XAn
      have XP := XPn
      have XB := XBn
      have XQ := XQn
      have XR := XRn
      have Xi := Xin
      have O7 := O7n
      have O8 := O8n
      have hHeld := hHeld2
      clear hHeld2
      clear WWn XAn XPn XBn XQn XRn Xin O7n O8n
      refine AnyL_take (i := 10) (oi := oq33_1_10) (v := ?_) rfl (by kernel_rfl) (by kernel_rfl) (by kernel_rfl) (by kernel_rfl) (fun _ _ _ h => h) (Or.inl ⟨by rfl, ?_⟩) (by assumption) ?_
      rotate_left
      · (delta oq33_1_10; intro ws hSw; (try dsimp only at hSw); (try go_simp); (try with_reducible rfl))
      (try simp only [oq33_1_10, Act.put, List.setIfInBounds_toArray, List.set_cons_zero, List.set_cons_succ])
      refine AnyL_done (by kernel_rfl) ?_ _
      clear hHeld
      refine NoPanic.normal ?_
      exact ⟨rfl, gXi, D7, d7, D8, d8, rfl, WW, XA, XP, XB, XQ, XR, Xi, O7, O8, (by first | exact mXiXR | omega)⟩
  rintro gXi D7 d7 D8 d8 V50 ⟨WW, XA, XP, XB, XQ, XR, Xi, O7, O8, mXiXR⟩
  have kXA := XA.cell
  have zXA := XA.lt
  have kXP := XP.cell
  have zXP := XP.lt
  have kXB := XB.cell
  have zXB := XB.lt
  have kXQ := XQ.cell
  have zXQ := XQ.lt
  have kXR := XR.cell
  have zXR := XR.lt
  have kXi := Xi.cell
  have zXi := Xi.lt
  go_wp2_with fail
  clear kXA zXA kXP zXP kXB zXB kXQ zXQ kXR zXR kXi zXi
  apply wp_landU (R := fun gXk D1 d1 D2 d2 D3 d3 w1 => Below w.heap.size w w1 ∧ VB w.heap.size w1 (w.heap.size) A (nw a) c1 a ∧ VB w.heap.size w1 (w.heap.size + 1) A2 (nw p) c2 p ∧ VB w.heap.size w1 (w.heap.size + 1 + 1) A3 (nw b) c3 b ∧ VB w.heap.size w1 (w.heap.size + 1 + 1 + 1) A4 (nw q) c4 q ∧ VB w.heap.size w1 (w.heap.size + 1 + 1 + 1 + 1) none 0 0 0 ∧ VB w.heap.size w1 (gXi) D8 (nw x0) d8 x0 ∧ VB w.heap.size w1 (gXk) D3 (nw k1) d3 k1 ∧ Own w1 w.heap.size D7 (nw t) d7 t ∧ Own w1 w.heap.size D8 (nw x0) d8 x0 ∧ Own w1 w.heap.size D1 (nw r1) d1 r1 ∧ Own w1 w.heap.size D2 (nw s1) d2 s1 ∧ Own w1 w.heap.size D3 (nw k1) d3 k1 ∧ gXi < gXk ∧ w.heap.size + 1 + 1 + 1 + 1 < gXk)
  case hreg =>
    refine wp_region_noPanic ?_
    have WWd := WW.drew
    have XAd := XA.drew
    have XPd := XP.drew
    have XBd := XB.drew
    have XQd := XQ.drew
    have XRd := XR.drew
    have Xid := Xi.drew
    have O7d := O7.drew
    have O8d := O8.drew
    have hst : (fun w' => w'.cell? ⟨w.heap.size, 0, none⟩ = some (.slice A (nw a) c1) ∧ w'.cell? ⟨w.heap.size + 1 + 1, 0, none⟩ = some (.slice A3 (nw b) c3) ∧ w'.cell? ⟨w.heap.size + 1 + 1 + 1, 0, none⟩ = some (.slice A4 (nw q) c4) ∧ w'.cell? ⟨gXi, 0, none⟩ = some (.slice D8 (nw x0) d8)) V50.drew := ⟨XA.cell, XB.cell, XQ.cell, Xi.cell⟩
    have qq0 := Xid.lt
    refine region_L 18 (fun w' => w'.cell? ⟨w.heap.size, 0, none⟩ = some (.slice A (nw a) c1) ∧ w'.cell? ⟨w.heap.size + 1 + 1, 0, none⟩ = some (.slice A3 (nw b) c3) ∧ w'.cell? ⟨w.heap.size + 1 + 1 + 1, 0, none⟩ = some (.slice A4 (nw q) c4) ∧ w'.cell? ⟨gXi, 0, none⟩ = some (.slice D8 (nw x0) d8)) (by kernel_rfl) hst (fun hHeld => ?_)
    clear hst
    generalize hV : V50.drew = U50x0 at hHeld WWd qq0 XAd XPd XBd XQd XRd Xid O7d O8d ⊢
    clear hV
    have WW := WWd
    have XA := XAd
    have XP := XPd
    have XB := XBd
    have XQ := XQd
    have XR := XRd
    have Xi := Xid
    have O7 := O7d
    have O8 := O8d
    clear WWd XAd XPd XBd XQd XRd Xid O7d O8d
    refine AnyL_take (i := 0) (oi := oq33_2_0) (v := ?_) rfl (by kernel_rfl) (by kernel_rfl) (by kernel_rfl) (by kernel_rfl) (fun _ _ _ h => h) (Or.inl ⟨by rfl, ?_⟩) (by assumption) ?_
    rotate_left
    · (delta oq33_2_0; intro ws hSw; (try dsimp only at hSw); (try go_simp); (try with_reducible rfl))
    (try simp only [oq33_2_0, Act.put, List.setIfInBounds_toArray, List.set_cons_zero, List.set_cons_succ])
    refine AnyL_take (i := 1) (oi := oq33_2_1) (v := ?_) rfl (by kernel_rfl) (by kernel_rfl) (by kernel_rfl) (by kernel_rfl) (fun _ _ _ h => h) (Or.inl ⟨by rfl, ?_⟩) (by assumption) ?_
    rotate_left
    · (delta oq33_2_1; intro ws hSw; (try dsimp only at hSw); (try go_simp); (try with_reducible rfl))
    (try simp only [oq33_2_1, Act.put, List.setIfInBounds_toArray, List.set_cons_zero, List.set_cons_succ])
    refine AnyL_take (i := 2) (oi := oq33_2_2) (v := ?_) rfl (by kernel_rfl) (by kernel_rfl) (by kernel_rfl) (by kernel_rfl) (fun _ _ _ h => h) (Or.inl ⟨by rfl, ?_⟩) (by assumption) ?_
    rotate_left
    · (delta oq33_2_2; intro ws hSw; (try dsimp only at hSw); (try go_simp); (try with_reducible rfl))
    (try simp only [oq33_2_2, Act.put, List.setIfInBounds_toArray, List.set_cons_zero, List.set_cons_succ])
    refine AnyL_take (i := 4) (oi := oq33_2_4) (v := ?_) rfl (by kernel_rfl) (by kernel_rfl) (by kernel_rfl) (by kernel_rfl) (fun _ _ _ h => h) (Or.inl ⟨by rfl, ?_⟩) (by assumption) ?_
    rotate_left
    · (delta oq33_2_4; intro ws hSw; (try dsimp only at hSw); (try go_simp); (try with_reducible rfl))
    (try simp only [oq33_2_4, Act.put, List.setIfInBounds_toArray, List.set_cons_zero, List.set_cons_succ])
    refine AnyL_take (i := 6) (oi := oq33_2_6) (v := ?_) rfl (by kernel_rfl) (by kernel_rfl) (by kernel_rfl) (by kernel_rfl) (fun _ _ _ h => h) (Or.inl ⟨by rfl, ?_⟩) (by assumption) ?_
    rotate_left
    · (delta oq33_2_6; intro ws hSw; (try dsimp only at hSw); (try go_simp); (try with_reducible rfl))
    (try simp only [oq33_2_6, Act.put, List.setIfInBounds_toArray, List.set_cons_zero, List.set_cons_succ])
    refine AnyL_take (i := 7) (oi := oq33_2_7) (v := ?_) rfl (by kernel_rfl) (by kernel_rfl) (by kernel_rfl) (by kernel_rfl) (fun _ _ _ h => h) (Or.inl ⟨by rfl, ?_⟩) (by assumption) ?_
    rotate_left
    · (delta oq33_2_7; intro ws hSw; (try dsimp only at hSw); (try go_simp); (try with_reducible rfl))
    (try simp only [oq33_2_7, Act.put, List.setIfInBounds_toArray, List.set_cons_zero, List.set_cons_succ])
    refine AnyL_ready (rs := [3, 9]) (by kernel_rfl) (by simp) ?_
    refine ReadyL.cons (o := oq33_2_3) rfl (fun K hK => ?_) ?_
    · delta oq33_2_3
      go_simp
      have hbs : w.heap.size ≤ U50x0.heap.size := WW.size
      have hc := rmod3_any A A4 c1 c4 a q U50x0 XA.num XQ.num (by omega) (by omega) HQ0.out
      rw [← HR1.out] at hc
      refine hc.mono ?_
      clear hc
      rintro e V52 ⟨v, rfl, hv, hb⟩
      replace XA := XA.below hb
      replace XP := XP.below hb
      replace XB := XB.below hb
      replace XQ := XQ.below hb
      replace XR := XR.below hb
      replace Xi := Xi.below hb
      replace O7 := O7.below hb (Nat.le_refl _)
      replace O8 := O8.below hb (Nat.le_refl _)
      replace WW := WW.trans (hb.mono WW.size)
      have sz52 := hb.size
      obtain ⟨D1, d1, rfl, ho⟩ := hv
      have O1 := ho.weak (b := w.heap.size) hbs
      clear ho
      clear hb hbs
      refine hK.out _ _ (⟨XA.cell, XB.cell, XQ.cell, Xi.cell⟩) (fun hHeld2 => ?_)
      clear hK K hHeld
      have hHeld := hHeld2
      clear hHeld2
      (try simp only [oq33_2_3, Act.put, List.setIfInBounds_toArray, List.set_cons_zero, List.set_cons_succ])
      refine AnyL_ready (rs := [5, 9]) (by kernel_rfl) (by simp) ?_
      refine ReadyL.cons (o := oq33_2_5) rfl (fun K hK => ?_) ?_
      · delta oq33_2_5
        go_simp
        have hbs : w.heap.size ≤ V52.heap.size := WW.size
        have hc := rsub3_any A3 D1 A4 c3 d1 c4 b r1 q V52 XB.num O1.num XQ.num (by omega) (by omega) (by omega) HBQ.out HRQ.out
        rw [← HS1.out] at hc
        refine hc.mono ?_
        clear hc
        rintro e V53 ⟨v, rfl, hv, hb⟩
        replace XA := XA.below hb
        replace XP := XP.below hb
        replace XB := XB.below hb
        replace XQ := XQ.below hb
        replace XR := XR.below hb
        replace Xi := Xi.below hb
        replace O7 := O7.below hb (Nat.le_refl _)
        replace O8 := O8.below hb (Nat.le_refl _)
        replace O1 := O1.below hb (Nat.le_refl _)
        replace WW := WW.trans (hb.mono WW.size)
        have sz53 := hb.size
        obtain ⟨D2, d2, rfl, ho⟩ := hv
        have O2 := ho.weak (b := w.heap.size) hbs
        clear ho
        clear hb hbs
        refine hK.out _ _ (⟨XA.cell, XB.cell, XQ.cell, Xi.cell⟩) (fun hHeld2 => ?_)
        clear hK K hHeld
        have hHeld := hHeld2
        clear hHeld2
        (try simp only [oq33_2_5, Act.put, List.setIfInBounds_toArray, List.set_cons_zero, List.set_cons_succ])
        refine AnyL_ready (rs := [8, 9]) (by kernel_rfl) (by simp) ?_
        refine ReadyL.cons (o := oq33_2_8) rfl (fun K hK => ?_) ?_
        · delta oq33_2_8
          go_simp
          have hbs : w.heap.size ≤ V53.heap.size := WW.size
          have hc := rmul3_any D2 D8 A4 d2 d8 c4 s1 x0 q V53 O2.num Xi.num XQ.num (by omega) (by omega) (by omega) HSQ.out
          rw [← HK1.out] at hc
          refine hc.mono ?_
          clear hc
          rintro e V54 ⟨v, rfl, hv, hb⟩
          replace XA := XA.below hb
          replace XP := XP.below hb
          replace XB := XB.below hb
          replace XQ := XQ.below hb
          replace XR := XR.below hb
          replace Xi := Xi.below hb
          replace O7 := O7.below hb (Nat.le_refl _)
          replace O8 := O8.below hb (Nat.le_refl _)
          replace O1 := O1.below hb (Nat.le_refl _)
          replace O2 := O2.below hb (Nat.le_refl _)
          replace WW := WW.trans (hb.mono WW.size)
          have sz54 := hb.size
          obtain ⟨D3, d3, rfl, ho⟩ := hv
          have O3 := ho.weak (b := w.heap.size) hbs
          clear ho
          clear hb hbs
          refine hK.out _ _ (⟨XA.cell, XB.cell, XQ.cell, Xi.cell⟩) (fun hHeld2 => ?_)
          clear hK K hHeld
          have hHeld := hHeld2
          clear hHeld2
          (try simp only [oq33_2_8, Act.put, List.setIfInBounds_toArray, List.set_cons_zero, List.set_cons_succ])
          refine AnyL_ready (rs := [9]) (by kernel_rfl) (by simp) ?_
          refine ReadyL.cons (o := oq33_2_9) rfl (fun K hK => ?_) ReadyL.nil
          delta oq33_2_9
          have lqXi : gXi < V54.heap.size := Xi.lt
          have lqXR : w.heap.size + 1 + 1 + 1 + 1 < V54.heap.size := XR.lt
          go_simp
          have ba := (Below.refl V54.heap.size V54).alloc (Nat.le_refl _) (.cells #[.slice none 0 0] 24)
          have XAn := XA.below ba
          have XPn := XP.below ba
          have XBn := XB.below ba
          have XQn := XQ.below ba
          have XRn := XR.below ba
          have Xin := Xi.below ba
          have O7n := O7.below ba (Nat.le_refl _)
          have O8n := O8.below ba (Nat.le_refl _)
          have O1n := O1.below ba (Nat.le_refl _)
          have O2n := O2.below ba (Nat.le_refl _)
          have O3n := O3.below ba (Nat.le_refl _)
          have bn := Blk.new V54 24 #[.slice none 0 0]
          have Xkn := VB.mk (B := w.heap.size) (a := 0) bn (.inr (Own.nil _ _ _ _ (Nat.zero_le _))) ba WW.size WW.size
          have WWn := WW.trans (ba.mono WW.size)
          have sn : V54.heap.size < (V54.alloc (.cells #[.slice none 0 0] 24)).heap.size := bn.lt
          refine hK.out _ _ (⟨XAn.cell, XBn.cell, XQn.cell, Xin.cell⟩) (fun hHeld2 => ?_)
          clear hK K hHeld
          (try simp only [oq33_2_9, Act.put, List.setIfInBounds_toArray, List.set_cons_zero, List.set_cons_succ])
          generalize hV : V54.alloc (.cells #[.slice none 0 0] 24) = V55 at hHeld2 sn WWn XAn XPn XBn XQn XRn Xin Xkn O7n O8n O1n O2n O3n ⊢
          clear hV ba bn WW XA XP XB XQ XR Xi O7 O8 O1 O2 O3
          have WW := WWn
          have XA := XAn
          have XP := XPn
          have XB := XBn
          have XQ := XQn
          have XR := XRn
          have Xi := Xin
          have Xk := Xkn
          have O7 := O7n
          have O8 := O8n
          have O1 := O1n
          have O2 := O2n
          have O3 := O3n
          have sz55 := sn
          have hHeld := hHeld2
          clear sn hHeld2 WWn XAn XPn XBn XQn XRn Xin Xkn O7n O8n O1n O2n O3n
          obtain ⟨gXk, hg⟩ : ∃ x, x = V54.heap.size := ⟨_, rfl⟩
          have mXkXi : gXi < gXk := by omega
          have mXkXR : w.heap.size + 1 + 1 + 1 + 1 < gXk := by omega
          rw [← hg] at Xk sz55 ⊢
          clear hg lqXi lqXR
          refine AnyL_ready (rs := [10]) (by kernel_rfl) (by simp) ?_
          refine ReadyL.cons (o := oq33_2_10) rfl (fun K hK => ?_) ReadyL.nil
          delta oq33_2_10
          have fz := Xk.1.frozen 0
          have cz := Xk.cell
          have lz := Xk.lt
          go_simp
          have XAn := XA.far (p := ⟨gXk, 0, none⟩) Xk.1 Xk.2.2 (by simp <;> omega) (.slice D3 (nw k1) d3)
          have XPn := XP.far (p := ⟨gXk, 0, none⟩) Xk.1 Xk.2.2 (by simp <;> omega) (.slice D3 (nw k1) d3)
          have XBn := XB.far (p := ⟨gXk, 0, none⟩) Xk.1 Xk.2.2 (by simp <;> omega) (.slice D3 (nw k1) d3)
          have XQn := XQ.far (p := ⟨gXk, 0, none⟩) Xk.1 Xk.2.2 (by simp <;> omega) (.slice D3 (nw k1) d3)
          have XRn := XR.far (p := ⟨gXk, 0, none⟩) Xk.1 Xk.2.2 (by simp <;> omega) (.slice D3 (nw k1) d3)
          have Xin := Xi.far (p := ⟨gXk, 0, none⟩) Xk.1 Xk.2.2 (by simp <;> omega) (.slice D3 (nw k1) d3)
          have Xkn := Xk.set_ (A' := D3) (n' := (nw k1)) (c' := d3) (a' := k1) (.inr O3)
          have O7n := O7.box (p := ⟨gXk, 0, none⟩) Xk.1 (by decide) (.slice D3 (nw k1) d3)
          have O8n := O8.box (p := ⟨gXk, 0, none⟩) Xk.1 (by decide) (.slice D3 (nw k1) d3)
          have O1n := O1.box (p := ⟨gXk, 0, none⟩) Xk.1 (by decide) (.slice D3 (nw k1) d3)
          have O2n := O2.box (p := ⟨gXk, 0, none⟩) Xk.1 (by decide) (.slice D3 (nw k1) d3)
          have O3n := O3.box (p := ⟨gXk, 0, none⟩) Xk.1 (by decide) (.slice D3 (nw k1) d3)
          have WWn := WW.setCell (p := ⟨gXk, 0, none⟩) (by simp <;> omega) (.slice D3 (nw k1) d3)
          refine hK.out _ _ (⟨XAn.cell, XBn.cell, XQn.cell, Xin.cell⟩) (fun hHeld2 => ?_)
          clear hK K hHeld
          (try simp only [oq33_2_10, Act.put, List.setIfInBounds_toArray, List.set_cons_zero, List.set_cons_succ])
          generalize hV : V55.setCell ⟨gXk, 0, none⟩ (.slice D3 (nw k1) d3) = V56 at hHeld2 WWn XAn XPn XBn XQn XRn Xin Xkn O7n O8n O1n O2n O3n ⊢
          clear hV fz cz lz WW XA XP XB XQ XR Xi Xk O7 O8 O1 O2 O3
          have WW := WWn
          have XA := XAn
          have XP := XPn
          have XB := XBn
          have XQ := XQn
          have XR := XRn
          have Xi := Xin
          have Xk := Xkn
          have O7 := O7n
          have O8 := O8n
          have O1 := O1n
          have O2 := O2n
          have O3 := O3n
          have hHeld := hHeld2
          clear hHeld2
          clear WWn XAn XPn XBn XQn XRn Xin Xkn O7n O8n O1n O2n O3n
          refine AnyL_done (by kernel_rfl) ?_ _
          clear hHeld
          refine NoPanic.normal ?_
          exact ⟨rfl, gXk, D1, d1, D2, d2, D3, d3, rfl, WW, XA, XP, XB, XQ, XR, Xi, Xk, O7, O8, O1, O2, O3, (by first | exact mXkXi | omega), (by first | exact mXkXR | omega)⟩
        refine ReadyL.cons (o := oq33_2_9) rfl (fun K hK => ?_) ReadyL.nil
        · delta oq33_2_9
          have lqXi : gXi < V53.heap.size := Xi.lt
          have lqXR : w.heap.size + 1 + 1 + 1 + 1 < V53.heap.size := XR.lt
          go_simp
          have ba := (Below.refl V53.heap.size V53).alloc (Nat.le_refl _) (.cells #[.slice none 0 0] 24)
          have XAn := XA.below ba
          have XPn := XP.below ba
          have XBn := XB.below ba
          have XQn := XQ.below ba
          have XRn := XR.below ba
          have Xin := Xi.below ba
          have O7n := O7.below ba (Nat.le_refl _)
          have O8n := O8.below ba (Nat.le_refl _)
          have O1n := O1.below ba (Nat.le_refl _)
          have O2n := O2.below ba (Nat.le_refl _)
          have bn := Blk.new V53 24 #[.slice none 0 0]
          have Xkn := VB.mk (B := w.heap.size) (a := 0) bn (.inr (Own.nil _ _ _ _ (Nat.zero_le _))) ba WW.size WW.size
          have WWn := WW.trans (ba.mono WW.size)
          have sn : V53.heap.size < (V53.alloc (.cells #[.slice none 0 0] 24)).heap.size := bn.lt
          refine hK.out _ _ (⟨XAn.cell, XBn.cell, XQn.cell, Xin.cell⟩) (fun hHeld2 => ?_)
          clear hK K hHeld
          (try simp only [oq33_2_9, Act.put, List.setIfInBounds_toArray, List.set_cons_zero, List.set_cons_succ])
          generalize hV : V53.alloc (.cells #[.slice none 0 0] 24) = V54 at hHeld2 sn WWn XAn XPn XBn XQn XRn Xin Xkn O7n O8n O1n O2n ⊢
          clear hV ba bn WW XA XP XB XQ XR Xi O7 O8 O1 O2
          have WW := WWn
          have XA := XAn
          have XP := XPn
          have XB := XBn
          have XQ := XQn
          have XR := XRn
          have Xi := Xin
          have Xk := Xkn
          have O7 := O7n
          have O8 := O8n
          have O1 := O1n
          have O2 := O2n
          have sz54 := sn
          have hHeld := hHeld2
          clear sn hHeld2 WWn XAn XPn XBn XQn XRn Xin Xkn O7n O8n O1n O2n
          obtain ⟨gXk, hg⟩ : ∃ x, x = V53.heap.size := ⟨_, rfl⟩
          have mXkXi : gXi < gXk := by omega
          have mXkXR : w.heap.size + 1 + 1 + 1 + 1 < gXk := by omega
          rw [← hg] at Xk sz54 ⊢
          clear hg lqXi lqXR
          refine AnyL_ready (rs := [8]) (by kernel_rfl) (by simp) ?_
          refine ReadyL.cons (o := oq33_2_8) rfl (fun K hK => ?_) ReadyL.nil
          delta oq33_2_8
          go_simp
          have hbs : w.heap.size ≤ V54.heap.size := WW.size
          have hc := rmul3_any D2 D8 A4 d2 d8 c4 s1 x0 q V54 O2.num Xi.num XQ.num (by omega) (by omega) (by omega) HSQ.out
          rw [← HK1.out] at hc
          refine hc.mono ?_
          clear hc
          rintro e V55 ⟨v, rfl, hv, hb⟩
          replace XA := XA.below hb
          replace XP := XP.below hb
          replace XB := XB.below hb
          replace XQ := XQ.below hb
          replace XR := XR.below hb
          replace Xi := Xi.below hb
          replace Xk := Xk.below hb
          replace O7 := O7.below hb (Nat.le_refl _)
          replace O8 := O8.below hb (Nat.le_refl _)
          replace O1 := O1.below hb (Nat.le_refl _)
          replace O2 := O2.below hb (Nat.le_refl _)
          replace WW := WW.trans (hb.mono WW.size)
          have sz55 := hb.size
          obtain ⟨D3, d3, rfl, ho⟩ := hv
          have O3 := ho.weak (b := w.heap.size) hbs
          clear ho
          clear hb hbs
          refine hK.out _ _ (⟨XA.cell, XB.cell, XQ.cell, Xi.cell⟩) (fun hHeld2 => ?_)
          clear hK K hHeld
          have hHeld := hHeld2
          clear hHeld2
          (try simp only [oq33_2_8, Act.put, List.setIfInBounds_toArray, List.set_cons_zero, List.set_cons_succ])
          refine AnyL_ready (rs := [10]) (by kernel_rfl) (by simp) ?_
          refine ReadyL.cons (o := oq33_2_10) rfl (fun K hK => ?_) ReadyL.nil
          delta oq33_2_10
          have fz := Xk.1.frozen 0
          have cz := Xk.cell
          have lz := Xk.lt
          go_simp
          have XAn := XA.far (p := ⟨gXk, 0, none⟩) Xk.1 Xk.2.2 (by simp <;> omega) (.slice D3 (nw k1) d3)
          have XPn := XP.far (p := ⟨gXk, 0, none⟩) Xk.1 Xk.2.2 (by simp <;> omega) (.slice D3 (nw k1) d3)
          have XBn := XB.far (p := ⟨gXk, 0, none⟩) Xk.1 Xk.2.2 (by simp <;> omega) (.slice D3 (nw k1) d3)
          have XQn := XQ.far (p := ⟨gXk, 0, none⟩) Xk.1 Xk.2.2 (by simp <;> omega) (.slice D3 (nw k1) d3)
          have XRn := XR.far (p := ⟨gXk, 0, none⟩) Xk.1 Xk.2.2 (by simp <;> omega) (.slice D3 (nw k1) d3)
          have Xin := Xi.far (p := ⟨gXk, 0, none⟩) Xk.1 Xk.2.2 (by simp <;> omega) (.slice D3 (nw k1) d3)
          have Xkn := Xk.set_ (A' := D3) (n' := (nw k1)) (c' := d3) (a' := k1) (.inr O3)
          have O7n := O7.box (p := ⟨gXk, 0, none⟩) Xk.1 (by decide) (.slice D3 (nw k1) d3)
          have O8n := O8.box (p := ⟨gXk, 0, none⟩) Xk.1 (by decide) (.slice D3 (nw k1) d3)
          have O1n := O1.box (p := ⟨gXk, 0, none⟩) Xk.1 (by decide) (.slice D3 (nw k1) d3)
          have O2n := O2.box (p := ⟨gXk, 0, none⟩) Xk.1 (by decide) (.slice D3 (nw k1) d3)
          have O3n := O3.box (p := ⟨gXk, 0, none⟩) Xk.1 (by decide) (.slice D3 (nw k1) d3)
          have WWn := WW.setCell (p := ⟨gXk, 0, none⟩) (by simp <;> omega) (.slice D3 (nw k1) d3)
          refine hK.out _ _ (⟨XAn.cell, XBn.cell, XQn.cell, Xin.cell⟩) (fun hHeld2 => ?_)
          clear hK K hHeld
          (try simp only [oq33_2_10, Act.put, List.setIfInBounds_toArray, List.set_cons_zero, List.set_cons_succ])
          generalize hV : V55.setCell ⟨gXk, 0, none⟩ (.slice D3 (nw k1) d3) = V56 at hHeld2 WWn XAn XPn XBn XQn XRn Xin Xkn O7n O8n O1n O2n O3n ⊢
          clear hV fz cz lz WW XA XP XB XQ XR Xi Xk O7 O8 O1 O2 O3
          have WW := WWn
          have XA := XAn
          have XP := XPn
          have XB := XBn
          have XQ := XQn
          have XR := XRn
          have Xi := Xin
          have Xk := Xkn
          have O7 := O7n
          have O8 := O8n
          have O1 := O1n
          have O2 := O2n
          have O3 := O3n
          have hHeld := hHeld2
          clear hHeld2
          clear WWn XAn XPn XBn XQn XRn Xin Xkn O7n O8n O1n O2n O3n
          refine AnyL_done (by kernel_rfl) ?_ _
          clear hHeld
          refine NoPanic.normal ?_
          exact ⟨rfl, gXk, D1, d1, D2, d2, D3, d3, rfl, WW, XA, XP, XB, XQ, XR, Xi, Xk, O7, O8, O1, O2, O3, (by first | exact mXkXi | omega), (by first | exact mXkXR | omega)⟩
      refine ReadyL.cons (o := oq33_2_9) rfl (fun K hK => ?_) ReadyL.nil
      · delta oq33_2_9
        have lqXi : gXi < V52.heap.size := Xi.lt
        have lqXR : w.heap.size + 1 + 1 + 1 + 1 < V52.heap.size := XR.lt
        go_simp
        have ba := (Below.refl V52.heap.size V52).alloc (Nat.le_refl _) (.cells #[.slice none 0 0] 24)
        have XAn := XA.below ba
        have XPn := XP.below ba
        have XBn := XB.below ba
        have XQn := XQ.below ba
        have XRn := XR.below ba
        have Xin := Xi.below ba
        have O7n := O7.below ba (Nat.le_refl _)
        have O8n := O8.below ba (Nat.le_refl _)
        have O1n := O1.below ba (Nat.le_refl _)
        have bn := Blk.new V52 24 #[.slice none 0 0]
        have Xkn := VB.mk (B := w.heap.size) (a := 0) bn (.inr (Own.nil _ _ _ _ (Nat.zero_le _))) ba WW.size WW.size
        have WWn := WW.trans (ba.mono WW.size)
        have sn : V52.heap.size < (V52.alloc (.cells #[.slice none 0 0] 24)).heap.size := bn.lt
        refine hK.out _ _ (⟨XAn.cell, XBn.cell, XQn.cell, Xin.cell⟩) (fun hHeld2 => ?_)
        clear hK K hHeld
        (try simp only [oq33_2_9, Act.put, List.setIfInBounds_toArray, List.set_cons_zero, List.set_cons_succ])
        generalize hV : V52.alloc (.cells #[.slice none 0 0] 24) = V53 at hHeld2 sn WWn XAn XPn XBn XQn XRn Xin Xkn O7n O8n O1n ⊢
        clear hV ba bn WW XA XP XB XQ XR Xi O7 O8 O1
        have WW := WWn
        have XA := XAn
        have XP := XPn
        have XB := XBn
        have XQ := XQn
        have XR := XRn
        have Xi := Xin
        have Xk := Xkn
        have O7 := O7n
        have O8 := O8n
        have O1 := O1n
        have sz53 := sn
        have hHeld := hHeld2
        clear sn hHeld2 WWn XAn XPn XBn XQn XRn Xin Xkn O7n O8n O1n
        obtain ⟨gXk, hg⟩ : ∃ x, x = V52.heap.size := ⟨_, rfl⟩
        have mXkXi : gXi < gXk := by omega
        have mXkXR : w.heap.size + 1 + 1 + 1 + 1 < gXk := by omega
        rw [← hg] at Xk sz53 ⊢
        clear hg lqXi lqXR
        refine AnyL_ready (rs := [5]) (by kernel_rfl) (by simp) ?_
        refine ReadyL.cons (o := oq33_2_5) rfl (fun K hK => ?_) ReadyL.nil
        delta oq33_2_5
        go_simp
        have hbs : w.heap.size ≤ V53.heap.size := WW.size
        have hc := rsub3_any A3 D1 A4 c3 d1 c4 b r1 q V53 XB.num O1.num XQ.num (by omega) (by omega) (by omega) HBQ.out HRQ.out
        rw [← HS1.out] at hc
        refine hc.mono ?_
        clear hc
        rintro e V54 ⟨v, rfl, hv, hb⟩
        replace XA := XA.below hb
        replace XP := XP.below hb
        replace XB := XB.below hb
        replace XQ := XQ.below hb
        replace XR := XR.below hb
        replace Xi := Xi.below hb
        replace Xk := Xk.below hb
        replace O7 := O7.below hb (Nat.le_refl _)
        replace O8 := O8.below hb (Nat.le_refl _)
        replace O1 := O1.below hb (Nat.le_refl _)
        replace WW := WW.trans (hb.mono WW.size)
        have sz54 := hb.size
        obtain ⟨D2, d2, rfl, ho⟩ := hv
        have O2 := ho.weak (b := w.heap.size) hbs
        clear ho
        clear hb hbs
        refine hK.out _ _ (⟨XA.cell, XB.cell, XQ.cell, Xi.cell⟩) (fun hHeld2 => ?_)
        clear hK K hHeld
        have hHeld := hHeld2
        clear hHeld2
        (try simp only [oq33_2_5, Act.put, List.setIfInBounds_toArray, List.set_cons_zero, List.set_cons_succ])
        refine AnyL_ready (rs := [8]) (by kernel_rfl) (by simp) ?_
        refine ReadyL.cons (o := oq33_2_8) rfl (fun K hK => ?_) ReadyL.nil
        delta oq33_2_8
        go_simp
        have hbs : w.heap.size ≤ V54.heap.size := WW.size
        have hc := rmul3_any D2 D8 A4 d2 d8 c4 s1 x0 q V54 O2.num Xi.num XQ.num (by omega) (by omega) (by omega) HSQ.out
        rw [← HK1.out] at hc
        refine hc.mono ?_
        clear hc
        rintro e V55 ⟨v, rfl, hv, hb⟩
        replace XA := XA.below hb
        replace XP := XP.below hb
        replace XB := XB.below hb
        replace XQ := XQ.below hb
        replace XR := XR.below hb
        replace Xi := Xi.below hb
        replace Xk := Xk.below hb
        replace O7 := O7.below hb (Nat.le_refl _)
        replace O8 := O8.below hb (Nat.le_refl _)
        replace O1 := O1.below hb (Nat.le_refl _)
        replace O2 := O2.below hb (Nat.le_refl _)
        replace WW := WW.trans (hb.mono WW.size)
        have sz55 := hb.size
        obtain ⟨D3, d3, rfl, ho⟩ := hv
        have O3 := ho.weak (b := w.heap.size) hbs
        clear ho
        clear hb hbs
        refine hK.out _ _ (⟨XA.cell, XB.cell, XQ.cell, Xi.cell⟩) (fun hHeld2 => ?_)
        clear hK K hHeld
        have hHeld := hHeld2
        clear hHeld2
        (try simp only [oq33_2_8, Act.put, List.setIfInBounds_toArray, List.set_cons_zero, List.set_cons_succ])
        refine AnyL_ready (rs := [10]) (by kernel_rfl) (by simp) ?_
        refine ReadyL.cons (o := oq33_2_10) rfl (fun K hK => ?_) ReadyL.nil
        delta oq33_2_10
        have fz := Xk.1.frozen 0
        have cz := Xk.cell
        have lz := Xk.lt
        go_simp
        have XAn := XA.far (p := ⟨gXk, 0, none⟩) Xk.1 Xk.2.2 (by simp <;> omega) (.slice D3 (nw k1) d3)
        have XPn := XP.far (p := ⟨gXk, 0, none⟩) Xk.1 Xk.2.2 (by simp <;> omega) (.slice D3 (nw k1) d3)
        have XBn := XB.far (p := ⟨gXk, 0, none⟩) Xk.1 Xk.2.2 (by simp <;> omega) (.slice D3 (nw k1) d3)
        have XQn := XQ.far (p := ⟨gXk, 0, none⟩) Xk.1 Xk.2.2 (by simp <;> omega) (.slice D3 (nw k1) d3)
        have XRn := XR.far (p := ⟨gXk, 0, none⟩) Xk.1 Xk.2.2 (by simp <;> omega) (.slice D3 (nw k1) d3)
        have Xin := Xi.far (p := ⟨gXk, 0, none⟩) Xk.1 Xk.2.2 (by simp <;> omega) (.slice D3 (nw k1) d3)
        have Xkn := Xk.set_ (A' := D3) (n' := (nw k1)) (c' := d3) (a' := k1) (.inr O3)
        have O7n := O7.box (p := ⟨gXk, 0, none⟩) Xk.1 (by decide) (.slice D3 (nw k1) d3)
        have O8n := O8.box (p := ⟨gXk, 0, none⟩) Xk.1 (by decide) (.slice D3 (nw k1) d3)
        have O1n := O1.box (p := ⟨gXk, 0, none⟩) Xk.1 (by decide) (.slice D3 (nw k1) d3)
        have O2n := O2.box (p := ⟨gXk, 0, none⟩) Xk.1 (by decide) (.slice D3 (nw k1) d3)
        have O3n := O3.box (p := ⟨gXk, 0, none⟩) Xk.1 (by decide) (.slice D3 (nw k1) d3)
        have WWn := WW.setCell (p := ⟨gXk, 0, none⟩) (by simp <;> omega) (.slice D3 (nw k1) d3)
        refine hK.out _ _ (⟨XAn.cell, XBn.cell, XQn.cell, Xin.cell⟩) (fun hHeld2 => ?_)
        clear hK K hHeld
        (try simp only [oq33_2_10, Act.put, List.setIfInBounds_toArray, List.set_cons_zero, List.set_cons_succ])
        generalize hV : V55.setCell ⟨gXk, 0, none⟩ (.slice D3 (nw k1) d3) = V56 at hHeld2 WWn XAn XPn XBn XQn XRn Xin Xkn O7n O8n O1n O2n O3n ⊢
        clear hV fz cz lz WW XA XP XB XQ XR Xi Xk O7 O8 O1 O2 O3
        have WW := WWn
        have XA := XAn
        have XP := XPn
        have XB := XBn
        have XQ := XQn
        have XR := XRn
        have Xi := Xin
        have Xk := Xkn
        have O7 := O7n
        have O8 := O8n
        have O1 := O1n
        have O2 := O2n
        have O3 := O3n
        have hHeld := hHeld2
        clear hHeld2
        clear WWn XAn XPn XBn XQn XRn Xin Xkn O7n O8n O1n O2n O3n
        refine AnyL_done (by kernel_rfl) ?_ _
        clear hHeld
        refine NoPanic.normal ?_
        exact ⟨rfl, gXk, D1, d1, D2, d2, D3, d3, rfl, WW, XA, XP, XB, XQ, XR, Xi, Xk, O7, O8, O1, O2, O3, (by first | exact mXkXi | omega), (by first | exact mXkXR | omega)⟩
    refine ReadyL.cons (o := oq33_2_9) rfl (fun K hK => ?_) ReadyL.nil
    · delta oq33_2_9
      have lqXi : gXi < U50x0.heap.size := Xi.lt
      have lqXR : w.heap.size + 1 + 1 + 1 + 1 < U50x0.heap.size := XR.lt
      go_simp
      have ba := (Below.refl U50x0.heap.size U50x0).alloc (Nat.le_refl _) (.cells #[.slice none 0 0] 24)
      have XAn := XA.below ba
      have XPn := XP.below ba
      have XBn := XB.below ba
      have XQn := XQ.below ba
      have XRn := XR.below ba
      have Xin := Xi.below ba
      have O7n := O7.below ba (Nat.le_refl _)
      have O8n := O8.below ba (Nat.le_refl _)
      have bn := Blk.new U50x0 24 #[.slice none 0 0]
      have Xkn := VB.mk (B := w.heap.size) (a := 0) bn (.inr (Own.nil _ _ _ _ (Nat.zero_le _))) ba WW.size WW.size
      have WWn := WW.trans (ba.mono WW.size)
      have sn : U50x0.heap.size < (U50x0.alloc (.cells #[.slice none 0 0] 24)).heap.size := bn.lt
      refine hK.out _ _ (⟨XAn.cell, XBn.cell, XQn.cell, Xin.cell⟩) (fun hHeld2 => ?_)
      clear hK K hHeld
      (try simp only [oq33_2_9, Act.put, List.setIfInBounds_toArray, List.set_cons_zero, List.set_cons_succ])
      generalize hV : U50x0.alloc (.cells #[.slice none 0 0] 24) = V52 at hHeld2 sn WWn XAn XPn XBn XQn XRn Xin Xkn O7n O8n ⊢
      clear hV ba bn WW XA XP XB XQ XR Xi O7 O8
      have WW := WWn
      have XA := XAn
      have XP := XPn
      have XB := XBn
      have XQ := XQn
      have XR := XRn
      have Xi := Xin
      have Xk := Xkn
      have O7 := O7n
      have O8 := O8n
      have sz52 := sn
      have hHeld := hHeld2
      clear sn hHeld2 WWn XAn XPn XBn XQn XRn Xin Xkn O7n O8n
      obtain ⟨gXk, hg⟩ : ∃ x, x = U50x0.heap.size := ⟨_, rfl⟩
      have mXkXi : gXi < gXk := by omega
      have mXkXR : w.heap.size + 1 + 1 + 1 + 1 < gXk := by omega
      rw [← hg] at Xk sz52 ⊢
      clear hg lqXi lqXR
      refine AnyL_ready (rs := [3]) (by kernel_rfl) (by simp) ?_
      refine ReadyL.cons (o := oq33_2_3) rfl (fun K hK => ?_) ReadyL.nil
      delta oq33_2_3
      go_simp
      have hbs : w.heap.size ≤ V52.heap.size := WW.size
      have hc := rmod3_any A A4 c1 c4 a q V52 XA.num XQ.num (by omega) (by omega) HQ0.out
      rw [← HR1.out] at hc
      refine hc.mono ?_
      clear hc
      rintro e V53 ⟨v, rfl, hv, hb⟩
      replace XA := XA.below hb
      replace XP := XP.below hb
      replace XB := XB.below hb
      replace XQ := XQ.below hb
      replace XR := XR.below hb
      replace Xi := Xi.below hb
      replace Xk := Xk.below hb
      replace O7 := O7.below hb (Nat.le_refl _)
      replace O8 := O8.below hb (Nat.le_refl _)
      replace WW := WW.trans (hb.mono WW.size)
      have sz53 := hb.size
      obtain ⟨D1, d1, rfl, ho⟩ := hv
      have O1 := ho.weak (b := w.heap.size) hbs
      clear ho
      clear hb hbs
      refine hK.out _ _ (⟨XA.cell, XB.cell, XQ.cell, Xi.cell⟩) (fun hHeld2 => ?_)
      clear hK K hHeld
      have hHeld := hHeld2
      clear hHeld2
      (try simp only [oq33_2_3, Act.put, List.setIfInBounds_toArray, List.set_cons_zero, List.set_cons_succ])
      refine AnyL_ready (rs := [5]) (by kernel_rfl) (by simp) ?_
      refine ReadyL.cons (o := oq33_2_5) rfl (fun K hK => ?_) ReadyL.nil
      delta oq33_2_5
      go_simp
      have hbs : w.heap.size ≤ V53.heap.size := WW.size
      have hc := rsub3_any A3 D1 A4 c3 d1 c4 b r1 q V53 XB.num O1.num XQ.num (by omega) (by omega) (by omega) HBQ.out HRQ.out
      rw [← HS1.out] at hc
      refine hc.mono ?_
      clear hc
      rintro e V54 ⟨v, rfl, hv, hb⟩
      replace XA := XA.below hb
      replace XP := XP.below hb
      replace XB := XB.below hb
      replace XQ := XQ.below hb
      replace XR := XR.below hb
      replace Xi := Xi.below hb
      replace Xk := Xk.below hb
      replace O7 := O7.below hb (Nat.le_refl _)
      replace O8 := O8.below hb (Nat.le_refl _)
      replace O1 := O1.below hb (Nat.le_refl _)
      replace WW := WW.trans (hb.mono WW.size)
      have sz54 := hb.size
      obtain ⟨D2, d2, rfl, ho⟩ := hv
      have O2 := ho.weak (b := w.heap.size) hbs
      clear ho
      clear hb hbs
      refine hK.out _ _ (⟨XA.cell, XB.cell, XQ.cell, Xi.cell⟩) (fun hHeld2 => ?_)
      clear hK K hHeld
      have hHeld := hHeld2
      clear hHeld2
      (try simp only [oq33_2_5, Act.put, List.setIfInBounds_toArray, List.set_cons_zero, List.set_cons_succ])
      refine AnyL_ready (rs := [8]) (by kernel_rfl) (by simp) ?_
      refine ReadyL.cons (o := oq33_2_8) rfl (fun K hK => ?_) ReadyL.nil
      delta oq33_2_8
      go_simp
      have hbs : w.heap.size ≤ V54.heap.size := WW.size
      have hc := rmul3_any D2 D8 A4 d2 d8 c4 s1 x0 q V54 O2.num Xi.num XQ.num (by omega) (by omega) (by omega) HSQ.out
      rw [← HK1.out] at hc
      refine hc.mono ?_
      clear hc
      rintro e V55 ⟨v, rfl, hv, hb⟩
      replace XA := XA.below hb
      replace XP := XP.below hb
      replace XB := XB.below hb
      replace XQ := XQ.below hb
      replace XR := XR.below hb
      replace Xi := Xi.below hb
      replace Xk := Xk.below hb
      replace O7 := O7.below hb (Nat.le_refl _)
      replace O8 := O8.below hb (Nat.le_refl _)
      replace O1 := O1.below hb (Nat.le_refl _)
      replace O2 := O2.below hb (Nat.le_refl _)
      replace WW := WW.trans (hb.mono WW.size)
      have sz55 := hb.size
      obtain ⟨D3, d3, rfl, ho⟩ := hv
      have O3 := ho.weak (b := w.heap.size) hbs
      clear ho
      clear hb hbs
      refine hK.out _ _ (⟨XA.cell, XB.cell, XQ.cell, Xi.cell⟩) (fun hHeld2 => ?_)
      clear hK K hHeld
      have hHeld := hHeld2
      clear hHeld2
      (try simp only [oq33_2_8, Act.put, List.setIfInBounds_toArray, List.set_cons_zero, List.set_cons_succ])
      refine AnyL_ready (rs := [10]) (by kernel_rfl) (by simp) ?_
      refine ReadyL.cons (o := oq33_2_10) rfl (fun K hK => ?_) ReadyL.nil
      delta oq33_2_10
      have fz := Xk.1.frozen 0
      have cz := Xk.cell
      have lz := Xk.lt
      go_simp
      have XAn := XA.far (p := ⟨gXk, 0, none⟩) Xk.1 Xk.2.2 (by simp <;> omega) (.slice D3 (nw k1) d3)
      have XPn := XP.far (p := ⟨gXk, 0, none⟩) Xk.1 Xk.2.2 (by simp <;> omega) (.slice D3 (nw k1) d3)
      have XBn := XB.far (p := ⟨gXk, 0, none⟩) Xk.1 Xk.2.2 (by simp <;> omega) (.slice D3 (nw k1) d3)
      have XQn := XQ.far (p := ⟨gXk, 0, none⟩) Xk.1 Xk.2.2 (by simp <;> omega) (.slice D3 (nw k1) d3)
      have XRn := XR.far (p := ⟨gXk, 0, none⟩) Xk.1 Xk.2.2 (by simp <;> omega) (.slice D3 (nw k1) d3)
      have Xin := Xi.far (p := ⟨gXk, 0, none⟩) Xk.1 Xk.2.2 (by simp <;> omega) (.slice D3 (nw k1) d3)
      have Xkn := Xk.set_ (A' := D3) (n' := (nw k1)) (c' := d3) (a' := k1) (.inr O3)
      have O7n := O7.box (p := ⟨gXk, 0, none⟩) Xk.1 (by decide) (.slice D3 (nw k1) d3)
      have O8n := O8.box (p := ⟨gXk, 0, none⟩) Xk.1 (by decide) (.slice D3 (nw k1) d3)
      have O1n := O1.box (p := ⟨gXk, 0, none⟩) Xk.1 (by decide) (.slice D3 (nw k1) d3)
      have O2n := O2.box (p := ⟨gXk, 0, none⟩) Xk.1 (by decide) (.slice D3 (nw k1) d3)
      have O3n := O3.box (p := ⟨gXk, 0, none⟩) Xk.1 (by decide) (.slice D3 (nw k1) d3)
      have WWn := WW.setCell (p := ⟨gXk, 0, none⟩) (by simp <;> omega) (.slice D3 (nw k1) d3)
      refine hK.out _ _ (⟨XAn.cell, XBn.cell, XQn.cell, Xin.cell⟩) (fun hHeld2 => ?_)
      clear hK K hHeld
      (try simp only [oq33_2_10, Act.put, List.setIfInBounds_toArray, List.set_cons_zero, List.set_cons_succ])
      generalize hV : V55.setCell ⟨gXk, 0, none⟩ (.slice D3 (nw k1) d3) = V56 at hHeld2 WWn XAn XPn XBn XQn XRn Xin Xkn O7n O8n O1n O2n O3n ⊢
      clear hV fz cz lz WW XA XP XB XQ XR Xi Xk O7 O8 O1 O2 O3
      have WW := WWn
      have XA := XAn
      have XP := XPn
      have XB := XBn
      have XQ := XQn
      have XR := XRn
      have Xi := Xin
      have Xk := Xkn
      have O7 := O7n
      have O8 := O8n
      have O1 := O1n
      have O2 := O2n
      have O3 := O3n
      have hHeld := hHeld2
      clear hHeld2
      clear WWn XAn XPn XBn XQn XRn Xin Xkn O7n O8n O1n O2n O3n
      refine AnyL_done (by kernel_rfl) ?_ _
      clear hHeld
      refine NoPanic.normal ?_
      exact ⟨rfl, gXk, D1, d1, D2, d2, D3, d3, rfl, WW, XA, XP, XB, XQ, XR, Xi, Xk, O7, O8, O1, O2, O3, (by first | exact mXkXi | omega), (by first | exact mXkXR | omega)⟩
  rintro gXk D1 d1 D2 d2 D3 d3 V100 ⟨WW, XA, XP, XB, XQ, XR, Xi, Xk, O7, O8, O1, O2, O3, mXkXi, mXkXR⟩
  have kXA := XA.cell
  have zXA := XA.lt
  have kXP := XP.cell
  have zXP := XP.lt
  have kXB := XB.cell
  have zXB := XB.lt
  have kXQ := XQ.cell
  have zXQ := XQ.lt
  have kXR := XR.cell
  have zXR := XR.lt
  have kXi := Xi.cell
  have zXi := Xi.lt
  have kXk := Xk.cell
  have zXk := Xk.lt
  go_wp2_with fail
  have WWd := WW.drew
  have XAd := XA.drew
  have XPd := XP.drew
  have XBd := XB.drew
  have XQd := XQ.drew
  have XRd := XR.drew
  have Xid := Xi.drew
  have Xkd := Xk.drew
  have O7d := O7.drew
  have O8d := O8.drew
  have O1d := O1.drew
  have O2d := O2.drew
  have O3d := O3.drew
  have hst : (fun w' => w'.cell? ⟨w.heap.size, 0, none⟩ = some (.slice A (nw a) c1) ∧ w'.cell? ⟨w.heap.size + 1, 0, none⟩ = some (.slice A2 (nw p) c2) ∧ w'.cell? ⟨gXk, 0, none⟩ = some (.slice D3 (nw k1) d3)) V100.drew := ⟨XA.cell, XP.cell, Xk.cell⟩
  clear WW kXA zXA kXP zXP kXB zXB kXQ zXQ kXR zXR kXi zXi kXk zXk XA XP XB XQ XR Xi Xk O7 O8 O1 O2 O3
  have qq0 := Xkd.lt
  refine region_L 13 (fun w' => w'.cell? ⟨w.heap.size, 0, none⟩ = some (.slice A (nw a) c1) ∧ w'.cell? ⟨w.heap.size + 1, 0, none⟩ = some (.slice A2 (nw p) c2) ∧ w'.cell? ⟨gXk, 0, none⟩ = some (.slice D3 (nw k1) d3)) (by kernel_rfl) hst (fun hHeld => ?_)
  clear hst
  generalize hV : V100.drew = U100x0 at hHeld WWd qq0 XAd XPd XBd XQd XRd Xid Xkd O7d O8d O1d O2d O3d ⊢
  clear hV
  have WW := WWd
  have XA := XAd
  have XP := XPd
  have XB := XBd
  have XQ := XQd
  have XR := XRd
  have Xi := Xid
  have Xk := Xkd
  have O7 := O7d
  have O8 := O8d
  have O1 := O1d
  have O2 := O2d
  have O3 := O3d
  clear WWd XAd XPd XBd XQd XRd Xid Xkd O7d O8d O1d O2d O3d
  refine AnyL_take (i := 0) (oi := oq33_3_0) (v := ?_) rfl (by kernel_rfl) (by kernel_rfl) (by kernel_rfl) (by kernel_rfl) (fun _ _ _ h => h) (Or.inl ⟨by rfl, ?_⟩) (by assumption) ?_
  rotate_left
  · (delta oq33_3_0; intro ws hSw; (try dsimp only at hSw); (try go_simp); (try with_reducible rfl))
  (try simp only [oq33_3_0, Act.put, List.setIfInBounds_toArray, List.set_cons_zero, List.set_cons_succ])
  refine AnyL_take (i := 1) (oi := oq33_3_1) (v := ?_) rfl (by kernel_rfl) (by kernel_rfl) (by kernel_rfl) (by kernel_rfl) (fun _ _ _ h => h) (Or.inl ⟨by rfl, ?_⟩) (by assumption) ?_
  rotate_left
  · (delta oq33_3_1; intro ws hSw; (try dsimp only at hSw); (try go_simp); (try with_reducible rfl))
  (try simp only [oq33_3_1, Act.put, List.setIfInBounds_toArray, List.set_cons_zero, List.set_cons_succ])
  refine AnyL_take (i := 2) (oi := oq33_3_2) (v := ?_) rfl (by kernel_rfl) (by kernel_rfl) (by kernel_rfl) (by kernel_rfl) (fun _ _ _ h => h) (Or.inl ⟨by rfl, ?_⟩) (by assumption) ?_
  rotate_left
  · (delta oq33_3_2; intro ws hSw; (try dsimp only at hSw); (try go_simp); (try with_reducible rfl))
  (try simp only [oq33_3_2, Act.put, List.setIfInBounds_toArray, List.set_cons_zero, List.set_cons_succ])
  refine AnyL_ready (rs := [3]) (by kernel_rfl) (by simp) ?_
  refine ReadyL.cons (o := oq33_3_3) rfl (fun K hK => ?_) ReadyL.nil
  delta oq33_3_3
  go_simp
  have hbs : w.heap.size ≤ U100x0.heap.size := WW.size
  have hc := rtimes_any A2 D3 c2 d3 p k1 U100x0 XP.num Xk.num (by omega) (by omega)
  rw [← HU1.out] at hc
  refine hc.mono ?_
  clear hc
  rintro e V102 ⟨v, rfl, hv, hb⟩
  replace XA := XA.below hb
  replace XP := XP.below hb
  replace XB := XB.below hb
  replace XQ := XQ.below hb
  replace XR := XR.below hb
  replace Xi := Xi.below hb
  replace Xk := Xk.below hb
  replace O7 := O7.below hb (Nat.le_refl _)
  replace O8 := O8.below hb (Nat.le_refl _)
  replace O1 := O1.below hb (Nat.le_refl _)
  replace O2 := O2.below hb (Nat.le_refl _)
  replace O3 := O3.below hb (Nat.le_refl _)
  replace WW := WW.trans (hb.mono WW.size)
  have sz102 := hb.size
  obtain ⟨D4, d4, rfl, ho⟩ := hv
  have O4 := ho.weak (b := w.heap.size) hbs
  clear ho
  clear hb hbs
  refine hK.out _ _ (⟨XA.cell, XP.cell, Xk.cell⟩) (fun hHeld2 => ?_)
  clear hK K hHeld
  have hHeld := hHeld2
  clear hHeld2
  (try simp only [oq33_3_3, Act.put, List.setIfInBounds_toArray, List.set_cons_zero, List.set_cons_succ])
  refine AnyL_ready (rs := [4]) (by kernel_rfl) (by simp) ?_
  refine ReadyL.cons (o := oq33_3_4) rfl (fun K hK => ?_) ReadyL.nil
  delta oq33_3_4
  go_simp
  have hbs : w.heap.size ≤ V102.heap.size := WW.size
  have hc := plus_any A D4 _ _ c1 d4 a u1 V102 XA.num O4.num (by omega) (by omega)
  rw [← HV1.out] at hc
  refine hc.mono ?_
  clear hc
  rintro e V103 ⟨v, rfl, hv, hb⟩
  replace XA := XA.below hb
  replace XP := XP.below hb
  replace XB := XB.below hb
  replace XQ := XQ.below hb
  replace XR := XR.below hb
  replace Xi := Xi.below hb
  replace Xk := Xk.below hb
  replace O7 := O7.below hb (Nat.le_refl _)
  replace O8 := O8.below hb (Nat.le_refl _)
  replace O1 := O1.below hb (Nat.le_refl _)
  replace O2 := O2.below hb (Nat.le_refl _)
  replace O3 := O3.below hb (Nat.le_refl _)
  replace O4 := O4.below hb (Nat.le_refl _)
  replace WW := WW.trans (hb.mono WW.size)
  have sz103 := hb.size
  obtain ⟨D5, d5, rfl, ho⟩ := hv
  have O5 := ho.weak (b := w.heap.size) hbs
  clear ho
  clear hb hbs
  refine hK.out _ _ (⟨XA.cell, XP.cell, Xk.cell⟩) (fun hHeld2 => ?_)
  clear hK K hHeld
  have hHeld := hHeld2
  clear hHeld2
  (try simp only [oq33_3_4, Act.put, List.setIfInBounds_toArray, List.set_cons_zero, List.set_cons_succ])
  refine AnyL_ready (rs := [5]) (by kernel_rfl) (by simp) ?_
  refine ReadyL.cons (o := oq33_3_5) rfl (fun K hK => ?_) ReadyL.nil
  delta oq33_3_5
  have fz := XR.1.frozen 0
  have cz := XR.cell
  have lz := XR.lt
  go_simp
  have XAn := XA.far (p := ⟨w.heap.size + 1 + 1 + 1 + 1, 0, none⟩) XR.1 XR.2.2 (by simp <;> omega) (.slice D5 (nw v1) d5)
  have XPn := XP.far (p := ⟨w.heap.size + 1 + 1 + 1 + 1, 0, none⟩) XR.1 XR.2.2 (by simp <;> omega) (.slice D5 (nw v1) d5)
  have XBn := XB.far (p := ⟨w.heap.size + 1 + 1 + 1 + 1, 0, none⟩) XR.1 XR.2.2 (by simp <;> omega) (.slice D5 (nw v1) d5)
  have XQn := XQ.far (p := ⟨w.heap.size + 1 + 1 + 1 + 1, 0, none⟩) XR.1 XR.2.2 (by simp <;> omega) (.slice D5 (nw v1) d5)
  have Xin := Xi.far (p := ⟨w.heap.size + 1 + 1 + 1 + 1, 0, none⟩) XR.1 XR.2.2 (by simp <;> omega) (.slice D5 (nw v1) d5)
  have Xkn := Xk.far (p := ⟨w.heap.size + 1 + 1 + 1 + 1, 0, none⟩) XR.1 XR.2.2 (by simp <;> omega) (.slice D5 (nw v1) d5)
  have XRn := XR.set_ (A' := D5) (n' := (nw v1)) (c' := d5) (a' := v1) (.inr O5)
  have O7n := O7.box (p := ⟨w.heap.size + 1 + 1 + 1 + 1, 0, none⟩) XR.1 (by decide) (.slice D5 (nw v1) d5)
  have O8n := O8.box (p := ⟨w.heap.size + 1 + 1 + 1 + 1, 0, none⟩) XR.1 (by decide) (.slice D5 (nw v1) d5)
  have O1n := O1.box (p := ⟨w.heap.size + 1 + 1 + 1 + 1, 0, none⟩) XR.1 (by decide) (.slice D5 (nw v1) d5)
  have O2n := O2.box (p := ⟨w.heap.size + 1 + 1 + 1 + 1, 0, none⟩) XR.1 (by decide) (.slice D5 (nw v1) d5)
  have O3n := O3.box (p := ⟨w.heap.size + 1 + 1 + 1 + 1, 0, none⟩) XR.1 (by decide) (.slice D5 (nw v1) d5)
  have O4n := O4.box (p := ⟨w.heap.size + 1 + 1 + 1 + 1, 0, none⟩) XR.1 (by decide) (.slice D5 (nw v1) d5)
  have O5n := O5.box (p := ⟨w.heap.size + 1 + 1 + 1 + 1, 0, none⟩) XR.1 (by decide) (.slice D5 (nw v1) d5)
  have WWn := WW.setCell (p := ⟨w.heap.size + 1 + 1 + 1 + 1, 0, none⟩) (by simp <;> omega) (.slice D5 (nw v1) d5)
  refine hK.out _ _ (⟨XAn.cell, XPn.cell, Xkn.cell⟩) (fun hHeld2 => ?_)
  clear hK K hHeld
  (try simp only [oq33_3_5, Act.put, List.setIfInBounds_toArray, List.set_cons_zero, List.set_cons_succ])
  generalize hV : V103.setCell ⟨w.heap.size + 1 + 1 + 1 + 1, 0, none⟩ (.slice D5 (nw v1) d5) = V104 at hHeld2 WWn XAn XPn XBn XQn XRn Xin Xkn O7n O8n O1n O2n O3n O4n O5n ⊢
  clear hV fz cz lz WW XA XP XB XQ XR Xi Xk O7 O8 O1 O2 O3 O4 O5
  have WW := WWn
  have XA := XAn
  have XP := XPn
  have XB := XBn
  have XQ := XQn
  have XR := XRn
  have Xi := Xin
  have Xk := Xkn
  have O7 := O7n
  have O8 := O8n
  have O1 := O1n
  have O2 := O2n
  have O3 := O3n
  have O4 := O4n
  have O5 := O5n
  have hHeld := hHeld2
  clear hHeld2
  clear WWn XAn XPn XBn XQn XRn Xin Xkn O7n O8n O1n O2n O3n O4n O5n
  refine AnyL_done (by kernel_rfl) ?_ _
  clear hHeld
  have kXA := XA.cell
  have zXA := XA.lt
  have kXP := XP.cell
  have zXP := XP.lt
  have kXB := XB.cell
  have zXB := XB.lt
  have kXQ := XQ.cell
  have zXQ := XQ.lt
  have kXR := XR.cell
  have zXR := XR.lt
  have kXi := Xi.cell
  have zXi := Xi.lt
  have kXk := Xk.cell
  have zXk := Xk.lt
  go_wp2_with fail
  exact bodyPost_ret (v := .agg #[.slice D5 (nw v1) d5]) (by simp [results, Try.results33, go_sem, kXR, zXR]) rfl ⟨_, rfl, by rw [HRES.out]; exact ⟨D5, d5, rfl, O5⟩, WW⟩

end Go.Proofs.Ytckajjapockonaa
