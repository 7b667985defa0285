/- NatmodDivides: the walk. -/
import Derived.Test.YtckajjapockonaaLRemainders
set_option linter.unusedVariables false
set_option linter.unusedSimpArgs false
namespace Go.Proofs.Ytckajjapockonaa
open Go.RowKit

def oq9_19_0 : Oper := { dst := some 115, op := Op.move (Operand.tmp 15), type := 27, pos := "law.go:196", after := #[], guard := none }
def oq9_19_1 : Oper := { dst := some 116, op := Op.binOp BinOp.eql 27 (Operand.tmp 115) (Operand.const (Value.int IntKind.i64 0)) 27, type := 4, pos := "law.go:196", after := #[{ on := 0, ground := Ground.data }], guard := none }
def oq9_19_2 : Oper := { dst := some 117, op := Op.move (Operand.tmp 116), type := 4, pos := "law.go:196", after := #[{ on := 1, ground := Ground.data }], guard := none }
def oq9_19_3 : Oper := { dst := some 118, op := Op.load 24 (Operand.tmp 14), type := 24, pos := "law.go:196", after := #[{ on := 2, ground := Ground.guard }], guard := some (2, true) }
def oq9_19_4 : Oper := { dst := some 119, op := Op.call { callee := Callee.value (Operand.func 32), args := #[Operand.const (Value.int IntKind.u64 1)], argTypes := #[42] }, type := 24, pos := "law.go:196", after := #[{ on := 2, ground := Ground.chain }, { on := 2, ground := Ground.guard }], guard := some (2, true) }
def oq9_19_5 : Oper := { dst := some 120, op := Op.load 24 (Operand.tmp 3), type := 24, pos := "law.go:196", after := #[{ on := 2, ground := Ground.guard }], guard := some (2, true) }
def oq9_19_6 : Oper := { dst := some 121, op := Op.call { callee := Callee.value (Operand.func 41), args := #[Operand.tmp 119, Operand.tmp 120], argTypes := #[24, 24] }, type := 24, pos := "law.go:196", after := #[{ on := 4, ground := Ground.data }, { on := 5, ground := Ground.data }, { on := 4, ground := Ground.chain }, { on := 2, ground := Ground.guard }], guard := some (2, true) }
def oq9_19_7 : Oper := { dst := some 122, op := Op.call { callee := Callee.value (Operand.func 17), args := #[Operand.tmp 118, Operand.tmp 121], argTypes := #[24, 24] }, type := 4, pos := "law.go:196", after := #[{ on := 3, ground := Ground.data }, { on := 6, ground := Ground.data }, { on := 6, ground := Ground.chain }, { on := 2, ground := Ground.guard }], guard := some (2, true) }
def oq9_19_8 : Oper := { dst := some 123, op := Op.pick (Operand.tmp 117) (Operand.tmp 122) (Operand.const (Value.bool false)), type := 4, pos := "law.go:196", after := #[{ on := 2, ground := Ground.data }, { on := 7, ground := Ground.data }], guard := none }
def oq9_19_9 : Oper := { dst := some 4, op := Op.assign (Operand.tmp 123), type := 4, pos := "law.go:196", after := #[{ on := 8, ground := Ground.data }, { on := 7, ground := Ground.chain }, { on := 0, ground := Ground.phase }, { on := 1, ground := Ground.phase }, { on := 2, ground := Ground.phase }, { on := 3, ground := Ground.phase }, { on := 4, ground := Ground.phase }, { on := 5, ground := Ground.phase }, { on := 6, ground := Ground.phase }, { on := 7, ground := Ground.phase }, { on := 8, ground := Ground.phase }], guard := none }
theorem mod_eq_of_dvd {x b q : Nat} (h : (q : Int) ∣ (x : Int) - (b : Int)) : x % q = b % q := by
  have h2 : (x : Int) % (q : Int) = (b : Int) % (q : Int) := Int.emod_eq_emod_iff_emod_sub_eq_zero.2 (Int.emod_eq_zero_of_dvd h)
  have h3 : ((x % q : Nat) : Int) = ((b % q : Nat) : Int) := by rw [Int.natCast_emod, Int.natCast_emod]; exact h2
  exact Int.ofNat.inj h3
theorem inv_one {a m : Nat} (hm : 0 < m) (hg : Nat.gcd a m = 1) : a * invN a m % m = 1 % m := by
  have hex := inv_exists hm hg
  have h : (m : Int) ∣ (a : Int) * (invN a m : Int) - 1 := by
    unfold invN; classical
    rw [dif_pos hex]; exact (Classical.choose_spec hex).2
  exact mod_eq_of_dvd (x := a * invN a m) (b := 1) (by rw [Int.natCast_mul]; exact h)
theorem mod_gcd_left (a m : Nat) : a % Nat.gcd a m = 0 := Nat.mod_eq_zero_of_dvd (Nat.gcd_dvd_left a m)
theorem mod_gcd_right (a m : Nat) : m % Nat.gcd a m = 0 := Nat.mod_eq_zero_of_dvd (Nat.gcd_dvd_right a m)
set_option maxHeartbeats 16000000 in
set_option maxRecDepth 100000 in
theorem divl_far1 (A B' : Option Addr) (n k c d a b : Nat) (w : World) (hA : Num w w.heap.size A n a) (hB : Num w w.heap.size B' k b) (hn : n ≤ 9223372036854775807) (hk : k ≤ 9223372036854775807) (hg : ¬ (n ≤ 32 ∧ k ≤ 32)) :
    Calls Try.prog 9 #[.agg #[.slice A n c], .agg #[.slice B' k d]] w (RetB (.bool true) w) := by
  have HG : Hid (decide (n ≤ 32 ∧ k ≤ 32) = false) := decide_eq_false hg
  have z0 : (((nw 0 : Nat) : Int) == 0) = true := rfl
  have z00 : (((nw 0 : Nat) : Int) != 0) = false := rfl
  clear hg
  obtain ⟨b0, b1, bw⟩ := boxes2 w (.slice A n c) (.slice B' k d)
  have XA := VB.mk (B := w.heap.size) (a := a) b0 (.inl hA) bw (Nat.le_refl _) (by omega)
  have XB := VB.mk (B := w.heap.size) (a := b) b1 (.inl hB) bw (Nat.le_refl _) (by omega)
  have WW := bw
  clear bw b0 b1
  go_enter Try.func9, Try.ntmps9
  go_wp2_with fail
  generalize hV : ((w.alloc (.cells #[.slice A n c] 24)).alloc (.cells #[.slice B' k d] 24)) = V0 at XA XB WW ⊢
  clear hV
  have hbs : w.heap.size ≤ V0.heap.size := WW.size
  have hc := awake_any V0
  refine hc.mono ?_
  clear hc
  rintro e V1 ⟨rfl, hb⟩
  replace XA := XA.below hb
  replace XB := XB.below hb
  replace WW := WW.trans (hb.mono WW.size)
  have kXA := XA.cell
  have zXA := XA.lt
  have kXB := XB.cell
  have zXB := XB.lt
  clear hb hbs
  go_wp2_with fail
  have hbs : w.heap.size ≤ V1.heap.size := WW.size
  have hc := few_n2 32 (by omega) V1 A B' n k c d (by omega) (by omega)
  rw [HG.out] at hc
  refine hc.mono ?_
  clear hc
  rintro e V2 ⟨rfl, hb⟩
  clear kXA zXA kXB zXB
  replace XA := XA.below hb
  replace XB := XB.below hb
  replace WW := WW.trans (hb.mono WW.size)
  have kXA := XA.cell
  have zXA := XA.lt
  have kXB := XB.cell
  have zXB := XB.lt
  clear hb hbs
  go_wp2_with fail
  have hbs : w.heap.size ≤ V2.heap.size := WW.size
  have hc := awake_any V2
  refine hc.mono ?_
  clear hc
  rintro e V3 ⟨rfl, hb⟩
  clear kXA zXA kXB zXB
  replace XA := XA.below hb
  replace XB := XB.below hb
  replace WW := WW.trans (hb.mono WW.size)
  have kXA := XA.cell
  have zXA := XA.lt
  have kXB := XB.cell
  have zXB := XB.lt
  clear hb hbs
  go_wp2_with fail
  go_ret
  exact ⟨rfl, WW⟩

set_option maxHeartbeats 16000000 in
set_option maxRecDepth 100000 in
theorem divl_far2 (A B' : Option Addr) (n k c d a b : Nat) (w : World) (hA : Num w w.heap.size A n a) (hB : Num w w.heap.size B' k b) (hn : n ≤ 9223372036854775807) (hk : k ≤ 9223372036854775807) (hg : n ≤ 32 ∧ k ≤ 32) (h0 : ¬ chkS n a 0 0 k b = 0) :
    Calls Try.prog 9 #[.agg #[.slice A n c], .agg #[.slice B' k d]] w (RetB (.bool true) w) := by
  have HG : Hid (decide (n ≤ 32 ∧ k ≤ 32) = true) := decide_eq_true hg
  have z0 : (((nw 0 : Nat) : Int) == 0) = true := rfl
  have z00 : (((nw 0 : Nat) : Int) != 0) = false := rfl
  obtain ⟨e0, he0⟩ : ∃ x, chkS n a 0 0 k b = x := ⟨_, rfl⟩
  have HC := hid he0
  rw [he0] at h0
  have z1 : (e0 != 0) = true := by simpa using h0
  clear he0 h0
  clear hg
  obtain ⟨b0, b1, bw⟩ := boxes2 w (.slice A n c) (.slice B' k d)
  have XA := VB.mk (B := w.heap.size) (a := a) b0 (.inl hA) bw (Nat.le_refl _) (by omega)
  have XB := VB.mk (B := w.heap.size) (a := b) b1 (.inl hB) bw (Nat.le_refl _) (by omega)
  have WW := bw
  clear bw b0 b1
  go_enter Try.func9, Try.ntmps9
  go_wp2_with fail
  generalize hV : ((w.alloc (.cells #[.slice A n c] 24)).alloc (.cells #[.slice B' k d] 24)) = V0 at XA XB WW ⊢
  clear hV
  have hbs : w.heap.size ≤ V0.heap.size := WW.size
  have hc := awake_any V0
  refine hc.mono ?_
  clear hc
  rintro e V1 ⟨rfl, hb⟩
  replace XA := XA.below hb
  replace XB := XB.below hb
  replace WW := WW.trans (hb.mono WW.size)
  have kXA := XA.cell
  have zXA := XA.lt
  have kXB := XB.cell
  have zXB := XB.lt
  clear hb hbs
  go_wp2_with fail
  have hbs : w.heap.size ≤ V1.heap.size := WW.size
  have hc := few_n2 32 (by omega) V1 A B' n k c d (by omega) (by omega)
  rw [HG.out] at hc
  refine hc.mono ?_
  clear hc
  rintro e V2 ⟨rfl, hb⟩
  clear kXA zXA kXB zXB
  replace XA := XA.below hb
  replace XB := XB.below hb
  replace WW := WW.trans (hb.mono WW.size)
  have kXA := XA.cell
  have zXA := XA.lt
  have kXB := XB.cell
  have zXB := XB.lt
  clear hb hbs
  go_wp2_with fail
  have hbs : w.heap.size ≤ V2.heap.size := WW.size
  have hc := first_a1 V2 A _ c a _ b d B' XA.num XB.num (by omega) (by omega)
  rw [HC.out] at hc
  refine hc.mono ?_
  clear hc
  rintro e V3 ⟨rfl, hb⟩
  clear kXA zXA kXB zXB
  replace XA := XA.below hb
  replace XB := XB.below hb
  replace WW := WW.trans (hb.mono WW.size)
  have kXA := XA.cell
  have zXA := XA.lt
  have kXB := XB.cell
  have zXB := XB.lt
  clear hb hbs
  go_wp2_with fail
  have hbs : w.heap.size ≤ V3.heap.size := WW.size
  have hc := awake_any V3
  refine hc.mono ?_
  clear hc
  rintro e V4 ⟨rfl, hb⟩
  clear kXA zXA kXB zXB
  replace XA := XA.below hb
  replace XB := XB.below hb
  replace WW := WW.trans (hb.mono WW.size)
  have kXA := XA.cell
  have zXA := XA.lt
  have kXB := XB.cell
  have zXB := XB.lt
  clear hb hbs
  go_wp2_with fail
  go_ret
  exact ⟨rfl, WW⟩

set_option maxHeartbeats 16000000 in
set_option maxRecDepth 100000 in
theorem divl_z (A B' : Option Addr) (n k c d a b : Nat) (w : World) (hA : Num w w.heap.size A n a) (hB : Num w w.heap.size B' k b) (hn : n ≤ 9223372036854775807) (hk : k ≤ 9223372036854775807) (hg : n ≤ 32 ∧ k ≤ 32) (h0 : chkS n a 0 0 k b = 0) (h3 : ¬ Nat.gcd a b = 1) :
    Calls Try.prog 9 #[.agg #[.slice A n c], .agg #[.slice B' k d]] w (RetB (.bool true) w) := by
  have HG : Hid (decide (n ≤ 32 ∧ k ≤ 32) = true) := decide_eq_true hg
  have z0 : (((nw 0 : Nat) : Int) == 0) = true := rfl
  have z00 : (((nw 0 : Nat) : Int) != 0) = false := rfl
  have HC := hid h0
  obtain ⟨hna, -, hkb, hm1, hm0, ha, -⟩ := chk0 h0
  subst hna hkb
  have na : nw a ≤ 32 := Nat.le_trans (nw_mono (Nat.le_of_lt ha)) hm1
  have K1 := hid (okB_nw (Nat.le_trans na (show 32 ≤ 64 by omega)))
  have K2 := hid (okB_nw (Nat.le_trans hm1 (show 32 ≤ 64 by omega)))
  obtain ⟨x, hx⟩ : ∃ z, z = Nat.gcd a b := ⟨_, rfl⟩
  have HX := hid hx
  have hx0 : 0 < x := by rw [hx]; exact Nat.gcd_pos_of_pos_right a hm0
  have nx : nw x ≤ 32 := Nat.le_trans (nw_mono (by rw [hx]; exact Nat.le_of_dvd hm0 (Nat.gcd_dvd_right a b))) hm1
  have HV : Hid (gcdV (nw a) a (nw b) b = (x, 0)) := (show gcdV (nw a) a (nw b) b = (x, 0) by unfold gcdV; rw [K1.out, K2.out, hx]; rfl)
  have K3 := hid (okB_nw (Nat.le_trans nx (show 32 ≤ 64 by omega)))
  have nx0 := nw_pos (show x ≠ 0 by omega)
  have z9 : (((nw x : Nat) : Int) == 0) = false := by simp; omega
  have GT : Hid (decide (x = 1) = false) := decide_eq_false (by rw [hx]; exact h3)
  obtain ⟨u1, hu1⟩ : ∃ z, z = a / x := ⟨_, rfl⟩
  have HU1 := hid hu1
  have HD1 : Hid (divS a x = (u1, 0, 0)) := (show divS a x = (u1, 0, 0) by rw [divS_yes (show ¬ x = 0 by omega), hu1, show a % x = 0 by rw [hx]; exact mod_gcd_left a b])
  obtain ⟨u2, hu2⟩ : ∃ z, z = b / x := ⟨_, rfl⟩
  have HU2 := hid hu2
  have HD2 : Hid (divS b x = (u2, 0, 0)) := (show divS b x = (u2, 0, 0) by rw [divS_yes (show ¬ x = 0 by omega), hu2, show b % x = 0 by rw [hx]; exact mod_gcd_right a b])
  have HI : Hid (invS (chkS (nw a) a 0 0 (nw b) b) a b = (0, 10)) := (show _ = (0, 10) by unfold invS; rw [if_pos h0, if_neg h3])
  clear h0 h3 hx hu1 hu2 ha hx0 hm0
  clear hg
  obtain ⟨b0, b1, bw⟩ := boxes2 w (.slice A (nw a) c) (.slice B' (nw b) d)
  have XA := VB.mk (B := w.heap.size) (a := a) b0 (.inl hA) bw (Nat.le_refl _) (by omega)
  have XB := VB.mk (B := w.heap.size) (a := b) b1 (.inl hB) bw (Nat.le_refl _) (by omega)
  have WW := bw
  clear bw b0 b1
  go_enter Try.func9, Try.ntmps9
  go_wp2_with fail
  generalize hV : ((w.alloc (.cells #[.slice A (nw a) c] 24)).alloc (.cells #[.slice B' (nw b) d] 24)) = V0 at XA XB WW ⊢
  clear hV
  have hbs : w.heap.size ≤ V0.heap.size := WW.size
  have hc := awake_any V0
  refine hc.mono ?_
  clear hc
  rintro e V1 ⟨rfl, hb⟩
  replace XA := XA.below hb
  replace XB := XB.below hb
  replace WW := WW.trans (hb.mono WW.size)
  have kXA := XA.cell
  have zXA := XA.lt
  have kXB := XB.cell
  have zXB := XB.lt
  clear hb hbs
  go_wp2_with fail
  have hbs : w.heap.size ≤ V1.heap.size := WW.size
  have hc := few_n2 32 (by omega) V1 A B' (nw a) (nw b) c d (by omega) (by omega)
  rw [HG.out] at hc
  refine hc.mono ?_
  clear hc
  rintro e V2 ⟨rfl, hb⟩
  clear kXA zXA kXB zXB
  replace XA := XA.below hb
  replace XB := XB.below hb
  replace WW := WW.trans (hb.mono WW.size)
  have kXA := XA.cell
  have zXA := XA.lt
  have kXB := XB.cell
  have zXB := XB.lt
  clear hb hbs
  go_wp2_with fail
  have hbs : w.heap.size ≤ V2.heap.size := WW.size
  have hc := first_a1 V2 A _ c a _ b d B' XA.num XB.num (by omega) (by omega)
  rw [HC.out] at hc
  refine hc.mono ?_
  clear hc
  rintro e V3 ⟨rfl, hb⟩
  clear kXA zXA kXB zXB
  replace XA := XA.below hb
  replace XB := XB.below hb
  replace WW := WW.trans (hb.mono WW.size)
  have kXA := XA.cell
  have zXA := XA.lt
  have kXB := XB.cell
  have zXB := XB.lt
  clear hb hbs
  go_wp2_with fail
  have hbs : w.heap.size ≤ V3.heap.size := WW.size
  have hc := ngcd_any A B' _ _ c d a b V3 XA.num XB.num (by omega) (by omega)
  rw [HV.out] at hc
  refine hc.mono ?_
  clear hc
  rintro e V4 ⟨v, rfl, hv, hb⟩
  clear kXA zXA kXB zXB
  replace XA := XA.below hb
  replace XB := XB.below hb
  replace WW := WW.trans (hb.mono WW.size)
  obtain ⟨D1, d1, rfl, ho⟩ := hv
  have O1 := ho.weak (b := w.heap.size) hbs
  clear ho
  have kXA := XA.cell
  have zXA := XA.lt
  have kXB := XB.cell
  have zXB := XB.lt
  clear hb hbs
  go_wp2_with fail
  obtain ⟨b0, bw⟩ := boxes1 V4 (.slice D1 (nw x) d1)
  have hbs := WW.size
  clear kXA zXA kXB zXB
  have qXB5 := XB.lt
  have X1 := VB.mk (B := w.heap.size) (a := x) b0 (.inr O1) bw hbs (by omega)
  replace XA := XA.below bw
  replace XB := XB.below bw
  replace O1 := O1.below bw (Nat.le_refl _)
  replace WW := WW.trans (bw.mono WW.size)
  clear bw hbs b0
  generalize hV : (V4.alloc (.cells #[.slice D1 (nw x) d1] 24)) = V5 at XA XB X1 O1 WW ⊢
  clear hV
  have kXA := XA.cell
  have zXA := XA.lt
  have kXB := XB.cell
  have zXB := XB.lt
  have kX1 := X1.cell
  have zX1 := X1.lt
  have hbs : w.heap.size ≤ V5.heap.size := WW.size
  have hc := inverse_any A B' _ _ c d a b V5 XA.num XB.num (by omega) (by omega)
  rw [HI.out] at hc
  refine hc.mono ?_
  clear hc
  rintro e V6 ⟨v, rfl, hv, hb⟩
  clear kXA zXA kXB zXB kX1 zX1
  replace XA := XA.below hb
  replace XB := XB.below hb
  replace X1 := X1.below hb
  replace O1 := O1.below hb (Nat.le_refl _)
  replace WW := WW.trans (hb.mono WW.size)
  obtain ⟨D2, d2, rfl, ho⟩ := hv
  have O2 := ho.weak (b := w.heap.size) hbs
  clear ho
  have kXA := XA.cell
  have zXA := XA.lt
  have kXB := XB.cell
  have zXB := XB.lt
  have kX1 := X1.cell
  have zX1 := X1.lt
  clear hb hbs
  go_wp2_with fail
  obtain ⟨b0, bw⟩ := boxes1 V6 (.slice D2 (nw 0) d2)
  have hbs := WW.size
  clear kXA zXA kXB zXB kX1 zX1
  have qX17 := X1.lt
  have qXB7 := XB.lt
  have X2 := VB.mk (B := w.heap.size) (a := 0) b0 (.inr O2) bw hbs (by omega)
  replace XA := XA.below bw
  replace XB := XB.below bw
  replace X1 := X1.below bw
  replace O1 := O1.below bw (Nat.le_refl _)
  replace O2 := O2.below bw (Nat.le_refl _)
  replace WW := WW.trans (bw.mono WW.size)
  clear bw hbs b0
  generalize hV : (V6.alloc (.cells #[.slice D2 (nw 0) d2] 24)) = V7 at XA XB X1 X2 O1 O2 WW ⊢
  clear hV
  have kXA := XA.cell
  have zXA := XA.lt
  have kXB := XB.cell
  have zXB := XB.lt
  have kX1 := X1.cell
  have zX1 := X1.lt
  have kX2 := X2.cell
  have zX2 := X2.lt
  have hbs : w.heap.size ≤ V7.heap.size := WW.size
  have hc := rvalid_any D1 _ d1 x _ V7 X1.num (Nat.le_refl _) (by omega)
  rw [K3.out] at hc
  refine hc.mono ?_
  clear hc
  rintro e V8 ⟨rfl, hb⟩
  clear kXA zXA kXB zXB kX1 zX1 kX2 zX2
  replace XA := XA.below hb
  replace XB := XB.below hb
  replace X1 := X1.below hb
  replace X2 := X2.below hb
  replace O1 := O1.below hb (Nat.le_refl _)
  replace O2 := O2.below hb (Nat.le_refl _)
  replace WW := WW.trans (hb.mono WW.size)
  have kXA := XA.cell
  have zXA := XA.lt
  have kXB := XB.cell
  have zXB := XB.lt
  have kX1 := X1.cell
  have zX1 := X1.lt
  have kX2 := X2.cell
  have zX2 := X2.lt
  clear hb hbs
  go_wp2_with fail
  clear kXA zXA kXB zXB kX1 zX1 kX2 zX2
  have qX19 := X1.lt
  have qX29 := X2.lt
  have qXB9 := XB.lt
  have bw := (Below.refl V8.heap.size V8).alloc (Nat.le_refl _) (.cells #[.slice A (nw a) c, .slice B' (nw b) d] 24)
  have XL := Blk.new V8 24 #[.slice A (nw a) c, .slice B' (nw b) d]
  replace XA := XA.below bw
  replace XB := XB.below bw
  replace X1 := X1.below bw
  replace X2 := X2.below bw
  replace O1 := O1.below bw (Nat.le_refl _)
  replace O2 := O2.below bw (Nat.le_refl _)
  replace WW := WW.trans (bw.mono WW.size)
  clear bw
  generalize hV : V8.alloc (.cells #[.slice A (nw a) c, .slice B' (nw b) d] 24) = V9 at XA XB X1 X2 O1 O2 XL WW ⊢
  clear hV
  have kXA := XA.cell
  have zXA := XA.lt
  have kXB := XB.cell
  have zXB := XB.lt
  have kX1 := X1.cell
  have zX1 := X1.lt
  have kX2 := X2.cell
  have zX2 := X2.lt
  have kXL0 := (XL.cell 0).trans rfl
  have kXL1 := (XL.cell 1).trans rfl
  have zXL := XL.lt
  go_loopw [62] (fun i wr => ∃ (k : Nat), k ≤ 2 ∧ i = .int .i64 k ∧ Below w.heap.size w wr ∧ VB w.heap.size wr (w.heap.size) A (nw a) c a ∧ VB w.heap.size wr (w.heap.size + 1) B' (nw b) d b ∧ VB w.heap.size wr (V4.heap.size) D1 (nw x) d1 x ∧ VB w.heap.size wr (V6.heap.size) D2 (nw 0) d2 0 ∧ Blk wr (V8.heap.size) 24 #[.slice A (nw a) c, .slice B' (nw b) d]) (fun i wr => 2 - (intOf i).toNat)
  case atStart => exact ⟨0, by omega, rfl, WW, XA, XB, X1, X2, XL⟩
  case round =>
    clear WW kXA zXA kXB zXB kX1 zX1 kX2 zX2 kXL0 kXL1 zXL XA XB X1 X2 XL
    obtain ⟨k, hk, rfl, WW, XA, XB, X1, X2, XL⟩ := hrel
    have kXA := XA.cell
    have zXA := XA.lt
    have kXB := XB.cell
    have zXB := XB.lt
    have kX1 := X1.cell
    have zX1 := X1.lt
    have kX2 := X2.cell
    have zX2 := X2.lt
    have kXL0 := (XL.cell 0).trans rfl
    have kXL1 := (XL.cell 1).trans rfl
    have zXL := XL.lt
    by_cases h0 : k = 2
    · subst h0
      go_wp2_with fail
      have hbs : w.heap.size ≤ wr.heap.size := WW.size
      have hc := equal_one wr D1 _ d1 x X1.num (by omega)
      rw [sameB_one] at hc
      rw [GT.out] at hc
      refine hc.mono ?_
      clear hc
      rintro e V10 ⟨rfl, hb⟩
      clear kXA zXA kXB zXB kX1 zX1 kX2 zX2 kXL0 kXL1 zXL
      replace XA := XA.below hb
      replace XB := XB.below hb
      replace X1 := X1.below hb
      replace X2 := X2.below hb
      replace XL := XL.below hb XL.lt
      replace WW := WW.trans (hb.mono WW.size)
      have kXA := XA.cell
      have zXA := XA.lt
      have kXB := XB.cell
      have zXB := XB.lt
      have kX1 := X1.cell
      have zX1 := X1.lt
      have kX2 := X2.cell
      have zX2 := X2.lt
      have kXL0 := (XL.cell 0).trans rfl
      have kXL1 := (XL.cell 1).trans rfl
      have zXL := XL.lt
      clear hb hbs
      go_wp2_with fail
      go_ret
      exact ⟨rfl, WW⟩
    · have h01 : k = 0 ∨ k = 1 := by omega
      rcases h01 with rfl | rfl
      · clear h0 hk
        go_wp2_with fail
        obtain ⟨b0, bw⟩ := boxes1 wr (.slice A (nw a) c)
        have hbs := WW.size
        clear kXA zXA kXB zXB kX1 zX1 kX2 zX2 kXL0 kXL1 zXL
        have qX110 := X1.lt
        have qX210 := X2.lt
        have qXB10 := XB.lt
        have qXL10 := XL.lt
        have Xn := VB.mk (B := w.heap.size) (a := a) b0 (XA.2.1) bw hbs (by omega)
        replace XA := XA.below bw
        replace XB := XB.below bw
        replace X1 := X1.below bw
        replace X2 := X2.below bw
        replace XL := XL.below bw XL.lt
        replace WW := WW.trans (bw.mono WW.size)
        clear bw hbs b0
        generalize hV : (wr.alloc (.cells #[.slice A (nw a) c] 24)) = V10 at XA XB X1 X2 Xn XL WW ⊢
        clear hV
        have kXA := XA.cell
        have zXA := XA.lt
        have kXB := XB.cell
        have zXB := XB.lt
        have kX1 := X1.cell
        have zX1 := X1.lt
        have kX2 := X2.cell
        have zX2 := X2.lt
        have kXn := Xn.cell
        have zXn := Xn.lt
        have kXL0 := (XL.cell 0).trans rfl
        have kXL1 := (XL.cell 1).trans rfl
        have zXL := XL.lt
        have hbs : w.heap.size ≤ V10.heap.size := WW.size
        have hc := div_any A D1 _ _ c d1 a x V10 Xn.num X1.num (by omega) (by omega)
        rw [bothD_yes K1.out K3.out] at hc
        rw [HD1.out] at hc
        refine hc.mono ?_
        clear hc
        rintro e V11 ⟨v, u', rfl, hv, hu, hb⟩
        clear kXA zXA kXB zXB kX1 zX1 kX2 zX2 kXn zXn kXL0 kXL1 zXL
        replace XA := XA.below hb
        replace XB := XB.below hb
        replace X1 := X1.below hb
        replace X2 := X2.below hb
        replace Xn := Xn.below hb
        replace XL := XL.below hb XL.lt
        replace WW := WW.trans (hb.mono WW.size)
        obtain ⟨D10, d10, rfl, ho⟩ := hv
        have O10 := ho.weak (b := w.heap.size) hbs
        obtain ⟨D11, d11, rfl, ho'⟩ := hu
        have O11 := ho'.weak (b := w.heap.size) hbs
        clear ho ho'
        have kXA := XA.cell
        have zXA := XA.lt
        have kXB := XB.cell
        have zXB := XB.lt
        have kX1 := X1.cell
        have zX1 := X1.lt
        have kX2 := X2.cell
        have zX2 := X2.lt
        have kXn := Xn.cell
        have zXn := Xn.lt
        have kXL0 := (XL.cell 0).trans rfl
        have kXL1 := (XL.cell 1).trans rfl
        have zXL := XL.lt
        clear hb hbs
        go_wp2_with fail
        obtain ⟨b0, b1, bw⟩ := boxes2 V11 (.slice D10 (nw u1) d10) (.slice D11 (nw 0) d11)
        have hbs := WW.size
        clear kXA zXA kXB zXB kX1 zX1 kX2 zX2 kXn zXn kXL0 kXL1 zXL
        have qX112 := X1.lt
        have qX212 := X2.lt
        have qXn12 := Xn.lt
        have qXB12 := XB.lt
        have qXL12 := XL.lt
        have Xq := VB.mk (B := w.heap.size) (a := u1) b0 (.inr O10) bw hbs (by omega)
        have Xr := VB.mk (B := w.heap.size) (a := 0) b1 (.inr O11) bw hbs (by omega)
        replace XA := XA.below bw
        replace XB := XB.below bw
        replace X1 := X1.below bw
        replace X2 := X2.below bw
        replace Xn := Xn.below bw
        replace O10 := O10.below bw (Nat.le_refl _)
        replace O11 := O11.below bw (Nat.le_refl _)
        replace XL := XL.below bw XL.lt
        replace WW := WW.trans (bw.mono WW.size)
        clear bw hbs b0 b1
        generalize hV : ((V11.alloc (.cells #[.slice D10 (nw u1) d10] 24)).alloc (.cells #[.slice D11 (nw 0) d11] 24)) = V12 at XA XB X1 X2 Xn Xq Xr O10 O11 XL WW ⊢
        clear hV
        have kXA := XA.cell
        have zXA := XA.lt
        have kXB := XB.cell
        have zXB := XB.lt
        have kX1 := X1.cell
        have zX1 := X1.lt
        have kX2 := X2.cell
        have zX2 := X2.lt
        have kXn := Xn.cell
        have zXn := Xn.lt
        have kXq := Xq.cell
        have zXq := Xq.lt
        have kXr := Xr.cell
        have zXr := Xr.lt
        have kXL0 := (XL.cell 0).trans rfl
        have kXL1 := (XL.cell 1).trans rfl
        have zXL := XL.lt
        go_roundw
        case rel => exact ⟨1, by omega, by go_num, WW, XA, XB, X1, X2, XL⟩
        case measure => simp [intOf] <;> omega
      · clear h0 hk
        go_wp2_with fail
        obtain ⟨b0, bw⟩ := boxes1 wr (.slice B' (nw b) d)
        have hbs := WW.size
        clear kXA zXA kXB zXB kX1 zX1 kX2 zX2 kXL0 kXL1 zXL
        have qX110 := X1.lt
        have qX210 := X2.lt
        have qXB10 := XB.lt
        have qXL10 := XL.lt
        have Xn := VB.mk (B := w.heap.size) (a := b) b0 (XB.2.1) bw hbs (by omega)
        replace XA := XA.below bw
        replace XB := XB.below bw
        replace X1 := X1.below bw
        replace X2 := X2.below bw
        replace XL := XL.below bw XL.lt
        replace WW := WW.trans (bw.mono WW.size)
        clear bw hbs b0
        generalize hV : (wr.alloc (.cells #[.slice B' (nw b) d] 24)) = V10 at XA XB X1 X2 Xn XL WW ⊢
        clear hV
        have kXA := XA.cell
        have zXA := XA.lt
        have kXB := XB.cell
        have zXB := XB.lt
        have kX1 := X1.cell
        have zX1 := X1.lt
        have kX2 := X2.cell
        have zX2 := X2.lt
        have kXn := Xn.cell
        have zXn := Xn.lt
        have kXL0 := (XL.cell 0).trans rfl
        have kXL1 := (XL.cell 1).trans rfl
        have zXL := XL.lt
        have hbs : w.heap.size ≤ V10.heap.size := WW.size
        have hc := div_any B' D1 _ _ d d1 b x V10 Xn.num X1.num (by omega) (by omega)
        rw [bothD_yes K2.out K3.out] at hc
        rw [HD2.out] at hc
        refine hc.mono ?_
        clear hc
        rintro e V11 ⟨v, u', rfl, hv, hu, hb⟩
        clear kXA zXA kXB zXB kX1 zX1 kX2 zX2 kXn zXn kXL0 kXL1 zXL
        replace XA := XA.below hb
        replace XB := XB.below hb
        replace X1 := X1.below hb
        replace X2 := X2.below hb
        replace Xn := Xn.below hb
        replace XL := XL.below hb XL.lt
        replace WW := WW.trans (hb.mono WW.size)
        obtain ⟨D10, d10, rfl, ho⟩ := hv
        have O10 := ho.weak (b := w.heap.size) hbs
        obtain ⟨D11, d11, rfl, ho'⟩ := hu
        have O11 := ho'.weak (b := w.heap.size) hbs
        clear ho ho'
        have kXA := XA.cell
        have zXA := XA.lt
        have kXB := XB.cell
        have zXB := XB.lt
        have kX1 := X1.cell
        have zX1 := X1.lt
        have kX2 := X2.cell
        have zX2 := X2.lt
        have kXn := Xn.cell
        have zXn := Xn.lt
        have kXL0 := (XL.cell 0).trans rfl
        have kXL1 := (XL.cell 1).trans rfl
        have zXL := XL.lt
        clear hb hbs
        go_wp2_with fail
        obtain ⟨b0, b1, bw⟩ := boxes2 V11 (.slice D10 (nw u2) d10) (.slice D11 (nw 0) d11)
        have hbs := WW.size
        clear kXA zXA kXB zXB kX1 zX1 kX2 zX2 kXn zXn kXL0 kXL1 zXL
        have qX112 := X1.lt
        have qX212 := X2.lt
        have qXn12 := Xn.lt
        have qXB12 := XB.lt
        have qXL12 := XL.lt
        have Xq := VB.mk (B := w.heap.size) (a := u2) b0 (.inr O10) bw hbs (by omega)
        have Xr := VB.mk (B := w.heap.size) (a := 0) b1 (.inr O11) bw hbs (by omega)
        replace XA := XA.below bw
        replace XB := XB.below bw
        replace X1 := X1.below bw
        replace X2 := X2.below bw
        replace Xn := Xn.below bw
        replace O10 := O10.below bw (Nat.le_refl _)
        replace O11 := O11.below bw (Nat.le_refl _)
        replace XL := XL.below bw XL.lt
        replace WW := WW.trans (bw.mono WW.size)
        clear bw hbs b0 b1
        generalize hV : ((V11.alloc (.cells #[.slice D10 (nw u2) d10] 24)).alloc (.cells #[.slice D11 (nw 0) d11] 24)) = V12 at XA XB X1 X2 Xn Xq Xr O10 O11 XL WW ⊢
        clear hV
        have kXA := XA.cell
        have zXA := XA.lt
        have kXB := XB.cell
        have zXB := XB.lt
        have kX1 := X1.cell
        have zX1 := X1.lt
        have kX2 := X2.cell
        have zX2 := X2.lt
        have kXn := Xn.cell
        have zXn := Xn.lt
        have kXq := Xq.cell
        have zXq := Xq.lt
        have kXr := Xr.cell
        have zXr := Xr.lt
        have kXL0 := (XL.cell 0).trans rfl
        have kXL1 := (XL.cell 1).trans rfl
        have zXL := XL.lt
        go_roundw
        case rel => exact ⟨2, by omega, by go_num, WW, XA, XB, X1, X2, XL⟩
        case measure => simp [intOf] <;> omega

set_option maxHeartbeats 16000000 in
set_option maxRecDepth 100000 in
theorem divl_ok (A B' : Option Addr) (n k c d a b : Nat) (w : World) (hA : Num w w.heap.size A n a) (hB : Num w w.heap.size B' k b) (hn : n ≤ 9223372036854775807) (hk : k ≤ 9223372036854775807) (hg : n ≤ 32 ∧ k ≤ 32) (h0 : chkS n a 0 0 k b = 0) (h3 : Nat.gcd a b = 1) :
    Calls Try.prog 9 #[.agg #[.slice A n c], .agg #[.slice B' k d]] w (RetB (.bool true) w) := by
  have HG : Hid (decide (n ≤ 32 ∧ k ≤ 32) = true) := decide_eq_true hg
  have z0 : (((nw 0 : Nat) : Int) == 0) = true := rfl
  have z00 : (((nw 0 : Nat) : Int) != 0) = false := rfl
  have HC := hid h0
  obtain ⟨hna, -, hkb, hm1, hm0, ha, -⟩ := chk0 h0
  subst hna hkb
  have na : nw a ≤ 32 := Nat.le_trans (nw_mono (Nat.le_of_lt ha)) hm1
  have K1 := hid (okB_nw (Nat.le_trans na (show 32 ≤ 64 by omega)))
  have K2 := hid (okB_nw (Nat.le_trans hm1 (show 32 ≤ 64 by omega)))
  obtain ⟨x, hx⟩ : ∃ z, z = Nat.gcd a b := ⟨_, rfl⟩
  have HX := hid hx
  have hx0 : 0 < x := by rw [hx]; exact Nat.gcd_pos_of_pos_right a hm0
  have nx : nw x ≤ 32 := Nat.le_trans (nw_mono (by rw [hx]; exact Nat.le_of_dvd hm0 (Nat.gcd_dvd_right a b))) hm1
  have HV : Hid (gcdV (nw a) a (nw b) b = (x, 0)) := (show gcdV (nw a) a (nw b) b = (x, 0) by unfold gcdV; rw [K1.out, K2.out, hx]; rfl)
  have K3 := hid (okB_nw (Nat.le_trans nx (show 32 ≤ 64 by omega)))
  have nx0 := nw_pos (show x ≠ 0 by omega)
  have z9 : (((nw x : Nat) : Int) == 0) = false := by simp; omega
  have GT : Hid (decide (x = 1) = true) := decide_eq_true (by rw [hx]; exact h3)
  obtain ⟨u1, hu1⟩ : ∃ z, z = a / x := ⟨_, rfl⟩
  have HU1 := hid hu1
  have HD1 : Hid (divS a x = (u1, 0, 0)) := (show divS a x = (u1, 0, 0) by rw [divS_yes (show ¬ x = 0 by omega), hu1, show a % x = 0 by rw [hx]; exact mod_gcd_left a b])
  obtain ⟨u2, hu2⟩ : ∃ z, z = b / x := ⟨_, rfl⟩
  have HU2 := hid hu2
  have HD2 : Hid (divS b x = (u2, 0, 0)) := (show divS b x = (u2, 0, 0) by rw [divS_yes (show ¬ x = 0 by omega), hu2, show b % x = 0 by rw [hx]; exact mod_gcd_right a b])
  obtain ⟨y, hy⟩ : ∃ z, z = invN a b := ⟨_, rfl⟩
  have HY := hid hy
  have HI : Hid (invS (chkS (nw a) a 0 0 (nw b) b) a b = (y, 0)) := (show _ = (y, 0) by unfold invS; rw [if_pos h0, if_pos h3, hy])
  have hyb : y < b := by rw [hy]; exact invN_lt hm0
  have ny : nw y ≤ 32 := Nat.le_trans (nw_mono (Nat.le_of_lt hyb)) hm1
  have K4 := hid (okB_nw (Nat.le_trans ny (show 32 ≤ 64 by omega)))
  have GL : Hid (decide (y < b) = true) := decide_eq_true hyb
  have HC2 : Hid (chkS (nw a) a (nw y) y (nw b) b = 0) := chk_ok rfl rfl rfl (by omega) (by omega) ⟨nw_pos (by omega), hm1⟩ ha hyb
  obtain ⟨o1, ho1⟩ : ∃ z, z = 1 % b := ⟨_, rfl⟩
  have HO := hid ho1
  have HM : Hid (a * y % b = o1) := (show a * y % b = o1 by rw [hy, ho1]; exact inv_one hm0 h3)
  have M1 := hid (modS_ok o1)
  have no1 : nw o1 ≤ 32 := Nat.le_trans (nw_mono (by rw [ho1]; exact Nat.le_of_lt (Nat.mod_lt _ hm0))) hm1
  have HM0 := hid hm0
  have n11 : nw 1 ≤ 140 := by decide
  clear hy ho1 hyb
  clear h0 h3 hx hu1 hu2 ha hx0 hm0
  clear hg
  obtain ⟨b0, b1, bw⟩ := boxes2 w (.slice A (nw a) c) (.slice B' (nw b) d)
  have XA := VB.mk (B := w.heap.size) (a := a) b0 (.inl hA) bw (Nat.le_refl _) (by omega)
  have XB := VB.mk (B := w.heap.size) (a := b) b1 (.inl hB) bw (Nat.le_refl _) (by omega)
  have WW := bw
  clear bw b0 b1
  go_enter Try.func9, Try.ntmps9
  go_wp2_with fail
  generalize hV : ((w.alloc (.cells #[.slice A (nw a) c] 24)).alloc (.cells #[.slice B' (nw b) d] 24)) = V0 at XA XB WW ⊢
  clear hV
  have hbs : w.heap.size ≤ V0.heap.size := WW.size
  have hc := awake_any V0
  refine hc.mono ?_
  clear hc
  rintro e V1 ⟨rfl, hb⟩
  replace XA := XA.below hb
  replace XB := XB.below hb
  replace WW := WW.trans (hb.mono WW.size)
  have kXA := XA.cell
  have zXA := XA.lt
  have kXB := XB.cell
  have zXB := XB.lt
  clear hb hbs
  go_wp2_with fail
  have hbs : w.heap.size ≤ V1.heap.size := WW.size
  have hc := few_n2 32 (by omega) V1 A B' (nw a) (nw b) c d (by omega) (by omega)
  rw [HG.out] at hc
  refine hc.mono ?_
  clear hc
  rintro e V2 ⟨rfl, hb⟩
  clear kXA zXA kXB zXB
  replace XA := XA.below hb
  replace XB := XB.below hb
  replace WW := WW.trans (hb.mono WW.size)
  have kXA := XA.cell
  have zXA := XA.lt
  have kXB := XB.cell
  have zXB := XB.lt
  clear hb hbs
  go_wp2_with fail
  have hbs : w.heap.size ≤ V2.heap.size := WW.size
  have hc := first_a1 V2 A _ c a _ b d B' XA.num XB.num (by omega) (by omega)
  rw [HC.out] at hc
  refine hc.mono ?_
  clear hc
  rintro e V3 ⟨rfl, hb⟩
  clear kXA zXA kXB zXB
  replace XA := XA.below hb
  replace XB := XB.below hb
  replace WW := WW.trans (hb.mono WW.size)
  have kXA := XA.cell
  have zXA := XA.lt
  have kXB := XB.cell
  have zXB := XB.lt
  clear hb hbs
  go_wp2_with fail
  have hbs : w.heap.size ≤ V3.heap.size := WW.size
  have hc := ngcd_any A B' _ _ c d a b V3 XA.num XB.num (by omega) (by omega)
  rw [HV.out] at hc
  refine hc.mono ?_
  clear hc
  rintro e V4 ⟨v, rfl, hv, hb⟩
  clear kXA zXA kXB zXB
  replace XA := XA.below hb
  replace XB := XB.below hb
  replace WW := WW.trans (hb.mono WW.size)
  obtain ⟨D1, d1, rfl, ho⟩ := hv
  have O1 := ho.weak (b := w.heap.size) hbs
  clear ho
  have kXA := XA.cell
  have zXA := XA.lt
  have kXB := XB.cell
  have zXB := XB.lt
  clear hb hbs
  go_wp2_with fail
  obtain ⟨b0, bw⟩ := boxes1 V4 (.slice D1 (nw x) d1)
  have hbs := WW.size
  clear kXA zXA kXB zXB
  have qXB5 := XB.lt
  have X1 := VB.mk (B := w.heap.size) (a := x) b0 (.inr O1) bw hbs (by omega)
  replace XA := XA.below bw
  replace XB := XB.below bw
  replace O1 := O1.below bw (Nat.le_refl _)
  replace WW := WW.trans (bw.mono WW.size)
  clear bw hbs b0
  generalize hV : (V4.alloc (.cells #[.slice D1 (nw x) d1] 24)) = V5 at XA XB X1 O1 WW ⊢
  clear hV
  have kXA := XA.cell
  have zXA := XA.lt
  have kXB := XB.cell
  have zXB := XB.lt
  have kX1 := X1.cell
  have zX1 := X1.lt
  have hbs : w.heap.size ≤ V5.heap.size := WW.size
  have hc := inverse_any A B' _ _ c d a b V5 XA.num XB.num (by omega) (by omega)
  rw [HI.out] at hc
  refine hc.mono ?_
  clear hc
  rintro e V6 ⟨v, rfl, hv, hb⟩
  clear kXA zXA kXB zXB kX1 zX1
  replace XA := XA.below hb
  replace XB := XB.below hb
  replace X1 := X1.below hb
  replace O1 := O1.below hb (Nat.le_refl _)
  replace WW := WW.trans (hb.mono WW.size)
  obtain ⟨D2, d2, rfl, ho⟩ := hv
  have O2 := ho.weak (b := w.heap.size) hbs
  clear ho
  have kXA := XA.cell
  have zXA := XA.lt
  have kXB := XB.cell
  have zXB := XB.lt
  have kX1 := X1.cell
  have zX1 := X1.lt
  clear hb hbs
  go_wp2_with fail
  obtain ⟨b0, bw⟩ := boxes1 V6 (.slice D2 (nw y) d2)
  have hbs := WW.size
  clear kXA zXA kXB zXB kX1 zX1
  have qX17 := X1.lt
  have qXB7 := XB.lt
  have X2 := VB.mk (B := w.heap.size) (a := y) b0 (.inr O2) bw hbs (by omega)
  replace XA := XA.below bw
  replace XB := XB.below bw
  replace X1 := X1.below bw
  replace O1 := O1.below bw (Nat.le_refl _)
  replace O2 := O2.below bw (Nat.le_refl _)
  replace WW := WW.trans (bw.mono WW.size)
  clear bw hbs b0
  generalize hV : (V6.alloc (.cells #[.slice D2 (nw y) d2] 24)) = V7 at XA XB X1 X2 O1 O2 WW ⊢
  clear hV
  have kXA := XA.cell
  have zXA := XA.lt
  have kXB := XB.cell
  have zXB := XB.lt
  have kX1 := X1.cell
  have zX1 := X1.lt
  have kX2 := X2.cell
  have zX2 := X2.lt
  have hbs : w.heap.size ≤ V7.heap.size := WW.size
  have hc := rvalid_any D1 _ d1 x _ V7 X1.num (Nat.le_refl _) (by omega)
  rw [K3.out] at hc
  refine hc.mono ?_
  clear hc
  rintro e V8 ⟨rfl, hb⟩
  clear kXA zXA kXB zXB kX1 zX1 kX2 zX2
  replace XA := XA.below hb
  replace XB := XB.below hb
  replace X1 := X1.below hb
  replace X2 := X2.below hb
  replace O1 := O1.below hb (Nat.le_refl _)
  replace O2 := O2.below hb (Nat.le_refl _)
  replace WW := WW.trans (hb.mono WW.size)
  have kXA := XA.cell
  have zXA := XA.lt
  have kXB := XB.cell
  have zXB := XB.lt
  have kX1 := X1.cell
  have zX1 := X1.lt
  have kX2 := X2.cell
  have zX2 := X2.lt
  clear hb hbs
  go_wp2_with fail
  clear kXA zXA kXB zXB kX1 zX1 kX2 zX2
  have qX19 := X1.lt
  have qX29 := X2.lt
  have qXB9 := XB.lt
  have bw := (Below.refl V8.heap.size V8).alloc (Nat.le_refl _) (.cells #[.slice A (nw a) c, .slice B' (nw b) d] 24)
  have XL := Blk.new V8 24 #[.slice A (nw a) c, .slice B' (nw b) d]
  replace XA := XA.below bw
  replace XB := XB.below bw
  replace X1 := X1.below bw
  replace X2 := X2.below bw
  replace O1 := O1.below bw (Nat.le_refl _)
  replace O2 := O2.below bw (Nat.le_refl _)
  replace WW := WW.trans (bw.mono WW.size)
  clear bw
  generalize hV : V8.alloc (.cells #[.slice A (nw a) c, .slice B' (nw b) d] 24) = V9 at XA XB X1 X2 O1 O2 XL WW ⊢
  clear hV
  have kXA := XA.cell
  have zXA := XA.lt
  have kXB := XB.cell
  have zXB := XB.lt
  have kX1 := X1.cell
  have zX1 := X1.lt
  have kX2 := X2.cell
  have zX2 := X2.lt
  have kXL0 := (XL.cell 0).trans rfl
  have kXL1 := (XL.cell 1).trans rfl
  have zXL := XL.lt
  go_loopw [62] (fun i wr => ∃ (k : Nat), k ≤ 2 ∧ i = .int .i64 k ∧ Below w.heap.size w wr ∧ VB w.heap.size wr (w.heap.size) A (nw a) c a ∧ VB w.heap.size wr (w.heap.size + 1) B' (nw b) d b ∧ VB w.heap.size wr (V4.heap.size) D1 (nw x) d1 x ∧ VB w.heap.size wr (V6.heap.size) D2 (nw y) d2 y ∧ Blk wr (V8.heap.size) 24 #[.slice A (nw a) c, .slice B' (nw b) d]) (fun i wr => 2 - (intOf i).toNat)
  case atStart => exact ⟨0, by omega, rfl, WW, XA, XB, X1, X2, XL⟩
  case round =>
    clear WW kXA zXA kXB zXB kX1 zX1 kX2 zX2 kXL0 kXL1 zXL XA XB X1 X2 XL
    obtain ⟨k, hk, rfl, WW, XA, XB, X1, X2, XL⟩ := hrel
    have kXA := XA.cell
    have zXA := XA.lt
    have kXB := XB.cell
    have zXB := XB.lt
    have kX1 := X1.cell
    have zX1 := X1.lt
    have kX2 := X2.cell
    have zX2 := X2.lt
    have kXL0 := (XL.cell 0).trans rfl
    have kXL1 := (XL.cell 1).trans rfl
    have zXL := XL.lt
    by_cases h0 : k = 2
    · subst h0
      go_wp2_with fail
      have hbs : w.heap.size ≤ wr.heap.size := WW.size
      have hc := equal_one wr D1 _ d1 x X1.num (by omega)
      rw [sameB_one] at hc
      rw [GT.out] at hc
      refine hc.mono ?_
      clear hc
      rintro e V10 ⟨rfl, hb⟩
      clear kXA zXA kXB zXB kX1 zX1 kX2 zX2 kXL0 kXL1 zXL
      replace XA := XA.below hb
      replace XB := XB.below hb
      replace X1 := X1.below hb
      replace X2 := X2.below hb
      replace XL := XL.below hb XL.lt
      replace WW := WW.trans (hb.mono WW.size)
      have kXA := XA.cell
      have zXA := XA.lt
      have kXB := XB.cell
      have zXB := XB.lt
      have kX1 := X1.cell
      have zX1 := X1.lt
      have kX2 := X2.cell
      have zX2 := X2.lt
      have kXL0 := (XL.cell 0).trans rfl
      have kXL1 := (XL.cell 1).trans rfl
      have zXL := XL.lt
      clear hb hbs
      go_wp2_with fail
      have hbs : w.heap.size ≤ V10.heap.size := WW.size
      have hc := rvalid_any D2 _ d2 y _ V10 X2.num (Nat.le_refl _) (by omega)
      rw [K4.out] at hc
      refine hc.mono ?_
      clear hc
      rintro e V11 ⟨rfl, hb⟩
      clear kXA zXA kXB zXB kX1 zX1 kX2 zX2 kXL0 kXL1 zXL
      replace XA := XA.below hb
      replace XB := XB.below hb
      replace X1 := X1.below hb
      replace X2 := X2.below hb
      replace XL := XL.below hb XL.lt
      replace WW := WW.trans (hb.mono WW.size)
      have kXA := XA.cell
      have zXA := XA.lt
      have kXB := XB.cell
      have zXB := XB.lt
      have kX1 := X1.cell
      have zX1 := X1.lt
      have kX2 := X2.cell
      have zX2 := X2.lt
      have kXL0 := (XL.cell 0).trans rfl
      have kXL1 := (XL.cell 1).trans rfl
      have zXL := XL.lt
      clear hb hbs
      go_wp2_with fail
      have hbs : w.heap.size ≤ V11.heap.size := WW.size
      have hc := less3_any D2 B' d2 d y b V11 X2.num XB.num (by omega) (by omega)
      rw [GL.out] at hc
      refine hc.mono ?_
      clear hc
      rintro e V12 ⟨rfl, hb⟩
      clear kXA zXA kXB zXB kX1 zX1 kX2 zX2 kXL0 kXL1 zXL
      replace XA := XA.below hb
      replace XB := XB.below hb
      replace X1 := X1.below hb
      replace X2 := X2.below hb
      replace XL := XL.below hb XL.lt
      replace WW := WW.trans (hb.mono WW.size)
      have kXA := XA.cell
      have zXA := XA.lt
      have kXB := XB.cell
      have zXB := XB.lt
      have kX1 := X1.cell
      have zX1 := X1.lt
      have kX2 := X2.cell
      have zX2 := X2.lt
      have kXL0 := (XL.cell 0).trans rfl
      have kXL1 := (XL.cell 1).trans rfl
      have zXL := XL.lt
      clear hb hbs
      go_wp2_with fail
      have hbs : w.heap.size ≤ V12.heap.size := WW.size
      have hc := nmul_any A D2 B' _ _ _ c d2 d a y b V12 XA.num X2.num XB.num (by omega) (by omega) (by omega)
      rw [HC2.out] at hc
      rw [HM.out] at hc
      rw [M1.out] at hc
      refine hc.mono ?_
      clear hc
      rintro e V13 ⟨v, rfl, hv, hb⟩
      clear kXA zXA kXB zXB kX1 zX1 kX2 zX2 kXL0 kXL1 zXL
      replace XA := XA.below hb
      replace XB := XB.below hb
      replace X1 := X1.below hb
      replace X2 := X2.below hb
      replace XL := XL.below hb XL.lt
      replace WW := WW.trans (hb.mono WW.size)
      obtain ⟨D5, d5, rfl, ho⟩ := hv
      have O5 := ho.weak (b := w.heap.size) hbs
      clear ho
      have kXA := XA.cell
      have zXA := XA.lt
      have kXB := XB.cell
      have zXB := XB.lt
      have kX1 := X1.cell
      have zX1 := X1.lt
      have kX2 := X2.cell
      have zX2 := X2.lt
      have kXL0 := (XL.cell 0).trans rfl
      have kXL1 := (XL.cell 1).trans rfl
      have zXL := XL.lt
      clear hb hbs
      go_wp2_with fail
      obtain ⟨b0, bw⟩ := boxes1 V13 (.slice D5 (nw o1) d5)
      have hbs := WW.size
      clear kXA zXA kXB zXB kX1 zX1 kX2 zX2 kXL0 kXL1 zXL
      have qX114 := X1.lt
      have qX214 := X2.lt
      have qXB14 := XB.lt
      have qXL14 := XL.lt
      have X5 := VB.mk (B := w.heap.size) (a := o1) b0 (.inr O5) bw hbs (by omega)
      replace XA := XA.below bw
      replace XB := XB.below bw
      replace X1 := X1.below bw
      replace X2 := X2.below bw
      replace O5 := O5.below bw (Nat.le_refl _)
      replace XL := XL.below bw XL.lt
      replace WW := WW.trans (bw.mono WW.size)
      clear bw hbs b0
      generalize hV : (V13.alloc (.cells #[.slice D5 (nw o1) d5] 24)) = V14 at XA XB X1 X2 X5 O5 XL WW ⊢
      clear hV
      have kXA := XA.cell
      have zXA := XA.lt
      have kXB := XB.cell
      have zXB := XB.lt
      have kX1 := X1.cell
      have zX1 := X1.lt
      have kX2 := X2.cell
      have zX2 := X2.lt
      have kX5 := X5.cell
      have zX5 := X5.lt
      have kXL0 := (XL.cell 0).trans rfl
      have kXL1 := (XL.cell 1).trans rfl
      have zXL := XL.lt
      have hst : (fun w' => w'.cell? ⟨w.heap.size + 1, 0, none⟩ = some (.slice B' (nw b) d) ∧ w'.cell? ⟨V13.heap.size, 0, none⟩ = some (.slice D5 (nw o1) d5)) V14.drew := ⟨XB.cell, X5.cell⟩
      clear kXA zXA kXB zXB kX1 zX1 kX2 zX2 kX5 zX5 kXL0 kXL1 zXL
      replace WW := WW.drew
      replace XA := XA.drew
      replace XB := XB.drew
      replace X1 := X1.drew
      replace X2 := X2.drew
      replace X5 := X5.drew
      replace O5 := O5.drew
      replace XL : Blk V14.drew (V8.heap.size) 24 #[.slice A (nw a) c, .slice B' (nw b) d] := XL
      have qq0 := X5.lt
      refine region_L 17 (fun w' => w'.cell? ⟨w.heap.size + 1, 0, none⟩ = some (.slice B' (nw b) d) ∧ w'.cell? ⟨V13.heap.size, 0, none⟩ = some (.slice D5 (nw o1) d5)) (by kernel_rfl) hst (fun hHeld => ?_)
      clear hst
      generalize hV : V14.drew = U14x0 at hHeld WW qq0 XA XB X1 X2 X5 O5 XL ⊢
      clear hV
      refine AnyL_take (i := 0) (oi := oq9_19_0) (v := ?_) rfl (by kernel_rfl) (by kernel_rfl) (by kernel_rfl) (by kernel_rfl) (fun _ _ _ h => h) (Or.inl ⟨by rfl, ?_⟩) (by assumption) ?_
      rotate_left
      · (delta oq9_19_0; intro ws hSw; (try dsimp only at hSw); (try go_simp); (try with_reducible rfl))
      (try simp only [oq9_19_0, Act.put, List.setIfInBounds_toArray, List.set_cons_zero, List.set_cons_succ])
      refine AnyL_take (i := 1) (oi := oq9_19_1) (v := ?_) rfl (by kernel_rfl) (by kernel_rfl) (by kernel_rfl) (by kernel_rfl) (fun _ _ _ h => h) (Or.inl ⟨by rfl, ?_⟩) (by assumption) ?_
      rotate_left
      · (delta oq9_19_1; intro ws hSw; (try dsimp only at hSw); (try go_simp); (try with_reducible rfl))
      (try simp only [oq9_19_1, Act.put, List.setIfInBounds_toArray, List.set_cons_zero, List.set_cons_succ])
      refine AnyL_take (i := 2) (oi := oq9_19_2) (v := ?_) rfl (by kernel_rfl) (by kernel_rfl) (by kernel_rfl) (by kernel_rfl) (fun _ _ _ h => h) (Or.inl ⟨by rfl, ?_⟩) (by assumption) ?_
      rotate_left
      · (delta oq9_19_2; intro ws hSw; (try dsimp only at hSw); (try go_simp); (try with_reducible rfl))
      (try simp only [oq9_19_2, Act.put, List.setIfInBounds_toArray, List.set_cons_zero, List.set_cons_succ])
      refine AnyL_take (i := 3) (oi := oq9_19_3) (v := ?_) rfl (by kernel_rfl) (by kernel_rfl) (by kernel_rfl) (by kernel_rfl) (fun _ _ _ h => h) (Or.inl ⟨by rfl, ?_⟩) (by assumption) ?_
      rotate_left
      · (delta oq9_19_3; intro ws hSw; (try dsimp only at hSw); (try go_simp); (try with_reducible rfl))
      (try simp only [oq9_19_3, Act.put, List.setIfInBounds_toArray, List.set_cons_zero, List.set_cons_succ])
      refine AnyL_take (i := 5) (oi := oq9_19_5) (v := ?_) rfl (by kernel_rfl) (by kernel_rfl) (by kernel_rfl) (by kernel_rfl) (fun _ _ _ h => h) (Or.inl ⟨by rfl, ?_⟩) (by assumption) ?_
      rotate_left
      · (delta oq9_19_5; intro ws hSw; (try dsimp only at hSw); (try go_simp); (try with_reducible rfl))
      (try simp only [oq9_19_5, Act.put, List.setIfInBounds_toArray, List.set_cons_zero, List.set_cons_succ])
      refine AnyL_ready (rs := [4]) (by kernel_rfl) (by simp) ?_
      refine ReadyL.cons (o := oq9_19_4) rfl (fun K hK => ?_) ReadyL.nil
      delta oq9_19_4
      go_simp
      have hbs : w.heap.size ≤ U14x0.heap.size := WW.size
      have hc := of3_1 U14x0
      refine hc.mono ?_
      clear hc
      rintro e V16 ⟨v, rfl, hv, hb⟩
      replace XA := XA.below hb
      replace XB := XB.below hb
      replace X1 := X1.below hb
      replace X2 := X2.below hb
      replace X5 := X5.below hb
      replace O5 := O5.below hb (Nat.le_refl _)
      replace XL := XL.below hb XL.lt
      replace WW := WW.trans (hb.mono WW.size)
      have sz16 := hb.size
      obtain ⟨D6, d6, rfl, ho⟩ := hv
      have O6 := ho.weak (b := w.heap.size) hbs
      clear ho
      clear hb hbs
      refine hK.out _ _ (⟨XB.cell, X5.cell⟩) (fun hHeld2 => ?_)
      clear hK K hHeld
      have hHeld := hHeld2
      clear hHeld2
      (try simp only [oq9_19_4, Act.put, List.setIfInBounds_toArray, List.set_cons_zero, List.set_cons_succ])
      refine AnyL_ready (rs := [6]) (by kernel_rfl) (by simp) ?_
      refine ReadyL.cons (o := oq9_19_6) rfl (fun K hK => ?_) ReadyL.nil
      delta oq9_19_6
      go_simp
      have hbs : w.heap.size ≤ V16.heap.size := WW.size
      have hc := rmod3_any D6 B' d6 d 1 b V16 O6.num XB.num n11 (by omega) HM0.out
      rw [← HO.out] at hc
      refine hc.mono ?_
      clear hc
      rintro e V17 ⟨v, rfl, hv, hb⟩
      replace XA := XA.below hb
      replace XB := XB.below hb
      replace X1 := X1.below hb
      replace X2 := X2.below hb
      replace X5 := X5.below hb
      replace O5 := O5.below hb (Nat.le_refl _)
      replace O6 := O6.below hb (Nat.le_refl _)
      replace XL := XL.below hb XL.lt
      replace WW := WW.trans (hb.mono WW.size)
      have sz17 := hb.size
      obtain ⟨D7, d7, rfl, ho⟩ := hv
      have O7 := ho.weak (b := w.heap.size) hbs
      clear ho
      clear hb hbs
      refine hK.out _ _ (⟨XB.cell, X5.cell⟩) (fun hHeld2 => ?_)
      clear hK K hHeld
      have hHeld := hHeld2
      clear hHeld2
      (try simp only [oq9_19_6, Act.put, List.setIfInBounds_toArray, List.set_cons_zero, List.set_cons_succ])
      refine AnyL_ready (rs := [7]) (by kernel_rfl) (by simp) ?_
      refine ReadyL.cons (o := oq9_19_7) rfl (fun K hK => ?_) ReadyL.nil
      delta oq9_19_7
      go_simp
      have hbs : w.heap.size ≤ V17.heap.size := WW.size
      have hc := same3_any D5 D7 _ _ d5 d7 o1 o1 V17 X5.num O7.num (by omega) (by omega)
      rw [sameB_yes] at hc
      refine hc.mono ?_
      clear hc
      rintro e V18 ⟨rfl, hb⟩
      replace XA := XA.below hb
      replace XB := XB.below hb
      replace X1 := X1.below hb
      replace X2 := X2.below hb
      replace X5 := X5.below hb
      replace O5 := O5.below hb (Nat.le_refl _)
      replace O6 := O6.below hb (Nat.le_refl _)
      replace O7 := O7.below hb (Nat.le_refl _)
      replace XL := XL.below hb XL.lt
      replace WW := WW.trans (hb.mono WW.size)
      have sz18 := hb.size
      clear hb hbs
      refine hK.out _ _ (⟨XB.cell, X5.cell⟩) (fun hHeld2 => ?_)
      clear hK K hHeld
      have hHeld := hHeld2
      clear hHeld2
      (try simp only [oq9_19_7, Act.put, List.setIfInBounds_toArray, List.set_cons_zero, List.set_cons_succ])
      refine AnyL_take (i := 8) (oi := oq9_19_8) (v := ?_) rfl (by kernel_rfl) (by kernel_rfl) (by kernel_rfl) (by kernel_rfl) (fun _ _ _ h => h) (Or.inl ⟨by rfl, ?_⟩) (by assumption) ?_
      rotate_left
      · (delta oq9_19_8; intro ws hSw; (try dsimp only at hSw); (try go_simp); (try with_reducible rfl))
      (try simp only [oq9_19_8, Act.put, List.setIfInBounds_toArray, List.set_cons_zero, List.set_cons_succ])
      refine AnyL_take (i := 9) (oi := oq9_19_9) (v := ?_) rfl (by kernel_rfl) (by kernel_rfl) (by kernel_rfl) (by kernel_rfl) (fun _ _ _ h => h) (Or.inl ⟨by rfl, ?_⟩) (by assumption) ?_
      rotate_left
      · (delta oq9_19_9; intro ws hSw; (try dsimp only at hSw); (try go_simp); (try with_reducible rfl))
      (try simp only [oq9_19_9, Act.put, List.setIfInBounds_toArray, List.set_cons_zero, List.set_cons_succ])
      refine AnyL_done (by kernel_rfl) ?_ _
      clear hHeld
      have kXA := XA.cell
      have zXA := XA.lt
      have kXB := XB.cell
      have zXB := XB.lt
      have kX1 := X1.cell
      have zX1 := X1.lt
      have kX2 := X2.cell
      have zX2 := X2.lt
      have kX5 := X5.cell
      have zX5 := X5.lt
      have kXL0 := (XL.cell 0).trans rfl
      have kXL1 := (XL.cell 1).trans rfl
      have zXL := XL.lt
      go_wp2_with fail
      go_ret
      exact ⟨rfl, WW⟩
    · have h01 : k = 0 ∨ k = 1 := by omega
      rcases h01 with rfl | rfl
      · clear h0 hk
        go_wp2_with fail
        obtain ⟨b0, bw⟩ := boxes1 wr (.slice A (nw a) c)
        have hbs := WW.size
        clear kXA zXA kXB zXB kX1 zX1 kX2 zX2 kXL0 kXL1 zXL
        have qX110 := X1.lt
        have qX210 := X2.lt
        have qXB10 := XB.lt
        have qXL10 := XL.lt
        have Xn := VB.mk (B := w.heap.size) (a := a) b0 (XA.2.1) bw hbs (by omega)
        replace XA := XA.below bw
        replace XB := XB.below bw
        replace X1 := X1.below bw
        replace X2 := X2.below bw
        replace XL := XL.below bw XL.lt
        replace WW := WW.trans (bw.mono WW.size)
        clear bw hbs b0
        generalize hV : (wr.alloc (.cells #[.slice A (nw a) c] 24)) = V10 at XA XB X1 X2 Xn XL WW ⊢
        clear hV
        have kXA := XA.cell
        have zXA := XA.lt
        have kXB := XB.cell
        have zXB := XB.lt
        have kX1 := X1.cell
        have zX1 := X1.lt
        have kX2 := X2.cell
        have zX2 := X2.lt
        have kXn := Xn.cell
        have zXn := Xn.lt
        have kXL0 := (XL.cell 0).trans rfl
        have kXL1 := (XL.cell 1).trans rfl
        have zXL := XL.lt
        have hbs : w.heap.size ≤ V10.heap.size := WW.size
        have hc := div_any A D1 _ _ c d1 a x V10 Xn.num X1.num (by omega) (by omega)
        rw [bothD_yes K1.out K3.out] at hc
        rw [HD1.out] at hc
        refine hc.mono ?_
        clear hc
        rintro e V11 ⟨v, u', rfl, hv, hu, hb⟩
        clear kXA zXA kXB zXB kX1 zX1 kX2 zX2 kXn zXn kXL0 kXL1 zXL
        replace XA := XA.below hb
        replace XB := XB.below hb
        replace X1 := X1.below hb
        replace X2 := X2.below hb
        replace Xn := Xn.below hb
        replace XL := XL.below hb XL.lt
        replace WW := WW.trans (hb.mono WW.size)
        obtain ⟨D10, d10, rfl, ho⟩ := hv
        have O10 := ho.weak (b := w.heap.size) hbs
        obtain ⟨D11, d11, rfl, ho'⟩ := hu
        have O11 := ho'.weak (b := w.heap.size) hbs
        clear ho ho'
        have kXA := XA.cell
        have zXA := XA.lt
        have kXB := XB.cell
        have zXB := XB.lt
        have kX1 := X1.cell
        have zX1 := X1.lt
        have kX2 := X2.cell
        have zX2 := X2.lt
        have kXn := Xn.cell
        have zXn := Xn.lt
        have kXL0 := (XL.cell 0).trans rfl
        have kXL1 := (XL.cell 1).trans rfl
        have zXL := XL.lt
        clear hb hbs
        go_wp2_with fail
        obtain ⟨b0, b1, bw⟩ := boxes2 V11 (.slice D10 (nw u1) d10) (.slice D11 (nw 0) d11)
        have hbs := WW.size
        clear kXA zXA kXB zXB kX1 zX1 kX2 zX2 kXn zXn kXL0 kXL1 zXL
        have qX112 := X1.lt
        have qX212 := X2.lt
        have qXn12 := Xn.lt
        have qXB12 := XB.lt
        have qXL12 := XL.lt
        have Xq := VB.mk (B := w.heap.size) (a := u1) b0 (.inr O10) bw hbs (by omega)
        have Xr := VB.mk (B := w.heap.size) (a := 0) b1 (.inr O11) bw hbs (by omega)
        replace XA := XA.below bw
        replace XB := XB.below bw
        replace X1 := X1.below bw
        replace X2 := X2.below bw
        replace Xn := Xn.below bw
        replace O10 := O10.below bw (Nat.le_refl _)
        replace O11 := O11.below bw (Nat.le_refl _)
        replace XL := XL.below bw XL.lt
        replace WW := WW.trans (bw.mono WW.size)
        clear bw hbs b0 b1
        generalize hV : ((V11.alloc (.cells #[.slice D10 (nw u1) d10] 24)).alloc (.cells #[.slice D11 (nw 0) d11] 24)) = V12 at XA XB X1 X2 Xn Xq Xr O10 O11 XL WW ⊢
        clear hV
        have kXA := XA.cell
        have zXA := XA.lt
        have kXB := XB.cell
        have zXB := XB.lt
        have kX1 := X1.cell
        have zX1 := X1.lt
        have kX2 := X2.cell
        have zX2 := X2.lt
        have kXn := Xn.cell
        have zXn := Xn.lt
        have kXq := Xq.cell
        have zXq := Xq.lt
        have kXr := Xr.cell
        have zXr := Xr.lt
        have kXL0 := (XL.cell 0).trans rfl
        have kXL1 := (XL.cell 1).trans rfl
        have zXL := XL.lt
        go_roundw
        case rel => exact ⟨1, by omega, by go_num, WW, XA, XB, X1, X2, XL⟩
        case measure => simp [intOf] <;> omega
      · clear h0 hk
        go_wp2_with fail
        obtain ⟨b0, bw⟩ := boxes1 wr (.slice B' (nw b) d)
        have hbs := WW.size
        clear kXA zXA kXB zXB kX1 zX1 kX2 zX2 kXL0 kXL1 zXL
        have qX110 := X1.lt
        have qX210 := X2.lt
        have qXB10 := XB.lt
        have qXL10 := XL.lt
        have Xn := VB.mk (B := w.heap.size) (a := b) b0 (XB.2.1) bw hbs (by omega)
        replace XA := XA.below bw
        replace XB := XB.below bw
        replace X1 := X1.below bw
        replace X2 := X2.below bw
        replace XL := XL.below bw XL.lt
        replace WW := WW.trans (bw.mono WW.size)
        clear bw hbs b0
        generalize hV : (wr.alloc (.cells #[.slice B' (nw b) d] 24)) = V10 at XA XB X1 X2 Xn XL WW ⊢
        clear hV
        have kXA := XA.cell
        have zXA := XA.lt
        have kXB := XB.cell
        have zXB := XB.lt
        have kX1 := X1.cell
        have zX1 := X1.lt
        have kX2 := X2.cell
        have zX2 := X2.lt
        have kXn := Xn.cell
        have zXn := Xn.lt
        have kXL0 := (XL.cell 0).trans rfl
        have kXL1 := (XL.cell 1).trans rfl
        have zXL := XL.lt
        have hbs : w.heap.size ≤ V10.heap.size := WW.size
        have hc := div_any B' D1 _ _ d d1 b x V10 Xn.num X1.num (by omega) (by omega)
        rw [bothD_yes K2.out K3.out] at hc
        rw [HD2.out] at hc
        refine hc.mono ?_
        clear hc
        rintro e V11 ⟨v, u', rfl, hv, hu, hb⟩
        clear kXA zXA kXB zXB kX1 zX1 kX2 zX2 kXn zXn kXL0 kXL1 zXL
        replace XA := XA.below hb
        replace XB := XB.below hb
        replace X1 := X1.below hb
        replace X2 := X2.below hb
        replace Xn := Xn.below hb
        replace XL := XL.below hb XL.lt
        replace WW := WW.trans (hb.mono WW.size)
        obtain ⟨D10, d10, rfl, ho⟩ := hv
        have O10 := ho.weak (b := w.heap.size) hbs
        obtain ⟨D11, d11, rfl, ho'⟩ := hu
        have O11 := ho'.weak (b := w.heap.size) hbs
        clear ho ho'
        have kXA := XA.cell
        have zXA := XA.lt
        have kXB := XB.cell
        have zXB := XB.lt
        have kX1 := X1.cell
        have zX1 := X1.lt
        have kX2 := X2.cell
        have zX2 := X2.lt
        have kXn := Xn.cell
        have zXn := Xn.lt
        have kXL0 := (XL.cell 0).trans rfl
        have kXL1 := (XL.cell 1).trans rfl
        have zXL := XL.lt
        clear hb hbs
        go_wp2_with fail
        obtain ⟨b0, b1, bw⟩ := boxes2 V11 (.slice D10 (nw u2) d10) (.slice D11 (nw 0) d11)
        have hbs := WW.size
        clear kXA zXA kXB zXB kX1 zX1 kX2 zX2 kXn zXn kXL0 kXL1 zXL
        have qX112 := X1.lt
        have qX212 := X2.lt
        have qXn12 := Xn.lt
        have qXB12 := XB.lt
        have qXL12 := XL.lt
        have Xq := VB.mk (B := w.heap.size) (a := u2) b0 (.inr O10) bw hbs (by omega)
        have Xr := VB.mk (B := w.heap.size) (a := 0) b1 (.inr O11) bw hbs (by omega)
        replace XA := XA.below bw
        replace XB := XB.below bw
        replace X1 := X1.below bw
        replace X2 := X2.below bw
        replace Xn := Xn.below bw
        replace O10 := O10.below bw (Nat.le_refl _)
        replace O11 := O11.below bw (Nat.le_refl _)
        replace XL := XL.below bw XL.lt
        replace WW := WW.trans (bw.mono WW.size)
        clear bw hbs b0 b1
        generalize hV : ((V11.alloc (.cells #[.slice D10 (nw u2) d10] 24)).alloc (.cells #[.slice D11 (nw 0) d11] 24)) = V12 at XA XB X1 X2 Xn Xq Xr O10 O11 XL WW ⊢
        clear hV
        have kXA := XA.cell
        have zXA := XA.lt
        have kXB := XB.cell
        have zXB := XB.lt
        have kX1 := X1.cell
        have zX1 := X1.lt
        have kX2 := X2.cell
        have zX2 := X2.lt
        have kXn := Xn.cell
        have zXn := Xn.lt
        have kXq := Xq.cell
        have zXq := Xq.lt
        have kXr := Xr.cell
        have zXr := Xr.lt
        have kXL0 := (XL.cell 0).trans rfl
        have kXL1 := (XL.cell 1).trans rfl
        have zXL := XL.lt
        go_roundw
        case rel => exact ⟨2, by omega, by go_num, WW, XA, XB, X1, X2, XL⟩
        case measure => simp [intOf] <;> omega

theorem natmodDivides_walk (A B' : Option Addr) (n k c d a b : Nat) (w : World) (hA : Num w w.heap.size A n a) (hB : Num w w.heap.size B' k b) (hn : n ≤ 9223372036854775807) (hk : k ≤ 9223372036854775807) :
    Calls Try.prog 9 #[.agg #[.slice A n c], .agg #[.slice B' k d]] w (RetB (.bool true) w) := by
  by_cases hg : n ≤ 32 ∧ k ≤ 32
  · by_cases h0 : chkS n a 0 0 k b = 0
    · by_cases h3 : Nat.gcd a b = 1
      · exact divl_ok A B' n k c d a b w hA hB hn hk hg h0 h3
      · exact divl_z A B' n k c d a b w hA hB hn hk hg h0 h3
    · exact divl_far2 A B' n k c d a b w hA hB hn hk hg h0
  · exact divl_far1 A B' n k c d a b w hA hB hn hk hg

end Go.Proofs.Ytckajjapockonaa
