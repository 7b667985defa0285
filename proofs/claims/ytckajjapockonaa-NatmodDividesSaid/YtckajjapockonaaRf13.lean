/- the reference of layer 3: Inverse. -/
import Derived.Test.YtckajjapockonaaRf12
import Derived.Test.YtckajjapockonaaRf11
set_option linter.unusedVariables false
set_option linter.unusedSimpArgs false
namespace Go.Proofs.Ytckajjapockonaa
open Go.RowKit

def oq28_1_0 : Oper := { dst := some 11, op := Op.load 24 (Operand.tmp 3), type := 24, pos := "ref.go:186", after := #[], guard := none }
def oq28_1_1 : Oper := { dst := some 12, op := Op.load 24 (Operand.tmp 2), type := 24, pos := "ref.go:186", after := #[{ on := 4, ground := Ground.gcOnly Departure.lateStores }], guard := none }
def oq28_1_2 : Oper := { dst := some 6, op := Op.alloc 24, type := 0, pos := "ref.go:186", after := #[], guard := none }
def oq28_1_3 : Oper := { dst := some 7, op := Op.alloc 24, type := 0, pos := "ref.go:186", after := #[], guard := none }
def oq28_1_4 : Oper := { dst := none, op := Op.store 24 (Operand.tmp 6) (Operand.tmp 11), type := 0, pos := "ref.go:186", after := #[{ on := 2, ground := Ground.data }, { on := 0, ground := Ground.data }, { on := 0, ground := Ground.phase }, { on := 1, ground := Ground.textOnly Departure.lateStores }, { on := 2, ground := Ground.phase }, { on := 3, ground := Ground.phase }], guard := none }
def oq28_1_5 : Oper := { dst := none, op := Op.store 24 (Operand.tmp 7) (Operand.tmp 12), type := 0, pos := "ref.go:186", after := #[{ on := 3, ground := Ground.data }, { on := 1, ground := Ground.data }, { on := 4, ground := Ground.chain }, { on := 0, ground := Ground.phase }, { on := 1, ground := Ground.phase }, { on := 2, ground := Ground.phase }, { on := 3, ground := Ground.phase }, { on := 4, ground := Ground.phase }], guard := none }
def oq28_2_0 : Oper := { dst := some 13, op := Op.build 24 #[], type := 24, pos := "ref.go:187", after := #[], guard := none }
def oq28_2_1 : Oper := { dst := some 14, op := Op.call { callee := Callee.value (Operand.func 32), args := #[Operand.const (Value.int IntKind.u64 1)], argTypes := #[42] }, type := 24, pos := "ref.go:187", after := #[], guard := none }
def oq28_2_2 : Oper := { dst := some 15, op := Op.load 24 (Operand.tmp 3), type := 24, pos := "ref.go:187", after := #[], guard := none }
def oq28_2_3 : Oper := { dst := some 16, op := Op.call { callee := Callee.value (Operand.func 41), args := #[Operand.tmp 14, Operand.tmp 15], argTypes := #[24, 24] }, type := 24, pos := "ref.go:187", after := #[{ on := 1, ground := Ground.data }, { on := 2, ground := Ground.data }, { on := 1, ground := Ground.chain }], guard := none }
def oq28_2_4 : Oper := { dst := some 8, op := Op.alloc 24, type := 0, pos := "ref.go:187", after := #[], guard := none }
def oq28_2_5 : Oper := { dst := some 9, op := Op.alloc 24, type := 0, pos := "ref.go:187", after := #[], guard := none }
def oq28_2_6 : Oper := { dst := none, op := Op.store 24 (Operand.tmp 8) (Operand.tmp 13), type := 0, pos := "ref.go:187", after := #[{ on := 4, ground := Ground.data }, { on := 0, ground := Ground.data }, { on := 3, ground := Ground.chain }, { on := 0, ground := Ground.phase }, { on := 1, ground := Ground.textOnly Departure.lateStoresUnsure }, { on := 2, ground := Ground.textOnly Departure.lateStores }, { on := 3, ground := Ground.textOnly Departure.lateStoresUnsure }, { on := 4, ground := Ground.phase }, { on := 5, ground := Ground.phase }], guard := none }
def oq28_2_7 : Oper := { dst := none, op := Op.store 24 (Operand.tmp 9) (Operand.tmp 16), type := 0, pos := "ref.go:187", after := #[{ on := 5, ground := Ground.data }, { on := 3, ground := Ground.data }, { on := 6, ground := Ground.chain }, { on := 0, ground := Ground.phase }, { on := 1, ground := Ground.phase }, { on := 2, ground := Ground.phase }, { on := 3, ground := Ground.phase }, { on := 4, ground := Ground.phase }, { on := 5, ground := Ground.phase }, { on := 6, ground := Ground.phase }], guard := none }
def oq28_5_0 : Oper := { dst := some 24, op := Op.load 24 (Operand.tmp 7), type := 24, pos := "ref.go:190", after := #[], guard := none }
def oq28_5_1 : Oper := { dst := some 25, op := Op.load 24 (Operand.tmp 6), type := 24, pos := "ref.go:190", after := #[], guard := none }
def oq28_5_2 : Oper := { dst := some 26, op := Op.load 24 (Operand.tmp 7), type := 24, pos := "ref.go:190", after := #[], guard := none }
def oq28_5_3 : Oper := { dst := some 27, op := Op.call { callee := Callee.value (Operand.func 41), args := #[Operand.tmp 25, Operand.tmp 26], argTypes := #[24, 24] }, type := 24, pos := "ref.go:190", after := #[{ on := 1, ground := Ground.data }, { on := 2, ground := Ground.data }], guard := none }
def oq28_5_4 : Oper := { dst := none, op := Op.store 24 (Operand.tmp 6) (Operand.tmp 24), type := 0, pos := "ref.go:190", after := #[{ on := 0, ground := Ground.data }, { on := 3, ground := Ground.chain }, { on := 0, ground := Ground.phase }, { on := 1, ground := Ground.phase }, { on := 2, ground := Ground.textOnly Departure.lateStores }, { on := 3, ground := Ground.textOnly Departure.lateStoresUnsure }], guard := none }
def oq28_5_5 : Oper := { dst := none, op := Op.store 24 (Operand.tmp 7) (Operand.tmp 27), type := 0, pos := "ref.go:190", after := #[{ on := 3, ground := Ground.data }, { on := 4, ground := Ground.chain }, { on := 0, ground := Ground.phase }, { on := 1, ground := Ground.phase }, { on := 2, ground := Ground.phase }, { on := 3, ground := Ground.phase }, { on := 4, ground := Ground.phase }], guard := none }
def oq28_6_0 : Oper := { dst := some 28, op := Op.load 24 (Operand.tmp 9), type := 24, pos := "ref.go:191", after := #[], guard := none }
def oq28_6_1 : Oper := { dst := some 29, op := Op.load 24 (Operand.tmp 8), type := 24, pos := "ref.go:191", after := #[], guard := none }
def oq28_6_2 : Oper := { dst := some 30, op := Op.load 24 (Operand.tmp 10), type := 24, pos := "ref.go:191", after := #[], guard := none }
def oq28_6_3 : Oper := { dst := some 31, op := Op.load 24 (Operand.tmp 3), type := 24, pos := "ref.go:191", after := #[], guard := none }
def oq28_6_4 : Oper := { dst := some 32, op := Op.call { callee := Callee.value (Operand.func 41), args := #[Operand.tmp 30, Operand.tmp 31], argTypes := #[24, 24] }, type := 24, pos := "ref.go:191", after := #[{ on := 2, ground := Ground.data }, { on := 3, ground := Ground.data }], guard := none }
def oq28_6_5 : Oper := { dst := some 33, op := Op.load 24 (Operand.tmp 9), type := 24, pos := "ref.go:191", after := #[], guard := none }
def oq28_6_6 : Oper := { dst := some 34, op := Op.load 24 (Operand.tmp 3), type := 24, pos := "ref.go:191", after := #[], guard := none }
def oq28_6_7 : Oper := { dst := some 35, op := Op.call { callee := Callee.value (Operand.func 22), args := #[Operand.tmp 32, Operand.tmp 33, Operand.tmp 34], argTypes := #[24, 24, 24] }, type := 24, pos := "ref.go:191", after := #[{ on := 4, ground := Ground.data }, { on := 5, ground := Ground.data }, { on := 6, ground := Ground.data }, { on := 4, ground := Ground.chain }], guard := none }
def oq28_6_8 : Oper := { dst := some 36, op := Op.load 24 (Operand.tmp 3), type := 24, pos := "ref.go:191", after := #[], guard := none }
def oq28_6_9 : Oper := { dst := some 37, op := Op.call { callee := Callee.value (Operand.func 19), args := #[Operand.tmp 29, Operand.tmp 35, Operand.tmp 36], argTypes := #[24, 24, 24] }, type := 24, pos := "ref.go:191", after := #[{ on := 1, ground := Ground.data }, { on := 7, ground := Ground.data }, { on := 8, ground := Ground.data }, { on := 7, ground := Ground.chain }], guard := none }
def oq28_6_10 : Oper := { dst := none, op := Op.store 24 (Operand.tmp 8) (Operand.tmp 28), type := 0, pos := "ref.go:191", after := #[{ on := 0, ground := Ground.data }, { on := 9, ground := Ground.chain }, { on := 0, ground := Ground.phase }, { on := 1, ground := Ground.phase }, { on := 2, ground := Ground.textOnly Departure.lateStores }, { on := 3, ground := Ground.textOnly Departure.lateStores }, { on := 4, ground := Ground.textOnly Departure.lateStoresUnsure }, { on := 5, ground := Ground.textOnly Departure.lateStores }, { on := 6, ground := Ground.textOnly Departure.lateStores }, { on := 7, ground := Ground.textOnly Departure.lateStoresUnsure }, { on := 8, ground := Ground.textOnly Departure.lateStores }, { on := 9, ground := Ground.textOnly Departure.lateStoresUnsure }], guard := none }
def oq28_6_11 : Oper := { dst := none, op := Op.store 24 (Operand.tmp 9) (Operand.tmp 37), type := 0, pos := "ref.go:191", after := #[{ on := 9, ground := Ground.data }, { on := 10, ground := Ground.chain }, { on := 0, ground := Ground.phase }, { on := 1, ground := Ground.phase }, { on := 2, ground := Ground.phase }, { on := 3, ground := Ground.phase }, { on := 4, ground := Ground.phase }, { on := 5, ground := Ground.phase }, { on := 6, ground := Ground.phase }, { on := 7, ground := Ground.phase }, { on := 8, ground := Ground.phase }, { on := 9, ground := Ground.phase }, { on := 10, ground := Ground.phase }], guard := none }
def oq28_7_0 : Oper := { dst := some 38, op := Op.load 24 (Operand.tmp 8), type := 24, pos := "ref.go:193", after := #[], guard := none }
def oq28_7_1 : Oper := { dst := some 39, op := Op.load 24 (Operand.tmp 6), type := 24, pos := "ref.go:193", after := #[], guard := none }
def oq28_7_2 : Oper := { dst := some 40, op := Op.call { callee := Callee.value (Operand.func 32), args := #[Operand.const (Value.int IntKind.u64 1)], argTypes := #[42] }, type := 24, pos := "ref.go:193", after := #[], guard := none }
def oq28_7_3 : Oper := { dst := some 41, op := Op.call { callee := Callee.value (Operand.func 31), args := #[Operand.tmp 39, Operand.tmp 40], argTypes := #[24, 24] }, type := 4, pos := "ref.go:193", after := #[{ on := 1, ground := Ground.data }, { on := 2, ground := Ground.data }, { on := 2, ground := Ground.chain }], guard := none }
def oq28_7_4 : Oper := { dst := none, op := Op.store 24 (Operand.tmp 4) (Operand.tmp 38), type := 0, pos := "ref.go:193", after := #[{ on := 0, ground := Ground.data }, { on := 3, ground := Ground.chain }, { on := 0, ground := Ground.phase }, { on := 1, ground := Ground.textOnly Departure.lateStores }, { on := 2, ground := Ground.textOnly Departure.lateStoresUnsure }, { on := 3, ground := Ground.textOnly Departure.lateStoresUnsure }], guard := none }
def oq28_7_5 : Oper := { dst := some 5, op := Op.assign (Operand.tmp 41), type := 4, pos := "ref.go:193", after := #[{ on := 3, ground := Ground.data }, { on := 4, ground := Ground.chain }, { on := 0, ground := Ground.phase }, { on := 1, ground := Ground.phase }, { on := 2, ground := Ground.phase }, { on := 3, ground := Ground.phase }, { on := 4, ground := Ground.phase }], guard := none }
/-- What the reference's algorithm of Euclid keeps. -/
def IInv (a m r s x y : Nat) : Prop := r ≤ m ∧ s < r ∧ x < m ∧ y < m ∧ Nat.gcd r s = Nat.gcd a m ∧ (m : Int) ∣ (a : Int) * (x : Int) - (r : Int) ∧ (m : Int) ∣ (a : Int) * (y : Int) - (s : Int)
theorem inv_arith {a m r s x y q q1 p z t Q V u n : Nat} (e1 : s * q + t = r) (e2 : m * Q + q1 = q) (e3 : m * V + p = q1 * y) (e4 : m * u + z = x + n) (hnp : n + p = m)
    (h6 : (m : Int) ∣ (a : Int) * (x : Int) - (r : Int)) (h7 : (m : Int) ∣ (a : Int) * (y : Int) - (s : Int)) : (m : Int) ∣ (a : Int) * (z : Int) - (t : Int) := by
  obtain ⟨A, hA⟩ := h6
  obtain ⟨B, hB⟩ := h7
  replace e1 := congrArg (fun k : Nat => (k : Int)) e1
  replace e2 := congrArg (fun k : Nat => (k : Int)) e2
  replace e3 := congrArg (fun k : Nat => (k : Int)) e3
  replace e4 := congrArg (fun k : Nat => (k : Int)) e4
  replace hnp := congrArg (fun k : Nat => (k : Int)) hnp
  simp only [Int.natCast_add, Int.natCast_mul] at e1 e2 e3 e4 hnp
  refine ⟨A - (q : Int) * B + (a : Int) + (a : Int) * ((Q : Int) * (y : Int) + (V : Int)) - (a : Int) * (u : Int), ?_⟩
  grind
theorem IInv.start {a m : Nat} (h : a < m) : IInv a m m a 0 (1 % m) := by
  refine ⟨Nat.le_refl _, h, by omega, Nat.mod_lt _ (by omega), Nat.gcd_comm _ _, ⟨-1, by simp⟩, ?_⟩
  by_cases h1 : m = 1
  · subst h1
    obtain rfl : a = 0 := by omega
    exact ⟨0, by simp⟩
  · rw [Nat.mod_eq_of_lt (by omega)]
    exact ⟨0, by simp⟩
theorem IInv.step {a m r s x y : Nat} (h : IInv a m r s x y) (hs : s ≠ 0) : IInv a m s (r % s) y ((x + (m - (r / s % m * y) % m)) % m) := by
  obtain ⟨h1, h2, h3, h4, h5, h6, h7⟩ := h
  have hm0 : 0 < m := by omega
  refine ⟨by omega, Nat.mod_lt _ (by omega), h4, Nat.mod_lt _ hm0, by rw [gcd_step]; exact h5, h7, ?_⟩
  have hp : r / s % m * y % m ≤ m := Nat.le_of_lt (Nat.mod_lt _ hm0)
  exact inv_arith (Nat.div_add_mod r s) (Nat.div_add_mod (r / s) m) (Nat.div_add_mod (r / s % m * y) m) (Nat.div_add_mod (x + (m - r / s % m * y % m)) m) (by omega) h6 h7
theorem IInv.fin {a m r x y : Nat} (h : IInv a m r 0 x y) : r = Nat.gcd a m ∧ x < m ∧ (m : Int) ∣ (a : Int) * (x : Int) - (Nat.gcd a m : Int) := by
  obtain ⟨h1, h2, h3, h4, h5, h6, h7⟩ := h
  rw [Nat.gcd_zero_right] at h5
  exact ⟨h5, h3, by rw [← h5]; exact h6⟩
/-- What the reference's Inverse returns. -/
def RetInv (a m : Nat) (w : World) (e : Ending) (w' : World) : Prop := ∃ D d x, e = .returned (.tuple #[.agg #[.slice D (nw x) d], .bool (decide (Nat.gcd a m = 1))]) ∧ Own w' w.heap.size D (nw x) d x ∧ Below w.heap.size w w' ∧ x < m ∧ (m : Int) ∣ (a : Int) * (x : Int) - (Nat.gcd a m : Int)
theorem wp_landR {P : Program} {c : Code} {Q : Exit → Act → World → Prop} {a : Act} {w : World} {F : Nat → Nat → Act} (R : Nat → Nat → World → Prop)
    (hreg : c.wp P (fun e a1 w1 => e = Exit.normal ∧ ∃ x0 x1, a1 = F x0 x1 ∧ R x0 x1 w1) a w) (himp : ∀ x0 x1 w1, R x0 x1 w1 → Q Exit.normal (F x0 x1) w1) : c.wp P Q a w :=
  Code.wp_mono (fun e a1 w1 h => by obtain ⟨rfl, x0, x1, rfl, hR⟩ := h; exact himp _ _ w1 hR) hreg
theorem wp_landS {P : Program} {c : Code} {Q : Exit → Act → World → Prop} {a : Act} {w : World} {F : Nat → Nat → Option Addr → Nat → Option Addr → Nat → Act} (R : Nat → Nat → Option Addr → Nat → Option Addr → Nat → World → Prop)
    (hreg : c.wp P (fun e a1 w1 => e = Exit.normal ∧ ∃ x0 x1 x2 x3 x4 x5, a1 = F x0 x1 x2 x3 x4 x5 ∧ R x0 x1 x2 x3 x4 x5 w1) a w) (himp : ∀ x0 x1 x2 x3 x4 x5 w1, R x0 x1 x2 x3 x4 x5 w1 → Q Exit.normal (F x0 x1 x2 x3 x4 x5) w1) : c.wp P Q a w :=
  Code.wp_mono (fun e a1 w1 h => by obtain ⟨rfl, x0, x1, x2, x3, x4, x5, rfl, hR⟩ := h; exact himp _ _ _ _ _ _ w1 hR) hreg
set_option maxHeartbeats 16000000 in
theorem rinverse_any (A B' : Option Addr) (c p a m : Nat) (w : World) (hA : Num w w.heap.size A (nw a) a) (hB : Num w w.heap.size B' (nw m) m) (hm : nw m ≤ 64) (h1 : a < m) :
    Calls Try.prog 28 #[.agg #[.slice A (nw a) c], .agg #[.slice B' (nw m) p]] w (RetInv a m w) := by
  have HS0 := hid (IInv.start h1)
  have hm0 : 0 < m := by omega
  have HM0 := hid hm0
  have ha : nw a ≤ 64 := Nat.le_trans (nw_mono (Nat.le_of_lt h1)) hm
  have h00 : nw 0 = 0 := rfl
  have h01 : nw 1 ≤ 64 := by decide
  obtain ⟨y0, hy0⟩ : ∃ y, y = 1 % m := ⟨_, rfl⟩
  have HY0 := hid hy0
  rw [← hy0] at HS0
  clear hy0 h1 hm0
  obtain ⟨b0, b1, b2, bw⟩ := boxes3 w (.slice A (nw a) c) (.slice B' (nw m) p) (.slice none 0 0)
  have XA := VB.mk (B := w.heap.size) (a := a) b0 (.inl hA) bw (Nat.le_refl _) (by omega)
  have XM := VB.mk (B := w.heap.size) (a := m) b1 (.inl hB) bw (Nat.le_refl _) (by omega)
  have XR := VB.mk (B := w.heap.size) (a := 0) b2 (.inr (Own.nil _ _ _ _ (Nat.zero_le _))) bw (Nat.le_refl _) (by omega)
  have WW := bw
  clear bw b0 b1 b2
  go_enter Try.func28, Try.ntmps28
  go_wp2_with fail
  generalize hV : (((w.alloc (.cells #[.slice A (nw a) c] 24)).alloc (.cells #[.slice B' (nw m) p] 24)).alloc (.cells #[.slice none 0 0] 24)) = V0 at XA XM XR WW ⊢
  clear hV
  apply wp_landR (R := fun gXr gXs w1 => Below w.heap.size w w1 ∧ VB w.heap.size w1 (w.heap.size) A (nw a) c a ∧ VB w.heap.size w1 (w.heap.size + 1) B' (nw m) p m ∧ VB w.heap.size w1 (w.heap.size + 1 + 1) none 0 0 0 ∧ VB w.heap.size w1 (gXr) B' (nw m) p m ∧ VB w.heap.size w1 (gXs) A (nw a) c a ∧ w.heap.size + 1 + 1 < gXr ∧ w.heap.size + 1 + 1 < gXs ∧ gXr ≠ gXs)
  case hreg =>
    refine wp_region_noPanic ?_
    have WWd := WW.drew
    have XAd := XA.drew
    have XMd := XM.drew
    have XRd := XR.drew
    have hst : (fun w' => w'.cell? ⟨w.heap.size, 0, none⟩ = some (.slice A (nw a) c) ∧ w'.cell? ⟨w.heap.size + 1, 0, none⟩ = some (.slice B' (nw m) p)) V0.drew := ⟨XA.cell, XM.cell⟩
    have qq0 := XRd.lt
    refine region_L 13 (fun w' => w'.cell? ⟨w.heap.size, 0, none⟩ = some (.slice A (nw a) c) ∧ w'.cell? ⟨w.heap.size + 1, 0, none⟩ = some (.slice B' (nw m) p)) (by kernel_rfl) hst (fun hHeld => ?_)
    clear hst
    generalize hV : V0.drew = U0x0 at hHeld WWd qq0 XAd XMd XRd ⊢
    clear hV
    have WW := WWd
    have XA := XAd
    have XM := XMd
    have XR := XRd
    clear WWd XAd XMd XRd
    refine AnyL_take (i := 0) (oi := oq28_1_0) (v := ?_) rfl (by kernel_rfl) (by kernel_rfl) (by kernel_rfl) (by kernel_rfl) (fun _ _ _ h => h) (Or.inl ⟨by rfl, ?_⟩) (by assumption) ?_
    rotate_left
    · (delta oq28_1_0; intro ws hSw; (try dsimp only at hSw); (try go_simp); (try with_reducible rfl))
    (try simp only [oq28_1_0, Act.put, List.setIfInBounds_toArray, List.set_cons_zero, List.set_cons_succ])
    refine AnyL_take (i := 1) (oi := oq28_1_1) (v := ?_) rfl (by kernel_rfl) (by kernel_rfl) (by kernel_rfl) (by kernel_rfl) (fun _ _ _ h => h) (Or.inl ⟨by rfl, ?_⟩) (by assumption) ?_
    rotate_left
    · (delta oq28_1_1; intro ws hSw; (try dsimp only at hSw); (try go_simp); (try with_reducible rfl))
    (try simp only [oq28_1_1, Act.put, List.setIfInBounds_toArray, List.set_cons_zero, List.set_cons_succ])
    refine AnyL_ready (rs := [2, 3]) (by kernel_rfl) (by simp) ?_
    refine ReadyL.cons (o := oq28_1_2) rfl (fun K hK => ?_) ?_
    · delta oq28_1_2
      have lqXR : w.heap.size + 1 + 1 < U0x0.heap.size := XR.lt
      go_simp
      have ba := (Below.refl U0x0.heap.size U0x0).alloc (Nat.le_refl _) (.cells #[.slice none 0 0] 24)
      have XAn := XA.below ba
      have XMn := XM.below ba
      have XRn := XR.below ba
      have bn := Blk.new U0x0 24 #[.slice none 0 0]
      have Xrn := VB.mk (B := w.heap.size) (a := 0) bn (.inr (Own.nil _ _ _ _ (Nat.zero_le _))) ba WW.size WW.size
      have WWn := WW.trans (ba.mono WW.size)
      have sn : U0x0.heap.size < (U0x0.alloc (.cells #[.slice none 0 0] 24)).heap.size := bn.lt
      refine hK.out _ _ (⟨XAn.cell, XMn.cell⟩) (fun hHeld2 => ?_)
      clear hK K hHeld
      (try simp only [oq28_1_2, Act.put, List.setIfInBounds_toArray, List.set_cons_zero, List.set_cons_succ])
      generalize hV : U0x0.alloc (.cells #[.slice none 0 0] 24) = V2 at hHeld2 sn WWn XAn XMn XRn Xrn ⊢
      clear hV ba bn WW XA XM XR
      have WW := WWn
      have XA := XAn
      have XM := XMn
      have XR := XRn
      have Xr := Xrn
      have sz2 := sn
      have hHeld := hHeld2
      clear sn hHeld2 WWn XAn XMn XRn Xrn
      obtain ⟨gXr, hg⟩ : ∃ x, x = U0x0.heap.size := ⟨_, rfl⟩
      have mXrXR : w.heap.size + 1 + 1 < gXr := by omega
      rw [← hg] at Xr sz2 ⊢
      clear hg lqXR
      refine AnyL_ready (rs := [3]) (by kernel_rfl) (by simp) ?_
      refine ReadyL.cons (o := oq28_1_3) rfl (fun K hK => ?_) ReadyL.nil
      delta oq28_1_3
      have lqXR : w.heap.size + 1 + 1 < V2.heap.size := XR.lt
      have lXr : gXr < V2.heap.size := Xr.lt
      go_simp
      have ba := (Below.refl V2.heap.size V2).alloc (Nat.le_refl _) (.cells #[.slice none 0 0] 24)
      have XAn := XA.below ba
      have XMn := XM.below ba
      have XRn := XR.below ba
      have Xrn := Xr.below ba
      have bn := Blk.new V2 24 #[.slice none 0 0]
      have Xsn := VB.mk (B := w.heap.size) (a := 0) bn (.inr (Own.nil _ _ _ _ (Nat.zero_le _))) ba WW.size WW.size
      have WWn := WW.trans (ba.mono WW.size)
      have sn : V2.heap.size < (V2.alloc (.cells #[.slice none 0 0] 24)).heap.size := bn.lt
      refine hK.out _ _ (⟨XAn.cell, XMn.cell⟩) (fun hHeld2 => ?_)
      clear hK K hHeld
      (try simp only [oq28_1_3, Act.put, List.setIfInBounds_toArray, List.set_cons_zero, List.set_cons_succ])
      generalize hV : V2.alloc (.cells #[.slice none 0 0] 24) = V3 at hHeld2 sn WWn XAn XMn XRn Xrn Xsn ⊢
      clear hV ba bn WW XA XM XR Xr
      have WW := WWn
      have XA := XAn
      have XM := XMn
      have XR := XRn
      have Xr := Xrn
      have Xs := Xsn
      have sz3 := sn
      have hHeld := hHeld2
      clear sn hHeld2 WWn XAn XMn XRn Xrn Xsn
      obtain ⟨gXs, hg⟩ : ∃ x, x = V2.heap.size := ⟨_, rfl⟩
      have mXsXR : w.heap.size + 1 + 1 < gXs := by omega
      have nXrXs : gXr ≠ gXs := by omega
      rw [← hg] at Xs sz3 ⊢
      clear hg lqXR lXr
      refine AnyL_ready (rs := [4]) (by kernel_rfl) (by simp) ?_
      refine ReadyL.cons (o := oq28_1_4) rfl (fun K hK => ?_) ReadyL.nil
      delta oq28_1_4
      have fz := Xr.1.frozen 0
      have cz := Xr.cell
      have lz := Xr.lt
      go_simp
      have XAn := XA.far (p := ⟨gXr, 0, none⟩) Xr.1 Xr.2.2 (by simp <;> omega) (.slice B' (nw m) p)
      have XMn := XM.far (p := ⟨gXr, 0, none⟩) Xr.1 Xr.2.2 (by simp <;> omega) (.slice B' (nw m) p)
      have XRn := XR.far (p := ⟨gXr, 0, none⟩) Xr.1 Xr.2.2 (by simp <;> omega) (.slice B' (nw m) p)
      have Xsn := Xs.far (p := ⟨gXr, 0, none⟩) Xr.1 Xr.2.2 (by simp <;> omega) (.slice B' (nw m) p)
      have Xrn := Xr.set_ (A' := B') (n' := (nw m)) (c' := p) (a' := m) (XM.2.1)
      have WWn := WW.setCell (p := ⟨gXr, 0, none⟩) (by simp <;> omega) (.slice B' (nw m) p)
      refine hK.out _ _ (⟨XAn.cell, XMn.cell⟩) (fun hHeld2 => ?_)
      clear hK K hHeld
      (try simp only [oq28_1_4, Act.put, List.setIfInBounds_toArray, List.set_cons_zero, List.set_cons_succ])
      generalize hV : V3.setCell ⟨gXr, 0, none⟩ (.slice B' (nw m) p) = V4 at hHeld2 WWn XAn XMn XRn Xrn Xsn ⊢
      clear hV fz cz lz WW XA XM XR Xr Xs
      have WW := WWn
      have XA := XAn
      have XM := XMn
      have XR := XRn
      have Xr := Xrn
      have Xs := Xsn
      have hHeld := hHeld2
      clear hHeld2
      clear WWn XAn XMn XRn Xrn Xsn
      refine AnyL_ready (rs := [5]) (by kernel_rfl) (by simp) ?_
      refine ReadyL.cons (o := oq28_1_5) rfl (fun K hK => ?_) ReadyL.nil
      delta oq28_1_5
      have fz := Xs.1.frozen 0
      have cz := Xs.cell
      have lz := Xs.lt
      go_simp
      have XAn := XA.far (p := ⟨gXs, 0, none⟩) Xs.1 Xs.2.2 (by simp <;> omega) (.slice A (nw a) c)
      have XMn := XM.far (p := ⟨gXs, 0, none⟩) Xs.1 Xs.2.2 (by simp <;> omega) (.slice A (nw a) c)
      have XRn := XR.far (p := ⟨gXs, 0, none⟩) Xs.1 Xs.2.2 (by simp <;> omega) (.slice A (nw a) c)
      have Xrn := Xr.far (p := ⟨gXs, 0, none⟩) Xs.1 Xs.2.2 (by simp <;> omega) (.slice A (nw a) c)
      have Xsn := Xs.set_ (A' := A) (n' := (nw a)) (c' := c) (a' := a) (XA.2.1)
      have WWn := WW.setCell (p := ⟨gXs, 0, none⟩) (by simp <;> omega) (.slice A (nw a) c)
      refine hK.out _ _ (⟨XAn.cell, XMn.cell⟩) (fun hHeld2 => ?_)
      clear hK K hHeld
      (try simp only [oq28_1_5, Act.put, List.setIfInBounds_toArray, List.set_cons_zero, List.set_cons_succ])
      generalize hV : V4.setCell ⟨gXs, 0, none⟩ (.slice A (nw a) c) = V5 at hHeld2 WWn XAn XMn XRn Xrn Xsn ⊢
      clear hV fz cz lz WW XA XM XR Xr Xs
      have WW := WWn
      have XA := XAn
      have XM := XMn
      have XR := XRn
      have Xr := Xrn
      have Xs := Xsn
      have hHeld := hHeld2
      clear hHeld2
      clear WWn XAn XMn XRn Xrn Xsn
      refine AnyL_done (by kernel_rfl) ?_ _
      clear hHeld
      refine NoPanic.normal ?_
      exact ⟨rfl, gXr, gXs, rfl, WW, XA, XM, XR, Xr, Xs, (by first | exact mXrXR | omega), (by first | exact mXsXR | omega), (by first | exact nXrXs | omega)⟩
    refine ReadyL.cons (o := oq28_1_3) rfl (fun K hK => ?_) ReadyL.nil
    · delta oq28_1_3
      have lqXR : w.heap.size + 1 + 1 < U0x0.heap.size := XR.lt
      go_simp
      have ba := (Below.refl U0x0.heap.size U0x0).alloc (Nat.le_refl _) (.cells #[.slice none 0 0] 24)
      have XAn := XA.below ba
      have XMn := XM.below ba
      have XRn := XR.below ba
      have bn := Blk.new U0x0 24 #[.slice none 0 0]
      have Xsn := VB.mk (B := w.heap.size) (a := 0) bn (.inr (Own.nil _ _ _ _ (Nat.zero_le _))) ba WW.size WW.size
      have WWn := WW.trans (ba.mono WW.size)
      have sn : U0x0.heap.size < (U0x0.alloc (.cells #[.slice none 0 0] 24)).heap.size := bn.lt
      refine hK.out _ _ (⟨XAn.cell, XMn.cell⟩) (fun hHeld2 => ?_)
      clear hK K hHeld
      (try simp only [oq28_1_3, Act.put, List.setIfInBounds_toArray, List.set_cons_zero, List.set_cons_succ])
      generalize hV : U0x0.alloc (.cells #[.slice none 0 0] 24) = V2 at hHeld2 sn WWn XAn XMn XRn Xsn ⊢
      clear hV ba bn WW XA XM XR
      have WW := WWn
      have XA := XAn
      have XM := XMn
      have XR := XRn
      have Xs := Xsn
      have sz2 := sn
      have hHeld := hHeld2
      clear sn hHeld2 WWn XAn XMn XRn Xsn
      obtain ⟨gXs, hg⟩ : ∃ x, x = U0x0.heap.size := ⟨_, rfl⟩
      have mXsXR : w.heap.size + 1 + 1 < gXs := by omega
      rw [← hg] at Xs sz2 ⊢
      clear hg lqXR
      refine AnyL_ready (rs := [2]) (by kernel_rfl) (by simp) ?_
      refine ReadyL.cons (o := oq28_1_2) rfl (fun K hK => ?_) ReadyL.nil
      delta oq28_1_2
      have lqXR : w.heap.size + 1 + 1 < V2.heap.size := XR.lt
      have lXs : gXs < V2.heap.size := Xs.lt
      go_simp
      have ba := (Below.refl V2.heap.size V2).alloc (Nat.le_refl _) (.cells #[.slice none 0 0] 24)
      have XAn := XA.below ba
      have XMn := XM.below ba
      have XRn := XR.below ba
      have Xsn := Xs.below ba
      have bn := Blk.new V2 24 #[.slice none 0 0]
      have Xrn := VB.mk (B := w.heap.size) (a := 0) bn (.inr (Own.nil _ _ _ _ (Nat.zero_le _))) ba WW.size WW.size
      have WWn := WW.trans (ba.mono WW.size)
      have sn : V2.heap.size < (V2.alloc (.cells #[.slice none 0 0] 24)).heap.size := bn.lt
      refine hK.out _ _ (⟨XAn.cell, XMn.cell⟩) (fun hHeld2 => ?_)
      clear hK K hHeld
      (try simp only [oq28_1_2, Act.put, List.setIfInBounds_toArray, List.set_cons_zero, List.set_cons_succ])
      generalize hV : V2.alloc (.cells #[.slice none 0 0] 24) = V3 at hHeld2 sn WWn XAn XMn XRn Xsn Xrn ⊢
      clear hV ba bn WW XA XM XR Xs
      have WW := WWn
      have XA := XAn
      have XM := XMn
      have XR := XRn
      have Xs := Xsn
      have Xr := Xrn
      have sz3 := sn
      have hHeld := hHeld2
      clear sn hHeld2 WWn XAn XMn XRn Xsn Xrn
      obtain ⟨gXr, hg⟩ : ∃ x, x = V2.heap.size := ⟨_, rfl⟩
      have mXrXR : w.heap.size + 1 + 1 < gXr := by omega
      have nXsXr : gXs ≠ gXr := by omega
      rw [← hg] at Xr sz3 ⊢
      clear hg lqXR lXs
      refine AnyL_ready (rs := [4]) (by kernel_rfl) (by simp) ?_
      refine ReadyL.cons (o := oq28_1_4) rfl (fun K hK => ?_) ReadyL.nil
      delta oq28_1_4
      have fz := Xr.1.frozen 0
      have cz := Xr.cell
      have lz := Xr.lt
      go_simp
      have XAn := XA.far (p := ⟨gXr, 0, none⟩) Xr.1 Xr.2.2 (by simp <;> omega) (.slice B' (nw m) p)
      have XMn := XM.far (p := ⟨gXr, 0, none⟩) Xr.1 Xr.2.2 (by simp <;> omega) (.slice B' (nw m) p)
      have XRn := XR.far (p := ⟨gXr, 0, none⟩) Xr.1 Xr.2.2 (by simp <;> omega) (.slice B' (nw m) p)
      have Xsn := Xs.far (p := ⟨gXr, 0, none⟩) Xr.1 Xr.2.2 (by simp <;> omega) (.slice B' (nw m) p)
      have Xrn := Xr.set_ (A' := B') (n' := (nw m)) (c' := p) (a' := m) (XM.2.1)
      have WWn := WW.setCell (p := ⟨gXr, 0, none⟩) (by simp <;> omega) (.slice B' (nw m) p)
      refine hK.out _ _ (⟨XAn.cell, XMn.cell⟩) (fun hHeld2 => ?_)
      clear hK K hHeld
      (try simp only [oq28_1_4, Act.put, List.setIfInBounds_toArray, List.set_cons_zero, List.set_cons_succ])
      generalize hV : V3.setCell ⟨gXr, 0, none⟩ (.slice B' (nw m) p) = V4 at hHeld2 WWn XAn XMn XRn Xsn Xrn ⊢
      clear hV fz cz lz WW XA XM XR Xs Xr
      have WW := WWn
      have XA := XAn
      have XM := XMn
      have XR := XRn
      have Xs := Xsn
      have Xr := Xrn
      have hHeld := hHeld2
      clear hHeld2
      clear WWn XAn XMn XRn Xsn Xrn
      refine AnyL_ready (rs := [5]) (by kernel_rfl) (by simp) ?_
      refine ReadyL.cons (o := oq28_1_5) rfl (fun K hK => ?_) ReadyL.nil
      delta oq28_1_5
      have fz := Xs.1.frozen 0
      have cz := Xs.cell
      have lz := Xs.lt
      go_simp
      have XAn := XA.far (p := ⟨gXs, 0, none⟩) Xs.1 Xs.2.2 (by simp <;> omega) (.slice A (nw a) c)
      have XMn := XM.far (p := ⟨gXs, 0, none⟩) Xs.1 Xs.2.2 (by simp <;> omega) (.slice A (nw a) c)
      have XRn := XR.far (p := ⟨gXs, 0, none⟩) Xs.1 Xs.2.2 (by simp <;> omega) (.slice A (nw a) c)
      have Xrn := Xr.far (p := ⟨gXs, 0, none⟩) Xs.1 Xs.2.2 (by simp <;> omega) (.slice A (nw a) c)
      have Xsn := Xs.set_ (A' := A) (n' := (nw a)) (c' := c) (a' := a) (XA.2.1)
      have WWn := WW.setCell (p := ⟨gXs, 0, none⟩) (by simp <;> omega) (.slice A (nw a) c)
      refine hK.out _ _ (⟨XAn.cell, XMn.cell⟩) (fun hHeld2 => ?_)
      clear hK K hHeld
      (try simp only [oq28_1_5, Act.put, List.setIfInBounds_toArray, List.set_cons_zero, List.set_cons_succ])
      generalize hV : V4.setCell ⟨gXs, 0, none⟩ (.slice A (nw a) c) = V5 at hHeld2 WWn XAn XMn XRn Xsn Xrn ⊢
      clear hV fz cz lz WW XA XM XR Xs Xr
      have WW := WWn
      have XA := XAn
      have XM := XMn
      have XR := XRn
      have Xs := Xsn
      have Xr := Xrn
      have hHeld := hHeld2
      clear hHeld2
      clear WWn XAn XMn XRn Xsn Xrn
      refine AnyL_done (by kernel_rfl) ?_ _
      clear hHeld
      refine NoPanic.normal ?_
      exact ⟨rfl, gXr, gXs, rfl, WW, XA, XM, XR, Xr, Xs, (by first | exact mXrXR | omega), (by first | exact mXsXR | omega), (by first | exact nXrXs | omega)⟩
  rintro gXr gXs V50 ⟨WW, XA, XM, XR, Xr, Xs, mXrXR, mXsXR, nXrXs⟩
  have kXA := XA.cell
  have zXA := XA.lt
  have kXM := XM.cell
  have zXM := XM.lt
  have kXR := XR.cell
  have zXR := XR.lt
  have kXr := Xr.cell
  have zXr := Xr.lt
  have kXs := Xs.cell
  have zXs := Xs.lt
  go_wp2_with fail
  have O9 : Own V50 w.heap.size none 0 0 0 := Own.nil _ _ _ _ (Nat.zero_le _)
  clear kXA zXA kXM zXM kXR zXR kXr zXr kXs zXs
  apply wp_landS (R := fun gXx gXy D7 d7 D8 d8 w1 => Below w.heap.size w w1 ∧ VB w.heap.size w1 (w.heap.size) A (nw a) c a ∧ VB w.heap.size w1 (w.heap.size + 1) B' (nw m) p m ∧ VB w.heap.size w1 (w.heap.size + 1 + 1) none 0 0 0 ∧ VB w.heap.size w1 (gXr) B' (nw m) p m ∧ VB w.heap.size w1 (gXs) A (nw a) c a ∧ VB w.heap.size w1 (gXx) none 0 0 0 ∧ VB w.heap.size w1 (gXy) D8 (nw y0) d8 y0 ∧ Own w1 w.heap.size none 0 0 0 ∧ Own w1 w.heap.size D7 (nw 1) d7 1 ∧ Own w1 w.heap.size D8 (nw y0) d8 y0 ∧ gXr < gXx ∧ gXs < gXx ∧ w.heap.size + 1 + 1 < gXx ∧ gXr < gXy ∧ gXs < gXy ∧ w.heap.size + 1 + 1 < gXy ∧ gXx ≠ gXy)
  case hreg =>
    refine wp_region_noPanic ?_
    have WWd := WW.drew
    have XAd := XA.drew
    have XMd := XM.drew
    have XRd := XR.drew
    have Xrd := Xr.drew
    have Xsd := Xs.drew
    have O9d := O9.drew
    have hst : (fun w' => w'.cell? ⟨w.heap.size + 1, 0, none⟩ = some (.slice B' (nw m) p)) V50.drew := XM.cell
    have qq0 := Xsd.lt
    refine region_L 15 (fun w' => w'.cell? ⟨w.heap.size + 1, 0, none⟩ = some (.slice B' (nw m) p)) (by kernel_rfl) hst (fun hHeld => ?_)
    clear hst
    generalize hV : V50.drew = U50x0 at hHeld WWd qq0 XAd XMd XRd Xrd Xsd O9d ⊢
    clear hV
    have WW := WWd
    have XA := XAd
    have XM := XMd
    have XR := XRd
    have Xr := Xrd
    have Xs := Xsd
    have O9 := O9d
    clear WWd XAd XMd XRd Xrd Xsd O9d
    refine AnyL_take (i := 0) (oi := oq28_2_0) (v := ?_) rfl (by kernel_rfl) (by kernel_rfl) (by kernel_rfl) (by kernel_rfl) (fun _ _ _ h => h) (Or.inl ⟨by rfl, ?_⟩) (by assumption) ?_
    rotate_left
    · (delta oq28_2_0; intro ws hSw; (try dsimp only at hSw); (try go_simp); (try with_reducible rfl))
    (try simp only [oq28_2_0, Act.put, List.setIfInBounds_toArray, List.set_cons_zero, List.set_cons_succ])
    refine AnyL_take (i := 2) (oi := oq28_2_2) (v := ?_) rfl (by kernel_rfl) (by kernel_rfl) (by kernel_rfl) (by kernel_rfl) (fun _ _ _ h => h) (Or.inl ⟨by rfl, ?_⟩) (by assumption) ?_
    rotate_left
    · (delta oq28_2_2; intro ws hSw; (try dsimp only at hSw); (try go_simp); (try with_reducible rfl))
    (try simp only [oq28_2_2, Act.put, List.setIfInBounds_toArray, List.set_cons_zero, List.set_cons_succ])
    refine AnyL_ready (rs := [1, 4, 5]) (by kernel_rfl) (by simp) ?_
    refine ReadyL.cons (o := oq28_2_1) rfl (fun K hK => ?_) ?_
    · delta oq28_2_1
      go_simp
      have hbs : w.heap.size ≤ U50x0.heap.size := WW.size
      have hc := of3_1 U50x0
      refine hc.mono ?_
      clear hc
      rintro e V52 ⟨v, rfl, hv, hb⟩
      replace XA := XA.below hb
      replace XM := XM.below hb
      replace XR := XR.below hb
      replace Xr := Xr.below hb
      replace Xs := Xs.below hb
      replace O9 := O9.below hb (Nat.le_refl _)
      replace WW := WW.trans (hb.mono WW.size)
      have sz52 := hb.size
      obtain ⟨D7, d7, rfl, ho⟩ := hv
      have O7 := ho.weak (b := w.heap.size) hbs
      clear ho
      clear hb hbs
      refine hK.out _ _ (XM.cell) (fun hHeld2 => ?_)
      clear hK K hHeld
      have hHeld := hHeld2
      clear hHeld2
      (try simp only [oq28_2_1, Act.put, List.setIfInBounds_toArray, List.set_cons_zero, List.set_cons_succ])
      refine AnyL_ready (rs := [3, 4, 5]) (by kernel_rfl) (by simp) ?_
      refine ReadyL.cons (o := oq28_2_3) rfl (fun K hK => ?_) ?_
      · delta oq28_2_3
        go_simp
        have hbs : w.heap.size ≤ V52.heap.size := WW.size
        have hc := rmod3_any D7 B' d7 p 1 m V52 O7.num XM.num (by omega) (by omega) HM0.out
        rw [← HY0.out] at hc
        refine hc.mono ?_
        clear hc
        rintro e V53 ⟨v, rfl, hv, hb⟩
        replace XA := XA.below hb
        replace XM := XM.below hb
        replace XR := XR.below hb
        replace Xr := Xr.below hb
        replace Xs := Xs.below hb
        replace O9 := O9.below hb (Nat.le_refl _)
        replace O7 := O7.below hb (Nat.le_refl _)
        replace WW := WW.trans (hb.mono WW.size)
        have sz53 := hb.size
        obtain ⟨D8, d8, rfl, ho⟩ := hv
        have O8 := ho.weak (b := w.heap.size) hbs
        clear ho
        clear hb hbs
        refine hK.out _ _ (XM.cell) (fun hHeld2 => ?_)
        clear hK K hHeld
        have hHeld := hHeld2
        clear hHeld2
        (try simp only [oq28_2_3, Act.put, List.setIfInBounds_toArray, List.set_cons_zero, List.set_cons_succ])
        refine AnyL_ready (rs := [4, 5]) (by kernel_rfl) (by simp) ?_
        refine ReadyL.cons (o := oq28_2_4) rfl (fun K hK => ?_) ?_
        · delta oq28_2_4
          have lqXr : gXr < V53.heap.size := Xr.lt
          have lqXs : gXs < V53.heap.size := Xs.lt
          have lqXR : w.heap.size + 1 + 1 < V53.heap.size := XR.lt
          go_simp
          have ba := (Below.refl V53.heap.size V53).alloc (Nat.le_refl _) (.cells #[.slice none 0 0] 24)
          have XAn := XA.below ba
          have XMn := XM.below ba
          have XRn := XR.below ba
          have Xrn := Xr.below ba
          have Xsn := Xs.below ba
          have O9n := O9.below ba (Nat.le_refl _)
          have O7n := O7.below ba (Nat.le_refl _)
          have O8n := O8.below ba (Nat.le_refl _)
          have bn := Blk.new V53 24 #[.slice none 0 0]
          have Xxn := VB.mk (B := w.heap.size) (a := 0) bn (.inr (Own.nil _ _ _ _ (Nat.zero_le _))) ba WW.size WW.size
          have WWn := WW.trans (ba.mono WW.size)
          have sn : V53.heap.size < (V53.alloc (.cells #[.slice none 0 0] 24)).heap.size := bn.lt
          refine hK.out _ _ (XMn.cell) (fun hHeld2 => ?_)
          clear hK K hHeld
          (try simp only [oq28_2_4, Act.put, List.setIfInBounds_toArray, List.set_cons_zero, List.set_cons_succ])
          generalize hV : V53.alloc (.cells #[.slice none 0 0] 24) = V54 at hHeld2 sn WWn XAn XMn XRn Xrn Xsn Xxn O9n O7n O8n ⊢
          clear hV ba bn WW XA XM XR Xr Xs O9 O7 O8
          have WW := WWn
          have XA := XAn
          have XM := XMn
          have XR := XRn
          have Xr := Xrn
          have Xs := Xsn
          have Xx := Xxn
          have O9 := O9n
          have O7 := O7n
          have O8 := O8n
          have sz54 := sn
          have hHeld := hHeld2
          clear sn hHeld2 WWn XAn XMn XRn Xrn Xsn Xxn O9n O7n O8n
          obtain ⟨gXx, hg⟩ : ∃ x, x = V53.heap.size := ⟨_, rfl⟩
          have mXxXr : gXr < gXx := by omega
          have mXxXs : gXs < gXx := by omega
          have mXxXR : w.heap.size + 1 + 1 < gXx := by omega
          rw [← hg] at Xx sz54 ⊢
          clear hg lqXr lqXs lqXR
          refine AnyL_ready (rs := [5]) (by kernel_rfl) (by simp) ?_
          refine ReadyL.cons (o := oq28_2_5) rfl (fun K hK => ?_) ReadyL.nil
          delta oq28_2_5
          have lqXr : gXr < V54.heap.size := Xr.lt
          have lqXs : gXs < V54.heap.size := Xs.lt
          have lqXR : w.heap.size + 1 + 1 < V54.heap.size := XR.lt
          have lXx : gXx < V54.heap.size := Xx.lt
          go_simp
          have ba := (Below.refl V54.heap.size V54).alloc (Nat.le_refl _) (.cells #[.slice none 0 0] 24)
          have XAn := XA.below ba
          have XMn := XM.below ba
          have XRn := XR.below ba
          have Xrn := Xr.below ba
          have Xsn := Xs.below ba
          have Xxn := Xx.below ba
          have O9n := O9.below ba (Nat.le_refl _)
          have O7n := O7.below ba (Nat.le_refl _)
          have O8n := O8.below ba (Nat.le_refl _)
          have bn := Blk.new V54 24 #[.slice none 0 0]
          have Xyn := VB.mk (B := w.heap.size) (a := 0) bn (.inr (Own.nil _ _ _ _ (Nat.zero_le _))) ba WW.size WW.size
          have WWn := WW.trans (ba.mono WW.size)
          have sn : V54.heap.size < (V54.alloc (.cells #[.slice none 0 0] 24)).heap.size := bn.lt
          refine hK.out _ _ (XMn.cell) (fun hHeld2 => ?_)
          clear hK K hHeld
          (try simp only [oq28_2_5, Act.put, List.setIfInBounds_toArray, List.set_cons_zero, List.set_cons_succ])
          generalize hV : V54.alloc (.cells #[.slice none 0 0] 24) = V55 at hHeld2 sn WWn XAn XMn XRn Xrn Xsn Xxn Xyn O9n O7n O8n ⊢
          clear hV ba bn WW XA XM XR Xr Xs Xx O9 O7 O8
          have WW := WWn
          have XA := XAn
          have XM := XMn
          have XR := XRn
          have Xr := Xrn
          have Xs := Xsn
          have Xx := Xxn
          have Xy := Xyn
          have O9 := O9n
          have O7 := O7n
          have O8 := O8n
          have sz55 := sn
          have hHeld := hHeld2
          clear sn hHeld2 WWn XAn XMn XRn Xrn Xsn Xxn Xyn O9n O7n O8n
          obtain ⟨gXy, hg⟩ : ∃ x, x = V54.heap.size := ⟨_, rfl⟩
          have mXyXr : gXr < gXy := by omega
          have mXyXs : gXs < gXy := by omega
          have mXyXR : w.heap.size + 1 + 1 < gXy := by omega
          have nXxXy : gXx ≠ gXy := by omega
          rw [← hg] at Xy sz55 ⊢
          clear hg lqXr lqXs lqXR lXx
          refine AnyL_ready (rs := [6]) (by kernel_rfl) (by simp) ?_
          refine ReadyL.cons (o := oq28_2_6) rfl (fun K hK => ?_) ReadyL.nil
          delta oq28_2_6
          have fz := Xx.1.frozen 0
          have cz := Xx.cell
          have lz := Xx.lt
          go_simp
          have XAn := XA.far (p := ⟨gXx, 0, none⟩) Xx.1 Xx.2.2 (by simp <;> omega) (.slice none 0 0)
          have XMn := XM.far (p := ⟨gXx, 0, none⟩) Xx.1 Xx.2.2 (by simp <;> omega) (.slice none 0 0)
          have XRn := XR.far (p := ⟨gXx, 0, none⟩) Xx.1 Xx.2.2 (by simp <;> omega) (.slice none 0 0)
          have Xrn := Xr.far (p := ⟨gXx, 0, none⟩) Xx.1 Xx.2.2 (by simp <;> omega) (.slice none 0 0)
          have Xsn := Xs.far (p := ⟨gXx, 0, none⟩) Xx.1 Xx.2.2 (by simp <;> omega) (.slice none 0 0)
          have Xyn := Xy.far (p := ⟨gXx, 0, none⟩) Xx.1 Xx.2.2 (by simp <;> omega) (.slice none 0 0)
          have Xxn := Xx.set_ (A' := none) (n' := 0) (c' := 0) (a' := 0) (.inr (Own.nil _ _ _ _ (Nat.zero_le _)))
          have O9n := O9.box (p := ⟨gXx, 0, none⟩) Xx.1 (by decide) (.slice none 0 0)
          have O7n := O7.box (p := ⟨gXx, 0, none⟩) Xx.1 (by decide) (.slice none 0 0)
          have O8n := O8.box (p := ⟨gXx, 0, none⟩) Xx.1 (by decide) (.slice none 0 0)
          have WWn := WW.setCell (p := ⟨gXx, 0, none⟩) (by simp <;> omega) (.slice none 0 0)
          refine hK.out _ _ (XMn.cell) (fun hHeld2 => ?_)
          clear hK K hHeld
          (try simp only [oq28_2_6, Act.put, List.setIfInBounds_toArray, List.set_cons_zero, List.set_cons_succ])
          generalize hV : V55.setCell ⟨gXx, 0, none⟩ (.slice none 0 0) = V56 at hHeld2 WWn XAn XMn XRn Xrn Xsn Xxn Xyn O9n O7n O8n ⊢
          clear hV fz cz lz WW XA XM XR Xr Xs Xx Xy O9 O7 O8
          have WW := WWn
          have XA := XAn
          have XM := XMn
          have XR := XRn
          have Xr := Xrn
          have Xs := Xsn
          have Xx := Xxn
          have Xy := Xyn
          have O9 := O9n
          have O7 := O7n
          have O8 := O8n
          have hHeld := hHeld2
          clear hHeld2
          clear WWn XAn XMn XRn Xrn Xsn Xxn Xyn O9n O7n O8n
          refine AnyL_ready (rs := [7]) (by kernel_rfl) (by simp) ?_
          refine ReadyL.cons (o := oq28_2_7) rfl (fun K hK => ?_) ReadyL.nil
          delta oq28_2_7
          have fz := Xy.1.frozen 0
          have cz := Xy.cell
          have lz := Xy.lt
          go_simp
          have XAn := XA.far (p := ⟨gXy, 0, none⟩) Xy.1 Xy.2.2 (by simp <;> omega) (.slice D8 (nw y0) d8)
          have XMn := XM.far (p := ⟨gXy, 0, none⟩) Xy.1 Xy.2.2 (by simp <;> omega) (.slice D8 (nw y0) d8)
          have XRn := XR.far (p := ⟨gXy, 0, none⟩) Xy.1 Xy.2.2 (by simp <;> omega) (.slice D8 (nw y0) d8)
          have Xrn := Xr.far (p := ⟨gXy, 0, none⟩) Xy.1 Xy.2.2 (by simp <;> omega) (.slice D8 (nw y0) d8)
          have Xsn := Xs.far (p := ⟨gXy, 0, none⟩) Xy.1 Xy.2.2 (by simp <;> omega) (.slice D8 (nw y0) d8)
          have Xxn := Xx.far (p := ⟨gXy, 0, none⟩) Xy.1 Xy.2.2 (by simp <;> omega) (.slice D8 (nw y0) d8)
          have Xyn := Xy.set_ (A' := D8) (n' := (nw y0)) (c' := d8) (a' := y0) (.inr O8)
          have O9n := O9.box (p := ⟨gXy, 0, none⟩) Xy.1 (by decide) (.slice D8 (nw y0) d8)
          have O7n := O7.box (p := ⟨gXy, 0, none⟩) Xy.1 (by decide) (.slice D8 (nw y0) d8)
          have O8n := O8.box (p := ⟨gXy, 0, none⟩) Xy.1 (by decide) (.slice D8 (nw y0) d8)
          have WWn := WW.setCell (p := ⟨gXy, 0, none⟩) (by simp <;> omega) (.slice D8 (nw y0) d8)
          refine hK.out _ _ (XMn.cell) (fun hHeld2 => ?_)
          clear hK K hHeld
          (try simp only [oq28_2_7, Act.put, List.setIfInBounds_toArray, List.set_cons_zero, List.set_cons_succ])
          generalize hV : V56.setCell ⟨gXy, 0, none⟩ (.slice D8 (nw y0) d8) = V57 at hHeld2 WWn XAn XMn XRn Xrn Xsn Xxn Xyn O9n O7n O8n ⊢
          clear hV fz cz lz WW XA XM XR Xr Xs Xx Xy O9 O7 O8
          have WW := WWn
          have XA := XAn
          have XM := XMn
          have XR := XRn
          have Xr := Xrn
          have Xs := Xsn
          have Xx := Xxn
          have Xy := Xyn
          have O9 := O9n
          have O7 := O7n
          have O8 := O8n
          have hHeld := hHeld2
          clear hHeld2
          clear WWn XAn XMn XRn Xrn Xsn Xxn Xyn O9n O7n O8n
          refine AnyL_done (by kernel_rfl) ?_ _
          clear hHeld
          refine NoPanic.normal ?_
          exact ⟨rfl, gXx, gXy, D7, d7, D8, d8, rfl, WW, XA, XM, XR, Xr, Xs, Xx, Xy, O9, O7, O8, (by first | exact mXxXr | omega), (by first | exact mXxXs | omega), (by first | exact mXxXR | omega), (by first | exact mXyXr | omega), (by first | exact mXyXs | omega), (by first | exact mXyXR | omega), (by first | exact nXxXy | omega)⟩
        refine ReadyL.cons (o := oq28_2_5) rfl (fun K hK => ?_) ReadyL.nil
        · delta oq28_2_5
          have lqXr : gXr < V53.heap.size := Xr.lt
          have lqXs : gXs < V53.heap.size := Xs.lt
          have lqXR : w.heap.size + 1 + 1 < V53.heap.size := XR.lt
          go_simp
          have ba := (Below.refl V53.heap.size V53).alloc (Nat.le_refl _) (.cells #[.slice none 0 0] 24)
          have XAn := XA.below ba
          have XMn := XM.below ba
          have XRn := XR.below ba
          have Xrn := Xr.below ba
          have Xsn := Xs.below ba
          have O9n := O9.below ba (Nat.le_refl _)
          have O7n := O7.below ba (Nat.le_refl _)
          have O8n := O8.below ba (Nat.le_refl _)
          have bn := Blk.new V53 24 #[.slice none 0 0]
          have Xyn := VB.mk (B := w.heap.size) (a := 0) bn (.inr (Own.nil _ _ _ _ (Nat.zero_le _))) ba WW.size WW.size
          have WWn := WW.trans (ba.mono WW.size)
          have sn : V53.heap.size < (V53.alloc (.cells #[.slice none 0 0] 24)).heap.size := bn.lt
          refine hK.out _ _ (XMn.cell) (fun hHeld2 => ?_)
          clear hK K hHeld
          (try simp only [oq28_2_5, Act.put, List.setIfInBounds_toArray, List.set_cons_zero, List.set_cons_succ])
          generalize hV : V53.alloc (.cells #[.slice none 0 0] 24) = V54 at hHeld2 sn WWn XAn XMn XRn Xrn Xsn Xyn O9n O7n O8n ⊢
          clear hV ba bn WW XA XM XR Xr Xs O9 O7 O8
          have WW := WWn
          have XA := XAn
          have XM := XMn
          have XR := XRn
          have Xr := Xrn
          have Xs := Xsn
          have Xy := Xyn
          have O9 := O9n
          have O7 := O7n
          have O8 := O8n
          have sz54 := sn
          have hHeld := hHeld2
          clear sn hHeld2 WWn XAn XMn XRn Xrn Xsn Xyn O9n O7n O8n
          obtain ⟨gXy, hg⟩ : ∃ x, x = V53.heap.size := ⟨_, rfl⟩
          have mXyXr : gXr < gXy := by omega
          have mXyXs : gXs < gXy := by omega
          have mXyXR : w.heap.size + 1 + 1 < gXy := by omega
          rw [← hg] at Xy sz54 ⊢
          clear hg lqXr lqXs lqXR
          refine AnyL_ready (rs := [4]) (by kernel_rfl) (by simp) ?_
          refine ReadyL.cons (o := oq28_2_4) rfl (fun K hK => ?_) ReadyL.nil
          delta oq28_2_4
          have lqXr : gXr < V54.heap.size := Xr.lt
          have lqXs : gXs < V54.heap.size := Xs.lt
          have lqXR : w.heap.size + 1 + 1 < V54.heap.size := XR.lt
          have lXy : gXy < V54.heap.size := Xy.lt
          go_simp
          have ba := (Below.refl V54.heap.size V54).alloc (Nat.le_refl _) (.cells #[.slice none 0 0] 24)
          have XAn := XA.below ba
          have XMn := XM.below ba
          have XRn := XR.below ba
          have Xrn := Xr.below ba
          have Xsn := Xs.below ba
          have Xyn := Xy.below ba
          have O9n := O9.below ba (Nat.le_refl _)
          have O7n := O7.below ba (Nat.le_refl _)
          have O8n := O8.below ba (Nat.le_refl _)
          have bn := Blk.new V54 24 #[.slice none 0 0]
          have Xxn := VB.mk (B := w.heap.size) (a := 0) bn (.inr (Own.nil _ _ _ _ (Nat.zero_le _))) ba WW.size WW.size
          have WWn := WW.trans (ba.mono WW.size)
          have sn : V54.heap.size < (V54.alloc (.cells #[.slice none 0 0] 24)).heap.size := bn.lt
          refine hK.out _ _ (XMn.cell) (fun hHeld2 => ?_)
          clear hK K hHeld
          (try simp only [oq28_2_4, Act.put, List.setIfInBounds_toArray, List.set_cons_zero, List.set_cons_succ])
          generalize hV : V54.alloc (.cells #[.slice none 0 0] 24) = V55 at hHeld2 sn WWn XAn XMn XRn Xrn Xsn Xyn Xxn O9n O7n O8n ⊢
          clear hV ba bn WW XA XM XR Xr Xs Xy O9 O7 O8
          have WW := WWn
          have XA := XAn
          have XM := XMn
          have XR := XRn
          have Xr := Xrn
          have Xs := Xsn
          have Xy := Xyn
          have Xx := Xxn
          have O9 := O9n
          have O7 := O7n
          have O8 := O8n
          have sz55 := sn
          have hHeld := hHeld2
          clear sn hHeld2 WWn XAn XMn XRn Xrn Xsn Xyn Xxn O9n O7n O8n
          obtain ⟨gXx, hg⟩ : ∃ x, x = V54.heap.size := ⟨_, rfl⟩
          have mXxXr : gXr < gXx := by omega
          have mXxXs : gXs < gXx := by omega
          have mXxXR : w.heap.size + 1 + 1 < gXx := by omega
          have nXyXx : gXy ≠ gXx := by omega
          rw [← hg] at Xx sz55 ⊢
          clear hg lqXr lqXs lqXR lXy
          refine AnyL_ready (rs := [6]) (by kernel_rfl) (by simp) ?_
          refine ReadyL.cons (o := oq28_2_6) rfl (fun K hK => ?_) ReadyL.nil
          delta oq28_2_6
          have fz := Xx.1.frozen 0
          have cz := Xx.cell
          have lz := Xx.lt
          go_simp
          have XAn := XA.far (p := ⟨gXx, 0, none⟩) Xx.1 Xx.2.2 (by simp <;> omega) (.slice none 0 0)
          have XMn := XM.far (p := ⟨gXx, 0, none⟩) Xx.1 Xx.2.2 (by simp <;> omega) (.slice none 0 0)
          have XRn := XR.far (p := ⟨gXx, 0, none⟩) Xx.1 Xx.2.2 (by simp <;> omega) (.slice none 0 0)
          have Xrn := Xr.far (p := ⟨gXx, 0, none⟩) Xx.1 Xx.2.2 (by simp <;> omega) (.slice none 0 0)
          have Xsn := Xs.far (p := ⟨gXx, 0, none⟩) Xx.1 Xx.2.2 (by simp <;> omega) (.slice none 0 0)
          have Xyn := Xy.far (p := ⟨gXx, 0, none⟩) Xx.1 Xx.2.2 (by simp <;> omega) (.slice none 0 0)
          have Xxn := Xx.set_ (A' := none) (n' := 0) (c' := 0) (a' := 0) (.inr (Own.nil _ _ _ _ (Nat.zero_le _)))
          have O9n := O9.box (p := ⟨gXx, 0, none⟩) Xx.1 (by decide) (.slice none 0 0)
          have O7n := O7.box (p := ⟨gXx, 0, none⟩) Xx.1 (by decide) (.slice none 0 0)
          have O8n := O8.box (p := ⟨gXx, 0, none⟩) Xx.1 (by decide) (.slice none 0 0)
          have WWn := WW.setCell (p := ⟨gXx, 0, none⟩) (by simp <;> omega) (.slice none 0 0)
          refine hK.out _ _ (XMn.cell) (fun hHeld2 => ?_)
          clear hK K hHeld
          (try simp only [oq28_2_6, Act.put, List.setIfInBounds_toArray, List.set_cons_zero, List.set_cons_succ])
          generalize hV : V55.setCell ⟨gXx, 0, none⟩ (.slice none 0 0) = V56 at hHeld2 WWn XAn XMn XRn Xrn Xsn Xyn Xxn O9n O7n O8n ⊢
          clear hV fz cz lz WW XA XM XR Xr Xs Xy Xx O9 O7 O8
          have WW := WWn
          have XA := XAn
          have XM := XMn
          have XR := XRn
          have Xr := Xrn
          have Xs := Xsn
          have Xy := Xyn
          have Xx := Xxn
          have O9 := O9n
          have O7 := O7n
          have O8 := O8n
          have hHeld := hHeld2
          clear hHeld2
          clear WWn XAn XMn XRn Xrn Xsn Xyn Xxn O9n O7n O8n
          refine AnyL_ready (rs := [7]) (by kernel_rfl) (by simp) ?_
          refine ReadyL.cons (o := oq28_2_7) rfl (fun K hK => ?_) ReadyL.nil
          delta oq28_2_7
          have fz := Xy.1.frozen 0
          have cz := Xy.cell
          have lz := Xy.lt
          go_simp
          have XAn := XA.far (p := ⟨gXy, 0, none⟩) Xy.1 Xy.2.2 (by simp <;> omega) (.slice D8 (nw y0) d8)
          have XMn := XM.far (p := ⟨gXy, 0, none⟩) Xy.1 Xy.2.2 (by simp <;> omega) (.slice D8 (nw y0) d8)
          have XRn := XR.far (p := ⟨gXy, 0, none⟩) Xy.1 Xy.2.2 (by simp <;> omega) (.slice D8 (nw y0) d8)
          have Xrn := Xr.far (p := ⟨gXy, 0, none⟩) Xy.1 Xy.2.2 (by simp <;> omega) (.slice D8 (nw y0) d8)
          have Xsn := Xs.far (p := ⟨gXy, 0, none⟩) Xy.1 Xy.2.2 (by simp <;> omega) (.slice D8 (nw y0) d8)
          have Xxn := Xx.far (p := ⟨gXy, 0, none⟩) Xy.1 Xy.2.2 (by simp <;> omega) (.slice D8 (nw y0) d8)
          have Xyn := Xy.set_ (A' := D8) (n' := (nw y0)) (c' := d8) (a' := y0) (.inr O8)
          have O9n := O9.box (p := ⟨gXy, 0, none⟩) Xy.1 (by decide) (.slice D8 (nw y0) d8)
          have O7n := O7.box (p := ⟨gXy, 0, none⟩) Xy.1 (by decide) (.slice D8 (nw y0) d8)
          have O8n := O8.box (p := ⟨gXy, 0, none⟩) Xy.1 (by decide) (.slice D8 (nw y0) d8)
          have WWn := WW.setCell (p := ⟨gXy, 0, none⟩) (by simp <;> omega) (.slice D8 (nw y0) d8)
          refine hK.out _ _ (XMn.cell) (fun hHeld2 => ?_)
          clear hK K hHeld
          (try simp only [oq28_2_7, Act.put, List.setIfInBounds_toArray, List.set_cons_zero, List.set_cons_succ])
          generalize hV : V56.setCell ⟨gXy, 0, none⟩ (.slice D8 (nw y0) d8) = V57 at hHeld2 WWn XAn XMn XRn Xrn Xsn Xyn Xxn O9n O7n O8n ⊢
          clear hV fz cz lz WW XA XM XR Xr Xs Xy Xx O9 O7 O8
          have WW := WWn
          have XA := XAn
          have XM := XMn
          have XR := XRn
          have Xr := Xrn
          have Xs := Xsn
          have Xy := Xyn
          have Xx := Xxn
          have O9 := O9n
          have O7 := O7n
          have O8 := O8n
          have hHeld := hHeld2
          clear hHeld2
          clear WWn XAn XMn XRn Xrn Xsn Xyn Xxn O9n O7n O8n
          refine AnyL_done (by kernel_rfl) ?_ _
          clear hHeld
          refine NoPanic.normal ?_
          exact ⟨rfl, gXx, gXy, D7, d7, D8, d8, rfl, WW, XA, XM, XR, Xr, Xs, Xx, Xy, O9, O7, O8, (by first | exact mXxXr | omega), (by first | exact mXxXs | omega), (by first | exact mXxXR | omega), (by first | exact mXyXr | omega), (by first | exact mXyXs | omega), (by first | exact mXyXR | omega), (by first | exact nXxXy | omega)⟩
      refine ReadyL.cons (o := oq28_2_4) rfl (fun K hK => ?_) ?_
      · delta oq28_2_4
        have lqXr : gXr < V52.heap.size := Xr.lt
        have lqXs : gXs < V52.heap.size := Xs.lt
        have lqXR : w.heap.size + 1 + 1 < V52.heap.size := XR.lt
        go_simp
        have ba := (Below.refl V52.heap.size V52).alloc (Nat.le_refl _) (.cells #[.slice none 0 0] 24)
        have XAn := XA.below ba
        have XMn := XM.below ba
        have XRn := XR.below ba
        have Xrn := Xr.below ba
        have Xsn := Xs.below ba
        have O9n := O9.below ba (Nat.le_refl _)
        have O7n := O7.below ba (Nat.le_refl _)
        have bn := Blk.new V52 24 #[.slice none 0 0]
        have Xxn := VB.mk (B := w.heap.size) (a := 0) bn (.inr (Own.nil _ _ _ _ (Nat.zero_le _))) ba WW.size WW.size
        have WWn := WW.trans (ba.mono WW.size)
        have sn : V52.heap.size < (V52.alloc (.cells #[.slice none 0 0] 24)).heap.size := bn.lt
        refine hK.out _ _ (XMn.cell) (fun hHeld2 => ?_)
        clear hK K hHeld
        (try simp only [oq28_2_4, Act.put, List.setIfInBounds_toArray, List.set_cons_zero, List.set_cons_succ])
        generalize hV : V52.alloc (.cells #[.slice none 0 0] 24) = V53 at hHeld2 sn WWn XAn XMn XRn Xrn Xsn Xxn O9n O7n ⊢
        clear hV ba bn WW XA XM XR Xr Xs O9 O7
        have WW := WWn
        have XA := XAn
        have XM := XMn
        have XR := XRn
        have Xr := Xrn
        have Xs := Xsn
        have Xx := Xxn
        have O9 := O9n
        have O7 := O7n
        have sz53 := sn
        have hHeld := hHeld2
        clear sn hHeld2 WWn XAn XMn XRn Xrn Xsn Xxn O9n O7n
        obtain ⟨gXx, hg⟩ : ∃ x, x = V52.heap.size := ⟨_, rfl⟩
        have mXxXr : gXr < gXx := by omega
        have mXxXs : gXs < gXx := by omega
        have mXxXR : w.heap.size + 1 + 1 < gXx := by omega
        rw [← hg] at Xx sz53 ⊢
        clear hg lqXr lqXs lqXR
        refine AnyL_ready (rs := [3, 5]) (by kernel_rfl) (by simp) ?_
        refine ReadyL.cons (o := oq28_2_3) rfl (fun K hK => ?_) ?_
        · delta oq28_2_3
          go_simp
          have hbs : w.heap.size ≤ V53.heap.size := WW.size
          have hc := rmod3_any D7 B' d7 p 1 m V53 O7.num XM.num (by omega) (by omega) HM0.out
          rw [← HY0.out] at hc
          refine hc.mono ?_
          clear hc
          rintro e V54 ⟨v, rfl, hv, hb⟩
          replace XA := XA.below hb
          replace XM := XM.below hb
          replace XR := XR.below hb
          replace Xr := Xr.below hb
          replace Xs := Xs.below hb
          replace Xx := Xx.below hb
          replace O9 := O9.below hb (Nat.le_refl _)
          replace O7 := O7.below hb (Nat.le_refl _)
          replace WW := WW.trans (hb.mono WW.size)
          have sz54 := hb.size
          obtain ⟨D8, d8, rfl, ho⟩ := hv
          have O8 := ho.weak (b := w.heap.size) hbs
          clear ho
          clear hb hbs
          refine hK.out _ _ (XM.cell) (fun hHeld2 => ?_)
          clear hK K hHeld
          have hHeld := hHeld2
          clear hHeld2
          (try simp only [oq28_2_3, Act.put, List.setIfInBounds_toArray, List.set_cons_zero, List.set_cons_succ])
          refine AnyL_ready (rs := [5]) (by kernel_rfl) (by simp) ?_
          refine ReadyL.cons (o := oq28_2_5) rfl (fun K hK => ?_) ReadyL.nil
          delta oq28_2_5
          have lqXr : gXr < V54.heap.size := Xr.lt
          have lqXs : gXs < V54.heap.size := Xs.lt
          have lqXR : w.heap.size + 1 + 1 < V54.heap.size := XR.lt
          have lXx : gXx < V54.heap.size := Xx.lt
          go_simp
          have ba := (Below.refl V54.heap.size V54).alloc (Nat.le_refl _) (.cells #[.slice none 0 0] 24)
          have XAn := XA.below ba
          have XMn := XM.below ba
          have XRn := XR.below ba
          have Xrn := Xr.below ba
          have Xsn := Xs.below ba
          have Xxn := Xx.below ba
          have O9n := O9.below ba (Nat.le_refl _)
          have O7n := O7.below ba (Nat.le_refl _)
          have O8n := O8.below ba (Nat.le_refl _)
          have bn := Blk.new V54 24 #[.slice none 0 0]
          have Xyn := VB.mk (B := w.heap.size) (a := 0) bn (.inr (Own.nil _ _ _ _ (Nat.zero_le _))) ba WW.size WW.size
          have WWn := WW.trans (ba.mono WW.size)
          have sn : V54.heap.size < (V54.alloc (.cells #[.slice none 0 0] 24)).heap.size := bn.lt
          refine hK.out _ _ (XMn.cell) (fun hHeld2 => ?_)
          clear hK K hHeld
          (try simp only [oq28_2_5, Act.put, List.setIfInBounds_toArray, List.set_cons_zero, List.set_cons_succ])
          generalize hV : V54.alloc (.cells #[.slice none 0 0] 24) = V55 at hHeld2 sn WWn XAn XMn XRn Xrn Xsn Xxn Xyn O9n O7n O8n ⊢
          clear hV ba bn WW XA XM XR Xr Xs Xx O9 O7 O8
          have WW := WWn
          have XA := XAn
          have XM := XMn
          have XR := XRn
          have Xr := Xrn
          have Xs := Xsn
          have Xx := Xxn
          have Xy := Xyn
          have O9 := O9n
          have O7 := O7n
          have O8 := O8n
          have sz55 := sn
          have hHeld := hHeld2
          clear sn hHeld2 WWn XAn XMn XRn Xrn Xsn Xxn Xyn O9n O7n O8n
          obtain ⟨gXy, hg⟩ : ∃ x, x = V54.heap.size := ⟨_, rfl⟩
          have mXyXr : gXr < gXy := by omega
          have mXyXs : gXs < gXy := by omega
          have mXyXR : w.heap.size + 1 + 1 < gXy := by omega
          have nXxXy : gXx ≠ gXy := by omega
          rw [← hg] at Xy sz55 ⊢
          clear hg lqXr lqXs lqXR lXx
          refine AnyL_ready (rs := [6]) (by kernel_rfl) (by simp) ?_
          refine ReadyL.cons (o := oq28_2_6) rfl (fun K hK => ?_) ReadyL.nil
          delta oq28_2_6
          have fz := Xx.1.frozen 0
          have cz := Xx.cell
          have lz := Xx.lt
          go_simp
          have XAn := XA.far (p := ⟨gXx, 0, none⟩) Xx.1 Xx.2.2 (by simp <;> omega) (.slice none 0 0)
          have XMn := XM.far (p := ⟨gXx, 0, none⟩) Xx.1 Xx.2.2 (by simp <;> omega) (.slice none 0 0)
          have XRn := XR.far (p := ⟨gXx, 0, none⟩) Xx.1 Xx.2.2 (by simp <;> omega) (.slice none 0 0)
          have Xrn := Xr.far (p := ⟨gXx, 0, none⟩) Xx.1 Xx.2.2 (by simp <;> omega) (.slice none 0 0)
          have Xsn := Xs.far (p := ⟨gXx, 0, none⟩) Xx.1 Xx.2.2 (by simp <;> omega) (.slice none 0 0)
          have Xyn := Xy.far (p := ⟨gXx, 0, none⟩) Xx.1 Xx.2.2 (by simp <;> omega) (.slice none 0 0)
          have Xxn := Xx.set_ (A' := none) (n' := 0) (c' := 0) (a' := 0) (.inr (Own.nil _ _ _ _ (Nat.zero_le _)))
          have O9n := O9.box (p := ⟨gXx, 0, none⟩) Xx.1 (by decide) (.slice none 0 0)
          have O7n := O7.box (p := ⟨gXx, 0, none⟩) Xx.1 (by decide) (.slice none 0 0)
          have O8n := O8.box (p := ⟨gXx, 0, none⟩) Xx.1 (by decide) (.slice none 0 0)
          have WWn := WW.setCell (p := ⟨gXx, 0, none⟩) (by simp <;> omega) (.slice none 0 0)
          refine hK.out _ _ (XMn.cell) (fun hHeld2 => ?_)
          clear hK K hHeld
          (try simp only [oq28_2_6, Act.put, List.setIfInBounds_toArray, List.set_cons_zero, List.set_cons_succ])
          generalize hV : V55.setCell ⟨gXx, 0, none⟩ (.slice none 0 0) = V56 at hHeld2 WWn XAn XMn XRn Xrn Xsn Xxn Xyn O9n O7n O8n ⊢
          clear hV fz cz lz WW XA XM XR Xr Xs Xx Xy O9 O7 O8
          have WW := WWn
          have XA := XAn
          have XM := XMn
          have XR := XRn
          have Xr := Xrn
          have Xs := Xsn
          have Xx := Xxn
          have Xy := Xyn
          have O9 := O9n
          have O7 := O7n
          have O8 := O8n
          have hHeld := hHeld2
          clear hHeld2
          clear WWn XAn XMn XRn Xrn Xsn Xxn Xyn O9n O7n O8n
          refine AnyL_ready (rs := [7]) (by kernel_rfl) (by simp) ?_
          refine ReadyL.cons (o := oq28_2_7) rfl (fun K hK => ?_) ReadyL.nil
          delta oq28_2_7
          have fz := Xy.1.frozen 0
          have cz := Xy.cell
          have lz := Xy.lt
          go_simp
          have XAn := XA.far (p := ⟨gXy, 0, none⟩) Xy.1 Xy.2.2 (by simp <;> omega) (.slice D8 (nw y0) d8)
          have XMn := XM.far (p := ⟨gXy, 0, none⟩) Xy.1 Xy.2.2 (by simp <;> omega) (.slice D8 (nw y0) d8)
          have XRn := XR.far (p := ⟨gXy, 0, none⟩) Xy.1 Xy.2.2 (by simp <;> omega) (.slice D8 (nw y0) d8)
          have Xrn := Xr.far (p := ⟨gXy, 0, none⟩) Xy.1 Xy.2.2 (by simp <;> omega) (.slice D8 (nw y0) d8)
          have Xsn := Xs.far (p := ⟨gXy, 0, none⟩) Xy.1 Xy.2.2 (by simp <;> omega) (.slice D8 (nw y0) d8)
          have Xxn := Xx.far (p := ⟨gXy, 0, none⟩) Xy.1 Xy.2.2 (by simp <;> omega) (.slice D8 (nw y0) d8)
          have Xyn := Xy.set_ (A' := D8) (n' := (nw y0)) (c' := d8) (a' := y0) (.inr O8)
          have O9n := O9.box (p := ⟨gXy, 0, none⟩) Xy.1 (by decide) (.slice D8 (nw y0) d8)
          have O7n := O7.box (p := ⟨gXy, 0, none⟩) Xy.1 (by decide) (.slice D8 (nw y0) d8)
          have O8n := O8.box (p := ⟨gXy, 0, none⟩) Xy.1 (by decide) (.slice D8 (nw y0) d8)
          have WWn := WW.setCell (p := ⟨gXy, 0, none⟩) (by simp <;> omega) (.slice D8 (nw y0) d8)
          refine hK.out _ _ (XMn.cell) (fun hHeld2 => ?_)
          clear hK K hHeld
          (try simp only [oq28_2_7, Act.put, List.setIfInBounds_toArray, List.set_cons_zero, List.set_cons_succ])
          generalize hV : V56.setCell ⟨gXy, 0, none⟩ (.slice D8 (nw y0) d8) = V57 at hHeld2 WWn XAn XMn XRn Xrn Xsn Xxn Xyn O9n O7n O8n ⊢
          clear hV fz cz lz WW XA XM XR Xr Xs Xx Xy O9 O7 O8
          have WW := WWn
          have XA := XAn
          have XM := XMn
          have XR := XRn
          have Xr := Xrn
          have Xs := Xsn
          have Xx := Xxn
          have Xy := Xyn
          have O9 := O9n
          have O7 := O7n
          have O8 := O8n
          have hHeld := hHeld2
          clear hHeld2
          clear WWn XAn XMn XRn Xrn Xsn Xxn Xyn O9n O7n O8n
          refine AnyL_done (by kernel_rfl) ?_ _
          clear hHeld
          refine NoPanic.normal ?_
          exact ⟨rfl, gXx, gXy, D7, d7, D8, d8, rfl, WW, XA, XM, XR, Xr, Xs, Xx, Xy, O9, O7, O8, (by first | exact mXxXr | omega), (by first | exact mXxXs | omega), (by first | exact mXxXR | omega), (by first | exact mXyXr | omega), (by first | exact mXyXs | omega), (by first | exact mXyXR | omega), (by first | exact nXxXy | omega)⟩
        refine ReadyL.cons (o := oq28_2_5) rfl (fun K hK => ?_) ReadyL.nil
        · delta oq28_2_5
          have lqXr : gXr < V53.heap.size := Xr.lt
          have lqXs : gXs < V53.heap.size := Xs.lt
          have lqXR : w.heap.size + 1 + 1 < V53.heap.size := XR.lt
          have lXx : gXx < V53.heap.size := Xx.lt
          go_simp
          have ba := (Below.refl V53.heap.size V53).alloc (Nat.le_refl _) (.cells #[.slice none 0 0] 24)
          have XAn := XA.below ba
          have XMn := XM.below ba
          have XRn := XR.below ba
          have Xrn := Xr.below ba
          have Xsn := Xs.below ba
          have Xxn := Xx.below ba
          have O9n := O9.below ba (Nat.le_refl _)
          have O7n := O7.below ba (Nat.le_refl _)
          have bn := Blk.new V53 24 #[.slice none 0 0]
          have Xyn := VB.mk (B := w.heap.size) (a := 0) bn (.inr (Own.nil _ _ _ _ (Nat.zero_le _))) ba WW.size WW.size
          have WWn := WW.trans (ba.mono WW.size)
          have sn : V53.heap.size < (V53.alloc (.cells #[.slice none 0 0] 24)).heap.size := bn.lt
          refine hK.out _ _ (XMn.cell) (fun hHeld2 => ?_)
          clear hK K hHeld
          (try simp only [oq28_2_5, Act.put, List.setIfInBounds_toArray, List.set_cons_zero, List.set_cons_succ])
          generalize hV : V53.alloc (.cells #[.slice none 0 0] 24) = V54 at hHeld2 sn WWn XAn XMn XRn Xrn Xsn Xxn Xyn O9n O7n ⊢
          clear hV ba bn WW XA XM XR Xr Xs Xx O9 O7
          have WW := WWn
          have XA := XAn
          have XM := XMn
          have XR := XRn
          have Xr := Xrn
          have Xs := Xsn
          have Xx := Xxn
          have Xy := Xyn
          have O9 := O9n
          have O7 := O7n
          have sz54 := sn
          have hHeld := hHeld2
          clear sn hHeld2 WWn XAn XMn XRn Xrn Xsn Xxn Xyn O9n O7n
          obtain ⟨gXy, hg⟩ : ∃ x, x = V53.heap.size := ⟨_, rfl⟩
          have mXyXr : gXr < gXy := by omega
          have mXyXs : gXs < gXy := by omega
          have mXyXR : w.heap.size + 1 + 1 < gXy := by omega
          have nXxXy : gXx ≠ gXy := by omega
          rw [← hg] at Xy sz54 ⊢
          clear hg lqXr lqXs lqXR lXx
          refine AnyL_ready (rs := [3]) (by kernel_rfl) (by simp) ?_
          refine ReadyL.cons (o := oq28_2_3) rfl (fun K hK => ?_) ReadyL.nil
          delta oq28_2_3
          go_simp
          have hbs : w.heap.size ≤ V54.heap.size := WW.size
          have hc := rmod3_any D7 B' d7 p 1 m V54 O7.num XM.num (by omega) (by omega) HM0.out
          rw [← HY0.out] at hc
          refine hc.mono ?_
          clear hc
          rintro e V55 ⟨v, rfl, hv, hb⟩
          replace XA := XA.below hb
          replace XM := XM.below hb
          replace XR := XR.below hb
          replace Xr := Xr.below hb
          replace Xs := Xs.below hb
          replace Xx := Xx.below hb
          replace Xy := Xy.below hb
          replace O9 := O9.below hb (Nat.le_refl _)
          replace O7 := O7.below hb (Nat.le_refl _)
          replace WW := WW.trans (hb.mono WW.size)
          have sz55 := hb.size
          obtain ⟨D8, d8, rfl, ho⟩ := hv
          have O8 := ho.weak (b := w.heap.size) hbs
          clear ho
          clear hb hbs
          refine hK.out _ _ (XM.cell) (fun hHeld2 => ?_)
          clear hK K hHeld
          have hHeld := hHeld2
          clear hHeld2
          (try simp only [oq28_2_3, Act.put, List.setIfInBounds_toArray, List.set_cons_zero, List.set_cons_succ])
          refine AnyL_ready (rs := [6]) (by kernel_rfl) (by simp) ?_
          refine ReadyL.cons (o := oq28_2_6) rfl (fun K hK => ?_) ReadyL.nil
          delta oq28_2_6
          have fz := Xx.1.frozen 0
          have cz := Xx.cell
          have lz := Xx.lt
          go_simp
          have XAn := XA.far (p := ⟨gXx, 0, none⟩) Xx.1 Xx.2.2 (by simp <;> omega) (.slice none 0 0)
          have XMn := XM.far (p := ⟨gXx, 0, none⟩) Xx.1 Xx.2.2 (by simp <;> omega) (.slice none 0 0)
          have XRn := XR.far (p := ⟨gXx, 0, none⟩) Xx.1 Xx.2.2 (by simp <;> omega) (.slice none 0 0)
          have Xrn := Xr.far (p := ⟨gXx, 0, none⟩) Xx.1 Xx.2.2 (by simp <;> omega) (.slice none 0 0)
          have Xsn := Xs.far (p := ⟨gXx, 0, none⟩) Xx.1 Xx.2.2 (by simp <;> omega) (.slice none 0 0)
          have Xyn := Xy.far (p := ⟨gXx, 0, none⟩) Xx.1 Xx.2.2 (by simp <;> omega) (.slice none 0 0)
          have Xxn := Xx.set_ (A' := none) (n' := 0) (c' := 0) (a' := 0) (.inr (Own.nil _ _ _ _ (Nat.zero_le _)))
          have O9n := O9.box (p := ⟨gXx, 0, none⟩) Xx.1 (by decide) (.slice none 0 0)
          have O7n := O7.box (p := ⟨gXx, 0, none⟩) Xx.1 (by decide) (.slice none 0 0)
          have O8n := O8.box (p := ⟨gXx, 0, none⟩) Xx.1 (by decide) (.slice none 0 0)
          have WWn := WW.setCell (p := ⟨gXx, 0, none⟩) (by simp <;> omega) (.slice none 0 0)
          refine hK.out _ _ (XMn.cell) (fun hHeld2 => ?_)
          clear hK K hHeld
          (try simp only [oq28_2_6, Act.put, List.setIfInBounds_toArray, List.set_cons_zero, List.set_cons_succ])
          generalize hV : V55.setCell ⟨gXx, 0, none⟩ (.slice none 0 0) = V56 at hHeld2 WWn XAn XMn XRn Xrn Xsn Xxn Xyn O9n O7n O8n ⊢
          clear hV fz cz lz WW XA XM XR Xr Xs Xx Xy O9 O7 O8
          have WW := WWn
          have XA := XAn
          have XM := XMn
          have XR := XRn
          have Xr := Xrn
          have Xs := Xsn
          have Xx := Xxn
          have Xy := Xyn
          have O9 := O9n
          have O7 := O7n
          have O8 := O8n
          have hHeld := hHeld2
          clear hHeld2
          clear WWn XAn XMn XRn Xrn Xsn Xxn Xyn O9n O7n O8n
          refine AnyL_ready (rs := [7]) (by kernel_rfl) (by simp) ?_
          refine ReadyL.cons (o := oq28_2_7) rfl (fun K hK => ?_) ReadyL.nil
          delta oq28_2_7
          have fz := Xy.1.frozen 0
          have cz := Xy.cell
          have lz := Xy.lt
          go_simp
          have XAn := XA.far (p := ⟨gXy, 0, none⟩) Xy.1 Xy.2.2 (by simp <;> omega) (.slice D8 (nw y0) d8)
          have XMn := XM.far (p := ⟨gXy, 0, none⟩) Xy.1 Xy.2.2 (by simp <;> omega) (.slice D8 (nw y0) d8)
          have XRn := XR.far (p := ⟨gXy, 0, none⟩) Xy.1 Xy.2.2 (by simp <;> omega) (.slice D8 (nw y0) d8)
          have Xrn := Xr.far (p := ⟨gXy, 0, none⟩) Xy.1 Xy.2.2 (by simp <;> omega) (.slice D8 (nw y0) d8)
          have Xsn := Xs.far (p := ⟨gXy, 0, none⟩) Xy.1 Xy.2.2 (by simp <;> omega) (.slice D8 (nw y0) d8)
          have Xxn := Xx.far (p := ⟨gXy, 0, none⟩) Xy.1 Xy.2.2 (by simp <;> omega) (.slice D8 (nw y0) d8)
          have Xyn := Xy.set_ (A' := D8) (n' := (nw y0)) (c' := d8) (a' := y0) (.inr O8)
          have O9n := O9.box (p := ⟨gXy, 0, none⟩) Xy.1 (by decide) (.slice D8 (nw y0) d8)
          have O7n := O7.box (p := ⟨gXy, 0, none⟩) Xy.1 (by decide) (.slice D8 (nw y0) d8)
          have O8n := O8.box (p := ⟨gXy, 0, none⟩) Xy.1 (by decide) (.slice D8 (nw y0) d8)
          have WWn := WW.setCell (p := ⟨gXy, 0, none⟩) (by simp <;> omega) (.slice D8 (nw y0) d8)
          refine hK.out _ _ (XMn.cell) (fun hHeld2 => ?_)
          clear hK K hHeld
          (try simp only [oq28_2_7, Act.put, List.setIfInBounds_toArray, List.set_cons_zero, List.set_cons_succ])
          generalize hV : V56.setCell ⟨gXy, 0, none⟩ (.slice D8 (nw y0) d8) = V57 at hHeld2 WWn XAn XMn XRn Xrn Xsn Xxn Xyn O9n O7n O8n ⊢
          clear hV fz cz lz WW XA XM XR Xr Xs Xx Xy O9 O7 O8
          have WW := WWn
          have XA := XAn
          have XM := XMn
          have XR := XRn
          have Xr := Xrn
          have Xs := Xsn
          have Xx := Xxn
          have Xy := Xyn
          have O9 := O9n
          have O7 := O7n
          have O8 := O8n
          have hHeld := hHeld2
          clear hHeld2
          clear WWn XAn XMn XRn Xrn Xsn Xxn Xyn O9n O7n O8n
          refine AnyL_done (by kernel_rfl) ?_ _
          clear hHeld
          refine NoPanic.normal ?_
          exact ⟨rfl, gXx, gXy, D7, d7, D8, d8, rfl, WW, XA, XM, XR, Xr, Xs, Xx, Xy, O9, O7, O8, (by first | exact mXxXr | omega), (by first | exact mXxXs | omega), (by first | exact mXxXR | omega), (by first | exact mXyXr | omega), (by first | exact mXyXs | omega), (by first | exact mXyXR | omega), (by first | exact nXxXy | omega)⟩
      refine ReadyL.cons (o := oq28_2_5) rfl (fun K hK => ?_) ReadyL.nil
      · delta oq28_2_5
        have lqXr : gXr < V52.heap.size := Xr.lt
        have lqXs : gXs < V52.heap.size := Xs.lt
        have lqXR : w.heap.size + 1 + 1 < V52.heap.size := XR.lt
        go_simp
        have ba := (Below.refl V52.heap.size V52).alloc (Nat.le_refl _) (.cells #[.slice none 0 0] 24)
        have XAn := XA.below ba
        have XMn := XM.below ba
        have XRn := XR.below ba
        have Xrn := Xr.below ba
        have Xsn := Xs.below ba
        have O9n := O9.below ba (Nat.le_refl _)
        have O7n := O7.below ba (Nat.le_refl _)
        have bn := Blk.new V52 24 #[.slice none 0 0]
        have Xyn := VB.mk (B := w.heap.size) (a := 0) bn (.inr (Own.nil _ _ _ _ (Nat.zero_le _))) ba WW.size WW.size
        have WWn := WW.trans (ba.mono WW.size)
        have sn : V52.heap.size < (V52.alloc (.cells #[.slice none 0 0] 24)).heap.size := bn.lt
        refine hK.out _ _ (XMn.cell) (fun hHeld2 => ?_)
        clear hK K hHeld
        (try simp only [oq28_2_5, Act.put, List.setIfInBounds_toArray, List.set_cons_zero, List.set_cons_succ])
        generalize hV : V52.alloc (.cells #[.slice none 0 0] 24) = V53 at hHeld2 sn WWn XAn XMn XRn Xrn Xsn Xyn O9n O7n ⊢
        clear hV ba bn WW XA XM XR Xr Xs O9 O7
        have WW := WWn
        have XA := XAn
        have XM := XMn
        have XR := XRn
        have Xr := Xrn
        have Xs := Xsn
        have Xy := Xyn
        have O9 := O9n
        have O7 := O7n
        have sz53 := sn
        have hHeld := hHeld2
        clear sn hHeld2 WWn XAn XMn XRn Xrn Xsn Xyn O9n O7n
        obtain ⟨gXy, hg⟩ : ∃ x, x = V52.heap.size := ⟨_, rfl⟩
        have mXyXr : gXr < gXy := by omega
        have mXyXs : gXs < gXy := by omega
        have mXyXR : w.heap.size + 1 + 1 < gXy := by omega
        rw [← hg] at Xy sz53 ⊢
        clear hg lqXr lqXs lqXR
        refine AnyL_ready (rs := [3, 4]) (by kernel_rfl) (by simp) ?_
        refine ReadyL.cons (o := oq28_2_3) rfl (fun K hK => ?_) ?_
        · delta oq28_2_3
          go_simp
          have hbs : w.heap.size ≤ V53.heap.size := WW.size
          have hc := rmod3_any D7 B' d7 p 1 m V53 O7.num XM.num (by omega) (by omega) HM0.out
          rw [← HY0.out] at hc
          refine hc.mono ?_
          clear hc
          rintro e V54 ⟨v, rfl, hv, hb⟩
          replace XA := XA.below hb
          replace XM := XM.below hb
          replace XR := XR.below hb
          replace Xr := Xr.below hb
          replace Xs := Xs.below hb
          replace Xy := Xy.below hb
          replace O9 := O9.below hb (Nat.le_refl _)
          replace O7 := O7.below hb (Nat.le_refl _)
          replace WW := WW.trans (hb.mono WW.size)
          have sz54 := hb.size
          obtain ⟨D8, d8, rfl, ho⟩ := hv
          have O8 := ho.weak (b := w.heap.size) hbs
          clear ho
          clear hb hbs
          refine hK.out _ _ (XM.cell) (fun hHeld2 => ?_)
          clear hK K hHeld
          have hHeld := hHeld2
          clear hHeld2
          (try simp only [oq28_2_3, Act.put, List.setIfInBounds_toArray, List.set_cons_zero, List.set_cons_succ])
          refine AnyL_ready (rs := [4]) (by kernel_rfl) (by simp) ?_
          refine ReadyL.cons (o := oq28_2_4) rfl (fun K hK => ?_) ReadyL.nil
          delta oq28_2_4
          have lqXr : gXr < V54.heap.size := Xr.lt
          have lqXs : gXs < V54.heap.size := Xs.lt
          have lqXR : w.heap.size + 1 + 1 < V54.heap.size := XR.lt
          have lXy : gXy < V54.heap.size := Xy.lt
          go_simp
          have ba := (Below.refl V54.heap.size V54).alloc (Nat.le_refl _) (.cells #[.slice none 0 0] 24)
          have XAn := XA.below ba
          have XMn := XM.below ba
          have XRn := XR.below ba
          have Xrn := Xr.below ba
          have Xsn := Xs.below ba
          have Xyn := Xy.below ba
          have O9n := O9.below ba (Nat.le_refl _)
          have O7n := O7.below ba (Nat.le_refl _)
          have O8n := O8.below ba (Nat.le_refl _)
          have bn := Blk.new V54 24 #[.slice none 0 0]
          have Xxn := VB.mk (B := w.heap.size) (a := 0) bn (.inr (Own.nil _ _ _ _ (Nat.zero_le _))) ba WW.size WW.size
          have WWn := WW.trans (ba.mono WW.size)
          have sn : V54.heap.size < (V54.alloc (.cells #[.slice none 0 0] 24)).heap.size := bn.lt
          refine hK.out _ _ (XMn.cell) (fun hHeld2 => ?_)
          clear hK K hHeld
          (try simp only [oq28_2_4, Act.put, List.setIfInBounds_toArray, List.set_cons_zero, List.set_cons_succ])
          generalize hV : V54.alloc (.cells #[.slice none 0 0] 24) = V55 at hHeld2 sn WWn XAn XMn XRn Xrn Xsn Xyn Xxn O9n O7n O8n ⊢
          clear hV ba bn WW XA XM XR Xr Xs Xy O9 O7 O8
          have WW := WWn
          have XA := XAn
          have XM := XMn
          have XR := XRn
          have Xr := Xrn
          have Xs := Xsn
          have Xy := Xyn
          have Xx := Xxn
          have O9 := O9n
          have O7 := O7n
          have O8 := O8n
          have sz55 := sn
          have hHeld := hHeld2
          clear sn hHeld2 WWn XAn XMn XRn Xrn Xsn Xyn Xxn O9n O7n O8n
          obtain ⟨gXx, hg⟩ : ∃ x, x = V54.heap.size := ⟨_, rfl⟩
          have mXxXr : gXr < gXx := by omega
          have mXxXs : gXs < gXx := by omega
          have mXxXR : w.heap.size + 1 + 1 < gXx := by omega
          have nXyXx : gXy ≠ gXx := by omega
          rw [← hg] at Xx sz55 ⊢
          clear hg lqXr lqXs lqXR lXy
          refine AnyL_ready (rs := [6]) (by kernel_rfl) (by simp) ?_
          refine ReadyL.cons (o := oq28_2_6) rfl (fun K hK => ?_) ReadyL.nil
          delta oq28_2_6
          have fz := Xx.1.frozen 0
          have cz := Xx.cell
          have lz := Xx.lt
          go_simp
          have XAn := XA.far (p := ⟨gXx, 0, none⟩) Xx.1 Xx.2.2 (by simp <;> omega) (.slice none 0 0)
          have XMn := XM.far (p := ⟨gXx, 0, none⟩) Xx.1 Xx.2.2 (by simp <;> omega) (.slice none 0 0)
          have XRn := XR.far (p := ⟨gXx, 0, none⟩) Xx.1 Xx.2.2 (by simp <;> omega) (.slice none 0 0)
          have Xrn := Xr.far (p := ⟨gXx, 0, none⟩) Xx.1 Xx.2.2 (by simp <;> omega) (.slice none 0 0)
          have Xsn := Xs.far (p := ⟨gXx, 0, none⟩) Xx.1 Xx.2.2 (by simp <;> omega) (.slice none 0 0)
          have Xyn := Xy.far (p := ⟨gXx, 0, none⟩) Xx.1 Xx.2.2 (by simp <;> omega) (.slice none 0 0)
          have Xxn := Xx.set_ (A' := none) (n' := 0) (c' := 0) (a' := 0) (.inr (Own.nil _ _ _ _ (Nat.zero_le _)))
          have O9n := O9.box (p := ⟨gXx, 0, none⟩) Xx.1 (by decide) (.slice none 0 0)
          have O7n := O7.box (p := ⟨gXx, 0, none⟩) Xx.1 (by decide) (.slice none 0 0)
          have O8n := O8.box (p := ⟨gXx, 0, none⟩) Xx.1 (by decide) (.slice none 0 0)
          have WWn := WW.setCell (p := ⟨gXx, 0, none⟩) (by simp <;> omega) (.slice none 0 0)
          refine hK.out _ _ (XMn.cell) (fun hHeld2 => ?_)
          clear hK K hHeld
          (try simp only [oq28_2_6, Act.put, List.setIfInBounds_toArray, List.set_cons_zero, List.set_cons_succ])
          generalize hV : V55.setCell ⟨gXx, 0, none⟩ (.slice none 0 0) = V56 at hHeld2 WWn XAn XMn XRn Xrn Xsn Xyn Xxn O9n O7n O8n ⊢
          clear hV fz cz lz WW XA XM XR Xr Xs Xy Xx O9 O7 O8
          have WW := WWn
          have XA := XAn
          have XM := XMn
          have XR := XRn
          have Xr := Xrn
          have Xs := Xsn
          have Xy := Xyn
          have Xx := Xxn
          have O9 := O9n
          have O7 := O7n
          have O8 := O8n
          have hHeld := hHeld2
          clear hHeld2
          clear WWn XAn XMn XRn Xrn Xsn Xyn Xxn O9n O7n O8n
          refine AnyL_ready (rs := [7]) (by kernel_rfl) (by simp) ?_
          refine ReadyL.cons (o := oq28_2_7) rfl (fun K hK => ?_) ReadyL.nil
          delta oq28_2_7
          have fz := Xy.1.frozen 0
          have cz := Xy.cell
          have lz := Xy.lt
          go_simp
          have XAn := XA.far (p := ⟨gXy, 0, none⟩) Xy.1 Xy.2.2 (by simp <;> omega) (.slice D8 (nw y0) d8)
          have XMn := XM.far (p := ⟨gXy, 0, none⟩) Xy.1 Xy.2.2 (by simp <;> omega) (.slice D8 (nw y0) d8)
          have XRn := XR.far (p := ⟨gXy, 0, none⟩) Xy.1 Xy.2.2 (by simp <;> omega) (.slice D8 (nw y0) d8)
          have Xrn := Xr.far (p := ⟨gXy, 0, none⟩) Xy.1 Xy.2.2 (by simp <;> omega) (.slice D8 (nw y0) d8)
          have Xsn := Xs.far (p := ⟨gXy, 0, none⟩) Xy.1 Xy.2.2 (by simp <;> omega) (.slice D8 (nw y0) d8)
          have Xxn := Xx.far (p := ⟨gXy, 0, none⟩) Xy.1 Xy.2.2 (by simp <;> omega) (.slice D8 (nw y0) d8)
          have Xyn := Xy.set_ (A' := D8) (n' := (nw y0)) (c' := d8) (a' := y0) (.inr O8)
          have O9n := O9.box (p := ⟨gXy, 0, none⟩) Xy.1 (by decide) (.slice D8 (nw y0) d8)
          have O7n := O7.box (p := ⟨gXy, 0, none⟩) Xy.1 (by decide) (.slice D8 (nw y0) d8)
          have O8n := O8.box (p := ⟨gXy, 0, none⟩) Xy.1 (by decide) (.slice D8 (nw y0) d8)
          have WWn := WW.setCell (p := ⟨gXy, 0, none⟩) (by simp <;> omega) (.slice D8 (nw y0) d8)
          refine hK.out _ _ (XMn.cell) (fun hHeld2 => ?_)
          clear hK K hHeld
          (try simp only [oq28_2_7, Act.put, List.setIfInBounds_toArray, List.set_cons_zero, List.set_cons_succ])
          generalize hV : V56.setCell ⟨gXy, 0, none⟩ (.slice D8 (nw y0) d8) = V57 at hHeld2 WWn XAn XMn XRn Xrn Xsn Xyn Xxn O9n O7n O8n ⊢
          clear hV fz cz lz WW XA XM XR Xr Xs Xy Xx O9 O7 O8
          have WW := WWn
          have XA := XAn
          have XM := XMn
          have XR := XRn
          have Xr := Xrn
          have Xs := Xsn
          have Xy := Xyn
          have Xx := Xxn
          have O9 := O9n
          have O7 := O7n
          have O8 := O8n
          have hHeld := hHeld2
          clear hHeld2
          clear WWn XAn XMn XRn Xrn Xsn Xyn Xxn O9n O7n O8n
          refine AnyL_done (by kernel_rfl) ?_ _
          clear hHeld
          refine NoPanic.normal ?_
          exact ⟨rfl, gXx, gXy, D7, d7, D8, d8, rfl, WW, XA, XM, XR, Xr, Xs, Xx, Xy, O9, O7, O8, (by first | exact mXxXr | omega), (by first | exact mXxXs | omega), (by first | exact mXxXR | omega), (by first | exact mXyXr | omega), (by first | exact mXyXs | omega), (by first | exact mXyXR | omega), (by first | exact nXxXy | omega)⟩
        refine ReadyL.cons (o := oq28_2_4) rfl (fun K hK => ?_) ReadyL.nil
        · delta oq28_2_4
          have lqXr : gXr < V53.heap.size := Xr.lt
          have lqXs : gXs < V53.heap.size := Xs.lt
          have lqXR : w.heap.size + 1 + 1 < V53.heap.size := XR.lt
          have lXy : gXy < V53.heap.size := Xy.lt
          go_simp
          have ba := (Below.refl V53.heap.size V53).alloc (Nat.le_refl _) (.cells #[.slice none 0 0] 24)
          have XAn := XA.below ba
          have XMn := XM.below ba
          have XRn := XR.below ba
          have Xrn := Xr.below ba
          have Xsn := Xs.below ba
          have Xyn := Xy.below ba
          have O9n := O9.below ba (Nat.le_refl _)
          have O7n := O7.below ba (Nat.le_refl _)
          have bn := Blk.new V53 24 #[.slice none 0 0]
          have Xxn := VB.mk (B := w.heap.size) (a := 0) bn (.inr (Own.nil _ _ _ _ (Nat.zero_le _))) ba WW.size WW.size
          have WWn := WW.trans (ba.mono WW.size)
          have sn : V53.heap.size < (V53.alloc (.cells #[.slice none 0 0] 24)).heap.size := bn.lt
          refine hK.out _ _ (XMn.cell) (fun hHeld2 => ?_)
          clear hK K hHeld
          (try simp only [oq28_2_4, Act.put, List.setIfInBounds_toArray, List.set_cons_zero, List.set_cons_succ])
          generalize hV : V53.alloc (.cells #[.slice none 0 0] 24) = V54 at hHeld2 sn WWn XAn XMn XRn Xrn Xsn Xyn Xxn O9n O7n ⊢
          clear hV ba bn WW XA XM XR Xr Xs Xy O9 O7
          have WW := WWn
          have XA := XAn
          have XM := XMn
          have XR := XRn
          have Xr := Xrn
          have Xs := Xsn
          have Xy := Xyn
          have Xx := Xxn
          have O9 := O9n
          have O7 := O7n
          have sz54 := sn
          have hHeld := hHeld2
          clear sn hHeld2 WWn XAn XMn XRn Xrn Xsn Xyn Xxn O9n O7n
          obtain ⟨gXx, hg⟩ : ∃ x, x = V53.heap.size := ⟨_, rfl⟩
          have mXxXr : gXr < gXx := by omega
          have mXxXs : gXs < gXx := by omega
          have mXxXR : w.heap.size + 1 + 1 < gXx := by omega
          have nXyXx : gXy ≠ gXx := by omega
          rw [← hg] at Xx sz54 ⊢
          clear hg lqXr lqXs lqXR lXy
          refine AnyL_ready (rs := [3]) (by kernel_rfl) (by simp) ?_
          refine ReadyL.cons (o := oq28_2_3) rfl (fun K hK => ?_) ReadyL.nil
          delta oq28_2_3
          go_simp
          have hbs : w.heap.size ≤ V54.heap.size := WW.size
          have hc := rmod3_any D7 B' d7 p 1 m V54 O7.num XM.num (by omega) (by omega) HM0.out
          rw [← HY0.out] at hc
          refine hc.mono ?_
          clear hc
          rintro e V55 ⟨v, rfl, hv, hb⟩
          replace XA := XA.below hb
          replace XM := XM.below hb
          replace XR := XR.below hb
          replace Xr := Xr.below hb
          replace Xs := Xs.below hb
          replace Xy := Xy.below hb
          replace Xx := Xx.below hb
          replace O9 := O9.below hb (Nat.le_refl _)
          replace O7 := O7.below hb (Nat.le_refl _)
          replace WW := WW.trans (hb.mono WW.size)
          have sz55 := hb.size
          obtain ⟨D8, d8, rfl, ho⟩ := hv
          have O8 := ho.weak (b := w.heap.size) hbs
          clear ho
          clear hb hbs
          refine hK.out _ _ (XM.cell) (fun hHeld2 => ?_)
          clear hK K hHeld
          have hHeld := hHeld2
          clear hHeld2
          (try simp only [oq28_2_3, Act.put, List.setIfInBounds_toArray, List.set_cons_zero, List.set_cons_succ])
          refine AnyL_ready (rs := [6]) (by kernel_rfl) (by simp) ?_
          refine ReadyL.cons (o := oq28_2_6) rfl (fun K hK => ?_) ReadyL.nil
          delta oq28_2_6
          have fz := Xx.1.frozen 0
          have cz := Xx.cell
          have lz := Xx.lt
          go_simp
          have XAn := XA.far (p := ⟨gXx, 0, none⟩) Xx.1 Xx.2.2 (by simp <;> omega) (.slice none 0 0)
          have XMn := XM.far (p := ⟨gXx, 0, none⟩) Xx.1 Xx.2.2 (by simp <;> omega) (.slice none 0 0)
          have XRn := XR.far (p := ⟨gXx, 0, none⟩) Xx.1 Xx.2.2 (by simp <;> omega) (.slice none 0 0)
          have Xrn := Xr.far (p := ⟨gXx, 0, none⟩) Xx.1 Xx.2.2 (by simp <;> omega) (.slice none 0 0)
          have Xsn := Xs.far (p := ⟨gXx, 0, none⟩) Xx.1 Xx.2.2 (by simp <;> omega) (.slice none 0 0)
          have Xyn := Xy.far (p := ⟨gXx, 0, none⟩) Xx.1 Xx.2.2 (by simp <;> omega) (.slice none 0 0)
          have Xxn := Xx.set_ (A' := none) (n' := 0) (c' := 0) (a' := 0) (.inr (Own.nil _ _ _ _ (Nat.zero_le _)))
          have O9n := O9.box (p := ⟨gXx, 0, none⟩) Xx.1 (by decide) (.slice none 0 0)
          have O7n := O7.box (p := ⟨gXx, 0, none⟩) Xx.1 (by decide) (.slice none 0 0)
          have O8n := O8.box (p := ⟨gXx, 0, none⟩) Xx.1 (by decide) (.slice none 0 0)
          have WWn := WW.setCell (p := ⟨gXx, 0, none⟩) (by simp <;> omega) (.slice none 0 0)
          refine hK.out _ _ (XMn.cell) (fun hHeld2 => ?_)
          clear hK K hHeld
          (try simp only [oq28_2_6, Act.put, List.setIfInBounds_toArray, List.set_cons_zero, List.set_cons_succ])
          generalize hV : V55.setCell ⟨gXx, 0, none⟩ (.slice none 0 0) = V56 at hHeld2 WWn XAn XMn XRn Xrn Xsn Xyn Xxn O9n O7n O8n ⊢
          clear hV fz cz lz WW XA XM XR Xr Xs Xy Xx O9 O7 O8
          have WW := WWn
          have XA := XAn
          have XM := XMn
          have XR := XRn
          have Xr := Xrn
          have Xs := Xsn
          have Xy := Xyn
          have Xx := Xxn
          have O9 := O9n
          have O7 := O7n
          have O8 := O8n
          have hHeld := hHeld2
          clear hHeld2
          clear WWn XAn XMn XRn Xrn Xsn Xyn Xxn O9n O7n O8n
          refine AnyL_ready (rs := [7]) (by kernel_rfl) (by simp) ?_
          refine ReadyL.cons (o := oq28_2_7) rfl (fun K hK => ?_) ReadyL.nil
          delta oq28_2_7
          have fz := Xy.1.frozen 0
          have cz := Xy.cell
          have lz := Xy.lt
          go_simp
          have XAn := XA.far (p := ⟨gXy, 0, none⟩) Xy.1 Xy.2.2 (by simp <;> omega) (.slice D8 (nw y0) d8)
          have XMn := XM.far (p := ⟨gXy, 0, none⟩) Xy.1 Xy.2.2 (by simp <;> omega) (.slice D8 (nw y0) d8)
          have XRn := XR.far (p := ⟨gXy, 0, none⟩) Xy.1 Xy.2.2 (by simp <;> omega) (.slice D8 (nw y0) d8)
          have Xrn := Xr.far (p := ⟨gXy, 0, none⟩) Xy.1 Xy.2.2 (by simp <;> omega) (.slice D8 (nw y0) d8)
          have Xsn := Xs.far (p := ⟨gXy, 0, none⟩) Xy.1 Xy.2.2 (by simp <;> omega) (.slice D8 (nw y0) d8)
          have Xxn := Xx.far (p := ⟨gXy, 0, none⟩) Xy.1 Xy.2.2 (by simp <;> omega) (.slice D8 (nw y0) d8)
          have Xyn := Xy.set_ (A' := D8) (n' := (nw y0)) (c' := d8) (a' := y0) (.inr O8)
          have O9n := O9.box (p := ⟨gXy, 0, none⟩) Xy.1 (by decide) (.slice D8 (nw y0) d8)
          have O7n := O7.box (p := ⟨gXy, 0, none⟩) Xy.1 (by decide) (.slice D8 (nw y0) d8)
          have O8n := O8.box (p := ⟨gXy, 0, none⟩) Xy.1 (by decide) (.slice D8 (nw y0) d8)
          have WWn := WW.setCell (p := ⟨gXy, 0, none⟩) (by simp <;> omega) (.slice D8 (nw y0) d8)
          refine hK.out _ _ (XMn.cell) (fun hHeld2 => ?_)
          clear hK K hHeld
          (try simp only [oq28_2_7, Act.put, List.setIfInBounds_toArray, List.set_cons_zero, List.set_cons_succ])
          generalize hV : V56.setCell ⟨gXy, 0, none⟩ (.slice D8 (nw y0) d8) = V57 at hHeld2 WWn XAn XMn XRn Xrn Xsn Xyn Xxn O9n O7n O8n ⊢
          clear hV fz cz lz WW XA XM XR Xr Xs Xy Xx O9 O7 O8
          have WW := WWn
          have XA := XAn
          have XM := XMn
          have XR := XRn
          have Xr := Xrn
          have Xs := Xsn
          have Xy := Xyn
          have Xx := Xxn
          have O9 := O9n
          have O7 := O7n
          have O8 := O8n
          have hHeld := hHeld2
          clear hHeld2
          clear WWn XAn XMn XRn Xrn Xsn Xyn Xxn O9n O7n O8n
          refine AnyL_done (by kernel_rfl) ?_ _
          clear hHeld
          refine NoPanic.normal ?_
          exact ⟨rfl, gXx, gXy, D7, d7, D8, d8, rfl, WW, XA, XM, XR, Xr, Xs, Xx, Xy, O9, O7, O8, (by first | exact mXxXr | omega), (by first | exact mXxXs | omega), (by first | exact mXxXR | omega), (by first | exact mXyXr | omega), (by first | exact mXyXs | omega), (by first | exact mXyXR | omega), (by first | exact nXxXy | omega)⟩
    refine ReadyL.cons (o := oq28_2_4) rfl (fun K hK => ?_) ?_
    · delta oq28_2_4
      have lqXr : gXr < U50x0.heap.size := Xr.lt
      have lqXs : gXs < U50x0.heap.size := Xs.lt
      have lqXR : w.heap.size + 1 + 1 < U50x0.heap.size := XR.lt
      go_simp
      have ba := (Below.refl U50x0.heap.size U50x0).alloc (Nat.le_refl _) (.cells #[.slice none 0 0] 24)
      have XAn := XA.below ba
      have XMn := XM.below ba
      have XRn := XR.below ba
      have Xrn := Xr.below ba
      have Xsn := Xs.below ba
      have O9n := O9.below ba (Nat.le_refl _)
      have bn := Blk.new U50x0 24 #[.slice none 0 0]
      have Xxn := VB.mk (B := w.heap.size) (a := 0) bn (.inr (Own.nil _ _ _ _ (Nat.zero_le _))) ba WW.size WW.size
      have WWn := WW.trans (ba.mono WW.size)
      have sn : U50x0.heap.size < (U50x0.alloc (.cells #[.slice none 0 0] 24)).heap.size := bn.lt
      refine hK.out _ _ (XMn.cell) (fun hHeld2 => ?_)
      clear hK K hHeld
      (try simp only [oq28_2_4, Act.put, List.setIfInBounds_toArray, List.set_cons_zero, List.set_cons_succ])
      generalize hV : U50x0.alloc (.cells #[.slice none 0 0] 24) = V52 at hHeld2 sn WWn XAn XMn XRn Xrn Xsn Xxn O9n ⊢
      clear hV ba bn WW XA XM XR Xr Xs O9
      have WW := WWn
      have XA := XAn
      have XM := XMn
      have XR := XRn
      have Xr := Xrn
      have Xs := Xsn
      have Xx := Xxn
      have O9 := O9n
      have sz52 := sn
      have hHeld := hHeld2
      clear sn hHeld2 WWn XAn XMn XRn Xrn Xsn Xxn O9n
      obtain ⟨gXx, hg⟩ : ∃ x, x = U50x0.heap.size := ⟨_, rfl⟩
      have mXxXr : gXr < gXx := by omega
      have mXxXs : gXs < gXx := by omega
      have mXxXR : w.heap.size + 1 + 1 < gXx := by omega
      rw [← hg] at Xx sz52 ⊢
      clear hg lqXr lqXs lqXR
      refine AnyL_ready (rs := [1, 5]) (by kernel_rfl) (by simp) ?_
      refine ReadyL.cons (o := oq28_2_1) rfl (fun K hK => ?_) ?_
      · delta oq28_2_1
        go_simp
        have hbs : w.heap.size ≤ V52.heap.size := WW.size
        have hc := of3_1 V52
        refine hc.mono ?_
        clear hc
        rintro e V53 ⟨v, rfl, hv, hb⟩
        replace XA := XA.below hb
        replace XM := XM.below hb
        replace XR := XR.below hb
        replace Xr := Xr.below hb
        replace Xs := Xs.below hb
        replace Xx := Xx.below hb
        replace O9 := O9.below hb (Nat.le_refl _)
        replace WW := WW.trans (hb.mono WW.size)
        have sz53 := hb.size
        obtain ⟨D7, d7, rfl, ho⟩ := hv
        have O7 := ho.weak (b := w.heap.size) hbs
        clear ho
        clear hb hbs
        refine hK.out _ _ (XM.cell) (fun hHeld2 => ?_)
        clear hK K hHeld
        have hHeld := hHeld2
        clear hHeld2
        (try simp only [oq28_2_1, Act.put, List.setIfInBounds_toArray, List.set_cons_zero, List.set_cons_succ])
        refine AnyL_ready (rs := [3, 5]) (by kernel_rfl) (by simp) ?_
        refine ReadyL.cons (o := oq28_2_3) rfl (fun K hK => ?_) ?_
        · delta oq28_2_3
          go_simp
          have hbs : w.heap.size ≤ V53.heap.size := WW.size
          have hc := rmod3_any D7 B' d7 p 1 m V53 O7.num XM.num (by omega) (by omega) HM0.out
          rw [← HY0.out] at hc
          refine hc.mono ?_
          clear hc
          rintro e V54 ⟨v, rfl, hv, hb⟩
          replace XA := XA.below hb
          replace XM := XM.below hb
          replace XR := XR.below hb
          replace Xr := Xr.below hb
          replace Xs := Xs.below hb
          replace Xx := Xx.below hb
          replace O9 := O9.below hb (Nat.le_refl _)
          replace O7 := O7.below hb (Nat.le_refl _)
          replace WW := WW.trans (hb.mono WW.size)
          have sz54 := hb.size
          obtain ⟨D8, d8, rfl, ho⟩ := hv
          have O8 := ho.weak (b := w.heap.size) hbs
          clear ho
          clear hb hbs
          refine hK.out _ _ (XM.cell) (fun hHeld2 => ?_)
          clear hK K hHeld
          have hHeld := hHeld2
          clear hHeld2
          (try simp only [oq28_2_3, Act.put, List.setIfInBounds_toArray, List.set_cons_zero, List.set_cons_succ])
          refine AnyL_ready (rs := [5]) (by kernel_rfl) (by simp) ?_
          refine ReadyL.cons (o := oq28_2_5) rfl (fun K hK => ?_) ReadyL.nil
          delta oq28_2_5
          have lqXr : gXr < V54.heap.size := Xr.lt
          have lqXs : gXs < V54.heap.size := Xs.lt
          have lqXR : w.heap.size + 1 + 1 < V54.heap.size := XR.lt
          have lXx : gXx < V54.heap.size := Xx.lt
          go_simp
          have ba := (Below.refl V54.heap.size V54).alloc (Nat.le_refl _) (.cells #[.slice none 0 0] 24)
          have XAn := XA.below ba
          have XMn := XM.below ba
          have XRn := XR.below ba
          have Xrn := Xr.below ba
          have Xsn := Xs.below ba
          have Xxn := Xx.below ba
          have O9n := O9.below ba (Nat.le_refl _)
          have O7n := O7.below ba (Nat.le_refl _)
          have O8n := O8.below ba (Nat.le_refl _)
          have bn := Blk.new V54 24 #[.slice none 0 0]
          have Xyn := VB.mk (B := w.heap.size) (a := 0) bn (.inr (Own.nil _ _ _ _ (Nat.zero_le _))) ba WW.size WW.size
          have WWn := WW.trans (ba.mono WW.size)
          have sn : V54.heap.size < (V54.alloc (.cells #[.slice none 0 0] 24)).heap.size := bn.lt
          refine hK.out _ _ (XMn.cell) (fun hHeld2 => ?_)
          clear hK K hHeld
          (try simp only [oq28_2_5, Act.put, List.setIfInBounds_toArray, List.set_cons_zero, List.set_cons_succ])
          generalize hV : V54.alloc (.cells #[.slice none 0 0] 24) = V55 at hHeld2 sn WWn XAn XMn XRn Xrn Xsn Xxn Xyn O9n O7n O8n ⊢
          clear hV ba bn WW XA XM XR Xr Xs Xx O9 O7 O8
          have WW := WWn
          have XA := XAn
          have XM := XMn
          have XR := XRn
          have Xr := Xrn
          have Xs := Xsn
          have Xx := Xxn
          have Xy := Xyn
          have O9 := O9n
          have O7 := O7n
          have O8 := O8n
          have sz55 := sn
          have hHeld := hHeld2
          clear sn hHeld2 WWn XAn XMn XRn Xrn Xsn Xxn Xyn O9n O7n O8n
          obtain ⟨gXy, hg⟩ : ∃ x, x = V54.heap.size := ⟨_, rfl⟩
          have mXyXr : gXr < gXy := by omega
          have mXyXs : gXs < gXy := by omega
          have mXyXR : w.heap.size + 1 + 1 < gXy := by omega
          have nXxXy : gXx ≠ gXy := by omega
          rw [← hg] at Xy sz55 ⊢
          clear hg lqXr lqXs lqXR lXx
          refine AnyL_ready (rs := [6]) (by kernel_rfl) (by simp) ?_
          refine ReadyL.cons (o := oq28_2_6) rfl (fun K hK => ?_) ReadyL.nil
          delta oq28_2_6
          have fz := Xx.1.frozen 0
          have cz := Xx.cell
          have lz := Xx.lt
          go_simp
          have XAn := XA.far (p := ⟨gXx, 0, none⟩) Xx.1 Xx.2.2 (by simp <;> omega) (.slice none 0 0)
          have XMn := XM.far (p := ⟨gXx, 0, none⟩) Xx.1 Xx.2.2 (by simp <;> omega) (.slice none 0 0)
          have XRn := XR.far (p := ⟨gXx, 0, none⟩) Xx.1 Xx.2.2 (by simp <;> omega) (.slice none 0 0)
          have Xrn := Xr.far (p := ⟨gXx, 0, none⟩) Xx.1 Xx.2.2 (by simp <;> omega) (.slice none 0 0)
          have Xsn := Xs.far (p := ⟨gXx, 0, none⟩) Xx.1 Xx.2.2 (by simp <;> omega) (.slice none 0 0)
          have Xyn := Xy.far (p := ⟨gXx, 0, none⟩) Xx.1 Xx.2.2 (by simp <;> omega) (.slice none 0 0)
          have Xxn := Xx.set_ (A' := none) (n' := 0) (c' := 0) (a' := 0) (.inr (Own.nil _ _ _ _ (Nat.zero_le _)))
          have O9n := O9.box (p := ⟨gXx, 0, none⟩) Xx.1 (by decide) (.slice none 0 0)
          have O7n := O7.box (p := ⟨gXx, 0, none⟩) Xx.1 (by decide) (.slice none 0 0)
          have O8n := O8.box (p := ⟨gXx, 0, none⟩) Xx.1 (by decide) (.slice none 0 0)
          have WWn := WW.setCell (p := ⟨gXx, 0, none⟩) (by simp <;> omega) (.slice none 0 0)
          refine hK.out _ _ (XMn.cell) (fun hHeld2 => ?_)
          clear hK K hHeld
          (try simp only [oq28_2_6, Act.put, List.setIfInBounds_toArray, List.set_cons_zero, List.set_cons_succ])
          generalize hV : V55.setCell ⟨gXx, 0, none⟩ (.slice none 0 0) = V56 at hHeld2 WWn XAn XMn XRn Xrn Xsn Xxn Xyn O9n O7n O8n ⊢
          clear hV fz cz lz WW XA XM XR Xr Xs Xx Xy O9 O7 O8
          have WW := WWn
          have XA := XAn
          have XM := XMn
          have XR := XRn
          have Xr := Xrn
          have Xs := Xsn
          have Xx := Xxn
          have Xy := Xyn
          have O9 := O9n
          have O7 := O7n
          have O8 := O8n
          have hHeld := hHeld2
          clear hHeld2
          clear WWn XAn XMn XRn Xrn Xsn Xxn Xyn O9n O7n O8n
          refine AnyL_ready (rs := [7]) (by kernel_rfl) (by simp) ?_
          refine ReadyL.cons (o := oq28_2_7) rfl (fun K hK => ?_) ReadyL.nil
          delta oq28_2_7
          have fz := Xy.1.frozen 0
          have cz := Xy.cell
          have lz := Xy.lt
          go_simp
          have XAn := XA.far (p := ⟨gXy, 0, none⟩) Xy.1 Xy.2.2 (by simp <;> omega) (.slice D8 (nw y0) d8)
          have XMn := XM.far (p := ⟨gXy, 0, none⟩) Xy.1 Xy.2.2 (by simp <;> omega) (.slice D8 (nw y0) d8)
          have XRn := XR.far (p := ⟨gXy, 0, none⟩) Xy.1 Xy.2.2 (by simp <;> omega) (.slice D8 (nw y0) d8)
          have Xrn := Xr.far (p := ⟨gXy, 0, none⟩) Xy.1 Xy.2.2 (by simp <;> omega) (.slice D8 (nw y0) d8)
          have Xsn := Xs.far (p := ⟨gXy, 0, none⟩) Xy.1 Xy.2.2 (by simp <;> omega) (.slice D8 (nw y0) d8)
          have Xxn := Xx.far (p := ⟨gXy, 0, none⟩) Xy.1 Xy.2.2 (by simp <;> omega) (.slice D8 (nw y0) d8)
          have Xyn := Xy.set_ (A' := D8) (n' := (nw y0)) (c' := d8) (a' := y0) (.inr O8)
          have O9n := O9.box (p := ⟨gXy, 0, none⟩) Xy.1 (by decide) (.slice D8 (nw y0) d8)
          have O7n := O7.box (p := ⟨gXy, 0, none⟩) Xy.1 (by decide) (.slice D8 (nw y0) d8)
          have O8n := O8.box (p := ⟨gXy, 0, none⟩) Xy.1 (by decide) (.slice D8 (nw y0) d8)
          have WWn := WW.setCell (p := ⟨gXy, 0, none⟩) (by simp <;> omega) (.slice D8 (nw y0) d8)
          refine hK.out _ _ (XMn.cell) (fun hHeld2 => ?_)
          clear hK K hHeld
          (try simp only [oq28_2_7, Act.put, List.setIfInBounds_toArray, List.set_cons_zero, List.set_cons_succ])
          generalize hV : V56.setCell ⟨gXy, 0, none⟩ (.slice D8 (nw y0) d8) = V57 at hHeld2 WWn XAn XMn XRn Xrn Xsn Xxn Xyn O9n O7n O8n ⊢
          clear hV fz cz lz WW XA XM XR Xr Xs Xx Xy O9 O7 O8
          have WW := WWn
          have XA := XAn
          have XM := XMn
          have XR := XRn
          have Xr := Xrn
          have Xs := Xsn
          have Xx := Xxn
          have Xy := Xyn
          have O9 := O9n
          have O7 := O7n
          have O8 := O8n
          have hHeld := hHeld2
          clear hHeld2
          clear WWn XAn XMn XRn Xrn Xsn Xxn Xyn O9n O7n O8n
          refine AnyL_done (by kernel_rfl) ?_ _
          clear hHeld
          refine NoPanic.normal ?_
          exact ⟨rfl, gXx, gXy, D7, d7, D8, d8, rfl, WW, XA, XM, XR, Xr, Xs, Xx, Xy, O9, O7, O8, (by first | exact mXxXr | omega), (by first | exact mXxXs | omega), (by first | exact mXxXR | omega), (by first | exact mXyXr | omega), (by first | exact mXyXs | omega), (by first | exact mXyXR | omega), (by first | exact nXxXy | omega)⟩
        refine ReadyL.cons (o := oq28_2_5) rfl (fun K hK => ?_) ReadyL.nil
        · delta oq28_2_5
          have lqXr : gXr < V53.heap.size := Xr.lt
          have lqXs : gXs < V53.heap.size := Xs.lt
          have lqXR : w.heap.size + 1 + 1 < V53.heap.size := XR.lt
          have lXx : gXx < V53.heap.size := Xx.lt
          go_simp
          have ba := (Below.refl V53.heap.size V53).alloc (Nat.le_refl _) (.cells #[.slice none 0 0] 24)
          have XAn := XA.below ba
          have XMn := XM.below ba
          have XRn := XR.below ba
          have Xrn := Xr.below ba
          have Xsn := Xs.below ba
          have Xxn := Xx.below ba
          have O9n := O9.below ba (Nat.le_refl _)
          have O7n := O7.below ba (Nat.le_refl _)
          have bn := Blk.new V53 24 #[.slice none 0 0]
          have Xyn := VB.mk (B := w.heap.size) (a := 0) bn (.inr (Own.nil _ _ _ _ (Nat.zero_le _))) ba WW.size WW.size
          have WWn := WW.trans (ba.mono WW.size)
          have sn : V53.heap.size < (V53.alloc (.cells #[.slice none 0 0] 24)).heap.size := bn.lt
          refine hK.out _ _ (XMn.cell) (fun hHeld2 => ?_)
          clear hK K hHeld
          (try simp only [oq28_2_5, Act.put, List.setIfInBounds_toArray, List.set_cons_zero, List.set_cons_succ])
          generalize hV : V53.alloc (.cells #[.slice none 0 0] 24) = V54 at hHeld2 sn WWn XAn XMn XRn Xrn Xsn Xxn Xyn O9n O7n ⊢
          clear hV ba bn WW XA XM XR Xr Xs Xx O9 O7
          have WW := WWn
          have XA := XAn
          have XM := XMn
          have XR := XRn
          have Xr := Xrn
          have Xs := Xsn
          have Xx := Xxn
          have Xy := Xyn
          have O9 := O9n
          have O7 := O7n
          have sz54 := sn
          have hHeld := hHeld2
          clear sn hHeld2 WWn XAn XMn XRn Xrn Xsn Xxn Xyn O9n O7n
          obtain ⟨gXy, hg⟩ : ∃ x, x = V53.heap.size := ⟨_, rfl⟩
          have mXyXr : gXr < gXy := by omega
          have mXyXs : gXs < gXy := by omega
          have mXyXR : w.heap.size + 1 + 1 < gXy := by omega
          have nXxXy : gXx ≠ gXy := by omega
          rw [← hg] at Xy sz54 ⊢
          clear hg lqXr lqXs lqXR lXx
          refine AnyL_ready (rs := [3]) (by kernel_rfl) (by simp) ?_
          refine ReadyL.cons (o := oq28_2_3) rfl (fun K hK => ?_) ReadyL.nil
          delta oq28_2_3
          go_simp
          have hbs : w.heap.size ≤ V54.heap.size := WW.size
          have hc := rmod3_any D7 B' d7 p 1 m V54 O7.num XM.num (by omega) (by omega) HM0.out
          rw [← HY0.out] at hc
          refine hc.mono ?_
          clear hc
          rintro e V55 ⟨v, rfl, hv, hb⟩
          replace XA := XA.below hb
          replace XM := XM.below hb
          replace XR := XR.below hb
          replace Xr := Xr.below hb
          replace Xs := Xs.below hb
          replace Xx := Xx.below hb
          replace Xy := Xy.below hb
          replace O9 := O9.below hb (Nat.le_refl _)
          replace O7 := O7.below hb (Nat.le_refl _)
          replace WW := WW.trans (hb.mono WW.size)
          have sz55 := hb.size
          obtain ⟨D8, d8, rfl, ho⟩ := hv
          have O8 := ho.weak (b := w.heap.size) hbs
          clear ho
          clear hb hbs
          refine hK.out _ _ (XM.cell) (fun hHeld2 => ?_)
          clear hK K hHeld
          have hHeld := hHeld2
          clear hHeld2
          (try simp only [oq28_2_3, Act.put, List.setIfInBounds_toArray, List.set_cons_zero, List.set_cons_succ])
          refine AnyL_ready (rs := [6]) (by kernel_rfl) (by simp) ?_
          refine ReadyL.cons (o := oq28_2_6) rfl (fun K hK => ?_) ReadyL.nil
          delta oq28_2_6
          have fz := Xx.1.frozen 0
          have cz := Xx.cell
          have lz := Xx.lt
          go_simp
          have XAn := XA.far (p := ⟨gXx, 0, none⟩) Xx.1 Xx.2.2 (by simp <;> omega) (.slice none 0 0)
          have XMn := XM.far (p := ⟨gXx, 0, none⟩) Xx.1 Xx.2.2 (by simp <;> omega) (.slice none 0 0)
          have XRn := XR.far (p := ⟨gXx, 0, none⟩) Xx.1 Xx.2.2 (by simp <;> omega) (.slice none 0 0)
          have Xrn := Xr.far (p := ⟨gXx, 0, none⟩) Xx.1 Xx.2.2 (by simp <;> omega) (.slice none 0 0)
          have Xsn := Xs.far (p := ⟨gXx, 0, none⟩) Xx.1 Xx.2.2 (by simp <;> omega) (.slice none 0 0)
          have Xyn := Xy.far (p := ⟨gXx, 0, none⟩) Xx.1 Xx.2.2 (by simp <;> omega) (.slice none 0 0)
          have Xxn := Xx.set_ (A' := none) (n' := 0) (c' := 0) (a' := 0) (.inr (Own.nil _ _ _ _ (Nat.zero_le _)))
          have O9n := O9.box (p := ⟨gXx, 0, none⟩) Xx.1 (by decide) (.slice none 0 0)
          have O7n := O7.box (p := ⟨gXx, 0, none⟩) Xx.1 (by decide) (.slice none 0 0)
          have O8n := O8.box (p := ⟨gXx, 0, none⟩) Xx.1 (by decide) (.slice none 0 0)
          have WWn := WW.setCell (p := ⟨gXx, 0, none⟩) (by simp <;> omega) (.slice none 0 0)
          refine hK.out _ _ (XMn.cell) (fun hHeld2 => ?_)
          clear hK K hHeld
          (try simp only [oq28_2_6, Act.put, List.setIfInBounds_toArray, List.set_cons_zero, List.set_cons_succ])
          generalize hV : V55.setCell ⟨gXx, 0, none⟩ (.slice none 0 0) = V56 at hHeld2 WWn XAn XMn XRn Xrn Xsn Xxn Xyn O9n O7n O8n ⊢
          clear hV fz cz lz WW XA XM XR Xr Xs Xx Xy O9 O7 O8
          have WW := WWn
          have XA := XAn
          have XM := XMn
          have XR := XRn
          have Xr := Xrn
          have Xs := Xsn
          have Xx := Xxn
          have Xy := Xyn
          have O9 := O9n
          have O7 := O7n
          have O8 := O8n
          have hHeld := hHeld2
          clear hHeld2
          clear WWn XAn XMn XRn Xrn Xsn Xxn Xyn O9n O7n O8n
          refine AnyL_ready (rs := [7]) (by kernel_rfl) (by simp) ?_
          refine ReadyL.cons (o := oq28_2_7) rfl (fun K hK => ?_) ReadyL.nil
          delta oq28_2_7
          have fz := Xy.1.frozen 0
          have cz := Xy.cell
          have lz := Xy.lt
          go_simp
          have XAn := XA.far (p := ⟨gXy, 0, none⟩) Xy.1 Xy.2.2 (by simp <;> omega) (.slice D8 (nw y0) d8)
          have XMn := XM.far (p := ⟨gXy, 0, none⟩) Xy.1 Xy.2.2 (by simp <;> omega) (.slice D8 (nw y0) d8)
          have XRn := XR.far (p := ⟨gXy, 0, none⟩) Xy.1 Xy.2.2 (by simp <;> omega) (.slice D8 (nw y0) d8)
          have Xrn := Xr.far (p := ⟨gXy, 0, none⟩) Xy.1 Xy.2.2 (by simp <;> omega) (.slice D8 (nw y0) d8)
          have Xsn := Xs.far (p := ⟨gXy, 0, none⟩) Xy.1 Xy.2.2 (by simp <;> omega) (.slice D8 (nw y0) d8)
          have Xxn := Xx.far (p := ⟨gXy, 0, none⟩) Xy.1 Xy.2.2 (by simp <;> omega) (.slice D8 (nw y0) d8)
          have Xyn := Xy.set_ (A' := D8) (n' := (nw y0)) (c' := d8) (a' := y0) (.inr O8)
          have O9n := O9.box (p := ⟨gXy, 0, none⟩) Xy.1 (by decide) (.slice D8 (nw y0) d8)
          have O7n := O7.box (p := ⟨gXy, 0, none⟩) Xy.1 (by decide) (.slice D8 (nw y0) d8)
          have O8n := O8.box (p := ⟨gXy, 0, none⟩) Xy.1 (by decide) (.slice D8 (nw y0) d8)
          have WWn := WW.setCell (p := ⟨gXy, 0, none⟩) (by simp <;> omega) (.slice D8 (nw y0) d8)
          refine hK.out _ _ (XMn.cell) (fun hHeld2 => ?_)
          clear hK K hHeld
          (try simp only [oq28_2_7, Act.put, List.setIfInBounds_toArray, List.set_cons_zero, List.set_cons_succ])
          generalize hV : V56.setCell ⟨gXy, 0, none⟩ (.slice D8 (nw y0) d8) = V57 at hHeld2 WWn XAn XMn XRn Xrn Xsn Xxn Xyn O9n O7n O8n ⊢
          clear hV fz cz lz WW XA XM XR Xr Xs Xx Xy O9 O7 O8
          have WW := WWn
          have XA := XAn
          have XM := XMn
          have XR := XRn
          have Xr := Xrn
          have Xs := Xsn
          have Xx := Xxn
          have Xy := Xyn
          have O9 := O9n
          have O7 := O7n
          have O8 := O8n
          have hHeld := hHeld2
          clear hHeld2
          clear WWn XAn XMn XRn Xrn Xsn Xxn Xyn O9n O7n O8n
          refine AnyL_done (by kernel_rfl) ?_ _
          clear hHeld
          refine NoPanic.normal ?_
          exact ⟨rfl, gXx, gXy, D7, d7, D8, d8, rfl, WW, XA, XM, XR, Xr, Xs, Xx, Xy, O9, O7, O8, (by first | exact mXxXr | omega), (by first | exact mXxXs | omega), (by first | exact mXxXR | omega), (by first | exact mXyXr | omega), (by first | exact mXyXs | omega), (by first | exact mXyXR | omega), (by first | exact nXxXy | omega)⟩
      refine ReadyL.cons (o := oq28_2_5) rfl (fun K hK => ?_) ReadyL.nil
      · delta oq28_2_5
        have lqXr : gXr < V52.heap.size := Xr.lt
        have lqXs : gXs < V52.heap.size := Xs.lt
        have lqXR : w.heap.size + 1 + 1 < V52.heap.size := XR.lt
        have lXx : gXx < V52.heap.size := Xx.lt
        go_simp
        have ba := (Below.refl V52.heap.size V52).alloc (Nat.le_refl _) (.cells #[.slice none 0 0] 24)
        have XAn := XA.below ba
        have XMn := XM.below ba
        have XRn := XR.below ba
        have Xrn := Xr.below ba
        have Xsn := Xs.below ba
        have Xxn := Xx.below ba
        have O9n := O9.below ba (Nat.le_refl _)
        have bn := Blk.new V52 24 #[.slice none 0 0]
        have Xyn := VB.mk (B := w.heap.size) (a := 0) bn (.inr (Own.nil _ _ _ _ (Nat.zero_le _))) ba WW.size WW.size
        have WWn := WW.trans (ba.mono WW.size)
        have sn : V52.heap.size < (V52.alloc (.cells #[.slice none 0 0] 24)).heap.size := bn.lt
        refine hK.out _ _ (XMn.cell) (fun hHeld2 => ?_)
        clear hK K hHeld
        (try simp only [oq28_2_5, Act.put, List.setIfInBounds_toArray, List.set_cons_zero, List.set_cons_succ])
        generalize hV : V52.alloc (.cells #[.slice none 0 0] 24) = V53 at hHeld2 sn WWn XAn XMn XRn Xrn Xsn Xxn Xyn O9n ⊢
        clear hV ba bn WW XA XM XR Xr Xs Xx O9
        have WW := WWn
        have XA := XAn
        have XM := XMn
        have XR := XRn
        have Xr := Xrn
        have Xs := Xsn
        have Xx := Xxn
        have Xy := Xyn
        have O9 := O9n
        have sz53 := sn
        have hHeld := hHeld2
        clear sn hHeld2 WWn XAn XMn XRn Xrn Xsn Xxn Xyn O9n
        obtain ⟨gXy, hg⟩ : ∃ x, x = V52.heap.size := ⟨_, rfl⟩
        have mXyXr : gXr < gXy := by omega
        have mXyXs : gXs < gXy := by omega
        have mXyXR : w.heap.size + 1 + 1 < gXy := by omega
        have nXxXy : gXx ≠ gXy := by omega
        rw [← hg] at Xy sz53 ⊢
        clear hg lqXr lqXs lqXR lXx
        refine AnyL_ready (rs := [1]) (by kernel_rfl) (by simp) ?_
        refine ReadyL.cons (o := oq28_2_1) rfl (fun K hK => ?_) ReadyL.nil
        delta oq28_2_1
        go_simp
        have hbs : w.heap.size ≤ V53.heap.size := WW.size
        have hc := of3_1 V53
        refine hc.mono ?_
        clear hc
        rintro e V54 ⟨v, rfl, hv, hb⟩
        replace XA := XA.below hb
        replace XM := XM.below hb
        replace XR := XR.below hb
        replace Xr := Xr.below hb
        replace Xs := Xs.below hb
        replace Xx := Xx.below hb
        replace Xy := Xy.below hb
        replace O9 := O9.below hb (Nat.le_refl _)
        replace WW := WW.trans (hb.mono WW.size)
        have sz54 := hb.size
        obtain ⟨D7, d7, rfl, ho⟩ := hv
        have O7 := ho.weak (b := w.heap.size) hbs
        clear ho
        clear hb hbs
        refine hK.out _ _ (XM.cell) (fun hHeld2 => ?_)
        clear hK K hHeld
        have hHeld := hHeld2
        clear hHeld2
        (try simp only [oq28_2_1, Act.put, List.setIfInBounds_toArray, List.set_cons_zero, List.set_cons_succ])
        refine AnyL_ready (rs := [3]) (by kernel_rfl) (by simp) ?_
        refine ReadyL.cons (o := oq28_2_3) rfl (fun K hK => ?_) ReadyL.nil
        delta oq28_2_3
        go_simp
        have hbs : w.heap.size ≤ V54.heap.size := WW.size
        have hc := rmod3_any D7 B' d7 p 1 m V54 O7.num XM.num (by omega) (by omega) HM0.out
        rw [← HY0.out] at hc
        refine hc.mono ?_
        clear hc
        rintro e V55 ⟨v, rfl, hv, hb⟩
        replace XA := XA.below hb
        replace XM := XM.below hb
        replace XR := XR.below hb
        replace Xr := Xr.below hb
        replace Xs := Xs.below hb
        replace Xx := Xx.below hb
        replace Xy := Xy.below hb
        replace O9 := O9.below hb (Nat.le_refl _)
        replace O7 := O7.below hb (Nat.le_refl _)
        replace WW := WW.trans (hb.mono WW.size)
        have sz55 := hb.size
        obtain ⟨D8, d8, rfl, ho⟩ := hv
        have O8 := ho.weak (b := w.heap.size) hbs
        clear ho
        clear hb hbs
        refine hK.out _ _ (XM.cell) (fun hHeld2 => ?_)
        clear hK K hHeld
        have hHeld := hHeld2
        clear hHeld2
        (try simp only [oq28_2_3, Act.put, List.setIfInBounds_toArray, List.set_cons_zero, List.set_cons_succ])
        refine AnyL_ready (rs := [6]) (by kernel_rfl) (by simp) ?_
        refine ReadyL.cons (o := oq28_2_6) rfl (fun K hK => ?_) ReadyL.nil
        delta oq28_2_6
        have fz := Xx.1.frozen 0
        have cz := Xx.cell
        have lz := Xx.lt
        go_simp
        have XAn := XA.far (p := ⟨gXx, 0, none⟩) Xx.1 Xx.2.2 (by simp <;> omega) (.slice none 0 0)
        have XMn := XM.far (p := ⟨gXx, 0, none⟩) Xx.1 Xx.2.2 (by simp <;> omega) (.slice none 0 0)
        have XRn := XR.far (p := ⟨gXx, 0, none⟩) Xx.1 Xx.2.2 (by simp <;> omega) (.slice none 0 0)
        have Xrn := Xr.far (p := ⟨gXx, 0, none⟩) Xx.1 Xx.2.2 (by simp <;> omega) (.slice none 0 0)
        have Xsn := Xs.far (p := ⟨gXx, 0, none⟩) Xx.1 Xx.2.2 (by simp <;> omega) (.slice none 0 0)
        have Xyn := Xy.far (p := ⟨gXx, 0, none⟩) Xx.1 Xx.2.2 (by simp <;> omega) (.slice none 0 0)
        have Xxn := Xx.set_ (A' := none) (n' := 0) (c' := 0) (a' := 0) (.inr (Own.nil _ _ _ _ (Nat.zero_le _)))
        have O9n := O9.box (p := ⟨gXx, 0, none⟩) Xx.1 (by decide) (.slice none 0 0)
        have O7n := O7.box (p := ⟨gXx, 0, none⟩) Xx.1 (by decide) (.slice none 0 0)
        have O8n := O8.box (p := ⟨gXx, 0, none⟩) Xx.1 (by decide) (.slice none 0 0)
        have WWn := WW.setCell (p := ⟨gXx, 0, none⟩) (by simp <;> omega) (.slice none 0 0)
        refine hK.out _ _ (XMn.cell) (fun hHeld2 => ?_)
        clear hK K hHeld
        (try simp only [oq28_2_6, Act.put, List.setIfInBounds_toArray, List.set_cons_zero, List.set_cons_succ])
        generalize hV : V55.setCell ⟨gXx, 0, none⟩ (.slice none 0 0) = V56 at hHeld2 WWn XAn XMn XRn Xrn Xsn Xxn Xyn O9n O7n O8n ⊢
        clear hV fz cz lz WW XA XM XR Xr Xs Xx Xy O9 O7 O8
        have WW := WWn
        have XA := XAn
        have XM := XMn
        have XR := XRn
        have Xr := Xrn
        have Xs := Xsn
        have Xx := Xxn
        have Xy := Xyn
        have O9 := O9n
        have O7 := O7n
        have O8 := O8n
        have hHeld := hHeld2
        clear hHeld2
        clear WWn XAn XMn XRn Xrn Xsn Xxn Xyn O9n O7n O8n
        refine AnyL_ready (rs := [7]) (by kernel_rfl) (by simp) ?_
        refine ReadyL.cons (o := oq28_2_7) rfl (fun K hK => ?_) ReadyL.nil
        delta oq28_2_7
        have fz := Xy.1.frozen 0
        have cz := Xy.cell
        have lz := Xy.lt
        go_simp
        have XAn := XA.far (p := ⟨gXy, 0, none⟩) Xy.1 Xy.2.2 (by simp <;> omega) (.slice D8 (nw y0) d8)
        have XMn := XM.far (p := ⟨gXy, 0, none⟩) Xy.1 Xy.2.2 (by simp <;> omega) (.slice D8 (nw y0) d8)
        have XRn := XR.far (p := ⟨gXy, 0, none⟩) Xy.1 Xy.2.2 (by simp <;> omega) (.slice D8 (nw y0) d8)
        have Xrn := Xr.far (p := ⟨gXy, 0, none⟩) Xy.1 Xy.2.2 (by simp <;> omega) (.slice D8 (nw y0) d8)
        have Xsn := Xs.far (p := ⟨gXy, 0, none⟩) Xy.1 Xy.2.2 (by simp <;> omega) (.slice D8 (nw y0) d8)
        have Xxn := Xx.far (p := ⟨gXy, 0, none⟩) Xy.1 Xy.2.2 (by simp <;> omega) (.slice D8 (nw y0) d8)
        have Xyn := Xy.set_ (A' := D8) (n' := (nw y0)) (c' := d8) (a' := y0) (.inr O8)
        have O9n := O9.box (p := ⟨gXy, 0, none⟩) Xy.1 (by decide) (.slice D8 (nw y0) d8)
        have O7n := O7.box (p := ⟨gXy, 0, none⟩) Xy.1 (by decide) (.slice D8 (nw y0) d8)
        have O8n := O8.box (p := ⟨gXy, 0, none⟩) Xy.1 (by decide) (.slice D8 (nw y0) d8)
        have WWn := WW.setCell (p := ⟨gXy, 0, none⟩) (by simp <;> omega) (.slice D8 (nw y0) d8)
        refine hK.out _ _ (XMn.cell) (fun hHeld2 => ?_)
        clear hK K hHeld
        (try simp only [oq28_2_7, Act.put, List.setIfInBounds_toArray, List.set_cons_zero, List.set_cons_succ])
        generalize hV : V56.setCell ⟨gXy, 0, none⟩ (.slice D8 (nw y0) d8) = V57 at hHeld2 WWn XAn XMn XRn Xrn Xsn Xxn Xyn O9n O7n O8n ⊢
        clear hV fz cz lz WW XA XM XR Xr Xs Xx Xy O9 O7 O8
        have WW := WWn
        have XA := XAn
        have XM := XMn
        have XR := XRn
        have Xr := Xrn
        have Xs := Xsn
        have Xx := Xxn
        have Xy := Xyn
        have O9 := O9n
        have O7 := O7n
        have O8 := O8n
        have hHeld := hHeld2
        clear hHeld2
        clear WWn XAn XMn XRn Xrn Xsn Xxn Xyn O9n O7n O8n
        refine AnyL_done (by kernel_rfl) ?_ _
        clear hHeld
        refine NoPanic.normal ?_
        exact ⟨rfl, gXx, gXy, D7, d7, D8, d8, rfl, WW, XA, XM, XR, Xr, Xs, Xx, Xy, O9, O7, O8, (by first | exact mXxXr | omega), (by first | exact mXxXs | omega), (by first | exact mXxXR | omega), (by first | exact mXyXr | omega), (by first | exact mXyXs | omega), (by first | exact mXyXR | omega), (by first | exact nXxXy | omega)⟩
    refine ReadyL.cons (o := oq28_2_5) rfl (fun K hK => ?_) ReadyL.nil
    · delta oq28_2_5
      have lqXr : gXr < U50x0.heap.size := Xr.lt
      have lqXs : gXs < U50x0.heap.size := Xs.lt
      have lqXR : w.heap.size + 1 + 1 < U50x0.heap.size := XR.lt
      go_simp
      have ba := (Below.refl U50x0.heap.size U50x0).alloc (Nat.le_refl _) (.cells #[.slice none 0 0] 24)
      have XAn := XA.below ba
      have XMn := XM.below ba
      have XRn := XR.below ba
      have Xrn := Xr.below ba
      have Xsn := Xs.below ba
      have O9n := O9.below ba (Nat.le_refl _)
      have bn := Blk.new U50x0 24 #[.slice none 0 0]
      have Xyn := VB.mk (B := w.heap.size) (a := 0) bn (.inr (Own.nil _ _ _ _ (Nat.zero_le _))) ba WW.size WW.size
      have WWn := WW.trans (ba.mono WW.size)
      have sn : U50x0.heap.size < (U50x0.alloc (.cells #[.slice none 0 0] 24)).heap.size := bn.lt
      refine hK.out _ _ (XMn.cell) (fun hHeld2 => ?_)
      clear hK K hHeld
      (try simp only [oq28_2_5, Act.put, List.setIfInBounds_toArray, List.set_cons_zero, List.set_cons_succ])
      generalize hV : U50x0.alloc (.cells #[.slice none 0 0] 24) = V52 at hHeld2 sn WWn XAn XMn XRn Xrn Xsn Xyn O9n ⊢
      clear hV ba bn WW XA XM XR Xr Xs O9
      have WW := WWn
      have XA := XAn
      have XM := XMn
      have XR := XRn
      have Xr := Xrn
      have Xs := Xsn
      have Xy := Xyn
      have O9 := O9n
      have sz52 := sn
      have hHeld := hHeld2
      clear sn hHeld2 WWn XAn XMn XRn Xrn Xsn Xyn O9n
      obtain ⟨gXy, hg⟩ : ∃ x, x = U50x0.heap.size := ⟨_, rfl⟩
      have mXyXr : gXr < gXy := by omega
      have mXyXs : gXs < gXy := by omega
      have mXyXR : w.heap.size + 1 + 1 < gXy := by omega
      rw [← hg] at Xy sz52 ⊢
      clear hg lqXr lqXs lqXR
      refine AnyL_ready (rs := [1, 4]) (by kernel_rfl) (by simp) ?_
      refine ReadyL.cons (o := oq28_2_1) rfl (fun K hK => ?_) ?_
      · delta oq28_2_1
        go_simp
        have hbs : w.heap.size ≤ V52.heap.size := WW.size
        have hc := of3_1 V52
        refine hc.mono ?_
        clear hc
        rintro e V53 ⟨v, rfl, hv, hb⟩
        replace XA := XA.below hb
        replace XM := XM.below hb
        replace XR := XR.below hb
        replace Xr := Xr.below hb
        replace Xs := Xs.below hb
        replace Xy := Xy.below hb
        replace O9 := O9.below hb (Nat.le_refl _)
        replace WW := WW.trans (hb.mono WW.size)
        have sz53 := hb.size
        obtain ⟨D7, d7, rfl, ho⟩ := hv
        have O7 := ho.weak (b := w.heap.size) hbs
        clear ho
        clear hb hbs
        refine hK.out _ _ (XM.cell) (fun hHeld2 => ?_)
        clear hK K hHeld
        have hHeld := hHeld2
        clear hHeld2
        (try simp only [oq28_2_1, Act.put, List.setIfInBounds_toArray, List.set_cons_zero, List.set_cons_succ])
        refine AnyL_ready (rs := [3, 4]) (by kernel_rfl) (by simp) ?_
        refine ReadyL.cons (o := oq28_2_3) rfl (fun K hK => ?_) ?_
        · delta oq28_2_3
          go_simp
          have hbs : w.heap.size ≤ V53.heap.size := WW.size
          have hc := rmod3_any D7 B' d7 p 1 m V53 O7.num XM.num (by omega) (by omega) HM0.out
          rw [← HY0.out] at hc
          refine hc.mono ?_
          clear hc
          rintro e V54 ⟨v, rfl, hv, hb⟩
          replace XA := XA.below hb
          replace XM := XM.below hb
          replace XR := XR.below hb
          replace Xr := Xr.below hb
          replace Xs := Xs.below hb
          replace Xy := Xy.below hb
          replace O9 := O9.below hb (Nat.le_refl _)
          replace O7 := O7.below hb (Nat.le_refl _)
          replace WW := WW.trans (hb.mono WW.size)
          have sz54 := hb.size
          obtain ⟨D8, d8, rfl, ho⟩ := hv
          have O8 := ho.weak (b := w.heap.size) hbs
          clear ho
          clear hb hbs
          refine hK.out _ _ (XM.cell) (fun hHeld2 => ?_)
          clear hK K hHeld
          have hHeld := hHeld2
          clear hHeld2
          (try simp only [oq28_2_3, Act.put, List.setIfInBounds_toArray, List.set_cons_zero, List.set_cons_succ])
          refine AnyL_ready (rs := [4]) (by kernel_rfl) (by simp) ?_
          refine ReadyL.cons (o := oq28_2_4) rfl (fun K hK => ?_) ReadyL.nil
          delta oq28_2_4
          have lqXr : gXr < V54.heap.size := Xr.lt
          have lqXs : gXs < V54.heap.size := Xs.lt
          have lqXR : w.heap.size + 1 + 1 < V54.heap.size := XR.lt
          have lXy : gXy < V54.heap.size := Xy.lt
          go_simp
          have ba := (Below.refl V54.heap.size V54).alloc (Nat.le_refl _) (.cells #[.slice none 0 0] 24)
          have XAn := XA.below ba
          have XMn := XM.below ba
          have XRn := XR.below ba
          have Xrn := Xr.below ba
          have Xsn := Xs.below ba
          have Xyn := Xy.below ba
          have O9n := O9.below ba (Nat.le_refl _)
          have O7n := O7.below ba (Nat.le_refl _)
          have O8n := O8.below ba (Nat.le_refl _)
          have bn := Blk.new V54 24 #[.slice none 0 0]
          have Xxn := VB.mk (B := w.heap.size) (a := 0) bn (.inr (Own.nil _ _ _ _ (Nat.zero_le _))) ba WW.size WW.size
          have WWn := WW.trans (ba.mono WW.size)
          have sn : V54.heap.size < (V54.alloc (.cells #[.slice none 0 0] 24)).heap.size := bn.lt
          refine hK.out _ _ (XMn.cell) (fun hHeld2 => ?_)
          clear hK K hHeld
          (try simp only [oq28_2_4, Act.put, List.setIfInBounds_toArray, List.set_cons_zero, List.set_cons_succ])
          generalize hV : V54.alloc (.cells #[.slice none 0 0] 24) = V55 at hHeld2 sn WWn XAn XMn XRn Xrn Xsn Xyn Xxn O9n O7n O8n ⊢
          clear hV ba bn WW XA XM XR Xr Xs Xy O9 O7 O8
          have WW := WWn
          have XA := XAn
          have XM := XMn
          have XR := XRn
          have Xr := Xrn
          have Xs := Xsn
          have Xy := Xyn
          have Xx := Xxn
          have O9 := O9n
          have O7 := O7n
          have O8 := O8n
          have sz55 := sn
          have hHeld := hHeld2
          clear sn hHeld2 WWn XAn XMn XRn Xrn Xsn Xyn Xxn O9n O7n O8n
          obtain ⟨gXx, hg⟩ : ∃ x, x = V54.heap.size := ⟨_, rfl⟩
          have mXxXr : gXr < gXx := by omega
          have mXxXs : gXs < gXx := by omega
          have mXxXR : w.heap.size + 1 + 1 < gXx := by omega
          have nXyXx : gXy ≠ gXx := by omega
          rw [← hg] at Xx sz55 ⊢
          clear hg lqXr lqXs lqXR lXy
          refine AnyL_ready (rs := [6]) (by kernel_rfl) (by simp) ?_
          refine ReadyL.cons (o := oq28_2_6) rfl (fun K hK => ?_) ReadyL.nil
          delta oq28_2_6
          have fz := Xx.1.frozen 0
          have cz := Xx.cell
          have lz := Xx.lt
          go_simp
          have XAn := XA.far (p := ⟨gXx, 0, none⟩) Xx.1 Xx.2.2 (by simp <;> omega) (.slice none 0 0)
          have XMn := XM.far (p := ⟨gXx, 0, none⟩) Xx.1 Xx.2.2 (by simp <;> omega) (.slice none 0 0)
          have XRn := XR.far (p := ⟨gXx, 0, none⟩) Xx.1 Xx.2.2 (by simp <;> omega) (.slice none 0 0)
          have Xrn := Xr.far (p := ⟨gXx, 0, none⟩) Xx.1 Xx.2.2 (by simp <;> omega) (.slice none 0 0)
          have Xsn := Xs.far (p := ⟨gXx, 0, none⟩) Xx.1 Xx.2.2 (by simp <;> omega) (.slice none 0 0)
          have Xyn := Xy.far (p := ⟨gXx, 0, none⟩) Xx.1 Xx.2.2 (by simp <;> omega) (.slice none 0 0)
          have Xxn := Xx.set_ (A' := none) (n' := 0) (c' := 0) (a' := 0) (.inr (Own.nil _ _ _ _ (Nat.zero_le _)))
          have O9n := O9.box (p := ⟨gXx, 0, none⟩) Xx.1 (by decide) (.slice none 0 0)
          have O7n := O7.box (p := ⟨gXx, 0, none⟩) Xx.1 (by decide) (.slice none 0 0)
          have O8n := O8.box (p := ⟨gXx, 0, none⟩) Xx.1 (by decide) (.slice none 0 0)
          have WWn := WW.setCell (p := ⟨gXx, 0, none⟩) (by simp <;> omega) (.slice none 0 0)
          refine hK.out _ _ (XMn.cell) (fun hHeld2 => ?_)
          clear hK K hHeld
          (try simp only [oq28_2_6, Act.put, List.setIfInBounds_toArray, List.set_cons_zero, List.set_cons_succ])
          generalize hV : V55.setCell ⟨gXx, 0, none⟩ (.slice none 0 0) = V56 at hHeld2 WWn XAn XMn XRn Xrn Xsn Xyn Xxn O9n O7n O8n ⊢
          clear hV fz cz lz WW XA XM XR Xr Xs Xy Xx O9 O7 O8
          have WW := WWn
          have XA := XAn
          have XM := XMn
          have XR := XRn
          have Xr := Xrn
          have Xs := Xsn
          have Xy := Xyn
          have Xx := Xxn
          have O9 := O9n
          have O7 := O7n
          have O8 := O8n
          have hHeld := hHeld2
          clear hHeld2
          clear WWn XAn XMn XRn Xrn Xsn Xyn Xxn O9n O7n O8n
          refine AnyL_ready (rs := [7]) (by kernel_rfl) (by simp) ?_
          refine ReadyL.cons (o := oq28_2_7) rfl (fun K hK => ?_) ReadyL.nil
          delta oq28_2_7
          have fz := Xy.1.frozen 0
          have cz := Xy.cell
          have lz := Xy.lt
          go_simp
          have XAn := XA.far (p := ⟨gXy, 0, none⟩) Xy.1 Xy.2.2 (by simp <;> omega) (.slice D8 (nw y0) d8)
          have XMn := XM.far (p := ⟨gXy, 0, none⟩) Xy.1 Xy.2.2 (by simp <;> omega) (.slice D8 (nw y0) d8)
          have XRn := XR.far (p := ⟨gXy, 0, none⟩) Xy.1 Xy.2.2 (by simp <;> omega) (.slice D8 (nw y0) d8)
          have Xrn := Xr.far (p := ⟨gXy, 0, none⟩) Xy.1 Xy.2.2 (by simp <;> omega) (.slice D8 (nw y0) d8)
          have Xsn := Xs.far (p := ⟨gXy, 0, none⟩) Xy.1 Xy.2.2 (by simp <;> omega) (.slice D8 (nw y0) d8)
          have Xxn := Xx.far (p := ⟨gXy, 0, none⟩) Xy.1 Xy.2.2 (by simp <;> omega) (.slice D8 (nw y0) d8)
          have Xyn := Xy.set_ (A' := D8) (n' := (nw y0)) (c' := d8) (a' := y0) (.inr O8)
          have O9n := O9.box (p := ⟨gXy, 0, none⟩) Xy.1 (by decide) (.slice D8 (nw y0) d8)
          have O7n := O7.box (p := ⟨gXy, 0, none⟩) Xy.1 (by decide) (.slice D8 (nw y0) d8)
          have O8n := O8.box (p := ⟨gXy, 0, none⟩) Xy.1 (by decide) (.slice D8 (nw y0) d8)
          have WWn := WW.setCell (p := ⟨gXy, 0, none⟩) (by simp <;> omega) (.slice D8 (nw y0) d8)
          refine hK.out _ _ (XMn.cell) (fun hHeld2 => ?_)
          clear hK K hHeld
          (try simp only [oq28_2_7, Act.put, List.setIfInBounds_toArray, List.set_cons_zero, List.set_cons_succ])
          generalize hV : V56.setCell ⟨gXy, 0, none⟩ (.slice D8 (nw y0) d8) = V57 at hHeld2 WWn XAn XMn XRn Xrn Xsn Xyn Xxn O9n O7n O8n ⊢
          clear hV fz cz lz WW XA XM XR Xr Xs Xy Xx O9 O7 O8
          have WW := WWn
          have XA := XAn
          have XM := XMn
          have XR := XRn
          have Xr := Xrn
          have Xs := Xsn
          have Xy := Xyn
          have Xx := Xxn
          have O9 := O9n
          have O7 := O7n
          have O8 := O8n
          have hHeld := hHeld2
          clear hHeld2
          clear WWn XAn XMn XRn Xrn Xsn Xyn Xxn O9n O7n O8n
          refine AnyL_done (by kernel_rfl) ?_ _
          clear hHeld
          refine NoPanic.normal ?_
          exact ⟨rfl, gXx, gXy, D7, d7, D8, d8, rfl, WW, XA, XM, XR, Xr, Xs, Xx, Xy, O9, O7, O8, (by first | exact mXxXr | omega), (by first | exact mXxXs | omega), (by first | exact mXxXR | omega), (by first | exact mXyXr | omega), (by first | exact mXyXs | omega), (by first | exact mXyXR | omega), (by first | exact nXxXy | omega)⟩
        refine ReadyL.cons (o := oq28_2_4) rfl (fun K hK => ?_) ReadyL.nil
        · delta oq28_2_4
          have lqXr : gXr < V53.heap.size := Xr.lt
          have lqXs : gXs < V53.heap.size := Xs.lt
          have lqXR : w.heap.size + 1 + 1 < V53.heap.size := XR.lt
          have lXy : gXy < V53.heap.size := Xy.lt
          go_simp
          have ba := (Below.refl V53.heap.size V53).alloc (Nat.le_refl _) (.cells #[.slice none 0 0] 24)
          have XAn := XA.below ba
          have XMn := XM.below ba
          have XRn := XR.below ba
          have Xrn := Xr.below ba
          have Xsn := Xs.below ba
          have Xyn := Xy.below ba
          have O9n := O9.below ba (Nat.le_refl _)
          have O7n := O7.below ba (Nat.le_refl _)
          have bn := Blk.new V53 24 #[.slice none 0 0]
          have Xxn := VB.mk (B := w.heap.size) (a := 0) bn (.inr (Own.nil _ _ _ _ (Nat.zero_le _))) ba WW.size WW.size
          have WWn := WW.trans (ba.mono WW.size)
          have sn : V53.heap.size < (V53.alloc (.cells #[.slice none 0 0] 24)).heap.size := bn.lt
          refine hK.out _ _ (XMn.cell) (fun hHeld2 => ?_)
          clear hK K hHeld
          (try simp only [oq28_2_4, Act.put, List.setIfInBounds_toArray, List.set_cons_zero, List.set_cons_succ])
          generalize hV : V53.alloc (.cells #[.slice none 0 0] 24) = V54 at hHeld2 sn WWn XAn XMn XRn Xrn Xsn Xyn Xxn O9n O7n ⊢
          clear hV ba bn WW XA XM XR Xr Xs Xy O9 O7
          have WW := WWn
          have XA := XAn
          have XM := XMn
          have XR := XRn
          have Xr := Xrn
          have Xs := Xsn
          have Xy := Xyn
          have Xx := Xxn
          have O9 := O9n
          have O7 := O7n
          have sz54 := sn
          have hHeld := hHeld2
          clear sn hHeld2 WWn XAn XMn XRn Xrn Xsn Xyn Xxn O9n O7n
          obtain ⟨gXx, hg⟩ : ∃ x, x = V53.heap.size := ⟨_, rfl⟩
          have mXxXr : gXr < gXx := by omega
          have mXxXs : gXs < gXx := by omega
          have mXxXR : w.heap.size + 1 + 1 < gXx := by omega
          have nXyXx : gXy ≠ gXx := by omega
          rw [← hg] at Xx sz54 ⊢
          clear hg lqXr lqXs lqXR lXy
          refine AnyL_ready (rs := [3]) (by kernel_rfl) (by simp) ?_
          refine ReadyL.cons (o := oq28_2_3) rfl (fun K hK => ?_) ReadyL.nil
          delta oq28_2_3
          go_simp
          have hbs : w.heap.size ≤ V54.heap.size := WW.size
          have hc := rmod3_any D7 B' d7 p 1 m V54 O7.num XM.num (by omega) (by omega) HM0.out
          rw [← HY0.out] at hc
          refine hc.mono ?_
          clear hc
          rintro e V55 ⟨v, rfl, hv, hb⟩
          replace XA := XA.below hb
          replace XM := XM.below hb
          replace XR := XR.below hb
          replace Xr := Xr.below hb
          replace Xs := Xs.below hb
          replace Xy := Xy.below hb
          replace Xx := Xx.below hb
          replace O9 := O9.below hb (Nat.le_refl _)
          replace O7 := O7.below hb (Nat.le_refl _)
          replace WW := WW.trans (hb.mono WW.size)
          have sz55 := hb.size
          obtain ⟨D8, d8, rfl, ho⟩ := hv
          have O8 := ho.weak (b := w.heap.size) hbs
          clear ho
          clear hb hbs
          refine hK.out _ _ (XM.cell) (fun hHeld2 => ?_)
          clear hK K hHeld
          have hHeld := hHeld2
          clear hHeld2
          (try simp only [oq28_2_3, Act.put, List.setIfInBounds_toArray, List.set_cons_zero, List.set_cons_succ])
          refine AnyL_ready (rs := [6]) (by kernel_rfl) (by simp) ?_
          refine ReadyL.cons (o := oq28_2_6) rfl (fun K hK => ?_) ReadyL.nil
          delta oq28_2_6
          have fz := Xx.1.frozen 0
          have cz := Xx.cell
          have lz := Xx.lt
          go_simp
          have XAn := XA.far (p := ⟨gXx, 0, none⟩) Xx.1 Xx.2.2 (by simp <;> omega) (.slice none 0 0)
          have XMn := XM.far (p := ⟨gXx, 0, none⟩) Xx.1 Xx.2.2 (by simp <;> omega) (.slice none 0 0)
          have XRn := XR.far (p := ⟨gXx, 0, none⟩) Xx.1 Xx.2.2 (by simp <;> omega) (.slice none 0 0)
          have Xrn := Xr.far (p := ⟨gXx, 0, none⟩) Xx.1 Xx.2.2 (by simp <;> omega) (.slice none 0 0)
          have Xsn := Xs.far (p := ⟨gXx, 0, none⟩) Xx.1 Xx.2.2 (by simp <;> omega) (.slice none 0 0)
          have Xyn := Xy.far (p := ⟨gXx, 0, none⟩) Xx.1 Xx.2.2 (by simp <;> omega) (.slice none 0 0)
          have Xxn := Xx.set_ (A' := none) (n' := 0) (c' := 0) (a' := 0) (.inr (Own.nil _ _ _ _ (Nat.zero_le _)))
          have O9n := O9.box (p := ⟨gXx, 0, none⟩) Xx.1 (by decide) (.slice none 0 0)
          have O7n := O7.box (p := ⟨gXx, 0, none⟩) Xx.1 (by decide) (.slice none 0 0)
          have O8n := O8.box (p := ⟨gXx, 0, none⟩) Xx.1 (by decide) (.slice none 0 0)
          have WWn := WW.setCell (p := ⟨gXx, 0, none⟩) (by simp <;> omega) (.slice none 0 0)
          refine hK.out _ _ (XMn.cell) (fun hHeld2 => ?_)
          clear hK K hHeld
          (try simp only [oq28_2_6, Act.put, List.setIfInBounds_toArray, List.set_cons_zero, List.set_cons_succ])
          generalize hV : V55.setCell ⟨gXx, 0, none⟩ (.slice none 0 0) = V56 at hHeld2 WWn XAn XMn XRn Xrn Xsn Xyn Xxn O9n O7n O8n ⊢
          clear hV fz cz lz WW XA XM XR Xr Xs Xy Xx O9 O7 O8
          have WW := WWn
          have XA := XAn
          have XM := XMn
          have XR := XRn
          have Xr := Xrn
          have Xs := Xsn
          have Xy := Xyn
          have Xx := Xxn
          have O9 := O9n
          have O7 := O7n
          have O8 := O8n
          have hHeld := hHeld2
          clear hHeld2
          clear WWn XAn XMn XRn Xrn Xsn Xyn Xxn O9n O7n O8n
          refine AnyL_ready (rs := [7]) (by kernel_rfl) (by simp) ?_
          refine ReadyL.cons (o := oq28_2_7) rfl (fun K hK => ?_) ReadyL.nil
          delta oq28_2_7
          have fz := Xy.1.frozen 0
          have cz := Xy.cell
          have lz := Xy.lt
          go_simp
          have XAn := XA.far (p := ⟨gXy, 0, none⟩) Xy.1 Xy.2.2 (by simp <;> omega) (.slice D8 (nw y0) d8)
          have XMn := XM.far (p := ⟨gXy, 0, none⟩) Xy.1 Xy.2.2 (by simp <;> omega) (.slice D8 (nw y0) d8)
          have XRn := XR.far (p := ⟨gXy, 0, none⟩) Xy.1 Xy.2.2 (by simp <;> omega) (.slice D8 (nw y0) d8)
          have Xrn := Xr.far (p := ⟨gXy, 0, none⟩) Xy.1 Xy.2.2 (by simp <;> omega) (.slice D8 (nw y0) d8)
          have Xsn := Xs.far (p := ⟨gXy, 0, none⟩) Xy.1 Xy.2.2 (by simp <;> omega) (.slice D8 (nw y0) d8)
          have Xxn := Xx.far (p := ⟨gXy, 0, none⟩) Xy.1 Xy.2.2 (by simp <;> omega) (.slice D8 (nw y0) d8)
          have Xyn := Xy.set_ (A' := D8) (n' := (nw y0)) (c' := d8) (a' := y0) (.inr O8)
          have O9n := O9.box (p := ⟨gXy, 0, none⟩) Xy.1 (by decide) (.slice D8 (nw y0) d8)
          have O7n := O7.box (p := ⟨gXy, 0, none⟩) Xy.1 (by decide) (.slice D8 (nw y0) d8)
          have O8n := O8.box (p := ⟨gXy, 0, none⟩) Xy.1 (by decide) (.slice D8 (nw y0) d8)
          have WWn := WW.setCell (p := ⟨gXy, 0, none⟩) (by simp <;> omega) (.slice D8 (nw y0) d8)
          refine hK.out _ _ (XMn.cell) (fun hHeld2 => ?_)
          clear hK K hHeld
          (try simp only [oq28_2_7, Act.put, List.setIfInBounds_toArray, List.set_cons_zero, List.set_cons_succ])
          generalize hV : V56.setCell ⟨gXy, 0, none⟩ (.slice D8 (nw y0) d8) = V57 at hHeld2 WWn XAn XMn XRn Xrn Xsn Xyn Xxn O9n O7n O8n ⊢
          clear hV fz cz lz WW XA XM XR Xr Xs Xy Xx O9 O7 O8
          have WW := WWn
          have XA := XAn
          have XM := XMn
          have XR := XRn
          have Xr := Xrn
          have Xs := Xsn
          have Xy := Xyn
          have Xx := Xxn
          have O9 := O9n
          have O7 := O7n
          have O8 := O8n
          have hHeld := hHeld2
          clear hHeld2
          clear WWn XAn XMn XRn Xrn Xsn Xyn Xxn O9n O7n O8n
          refine AnyL_done (by kernel_rfl) ?_ _
          clear hHeld
          refine NoPanic.normal ?_
          exact ⟨rfl, gXx, gXy, D7, d7, D8, d8, rfl, WW, XA, XM, XR, Xr, Xs, Xx, Xy, O9, O7, O8, (by first | exact mXxXr | omega), (by first | exact mXxXs | omega), (by first | exact mXxXR | omega), (by first | exact mXyXr | omega), (by first | exact mXyXs | omega), (by first | exact mXyXR | omega), (by first | exact nXxXy | omega)⟩
      refine ReadyL.cons (o := oq28_2_4) rfl (fun K hK => ?_) ReadyL.nil
      · delta oq28_2_4
        have lqXr : gXr < V52.heap.size := Xr.lt
        have lqXs : gXs < V52.heap.size := Xs.lt
        have lqXR : w.heap.size + 1 + 1 < V52.heap.size := XR.lt
        have lXy : gXy < V52.heap.size := Xy.lt
        go_simp
        have ba := (Below.refl V52.heap.size V52).alloc (Nat.le_refl _) (.cells #[.slice none 0 0] 24)
        have XAn := XA.below ba
        have XMn := XM.below ba
        have XRn := XR.below ba
        have Xrn := Xr.below ba
        have Xsn := Xs.below ba
        have Xyn := Xy.below ba
        have O9n := O9.below ba (Nat.le_refl _)
        have bn := Blk.new V52 24 #[.slice none 0 0]
        have Xxn := VB.mk (B := w.heap.size) (a := 0) bn (.inr (Own.nil _ _ _ _ (Nat.zero_le _))) ba WW.size WW.size
        have WWn := WW.trans (ba.mono WW.size)
        have sn : V52.heap.size < (V52.alloc (.cells #[.slice none 0 0] 24)).heap.size := bn.lt
        refine hK.out _ _ (XMn.cell) (fun hHeld2 => ?_)
        clear hK K hHeld
        (try simp only [oq28_2_4, Act.put, List.setIfInBounds_toArray, List.set_cons_zero, List.set_cons_succ])
        generalize hV : V52.alloc (.cells #[.slice none 0 0] 24) = V53 at hHeld2 sn WWn XAn XMn XRn Xrn Xsn Xyn Xxn O9n ⊢
        clear hV ba bn WW XA XM XR Xr Xs Xy O9
        have WW := WWn
        have XA := XAn
        have XM := XMn
        have XR := XRn
        have Xr := Xrn
        have Xs := Xsn
        have Xy := Xyn
        have Xx := Xxn
        have O9 := O9n
        have sz53 := sn
        have hHeld := hHeld2
        clear sn hHeld2 WWn XAn XMn XRn Xrn Xsn Xyn Xxn O9n
        obtain ⟨gXx, hg⟩ : ∃ x, x = V52.heap.size := ⟨_, rfl⟩
        have mXxXr : gXr < gXx := by omega
        have mXxXs : gXs < gXx := by omega
        have mXxXR : w.heap.size + 1 + 1 < gXx := by omega
        have nXyXx : gXy ≠ gXx := by omega
        rw [← hg] at Xx sz53 ⊢
        clear hg lqXr lqXs lqXR lXy
        refine AnyL_ready (rs := [1]) (by kernel_rfl) (by simp) ?_
        refine ReadyL.cons (o := oq28_2_1) rfl (fun K hK => ?_) ReadyL.nil
        delta oq28_2_1
        go_simp
        have hbs : w.heap.size ≤ V53.heap.size := WW.size
        have hc := of3_1 V53
        refine hc.mono ?_
        clear hc
        rintro e V54 ⟨v, rfl, hv, hb⟩
        replace XA := XA.below hb
        replace XM := XM.below hb
        replace XR := XR.below hb
        replace Xr := Xr.below hb
        replace Xs := Xs.below hb
        replace Xy := Xy.below hb
        replace Xx := Xx.below hb
        replace O9 := O9.below hb (Nat.le_refl _)
        replace WW := WW.trans (hb.mono WW.size)
        have sz54 := hb.size
        obtain ⟨D7, d7, rfl, ho⟩ := hv
        have O7 := ho.weak (b := w.heap.size) hbs
        clear ho
        clear hb hbs
        refine hK.out _ _ (XM.cell) (fun hHeld2 => ?_)
        clear hK K hHeld
        have hHeld := hHeld2
        clear hHeld2
        (try simp only [oq28_2_1, Act.put, List.setIfInBounds_toArray, List.set_cons_zero, List.set_cons_succ])
        refine AnyL_ready (rs := [3]) (by kernel_rfl) (by simp) ?_
        refine ReadyL.cons (o := oq28_2_3) rfl (fun K hK => ?_) ReadyL.nil
        delta oq28_2_3
        go_simp
        have hbs : w.heap.size ≤ V54.heap.size := WW.size
        have hc := rmod3_any D7 B' d7 p 1 m V54 O7.num XM.num (by omega) (by omega) HM0.out
        rw [← HY0.out] at hc
        refine hc.mono ?_
        clear hc
        rintro e V55 ⟨v, rfl, hv, hb⟩
        replace XA := XA.below hb
        replace XM := XM.below hb
        replace XR := XR.below hb
        replace Xr := Xr.below hb
        replace Xs := Xs.below hb
        replace Xy := Xy.below hb
        replace Xx := Xx.below hb
        replace O9 := O9.below hb (Nat.le_refl _)
        replace O7 := O7.below hb (Nat.le_refl _)
        replace WW := WW.trans (hb.mono WW.size)
        have sz55 := hb.size
        obtain ⟨D8, d8, rfl, ho⟩ := hv
        have O8 := ho.weak (b := w.heap.size) hbs
        clear ho
        clear hb hbs
        refine hK.out _ _ (XM.cell) (fun hHeld2 => ?_)
        clear hK K hHeld
        have hHeld := hHeld2
        clear hHeld2
        (try simp only [oq28_2_3, Act.put, List.setIfInBounds_toArray, List.set_cons_zero, List.set_cons_succ])
        refine AnyL_ready (rs := [6]) (by kernel_rfl) (by simp) ?_
        refine ReadyL.cons (o := oq28_2_6) rfl (fun K hK => ?_) ReadyL.nil
        delta oq28_2_6
        have fz := Xx.1.frozen 0
        have cz := Xx.cell
        have lz := Xx.lt
        go_simp
        have XAn := XA.far (p := ⟨gXx, 0, none⟩) Xx.1 Xx.2.2 (by simp <;> omega) (.slice none 0 0)
        have XMn := XM.far (p := ⟨gXx, 0, none⟩) Xx.1 Xx.2.2 (by simp <;> omega) (.slice none 0 0)
        have XRn := XR.far (p := ⟨gXx, 0, none⟩) Xx.1 Xx.2.2 (by simp <;> omega) (.slice none 0 0)
        have Xrn := Xr.far (p := ⟨gXx, 0, none⟩) Xx.1 Xx.2.2 (by simp <;> omega) (.slice none 0 0)
        have Xsn := Xs.far (p := ⟨gXx, 0, none⟩) Xx.1 Xx.2.2 (by simp <;> omega) (.slice none 0 0)
        have Xyn := Xy.far (p := ⟨gXx, 0, none⟩) Xx.1 Xx.2.2 (by simp <;> omega) (.slice none 0 0)
        have Xxn := Xx.set_ (A' := none) (n' := 0) (c' := 0) (a' := 0) (.inr (Own.nil _ _ _ _ (Nat.zero_le _)))
        have O9n := O9.box (p := ⟨gXx, 0, none⟩) Xx.1 (by decide) (.slice none 0 0)
        have O7n := O7.box (p := ⟨gXx, 0, none⟩) Xx.1 (by decide) (.slice none 0 0)
        have O8n := O8.box (p := ⟨gXx, 0, none⟩) Xx.1 (by decide) (.slice none 0 0)
        have WWn := WW.setCell (p := ⟨gXx, 0, none⟩) (by simp <;> omega) (.slice none 0 0)
        refine hK.out _ _ (XMn.cell) (fun hHeld2 => ?_)
        clear hK K hHeld
        (try simp only [oq28_2_6, Act.put, List.setIfInBounds_toArray, List.set_cons_zero, List.set_cons_succ])
        generalize hV : V55.setCell ⟨gXx, 0, none⟩ (.slice none 0 0) = V56 at hHeld2 WWn XAn XMn XRn Xrn Xsn Xyn Xxn O9n O7n O8n ⊢
        clear hV fz cz lz WW XA XM XR Xr Xs Xy Xx O9 O7 O8
        have WW := WWn
        have XA := XAn
        have XM := XMn
        have XR := XRn
        have Xr := Xrn
        have Xs := Xsn
        have Xy := Xyn
        have Xx := Xxn
        have O9 := O9n
        have O7 := O7n
        have O8 := O8n
        have hHeld := hHeld2
        clear hHeld2
        clear WWn XAn XMn XRn Xrn Xsn Xyn Xxn O9n O7n O8n
        refine AnyL_ready (rs := [7]) (by kernel_rfl) (by simp) ?_
        refine ReadyL.cons (o := oq28_2_7) rfl (fun K hK => ?_) ReadyL.nil
        delta oq28_2_7
        have fz := Xy.1.frozen 0
        have cz := Xy.cell
        have lz := Xy.lt
        go_simp
        have XAn := XA.far (p := ⟨gXy, 0, none⟩) Xy.1 Xy.2.2 (by simp <;> omega) (.slice D8 (nw y0) d8)
        have XMn := XM.far (p := ⟨gXy, 0, none⟩) Xy.1 Xy.2.2 (by simp <;> omega) (.slice D8 (nw y0) d8)
        have XRn := XR.far (p := ⟨gXy, 0, none⟩) Xy.1 Xy.2.2 (by simp <;> omega) (.slice D8 (nw y0) d8)
        have Xrn := Xr.far (p := ⟨gXy, 0, none⟩) Xy.1 Xy.2.2 (by simp <;> omega) (.slice D8 (nw y0) d8)
        have Xsn := Xs.far (p := ⟨gXy, 0, none⟩) Xy.1 Xy.2.2 (by simp <;> omega) (.slice D8 (nw y0) d8)
        have Xxn := Xx.far (p := ⟨gXy, 0, none⟩) Xy.1 Xy.2.2 (by simp <;> omega) (.slice D8 (nw y0) d8)
        have Xyn := Xy.set_ (A' := D8) (n' := (nw y0)) (c' := d8) (a' := y0) (.inr O8)
        have O9n := O9.box (p := ⟨gXy, 0, none⟩) Xy.1 (by decide) (.slice D8 (nw y0) d8)
        have O7n := O7.box (p := ⟨gXy, 0, none⟩) Xy.1 (by decide) (.slice D8 (nw y0) d8)
        have O8n := O8.box (p := ⟨gXy, 0, none⟩) Xy.1 (by decide) (.slice D8 (nw y0) d8)
        have WWn := WW.setCell (p := ⟨gXy, 0, none⟩) (by simp <;> omega) (.slice D8 (nw y0) d8)
        refine hK.out _ _ (XMn.cell) (fun hHeld2 => ?_)
        clear hK K hHeld
        (try simp only [oq28_2_7, Act.put, List.setIfInBounds_toArray, List.set_cons_zero, List.set_cons_succ])
        generalize hV : V56.setCell ⟨gXy, 0, none⟩ (.slice D8 (nw y0) d8) = V57 at hHeld2 WWn XAn XMn XRn Xrn Xsn Xyn Xxn O9n O7n O8n ⊢
        clear hV fz cz lz WW XA XM XR Xr Xs Xy Xx O9 O7 O8
        have WW := WWn
        have XA := XAn
        have XM := XMn
        have XR := XRn
        have Xr := Xrn
        have Xs := Xsn
        have Xy := Xyn
        have Xx := Xxn
        have O9 := O9n
        have O7 := O7n
        have O8 := O8n
        have hHeld := hHeld2
        clear hHeld2
        clear WWn XAn XMn XRn Xrn Xsn Xyn Xxn O9n O7n O8n
        refine AnyL_done (by kernel_rfl) ?_ _
        clear hHeld
        refine NoPanic.normal ?_
        exact ⟨rfl, gXx, gXy, D7, d7, D8, d8, rfl, WW, XA, XM, XR, Xr, Xs, Xx, Xy, O9, O7, O8, (by first | exact mXxXr | omega), (by first | exact mXxXs | omega), (by first | exact mXxXR | omega), (by first | exact mXyXr | omega), (by first | exact mXyXs | omega), (by first | exact mXyXR | omega), (by first | exact nXxXy | omega)⟩
  rintro gXx gXy D7 d7 D8 d8 V100 ⟨WW, XA, XM, XR, Xr, Xs, Xx, Xy, O9, O7, O8, mXxXr, mXxXs, mXxXR, mXyXr, mXyXs, mXyXR, nXxXy⟩
  have kXA := XA.cell
  have zXA := XA.lt
  have kXM := XM.cell
  have zXM := XM.lt
  have kXR := XR.cell
  have zXR := XR.lt
  have kXr := Xr.cell
  have zXr := Xr.lt
  have kXs := Xs.cell
  have zXs := Xs.lt
  have kXx := Xx.cell
  have zXx := Xx.lt
  have kXy := Xy.cell
  have zXy := Xy.lt
  go_wp2_with fail
  go_loopw [] (fun  wr => ∃ (r s x y : Nat) (R S X Y : Option Addr) (rc sc xc yc : Nat), IInv a m r s x y ∧ Below w.heap.size w wr ∧ VB w.heap.size wr (w.heap.size) A (nw a) c a ∧ VB w.heap.size wr (w.heap.size + 1) B' (nw m) p m ∧ VB w.heap.size wr (w.heap.size + 1 + 1) none 0 0 0 ∧ VB w.heap.size wr (gXr) R (nw r) rc r ∧ VB w.heap.size wr (gXs) S (nw s) sc s ∧ VB w.heap.size wr (gXx) X (nw x) xc x ∧ VB w.heap.size wr (gXy) Y (nw y) yc y ∧ Own wr w.heap.size X (nw x) xc x ∧ Own wr w.heap.size Y (nw y) yc y) (fun  wr => numAt wr (gXs))
  case atStart => exact ⟨m, a, 0, y0, B', A, none, D8, p, c, 0, d8, HS0.out, WW, XA, XM, XR, Xr, Xs, Xx, Xy, O9, O8⟩
  case round =>
    clear WW kXA zXA kXM zXM kXR zXR kXr zXr kXs zXs kXx zXx kXy zXy XA XM XR Xr Xs Xx Xy O9 O7 O8
    obtain ⟨r, s, x, y, R, S, X, Y, rc, sc, xc, yc, hI, WW, XA, XM, XR, Xr, Xs, Xx, Xy, OX, OY⟩ := hrel
    have kXA := XA.cell
    have zXA := XA.lt
    have kXM := XM.cell
    have zXM := XM.lt
    have kXR := XR.cell
    have zXR := XR.lt
    have kXr := Xr.cell
    have zXr := Xr.lt
    have kXs := Xs.cell
    have zXs := Xs.lt
    have kXx := Xx.cell
    have zXx := Xx.lt
    have kXy := Xy.cell
    have zXy := Xy.lt
    have hb1 : r ≤ m ∧ s < r ∧ x < m ∧ y < m := ⟨hI.1, hI.2.1, hI.2.2.1, hI.2.2.2.1⟩
    have nr : nw r ≤ 64 := Nat.le_trans (nw_mono hb1.1) hm
    have ns : nw s ≤ 64 := Nat.le_trans (nw_mono (Nat.le_trans (Nat.le_of_lt hb1.2.1) hb1.1)) hm
    have nx : nw x ≤ 64 := Nat.le_trans (nw_mono (Nat.le_of_lt hb1.2.2.1)) hm
    have ny : nw y ≤ 64 := Nat.le_trans (nw_mono (Nat.le_of_lt hb1.2.2.2)) hm
    have HX := hid hb1.2.2.1
    have HYM := hid hb1.2.2.2
    have HI := hid hI
    clear hb1 hI
    by_cases h0 : s = 0
    · subst h0
      have HF := hid HI.out.fin
      have l0 : decide (0 < ((nw 0 : Nat) : Int)) = false := rfl
      have HR : Hid (decide (r = 1) = decide (Nat.gcd a m = 1)) := (show decide (r = 1) = _ by rw [HF.out.1])
      clear HI
      go_wp2_with fail
      have WWd := WW.drew
      have XAd := XA.drew
      have XMd := XM.drew
      have XRd := XR.drew
      have Xrd := Xr.drew
      have Xsd := Xs.drew
      have Xxd := Xx.drew
      have Xyd := Xy.drew
      have OXd := OX.drew
      have OYd := OY.drew
      have hst : (fun w' => w'.cell? ⟨gXx, 0, none⟩ = some (.slice X (nw x) xc) ∧ w'.cell? ⟨gXr, 0, none⟩ = some (.slice R (nw r) rc)) wr.drew := ⟨Xx.cell, Xr.cell⟩
      clear WW kXA zXA kXM zXM kXR zXR kXr zXr kXs zXs kXx zXx kXy zXy XA XM XR Xr Xs Xx Xy OX OY
      have qq0 := Xyd.lt
      refine region_L 4 (fun w' => w'.cell? ⟨gXx, 0, none⟩ = some (.slice X (nw x) xc) ∧ w'.cell? ⟨gXr, 0, none⟩ = some (.slice R (nw r) rc)) (by kernel_rfl) hst (fun hHeld => ?_)
      clear hst
      generalize hV : wr.drew = U100x0 at hHeld WWd qq0 XAd XMd XRd Xrd Xsd Xxd Xyd OXd OYd ⊢
      clear hV
      have WW := WWd
      have XA := XAd
      have XM := XMd
      have XR := XRd
      have Xr := Xrd
      have Xs := Xsd
      have Xx := Xxd
      have Xy := Xyd
      have OX := OXd
      have OY := OYd
      clear WWd XAd XMd XRd Xrd Xsd Xxd Xyd OXd OYd
      refine AnyL_take (i := 0) (oi := oq28_7_0) (v := ?_) rfl (by kernel_rfl) (by kernel_rfl) (by kernel_rfl) (by kernel_rfl) (fun _ _ _ h => h) (Or.inl ⟨by rfl, ?_⟩) (by assumption) ?_
      rotate_left
      · (delta oq28_7_0; intro ws hSw; (try dsimp only at hSw); (try go_simp); (try with_reducible rfl))
      (try simp only [oq28_7_0, Act.put, List.setIfInBounds_toArray, List.set_cons_zero, List.set_cons_succ])
      refine AnyL_take (i := 1) (oi := oq28_7_1) (v := ?_) rfl (by kernel_rfl) (by kernel_rfl) (by kernel_rfl) (by kernel_rfl) (fun _ _ _ h => h) (Or.inl ⟨by rfl, ?_⟩) (by assumption) ?_
      rotate_left
      · (delta oq28_7_1; intro ws hSw; (try dsimp only at hSw); (try go_simp); (try with_reducible rfl))
      (try simp only [oq28_7_1, Act.put, List.setIfInBounds_toArray, List.set_cons_zero, List.set_cons_succ])
      refine AnyL_ready (rs := [2]) (by kernel_rfl) (by simp) ?_
      refine ReadyL.cons (o := oq28_7_2) rfl (fun K hK => ?_) ReadyL.nil
      delta oq28_7_2
      go_simp
      have hbs : w.heap.size ≤ U100x0.heap.size := WW.size
      have hc := of3_1 U100x0
      refine hc.mono ?_
      clear hc
      rintro e V102 ⟨v, rfl, hv, hb⟩
      replace XA := XA.below hb
      replace XM := XM.below hb
      replace XR := XR.below hb
      replace Xr := Xr.below hb
      replace Xs := Xs.below hb
      replace Xx := Xx.below hb
      replace Xy := Xy.below hb
      replace OX := OX.below hb (Nat.le_refl _)
      replace OY := OY.below hb (Nat.le_refl _)
      replace WW := WW.trans (hb.mono WW.size)
      have sz102 := hb.size
      obtain ⟨D7, d7, rfl, ho⟩ := hv
      have O7 := ho.weak (b := w.heap.size) hbs
      clear ho
      clear hb hbs
      refine hK.out _ _ (⟨Xx.cell, Xr.cell⟩) (fun hHeld2 => ?_)
      clear hK K hHeld
      have hHeld := hHeld2
      clear hHeld2
      (try simp only [oq28_7_2, Act.put, List.setIfInBounds_toArray, List.set_cons_zero, List.set_cons_succ])
      refine AnyL_ready (rs := [3]) (by kernel_rfl) (by simp) ?_
      refine ReadyL.cons (o := oq28_7_3) rfl (fun K hK => ?_) ReadyL.nil
      delta oq28_7_3
      go_simp
      have hbs : w.heap.size ≤ V102.heap.size := WW.size
      have hc := rsame31_any R D7 rc d7 r 1 V102 Xr.num O7.num (by omega) (by omega)
      rw [HR.out] at hc
      refine hc.mono ?_
      clear hc
      rintro e V103 ⟨rfl, hb⟩
      replace XA := XA.below hb
      replace XM := XM.below hb
      replace XR := XR.below hb
      replace Xr := Xr.below hb
      replace Xs := Xs.below hb
      replace Xx := Xx.below hb
      replace Xy := Xy.below hb
      replace OX := OX.below hb (Nat.le_refl _)
      replace OY := OY.below hb (Nat.le_refl _)
      replace O7 := O7.below hb (Nat.le_refl _)
      replace WW := WW.trans (hb.mono WW.size)
      have sz103 := hb.size
      clear hb hbs
      refine hK.out _ _ (⟨Xx.cell, Xr.cell⟩) (fun hHeld2 => ?_)
      clear hK K hHeld
      have hHeld := hHeld2
      clear hHeld2
      (try simp only [oq28_7_3, Act.put, List.setIfInBounds_toArray, List.set_cons_zero, List.set_cons_succ])
      refine AnyL_ready (rs := [4]) (by kernel_rfl) (by simp) ?_
      refine ReadyL.late (o := oq28_7_4) rfl (by rfl) (fun K hK => ?_) ReadyL.nil
      delta oq28_7_4
      have fz := XR.1.frozen 0
      have cz := XR.cell
      have lz := XR.lt
      go_simp
      have XAn := XA.far (p := ⟨w.heap.size + 1 + 1, 0, none⟩) XR.1 XR.2.2 (by simp <;> omega) (.slice X (nw x) xc)
      have XMn := XM.far (p := ⟨w.heap.size + 1 + 1, 0, none⟩) XR.1 XR.2.2 (by simp <;> omega) (.slice X (nw x) xc)
      have Xrn := Xr.far (p := ⟨w.heap.size + 1 + 1, 0, none⟩) XR.1 XR.2.2 (by simp <;> omega) (.slice X (nw x) xc)
      have Xsn := Xs.far (p := ⟨w.heap.size + 1 + 1, 0, none⟩) XR.1 XR.2.2 (by simp <;> omega) (.slice X (nw x) xc)
      have Xxn := Xx.far (p := ⟨w.heap.size + 1 + 1, 0, none⟩) XR.1 XR.2.2 (by simp <;> omega) (.slice X (nw x) xc)
      have Xyn := Xy.far (p := ⟨w.heap.size + 1 + 1, 0, none⟩) XR.1 XR.2.2 (by simp <;> omega) (.slice X (nw x) xc)
      have XRn := XR.set_ (A' := X) (n' := (nw x)) (c' := xc) (a' := x) (.inr OX)
      have OXn := OX.box (p := ⟨w.heap.size + 1 + 1, 0, none⟩) XR.1 (by decide) (.slice X (nw x) xc)
      have OYn := OY.box (p := ⟨w.heap.size + 1 + 1, 0, none⟩) XR.1 (by decide) (.slice X (nw x) xc)
      have O7n := O7.box (p := ⟨w.heap.size + 1 + 1, 0, none⟩) XR.1 (by decide) (.slice X (nw x) xc)
      have WWn := WW.setCell (p := ⟨w.heap.size + 1 + 1, 0, none⟩) (by simp <;> omega) (.slice X (nw x) xc)
      refine hK.out _ _ trivial (fun hHeld2 => ?_)
      clear hK K hHeld2 hHeld
      (try simp only [oq28_7_4, Act.put, List.setIfInBounds_toArray, List.set_cons_zero, List.set_cons_succ])
      generalize hV : V103.setCell ⟨w.heap.size + 1 + 1, 0, none⟩ (.slice X (nw x) xc) = V104 at WWn XAn XMn XRn Xrn Xsn Xxn Xyn OXn OYn O7n ⊢
      clear hV fz cz lz WW XA XM XR Xr Xs Xx Xy OX OY O7
      have WW := WWn
      have XA := XAn
      have XM := XMn
      have XR := XRn
      have Xr := Xrn
      have Xs := Xsn
      have Xx := Xxn
      have Xy := Xyn
      have OX := OXn
      have OY := OYn
      have O7 := O7n
      clear WWn XAn XMn XRn Xrn Xsn Xxn Xyn OXn OYn O7n
      refine AnyL_ready (rs := [5]) (by kernel_rfl) (by simp) ?_
      refine ReadyL.late (o := oq28_7_5) rfl (by rfl) (fun K hK => ?_) ReadyL.nil
      delta oq28_7_5
      go_simp
      refine hK.out _ _ (trivial) (fun hHeld2 => ?_)
      clear hK K
      clear hHeld2
      (try simp only [oq28_7_5, Act.put, List.setIfInBounds_toArray, List.set_cons_zero, List.set_cons_succ])
      refine AnyL_done (by kernel_rfl) ?_ _
      have kXA := XA.cell
      have zXA := XA.lt
      have kXM := XM.cell
      have zXM := XM.lt
      have kXR := XR.cell
      have zXR := XR.lt
      have kXr := Xr.cell
      have zXr := Xr.lt
      have kXs := Xs.cell
      have zXs := Xs.lt
      have kXx := Xx.cell
      have zXx := Xx.lt
      have kXy := Xy.cell
      have zXy := Xy.lt
      go_wp2_with fail
      exact bodyPost_ret (v := .tuple #[.agg #[.slice X (nw x) xc], .bool (decide (Nat.gcd a m = 1))]) (by simp [results, Try.results28, go_sem, kXR, zXR]) rfl ⟨X, xc, x, rfl, OX, WW, HF.out.2.1, HF.out.2.2⟩
    · have HI2 := hid (HI.out.step h0)
      obtain ⟨q, hq⟩ : ∃ z, z = r / s := ⟨_, rfl⟩
      have HQ := hid hq
      obtain ⟨q1, hq1⟩ : ∃ z, z = q % m := ⟨_, rfl⟩
      have HQ1 := hid hq1
      obtain ⟨u, hu⟩ : ∃ z, z = q1 * y % m := ⟨_, rfl⟩
      have HU := hid hu
      obtain ⟨z, hz⟩ : ∃ z, z = (x + (m - u)) % m := ⟨_, rfl⟩
      have HZ := hid hz
      obtain ⟨t, ht⟩ : ∃ t, t = r % s := ⟨_, rfl⟩
      have HT := hid ht
      rw [← hq, ← hq1, ← hu, ← hz, ← ht] at HI2
      have HSP : Hid (0 < s) := (show 0 < s by omega)
      have HTS : Hid (t < s) := (show t < s by rw [ht]; exact Nat.mod_lt _ HSP.out)
      have nq : nw q ≤ 64 := by rw [hq]; exact Nat.le_trans (nw_mono (Nat.div_le_self _ _)) nr
      have HQM : Hid (q1 < m) := (show q1 < m by rw [hq1]; exact Nat.mod_lt _ HM0.out)
      have nq1 : nw q1 ≤ 64 := Nat.le_trans (nw_mono (Nat.le_of_lt HQM.out)) hm
      have HUM : Hid (u < m) := (show u < m by rw [hu]; exact Nat.mod_lt _ HM0.out)
      have nu : nw u ≤ 64 := Nat.le_trans (nw_mono (Nat.le_of_lt HUM.out)) hm
      have l2 := nw_pos h0
      have l1 : decide (0 < ((nw s : Nat) : Int)) = true := by simpa using l2
      have HN0 : Hid (numAt wr (gXs) = s) := numAt_eq kXs Xs.num
      clear h0 hq hq1 hu hz ht
      go_wp2_with fail
      have hbs : w.heap.size ≤ wr.heap.size := WW.size
      have hc := rover_any R S rc sc r s wr Xr.num Xs.num (by omega) (by omega) HSP.out
      rw [← HQ.out] at hc
      refine hc.mono ?_
      clear hc
      rintro e V101 ⟨v, rfl, hv, hb⟩
      clear kXA zXA kXM zXM kXR zXR kXr zXr kXs zXs kXx zXx kXy zXy
      replace XA := XA.below hb
      replace XM := XM.below hb
      replace XR := XR.below hb
      replace Xr := Xr.below hb
      replace Xs := Xs.below hb
      replace Xx := Xx.below hb
      replace Xy := Xy.below hb
      replace OX := OX.below hb (Nat.le_refl _)
      replace OY := OY.below hb (Nat.le_refl _)
      replace WW := WW.trans (hb.mono WW.size)
      obtain ⟨D1, d1, rfl, ho⟩ := hv
      have O1 := ho.weak (b := w.heap.size) hbs
      clear ho
      have kXA := XA.cell
      have zXA := XA.lt
      have kXM := XM.cell
      have zXM := XM.lt
      have kXR := XR.cell
      have zXR := XR.lt
      have kXr := Xr.cell
      have zXr := Xr.lt
      have kXs := Xs.cell
      have zXs := Xs.lt
      have kXx := Xx.cell
      have zXx := Xx.lt
      have kXy := Xy.cell
      have zXy := Xy.lt
      clear hb hbs
      go_wp2_with fail
      obtain ⟨b0, bw⟩ := boxes1 V101 (.slice D1 (nw q) d1)
      have hbs := WW.size
      clear kXA zXA kXM zXM kXR zXR kXr zXr kXs zXs kXx zXx kXy zXy
      have qXr102 := Xr.lt
      have qXs102 := Xs.lt
      have qXx102 := Xx.lt
      have qXy102 := Xy.lt
      have qXR102 := XR.lt
      have Xq := VB.mk (B := w.heap.size) (a := q) b0 (.inr O1) bw hbs (by omega)
      replace XA := XA.below bw
      replace XM := XM.below bw
      replace XR := XR.below bw
      replace Xr := Xr.below bw
      replace Xs := Xs.below bw
      replace Xx := Xx.below bw
      replace Xy := Xy.below bw
      replace OX := OX.below bw (Nat.le_refl _)
      replace OY := OY.below bw (Nat.le_refl _)
      replace O1 := O1.below bw (Nat.le_refl _)
      replace WW := WW.trans (bw.mono WW.size)
      clear bw hbs b0
      generalize hV : (V101.alloc (.cells #[.slice D1 (nw q) d1] 24)) = V102 at XA XM XR Xr Xs Xx Xy Xq OX OY O1 WW ⊢
      clear hV
      have kXA := XA.cell
      have zXA := XA.lt
      have kXM := XM.cell
      have zXM := XM.lt
      have kXR := XR.cell
      have zXR := XR.lt
      have kXr := Xr.cell
      have zXr := Xr.lt
      have kXs := Xs.cell
      have zXs := Xs.lt
      have kXx := Xx.cell
      have zXx := Xx.lt
      have kXy := Xy.cell
      have zXy := Xy.lt
      have kXq := Xq.cell
      have zXq := Xq.lt
      have WWd := WW.drew
      have XAd := XA.drew
      have XMd := XM.drew
      have XRd := XR.drew
      have Xrd := Xr.drew
      have Xsd := Xs.drew
      have Xxd := Xx.drew
      have Xyd := Xy.drew
      have Xqd := Xq.drew
      have OXd := OX.drew
      have OYd := OY.drew
      have O1d := O1.drew
      have hst : (fun w' => w'.cell? ⟨gXr, 0, none⟩ = some (.slice R (nw r) rc) ∧ w'.cell? ⟨gXs, 0, none⟩ = some (.slice S (nw s) sc)) V102.drew := ⟨Xr.cell, Xs.cell⟩
      clear WW kXA zXA kXM zXM kXR zXR kXr zXr kXs zXs kXx zXx kXy zXy kXq zXq XA XM XR Xr Xs Xx Xy Xq OX OY O1
      have qq0 := Xqd.lt
      refine region_L 4 (fun w' => w'.cell? ⟨gXr, 0, none⟩ = some (.slice R (nw r) rc) ∧ w'.cell? ⟨gXs, 0, none⟩ = some (.slice S (nw s) sc)) (by kernel_rfl) hst (fun hHeld => ?_)
      clear hst
      generalize hV : V102.drew = U102x0 at hHeld WWd qq0 XAd XMd XRd Xrd Xsd Xxd Xyd Xqd OXd OYd O1d ⊢
      clear hV
      have WW := WWd
      have XA := XAd
      have XM := XMd
      have XR := XRd
      have Xr := Xrd
      have Xs := Xsd
      have Xx := Xxd
      have Xy := Xyd
      have Xq := Xqd
      have OX := OXd
      have OY := OYd
      have O1 := O1d
      clear WWd XAd XMd XRd Xrd Xsd Xxd Xyd Xqd OXd OYd O1d
      refine AnyL_take (i := 0) (oi := oq28_5_0) (v := ?_) rfl (by kernel_rfl) (by kernel_rfl) (by kernel_rfl) (by kernel_rfl) (fun _ _ _ h => h) (Or.inl ⟨by rfl, ?_⟩) (by assumption) ?_
      rotate_left
      · (delta oq28_5_0; intro ws hSw; (try dsimp only at hSw); (try go_simp); (try with_reducible rfl))
      (try simp only [oq28_5_0, Act.put, List.setIfInBounds_toArray, List.set_cons_zero, List.set_cons_succ])
      refine AnyL_take (i := 1) (oi := oq28_5_1) (v := ?_) rfl (by kernel_rfl) (by kernel_rfl) (by kernel_rfl) (by kernel_rfl) (fun _ _ _ h => h) (Or.inl ⟨by rfl, ?_⟩) (by assumption) ?_
      rotate_left
      · (delta oq28_5_1; intro ws hSw; (try dsimp only at hSw); (try go_simp); (try with_reducible rfl))
      (try simp only [oq28_5_1, Act.put, List.setIfInBounds_toArray, List.set_cons_zero, List.set_cons_succ])
      refine AnyL_take (i := 2) (oi := oq28_5_2) (v := ?_) rfl (by kernel_rfl) (by kernel_rfl) (by kernel_rfl) (by kernel_rfl) (fun _ _ _ h => h) (Or.inl ⟨by rfl, ?_⟩) (by assumption) ?_
      rotate_left
      · (delta oq28_5_2; intro ws hSw; (try dsimp only at hSw); (try go_simp); (try with_reducible rfl))
      (try simp only [oq28_5_2, Act.put, List.setIfInBounds_toArray, List.set_cons_zero, List.set_cons_succ])
      refine AnyL_ready (rs := [3]) (by kernel_rfl) (by simp) ?_
      refine ReadyL.cons (o := oq28_5_3) rfl (fun K hK => ?_) ReadyL.nil
      delta oq28_5_3
      go_simp
      have hbs : w.heap.size ≤ U102x0.heap.size := WW.size
      have hc := rmod3_any R S rc sc r s U102x0 Xr.num Xs.num (by omega) (by omega) HSP.out
      rw [← HT.out] at hc
      refine hc.mono ?_
      clear hc
      rintro e V104 ⟨v, rfl, hv, hb⟩
      replace XA := XA.below hb
      replace XM := XM.below hb
      replace XR := XR.below hb
      replace Xr := Xr.below hb
      replace Xs := Xs.below hb
      replace Xx := Xx.below hb
      replace Xy := Xy.below hb
      replace Xq := Xq.below hb
      replace OX := OX.below hb (Nat.le_refl _)
      replace OY := OY.below hb (Nat.le_refl _)
      replace O1 := O1.below hb (Nat.le_refl _)
      replace WW := WW.trans (hb.mono WW.size)
      have sz104 := hb.size
      obtain ⟨D2, d2, rfl, ho⟩ := hv
      have O2 := ho.weak (b := w.heap.size) hbs
      clear ho
      clear hb hbs
      refine hK.out _ _ (⟨Xr.cell, Xs.cell⟩) (fun hHeld2 => ?_)
      clear hK K hHeld
      have hHeld := hHeld2
      clear hHeld2
      (try simp only [oq28_5_3, Act.put, List.setIfInBounds_toArray, List.set_cons_zero, List.set_cons_succ])
      refine AnyL_ready (rs := [4]) (by kernel_rfl) (by simp) ?_
      refine ReadyL.late (o := oq28_5_4) rfl (by rfl) (fun K hK => ?_) ReadyL.nil
      delta oq28_5_4
      have fz := Xr.1.frozen 0
      have cz := Xr.cell
      have lz := Xr.lt
      go_simp
      have XAn := XA.far (p := ⟨gXr, 0, none⟩) Xr.1 Xr.2.2 (by simp <;> omega) (.slice S (nw s) sc)
      have XMn := XM.far (p := ⟨gXr, 0, none⟩) Xr.1 Xr.2.2 (by simp <;> omega) (.slice S (nw s) sc)
      have XRn := XR.far (p := ⟨gXr, 0, none⟩) Xr.1 Xr.2.2 (by simp <;> omega) (.slice S (nw s) sc)
      have Xsn := Xs.far (p := ⟨gXr, 0, none⟩) Xr.1 Xr.2.2 (by simp <;> omega) (.slice S (nw s) sc)
      have Xxn := Xx.far (p := ⟨gXr, 0, none⟩) Xr.1 Xr.2.2 (by simp <;> omega) (.slice S (nw s) sc)
      have Xyn := Xy.far (p := ⟨gXr, 0, none⟩) Xr.1 Xr.2.2 (by simp <;> omega) (.slice S (nw s) sc)
      have Xqn := Xq.far (p := ⟨gXr, 0, none⟩) Xr.1 Xr.2.2 (by simp <;> omega) (.slice S (nw s) sc)
      have Xrn := Xr.set_ (A' := S) (n' := (nw s)) (c' := sc) (a' := s) (Xs.2.1)
      have OXn := OX.box (p := ⟨gXr, 0, none⟩) Xr.1 (by decide) (.slice S (nw s) sc)
      have OYn := OY.box (p := ⟨gXr, 0, none⟩) Xr.1 (by decide) (.slice S (nw s) sc)
      have O1n := O1.box (p := ⟨gXr, 0, none⟩) Xr.1 (by decide) (.slice S (nw s) sc)
      have O2n := O2.box (p := ⟨gXr, 0, none⟩) Xr.1 (by decide) (.slice S (nw s) sc)
      have WWn := WW.setCell (p := ⟨gXr, 0, none⟩) (by simp <;> omega) (.slice S (nw s) sc)
      refine hK.out _ _ trivial (fun hHeld2 => ?_)
      clear hK K hHeld2 hHeld
      (try simp only [oq28_5_4, Act.put, List.setIfInBounds_toArray, List.set_cons_zero, List.set_cons_succ])
      generalize hV : V104.setCell ⟨gXr, 0, none⟩ (.slice S (nw s) sc) = V105 at WWn XAn XMn XRn Xrn Xsn Xxn Xyn Xqn OXn OYn O1n O2n ⊢
      clear hV fz cz lz WW XA XM XR Xr Xs Xx Xy Xq OX OY O1 O2
      have WW := WWn
      have XA := XAn
      have XM := XMn
      have XR := XRn
      have Xr := Xrn
      have Xs := Xsn
      have Xx := Xxn
      have Xy := Xyn
      have Xq := Xqn
      have OX := OXn
      have OY := OYn
      have O1 := O1n
      have O2 := O2n
      clear WWn XAn XMn XRn Xrn Xsn Xxn Xyn Xqn OXn OYn O1n O2n
      refine AnyL_ready (rs := [5]) (by kernel_rfl) (by simp) ?_
      refine ReadyL.late (o := oq28_5_5) rfl (by rfl) (fun K hK => ?_) ReadyL.nil
      delta oq28_5_5
      have fz := Xs.1.frozen 0
      have cz := Xs.cell
      have lz := Xs.lt
      go_simp
      have XAn := XA.far (p := ⟨gXs, 0, none⟩) Xs.1 Xs.2.2 (by simp <;> omega) (.slice D2 (nw t) d2)
      have XMn := XM.far (p := ⟨gXs, 0, none⟩) Xs.1 Xs.2.2 (by simp <;> omega) (.slice D2 (nw t) d2)
      have XRn := XR.far (p := ⟨gXs, 0, none⟩) Xs.1 Xs.2.2 (by simp <;> omega) (.slice D2 (nw t) d2)
      have Xrn := Xr.far (p := ⟨gXs, 0, none⟩) Xs.1 Xs.2.2 (by simp <;> omega) (.slice D2 (nw t) d2)
      have Xxn := Xx.far (p := ⟨gXs, 0, none⟩) Xs.1 Xs.2.2 (by simp <;> omega) (.slice D2 (nw t) d2)
      have Xyn := Xy.far (p := ⟨gXs, 0, none⟩) Xs.1 Xs.2.2 (by simp <;> omega) (.slice D2 (nw t) d2)
      have Xqn := Xq.far (p := ⟨gXs, 0, none⟩) Xs.1 Xs.2.2 (by simp <;> omega) (.slice D2 (nw t) d2)
      have Xsn := Xs.set_ (A' := D2) (n' := (nw t)) (c' := d2) (a' := t) (.inr O2)
      have OXn := OX.box (p := ⟨gXs, 0, none⟩) Xs.1 (by decide) (.slice D2 (nw t) d2)
      have OYn := OY.box (p := ⟨gXs, 0, none⟩) Xs.1 (by decide) (.slice D2 (nw t) d2)
      have O1n := O1.box (p := ⟨gXs, 0, none⟩) Xs.1 (by decide) (.slice D2 (nw t) d2)
      have O2n := O2.box (p := ⟨gXs, 0, none⟩) Xs.1 (by decide) (.slice D2 (nw t) d2)
      have WWn := WW.setCell (p := ⟨gXs, 0, none⟩) (by simp <;> omega) (.slice D2 (nw t) d2)
      refine hK.out _ _ trivial (fun hHeld2 => ?_)
      clear hK K hHeld2
      (try simp only [oq28_5_5, Act.put, List.setIfInBounds_toArray, List.set_cons_zero, List.set_cons_succ])
      generalize hV : V105.setCell ⟨gXs, 0, none⟩ (.slice D2 (nw t) d2) = V106 at WWn XAn XMn XRn Xrn Xsn Xxn Xyn Xqn OXn OYn O1n O2n ⊢
      clear hV fz cz lz WW XA XM XR Xr Xs Xx Xy Xq OX OY O1 O2
      have WW := WWn
      have XA := XAn
      have XM := XMn
      have XR := XRn
      have Xr := Xrn
      have Xs := Xsn
      have Xx := Xxn
      have Xy := Xyn
      have Xq := Xqn
      have OX := OXn
      have OY := OYn
      have O1 := O1n
      have O2 := O2n
      clear WWn XAn XMn XRn Xrn Xsn Xxn Xyn Xqn OXn OYn O1n O2n
      refine AnyL_done (by kernel_rfl) ?_ _
      have kXA := XA.cell
      have zXA := XA.lt
      have kXM := XM.cell
      have zXM := XM.lt
      have kXR := XR.cell
      have zXR := XR.lt
      have kXr := Xr.cell
      have zXr := Xr.lt
      have kXs := Xs.cell
      have zXs := Xs.lt
      have kXx := Xx.cell
      have zXx := Xx.lt
      have kXy := Xy.cell
      have zXy := Xy.lt
      have kXq := Xq.cell
      have zXq := Xq.lt
      go_wp2_with fail
      have WWd := WW.drew
      have XAd := XA.drew
      have XMd := XM.drew
      have XRd := XR.drew
      have Xrd := Xr.drew
      have Xsd := Xs.drew
      have Xxd := Xx.drew
      have Xyd := Xy.drew
      have Xqd := Xq.drew
      have OXd := OX.drew
      have OYd := OY.drew
      have O1d := O1.drew
      have O2d := O2.drew
      have hst : (fun w' => w'.cell? ⟨gXy, 0, none⟩ = some (.slice Y (nw y) yc) ∧ w'.cell? ⟨gXx, 0, none⟩ = some (.slice X (nw x) xc) ∧ w'.cell? ⟨V101.heap.size, 0, none⟩ = some (.slice D1 (nw q) d1) ∧ w'.cell? ⟨w.heap.size + 1, 0, none⟩ = some (.slice B' (nw m) p)) V106.drew := ⟨Xy.cell, Xx.cell, Xq.cell, XM.cell⟩
      clear WW kXA zXA kXM zXM kXR zXR kXr zXr kXs zXs kXx zXx kXy zXy kXq zXq XA XM XR Xr Xs Xx Xy Xq OX OY O1 O2
      have qq0 := Xqd.lt
      refine region_L 10 (fun w' => w'.cell? ⟨gXy, 0, none⟩ = some (.slice Y (nw y) yc) ∧ w'.cell? ⟨gXx, 0, none⟩ = some (.slice X (nw x) xc) ∧ w'.cell? ⟨V101.heap.size, 0, none⟩ = some (.slice D1 (nw q) d1) ∧ w'.cell? ⟨w.heap.size + 1, 0, none⟩ = some (.slice B' (nw m) p)) (by kernel_rfl) hst (fun hHeld => ?_)
      clear hst
      generalize hV : V106.drew = U106x0 at hHeld WWd qq0 XAd XMd XRd Xrd Xsd Xxd Xyd Xqd OXd OYd O1d O2d ⊢
      clear hV
      have WW := WWd
      have XA := XAd
      have XM := XMd
      have XR := XRd
      have Xr := Xrd
      have Xs := Xsd
      have Xx := Xxd
      have Xy := Xyd
      have Xq := Xqd
      have OX := OXd
      have OY := OYd
      have O1 := O1d
      have O2 := O2d
      clear WWd XAd XMd XRd Xrd Xsd Xxd Xyd Xqd OXd OYd O1d O2d
      refine AnyL_take (i := 0) (oi := oq28_6_0) (v := ?_) rfl (by kernel_rfl) (by kernel_rfl) (by kernel_rfl) (by kernel_rfl) (fun _ _ _ h => h) (Or.inl ⟨by rfl, ?_⟩) (by assumption) ?_
      rotate_left
      · (delta oq28_6_0; intro ws hSw; (try dsimp only at hSw); (try go_simp); (try with_reducible rfl))
      (try simp only [oq28_6_0, Act.put, List.setIfInBounds_toArray, List.set_cons_zero, List.set_cons_succ])
      refine AnyL_take (i := 1) (oi := oq28_6_1) (v := ?_) rfl (by kernel_rfl) (by kernel_rfl) (by kernel_rfl) (by kernel_rfl) (fun _ _ _ h => h) (Or.inl ⟨by rfl, ?_⟩) (by assumption) ?_
      rotate_left
      · (delta oq28_6_1; intro ws hSw; (try dsimp only at hSw); (try go_simp); (try with_reducible rfl))
      (try simp only [oq28_6_1, Act.put, List.setIfInBounds_toArray, List.set_cons_zero, List.set_cons_succ])
      refine AnyL_take (i := 2) (oi := oq28_6_2) (v := ?_) rfl (by kernel_rfl) (by kernel_rfl) (by kernel_rfl) (by kernel_rfl) (fun _ _ _ h => h) (Or.inl ⟨by rfl, ?_⟩) (by assumption) ?_
      rotate_left
      · (delta oq28_6_2; intro ws hSw; (try dsimp only at hSw); (try go_simp); (try with_reducible rfl))
      (try simp only [oq28_6_2, Act.put, List.setIfInBounds_toArray, List.set_cons_zero, List.set_cons_succ])
      refine AnyL_take (i := 3) (oi := oq28_6_3) (v := ?_) rfl (by kernel_rfl) (by kernel_rfl) (by kernel_rfl) (by kernel_rfl) (fun _ _ _ h => h) (Or.inl ⟨by rfl, ?_⟩) (by assumption) ?_
      rotate_left
      · (delta oq28_6_3; intro ws hSw; (try dsimp only at hSw); (try go_simp); (try with_reducible rfl))
      (try simp only [oq28_6_3, Act.put, List.setIfInBounds_toArray, List.set_cons_zero, List.set_cons_succ])
      refine AnyL_take (i := 5) (oi := oq28_6_5) (v := ?_) rfl (by kernel_rfl) (by kernel_rfl) (by kernel_rfl) (by kernel_rfl) (fun _ _ _ h => h) (Or.inl ⟨by rfl, ?_⟩) (by assumption) ?_
      rotate_left
      · (delta oq28_6_5; intro ws hSw; (try dsimp only at hSw); (try go_simp); (try with_reducible rfl))
      (try simp only [oq28_6_5, Act.put, List.setIfInBounds_toArray, List.set_cons_zero, List.set_cons_succ])
      refine AnyL_take (i := 6) (oi := oq28_6_6) (v := ?_) rfl (by kernel_rfl) (by kernel_rfl) (by kernel_rfl) (by kernel_rfl) (fun _ _ _ h => h) (Or.inl ⟨by rfl, ?_⟩) (by assumption) ?_
      rotate_left
      · (delta oq28_6_6; intro ws hSw; (try dsimp only at hSw); (try go_simp); (try with_reducible rfl))
      (try simp only [oq28_6_6, Act.put, List.setIfInBounds_toArray, List.set_cons_zero, List.set_cons_succ])
      refine AnyL_take (i := 8) (oi := oq28_6_8) (v := ?_) rfl (by kernel_rfl) (by kernel_rfl) (by kernel_rfl) (by kernel_rfl) (fun _ _ _ h => h) (Or.inl ⟨by rfl, ?_⟩) (by assumption) ?_
      rotate_left
      · (delta oq28_6_8; intro ws hSw; (try dsimp only at hSw); (try go_simp); (try with_reducible rfl))
      (try simp only [oq28_6_8, Act.put, List.setIfInBounds_toArray, List.set_cons_zero, List.set_cons_succ])
      refine AnyL_ready (rs := [4]) (by kernel_rfl) (by simp) ?_
      refine ReadyL.cons (o := oq28_6_4) rfl (fun K hK => ?_) ReadyL.nil
      delta oq28_6_4
      go_simp
      have hbs : w.heap.size ≤ U106x0.heap.size := WW.size
      have hc := rmod3_any D1 B' d1 p q m U106x0 Xq.num XM.num (by omega) (by omega) HM0.out
      rw [← HQ1.out] at hc
      refine hc.mono ?_
      clear hc
      rintro e V108 ⟨v, rfl, hv, hb⟩
      replace XA := XA.below hb
      replace XM := XM.below hb
      replace XR := XR.below hb
      replace Xr := Xr.below hb
      replace Xs := Xs.below hb
      replace Xx := Xx.below hb
      replace Xy := Xy.below hb
      replace Xq := Xq.below hb
      replace OX := OX.below hb (Nat.le_refl _)
      replace OY := OY.below hb (Nat.le_refl _)
      replace O1 := O1.below hb (Nat.le_refl _)
      replace O2 := O2.below hb (Nat.le_refl _)
      replace WW := WW.trans (hb.mono WW.size)
      have sz108 := hb.size
      obtain ⟨D3, d3, rfl, ho⟩ := hv
      have O3 := ho.weak (b := w.heap.size) hbs
      clear ho
      clear hb hbs
      refine hK.out _ _ (⟨Xy.cell, Xx.cell, Xq.cell, XM.cell⟩) (fun hHeld2 => ?_)
      clear hK K hHeld
      have hHeld := hHeld2
      clear hHeld2
      (try simp only [oq28_6_4, Act.put, List.setIfInBounds_toArray, List.set_cons_zero, List.set_cons_succ])
      refine AnyL_ready (rs := [7]) (by kernel_rfl) (by simp) ?_
      refine ReadyL.cons (o := oq28_6_7) rfl (fun K hK => ?_) ReadyL.nil
      delta oq28_6_7
      go_simp
      have hbs : w.heap.size ≤ V108.heap.size := WW.size
      have hc := rmul3_any D3 Y B' d3 yc p q1 y m V108 O3.num Xy.num XM.num (by omega) (by omega) (by omega) HQM.out
      rw [← HU.out] at hc
      refine hc.mono ?_
      clear hc
      rintro e V109 ⟨v, rfl, hv, hb⟩
      replace XA := XA.below hb
      replace XM := XM.below hb
      replace XR := XR.below hb
      replace Xr := Xr.below hb
      replace Xs := Xs.below hb
      replace Xx := Xx.below hb
      replace Xy := Xy.below hb
      replace Xq := Xq.below hb
      replace OX := OX.below hb (Nat.le_refl _)
      replace OY := OY.below hb (Nat.le_refl _)
      replace O1 := O1.below hb (Nat.le_refl _)
      replace O2 := O2.below hb (Nat.le_refl _)
      replace O3 := O3.below hb (Nat.le_refl _)
      replace WW := WW.trans (hb.mono WW.size)
      have sz109 := hb.size
      obtain ⟨D4, d4, rfl, ho⟩ := hv
      have O4 := ho.weak (b := w.heap.size) hbs
      clear ho
      clear hb hbs
      refine hK.out _ _ (⟨Xy.cell, Xx.cell, Xq.cell, XM.cell⟩) (fun hHeld2 => ?_)
      clear hK K hHeld
      have hHeld := hHeld2
      clear hHeld2
      (try simp only [oq28_6_7, Act.put, List.setIfInBounds_toArray, List.set_cons_zero, List.set_cons_succ])
      refine AnyL_ready (rs := [9]) (by kernel_rfl) (by simp) ?_
      refine ReadyL.cons (o := oq28_6_9) rfl (fun K hK => ?_) ReadyL.nil
      delta oq28_6_9
      go_simp
      have hbs : w.heap.size ≤ V109.heap.size := WW.size
      have hc := rsub3_any X D4 B' xc d4 p x u m V109 Xx.num O4.num XM.num (by omega) (by omega) (by omega) HX.out HUM.out
      rw [← HZ.out] at hc
      refine hc.mono ?_
      clear hc
      rintro e V110 ⟨v, rfl, hv, hb⟩
      replace XA := XA.below hb
      replace XM := XM.below hb
      replace XR := XR.below hb
      replace Xr := Xr.below hb
      replace Xs := Xs.below hb
      replace Xx := Xx.below hb
      replace Xy := Xy.below hb
      replace Xq := Xq.below hb
      replace OX := OX.below hb (Nat.le_refl _)
      replace OY := OY.below hb (Nat.le_refl _)
      replace O1 := O1.below hb (Nat.le_refl _)
      replace O2 := O2.below hb (Nat.le_refl _)
      replace O3 := O3.below hb (Nat.le_refl _)
      replace O4 := O4.below hb (Nat.le_refl _)
      replace WW := WW.trans (hb.mono WW.size)
      have sz110 := hb.size
      obtain ⟨D5, d5, rfl, ho⟩ := hv
      have O5 := ho.weak (b := w.heap.size) hbs
      clear ho
      clear hb hbs
      refine hK.out _ _ (⟨Xy.cell, Xx.cell, Xq.cell, XM.cell⟩) (fun hHeld2 => ?_)
      clear hK K hHeld
      have hHeld := hHeld2
      clear hHeld2
      (try simp only [oq28_6_9, Act.put, List.setIfInBounds_toArray, List.set_cons_zero, List.set_cons_succ])
      refine AnyL_ready (rs := [10]) (by kernel_rfl) (by simp) ?_
      refine ReadyL.late (o := oq28_6_10) rfl (by rfl) (fun K hK => ?_) ReadyL.nil
      delta oq28_6_10
      have fz := Xx.1.frozen 0
      have cz := Xx.cell
      have lz := Xx.lt
      go_simp
      have XAn := XA.far (p := ⟨gXx, 0, none⟩) Xx.1 Xx.2.2 (by simp <;> omega) (.slice Y (nw y) yc)
      have XMn := XM.far (p := ⟨gXx, 0, none⟩) Xx.1 Xx.2.2 (by simp <;> omega) (.slice Y (nw y) yc)
      have XRn := XR.far (p := ⟨gXx, 0, none⟩) Xx.1 Xx.2.2 (by simp <;> omega) (.slice Y (nw y) yc)
      have Xrn := Xr.far (p := ⟨gXx, 0, none⟩) Xx.1 Xx.2.2 (by simp <;> omega) (.slice Y (nw y) yc)
      have Xsn := Xs.far (p := ⟨gXx, 0, none⟩) Xx.1 Xx.2.2 (by simp <;> omega) (.slice Y (nw y) yc)
      have Xyn := Xy.far (p := ⟨gXx, 0, none⟩) Xx.1 Xx.2.2 (by simp <;> omega) (.slice Y (nw y) yc)
      have Xqn := Xq.far (p := ⟨gXx, 0, none⟩) Xx.1 Xx.2.2 (by simp <;> omega) (.slice Y (nw y) yc)
      have Xxn := Xx.set_ (A' := Y) (n' := (nw y)) (c' := yc) (a' := y) (.inr OY)
      have OXn := OX.box (p := ⟨gXx, 0, none⟩) Xx.1 (by decide) (.slice Y (nw y) yc)
      have OYn := OY.box (p := ⟨gXx, 0, none⟩) Xx.1 (by decide) (.slice Y (nw y) yc)
      have O1n := O1.box (p := ⟨gXx, 0, none⟩) Xx.1 (by decide) (.slice Y (nw y) yc)
      have O2n := O2.box (p := ⟨gXx, 0, none⟩) Xx.1 (by decide) (.slice Y (nw y) yc)
      have O3n := O3.box (p := ⟨gXx, 0, none⟩) Xx.1 (by decide) (.slice Y (nw y) yc)
      have O4n := O4.box (p := ⟨gXx, 0, none⟩) Xx.1 (by decide) (.slice Y (nw y) yc)
      have O5n := O5.box (p := ⟨gXx, 0, none⟩) Xx.1 (by decide) (.slice Y (nw y) yc)
      have WWn := WW.setCell (p := ⟨gXx, 0, none⟩) (by simp <;> omega) (.slice Y (nw y) yc)
      refine hK.out _ _ trivial (fun hHeld2 => ?_)
      clear hK K hHeld2 hHeld
      (try simp only [oq28_6_10, Act.put, List.setIfInBounds_toArray, List.set_cons_zero, List.set_cons_succ])
      generalize hV : V110.setCell ⟨gXx, 0, none⟩ (.slice Y (nw y) yc) = V111 at WWn XAn XMn XRn Xrn Xsn Xxn Xyn Xqn OXn OYn O1n O2n O3n O4n O5n ⊢
      clear hV fz cz lz WW XA XM XR Xr Xs Xx Xy Xq OX OY O1 O2 O3 O4 O5
      have WW := WWn
      have XA := XAn
      have XM := XMn
      have XR := XRn
      have Xr := Xrn
      have Xs := Xsn
      have Xx := Xxn
      have Xy := Xyn
      have Xq := Xqn
      have OX := OXn
      have OY := OYn
      have O1 := O1n
      have O2 := O2n
      have O3 := O3n
      have O4 := O4n
      have O5 := O5n
      clear WWn XAn XMn XRn Xrn Xsn Xxn Xyn Xqn OXn OYn O1n O2n O3n O4n O5n
      refine AnyL_ready (rs := [11]) (by kernel_rfl) (by simp) ?_
      refine ReadyL.late (o := oq28_6_11) rfl (by rfl) (fun K hK => ?_) ReadyL.nil
      delta oq28_6_11
      have fz := Xy.1.frozen 0
      have cz := Xy.cell
      have lz := Xy.lt
      go_simp
      have XAn := XA.far (p := ⟨gXy, 0, none⟩) Xy.1 Xy.2.2 (by simp <;> omega) (.slice D5 (nw z) d5)
      have XMn := XM.far (p := ⟨gXy, 0, none⟩) Xy.1 Xy.2.2 (by simp <;> omega) (.slice D5 (nw z) d5)
      have XRn := XR.far (p := ⟨gXy, 0, none⟩) Xy.1 Xy.2.2 (by simp <;> omega) (.slice D5 (nw z) d5)
      have Xrn := Xr.far (p := ⟨gXy, 0, none⟩) Xy.1 Xy.2.2 (by simp <;> omega) (.slice D5 (nw z) d5)
      have Xsn := Xs.far (p := ⟨gXy, 0, none⟩) Xy.1 Xy.2.2 (by simp <;> omega) (.slice D5 (nw z) d5)
      have Xxn := Xx.far (p := ⟨gXy, 0, none⟩) Xy.1 Xy.2.2 (by simp <;> omega) (.slice D5 (nw z) d5)
      have Xqn := Xq.far (p := ⟨gXy, 0, none⟩) Xy.1 Xy.2.2 (by simp <;> omega) (.slice D5 (nw z) d5)
      have Xyn := Xy.set_ (A' := D5) (n' := (nw z)) (c' := d5) (a' := z) (.inr O5)
      have OXn := OX.box (p := ⟨gXy, 0, none⟩) Xy.1 (by decide) (.slice D5 (nw z) d5)
      have OYn := OY.box (p := ⟨gXy, 0, none⟩) Xy.1 (by decide) (.slice D5 (nw z) d5)
      have O1n := O1.box (p := ⟨gXy, 0, none⟩) Xy.1 (by decide) (.slice D5 (nw z) d5)
      have O2n := O2.box (p := ⟨gXy, 0, none⟩) Xy.1 (by decide) (.slice D5 (nw z) d5)
      have O3n := O3.box (p := ⟨gXy, 0, none⟩) Xy.1 (by decide) (.slice D5 (nw z) d5)
      have O4n := O4.box (p := ⟨gXy, 0, none⟩) Xy.1 (by decide) (.slice D5 (nw z) d5)
      have O5n := O5.box (p := ⟨gXy, 0, none⟩) Xy.1 (by decide) (.slice D5 (nw z) d5)
      have WWn := WW.setCell (p := ⟨gXy, 0, none⟩) (by simp <;> omega) (.slice D5 (nw z) d5)
      refine hK.out _ _ trivial (fun hHeld2 => ?_)
      clear hK K hHeld2
      (try simp only [oq28_6_11, Act.put, List.setIfInBounds_toArray, List.set_cons_zero, List.set_cons_succ])
      generalize hV : V111.setCell ⟨gXy, 0, none⟩ (.slice D5 (nw z) d5) = V112 at WWn XAn XMn XRn Xrn Xsn Xxn Xyn Xqn OXn OYn O1n O2n O3n O4n O5n ⊢
      clear hV fz cz lz WW XA XM XR Xr Xs Xx Xy Xq OX OY O1 O2 O3 O4 O5
      have WW := WWn
      have XA := XAn
      have XM := XMn
      have XR := XRn
      have Xr := Xrn
      have Xs := Xsn
      have Xx := Xxn
      have Xy := Xyn
      have Xq := Xqn
      have OX := OXn
      have OY := OYn
      have O1 := O1n
      have O2 := O2n
      have O3 := O3n
      have O4 := O4n
      have O5 := O5n
      clear WWn XAn XMn XRn Xrn Xsn Xxn Xyn Xqn OXn OYn O1n O2n O3n O4n O5n
      refine AnyL_done (by kernel_rfl) ?_ _
      have kXA := XA.cell
      have zXA := XA.lt
      have kXM := XM.cell
      have zXM := XM.lt
      have kXR := XR.cell
      have zXR := XR.lt
      have kXr := Xr.cell
      have zXr := Xr.lt
      have kXs := Xs.cell
      have zXs := Xs.lt
      have kXx := Xx.cell
      have zXx := Xx.lt
      have kXy := Xy.cell
      have zXy := Xy.lt
      have kXq := Xq.cell
      have zXq := Xq.lt
      have HN1 : Hid (numAt V112 (gXs) = t) := numAt_eq kXs Xs.num
      go_wp2_with fail
      go_roundw
      case rel => exact ⟨s, t, y, z, S, D2, Y, D5, sc, d2, yc, d5, HI2.out, WW, XA, XM, XR, Xr, Xs, Xx, Xy, OY, O5⟩
      case measure => rw [HN1.out, HN0.out]; exact HTS.out

end Go.Proofs.Ytckajjapockonaa
