/- the reference of layer 3: Over. -/
import Derived.Test.YtckajjapockonaaRf8
set_option linter.unusedVariables false
set_option linter.unusedSimpArgs false
namespace Go.Proofs.Ytckajjapockonaa
open Go.RowKit

def oq68_5_0 : Oper := { dst := some 15, op := Op.load 24 (Operand.tmp 6), type := 24, pos := "ref.go:172", after := #[], guard := none }
def oq68_5_1 : Oper := { dst := some 16, op := Op.load 24 (Operand.tmp 6), type := 24, pos := "ref.go:172", after := #[], guard := none }
def oq68_5_2 : Oper := { dst := some 17, op := Op.call { callee := Callee.value (Operand.func 37), args := #[Operand.tmp 15, Operand.tmp 16], argTypes := #[24, 24] }, type := 24, pos := "ref.go:172", after := #[{ on := 0, ground := Ground.data }, { on := 1, ground := Ground.data }], guard := none }
def oq68_5_3 : Oper := { dst := some 18, op := Op.load 24 (Operand.tmp 5), type := 24, pos := "ref.go:172", after := #[], guard := none }
def oq68_5_4 : Oper := { dst := some 19, op := Op.load 24 (Operand.tmp 5), type := 24, pos := "ref.go:172", after := #[], guard := none }
def oq68_5_5 : Oper := { dst := some 20, op := Op.call { callee := Callee.value (Operand.func 37), args := #[Operand.tmp 18, Operand.tmp 19], argTypes := #[24, 24] }, type := 24, pos := "ref.go:172", after := #[{ on := 3, ground := Ground.data }, { on := 4, ground := Ground.data }, { on := 2, ground := Ground.chain }], guard := none }
def oq68_5_6 : Oper := { dst := none, op := Op.store 24 (Operand.tmp 6) (Operand.tmp 17), type := 0, pos := "ref.go:172", after := #[{ on := 2, ground := Ground.data }, { on := 5, ground := Ground.chain }, { on := 0, ground := Ground.phase }, { on := 1, ground := Ground.phase }, { on := 2, ground := Ground.phase }, { on := 3, ground := Ground.textOnly Departure.lateStores }, { on := 4, ground := Ground.textOnly Departure.lateStores }, { on := 5, ground := Ground.textOnly Departure.lateStoresUnsure }], guard := none }
def oq68_5_7 : Oper := { dst := none, op := Op.store 24 (Operand.tmp 5) (Operand.tmp 20), type := 0, pos := "ref.go:172", after := #[{ on := 5, ground := Ground.data }, { on := 6, ground := Ground.chain }, { on := 0, ground := Ground.phase }, { on := 1, ground := Ground.phase }, { on := 2, ground := Ground.phase }, { on := 3, ground := Ground.phase }, { on := 4, ground := Ground.phase }, { on := 5, ground := Ground.phase }, { on := 6, ground := Ground.phase }], guard := none }
def oq68_7_0 : Oper := { dst := some 24, op := Op.load 24 (Operand.tmp 6), type := 24, pos := "ref.go:174", after := #[], guard := none }
def oq68_7_1 : Oper := { dst := some 25, op := Op.call { callee := Callee.value (Operand.func 32), args := #[Operand.const (Value.int IntKind.u64 1)], argTypes := #[42] }, type := 24, pos := "ref.go:174", after := #[], guard := none }
def oq68_7_2 : Oper := { dst := some 26, op := Op.call { callee := Callee.value (Operand.func 37), args := #[Operand.tmp 24, Operand.tmp 25], argTypes := #[24, 24] }, type := 24, pos := "ref.go:174", after := #[{ on := 0, ground := Ground.data }, { on := 1, ground := Ground.data }, { on := 1, ground := Ground.chain }], guard := none }
def oq68_7_3 : Oper := { dst := none, op := Op.store 24 (Operand.tmp 6) (Operand.tmp 26), type := 0, pos := "ref.go:174", after := #[{ on := 2, ground := Ground.data }, { on := 2, ground := Ground.chain }, { on := 0, ground := Ground.phase }, { on := 1, ground := Ground.phase }, { on := 2, ground := Ground.phase }], guard := none }
def oq68_9_0 : Oper := { dst := some 31, op := Op.load 24 (Operand.tmp 6), type := 24, pos := "ref.go:177", after := #[], guard := none }
def oq68_9_1 : Oper := { dst := some 32, op := Op.load 24 (Operand.tmp 3), type := 24, pos := "ref.go:177", after := #[], guard := none }
def oq68_9_2 : Oper := { dst := some 33, op := Op.call { callee := Callee.value (Operand.func 55), args := #[Operand.tmp 31, Operand.tmp 32], argTypes := #[24, 24] }, type := 24, pos := "ref.go:177", after := #[{ on := 0, ground := Ground.data }, { on := 1, ground := Ground.data }], guard := none }
def oq68_9_3 : Oper := { dst := some 34, op := Op.load 24 (Operand.tmp 5), type := 24, pos := "ref.go:177", after := #[], guard := none }
def oq68_9_4 : Oper := { dst := some 35, op := Op.call { callee := Callee.value (Operand.func 32), args := #[Operand.const (Value.int IntKind.u64 1)], argTypes := #[42] }, type := 24, pos := "ref.go:177", after := #[{ on := 2, ground := Ground.chain }], guard := none }
def oq68_9_5 : Oper := { dst := some 36, op := Op.call { callee := Callee.value (Operand.func 37), args := #[Operand.tmp 34, Operand.tmp 35], argTypes := #[24, 24] }, type := 24, pos := "ref.go:177", after := #[{ on := 3, ground := Ground.data }, { on := 4, ground := Ground.data }, { on := 4, ground := Ground.chain }], guard := none }
def oq68_9_6 : Oper := { dst := none, op := Op.store 24 (Operand.tmp 6) (Operand.tmp 33), type := 0, pos := "ref.go:177", after := #[{ on := 2, ground := Ground.data }, { on := 5, ground := Ground.chain }, { on := 0, ground := Ground.phase }, { on := 1, ground := Ground.phase }, { on := 2, ground := Ground.phase }, { on := 3, ground := Ground.textOnly Departure.lateStores }, { on := 4, ground := Ground.textOnly Departure.lateStoresUnsure }, { on := 5, ground := Ground.textOnly Departure.lateStoresUnsure }], guard := none }
def oq68_9_7 : Oper := { dst := none, op := Op.store 24 (Operand.tmp 5) (Operand.tmp 36), type := 0, pos := "ref.go:177", after := #[{ on := 5, ground := Ground.data }, { on := 6, ground := Ground.chain }, { on := 0, ground := Ground.phase }, { on := 1, ground := Ground.phase }, { on := 2, ground := Ground.phase }, { on := 3, ground := Ground.phase }, { on := 4, ground := Ground.phase }, { on := 5, ground := Ground.phase }, { on := 6, ground := Ground.phase }], guard := none }
theorem over_split (B m t : Nat) : 2 * B + t = m * (2 * (B / m)) + (2 * (B % m) + t) := by
  have h := Nat.div_add_mod B m
  have e : m * (2 * (B / m)) = 2 * (m * (B / m)) := Nat.mul_left_comm _ _ _
  omega
theorem over_lt {B m t r : Nat} (hr : r = B % m + B % m + t) (h : r < m) : (2 * B + t) / m = B / m + B / m ∧ (2 * B + t) % m = r := by
  have e := over_split B m t
  have hr2 : 2 * (B % m) + t = r := by omega
  rw [hr2] at e
  rw [e, Nat.mul_add_div (by omega), Nat.mul_add_mod, Nat.div_eq_of_lt h, Nat.mod_eq_of_lt h]
  exact ⟨by omega, rfl⟩
theorem over_ge {B m t r : Nat} (h0 : 0 < m) (ht : t ≤ 1) (hr : r = B % m + B % m + t) (h : ¬ r < m) : (2 * B + t) / m = B / m + B / m + 1 ∧ (2 * B + t) % m = r - m := by
  have hl := Nat.mod_lt B h0
  have e := over_split B m t
  have hr2 : 2 * (B % m) + t = m + (r - m) := by omega
  rw [hr2, ← Nat.add_assoc] at e
  have e2 : m * (2 * (B / m)) + m = m * (2 * (B / m) + 1) := by rw [Nat.mul_add, Nat.mul_one]
  rw [e2] at e
  have h3 : r - m < m := by omega
  rw [e, Nat.mul_add_div (by omega), Nat.mul_add_mod, Nat.div_eq_of_lt h3, Nat.mod_eq_of_lt h3]
  exact ⟨by omega, rfl⟩
set_option maxHeartbeats 16000000 in
theorem rover_any (B' C' : Option Addr) (d p b m : Nat) (w : World) (hB : Num w w.heap.size B' (nw b) b) (hC : Num w w.heap.size C' (nw m) m) (hb : nw b ≤ 140) (hm : nw m ≤ 70) (h0 : 0 < m) :
    Calls Try.prog 68 #[.agg #[.slice B' (nw b) d], .agg #[.slice C' (nw m) p]] w (RetNat w.heap.size (b / m) w) := by
  have HM0 := hid h0
  have hbl := bl_le_nw b
  have h01 : nw 1 ≤ 70 := by decide
  clear h0
  obtain ⟨b0, b1, b2, b3, b4, bw⟩ := boxes5 w (.slice B' (nw b) d) (.slice C' (nw m) p) (.slice none 0 0) (.slice none 0 0) (.slice none 0 0)
  have XB := VB.mk (B := w.heap.size) (a := b) b0 (.inl hB) bw (Nat.le_refl _) (by omega)
  have XC := VB.mk (B := w.heap.size) (a := m) b1 (.inl hC) bw (Nat.le_refl _) (by omega)
  have XR := VB.mk (B := w.heap.size) (a := 0) b2 (.inr (Own.nil _ _ _ _ (Nat.zero_le _))) bw (Nat.le_refl _) (by omega)
  have XQ := VB.mk (B := w.heap.size) (a := 0) b3 (.inr (Own.nil _ _ _ _ (Nat.zero_le _))) bw (Nat.le_refl _) (by omega)
  have XV := VB.mk (B := w.heap.size) (a := 0) b4 (.inr (Own.nil _ _ _ _ (Nat.zero_le _))) bw (Nat.le_refl _) (by omega)
  have WW := bw
  clear bw b0 b1 b2 b3 b4
  go_enter Try.func68, Try.ntmps68
  go_wp2_with fail
  generalize hV : (((((w.alloc (.cells #[.slice B' (nw b) d] 24)).alloc (.cells #[.slice C' (nw m) p] 24)).alloc (.cells #[.slice none 0 0] 24)).alloc (.cells #[.slice none 0 0] 24)).alloc (.cells #[.slice none 0 0] 24)) = V0 at XB XC XR XQ XV WW ⊢
  clear hV
  have OQ : Own V0 w.heap.size none 0 0 0 := Own.nil _ _ _ _ (Nat.zero_le _)
  have OV : Own V0 w.heap.size none 0 0 0 := Own.nil _ _ _ _ (Nat.zero_le _)
  have hbs : w.heap.size ≤ V0.heap.size := WW.size
  have hc := rbits_any B' d b V0 XB.num (by omega)
  refine hc.mono ?_
  clear hc
  rintro e V1 ⟨rfl, hb⟩
  replace XB := XB.below hb
  replace XC := XC.below hb
  replace XR := XR.below hb
  replace XQ := XQ.below hb
  replace XV := XV.below hb
  replace OQ := OQ.below hb (Nat.le_refl _)
  replace OV := OV.below hb (Nat.le_refl _)
  replace WW := WW.trans (hb.mono WW.size)
  have kXB := XB.cell
  have zXB := XB.lt
  have kXC := XC.cell
  have zXC := XC.lt
  have kXR := XR.cell
  have zXR := XR.lt
  have kXQ := XQ.cell
  have zXQ := XQ.lt
  have kXV := XV.cell
  have zXV := XV.lt
  clear hb hbs
  go_wp2_with fail
  go_loopw [7] (fun i wr => ∃ (k q r : Nat) (z : Int) (Q R : Option Addr) (qc rc : Nat), k ≤ bl b ∧ i = .int .i64 z ∧ z + 1 = (k : Int) ∧ Hid (q = b / 2 ^ k / m) ∧ Hid (r = b / 2 ^ k % m) ∧ Below w.heap.size w wr ∧ VB w.heap.size wr (w.heap.size) B' (nw b) d b ∧ VB w.heap.size wr (w.heap.size + 1) C' (nw m) p m ∧ VB w.heap.size wr (w.heap.size + 1 + 1) none 0 0 0 ∧ VB w.heap.size wr (w.heap.size + 1 + 1 + 1) Q (nw q) qc q ∧ VB w.heap.size wr (w.heap.size + 1 + 1 + 1 + 1) R (nw r) rc r ∧ Own wr w.heap.size Q (nw q) qc q ∧ Own wr w.heap.size R (nw r) rc r) (fun i wr => ((intOf i) + 1).toNat)
  case atStart => exact ⟨bl b, 0, 0, ((bl b : Nat) : Int) - 1, none, none, 0, 0, Nat.le_refl _, by go_num, by omega, (show 0 = b / 2 ^ bl b / m by rw [bits_top, Nat.zero_div]), (show 0 = b / 2 ^ bl b % m by rw [bits_top, Nat.zero_mod]), WW, XB, XC, XR, XQ, XV, OQ, OV⟩
  case round =>
    clear WW kXB zXB kXC zXC kXR zXR kXQ zXQ kXV zXV XB XC XR XQ XV OQ OV
    obtain ⟨k, q, r, z, Q, R, qc, rc, hk, rfl, hz, HQ, HR, WW, XB, XC, XR, XQ, XV, OQ, OV⟩ := hrel
    have kXB := XB.cell
    have zXB := XB.lt
    have kXC := XC.cell
    have zXC := XC.lt
    have kXR := XR.cell
    have zXR := XR.lt
    have kXQ := XQ.cell
    have zXQ := XQ.lt
    have kXV := XV.cell
    have zXV := XV.lt
    by_cases h0 : k = 0
    · subst h0
      have HF : Hid (b / m = q) := (show b / m = q by rw [HQ.out, bits_all])
      obtain rfl : z = -1 := by omega
      have fXR := XR.1.frozen 0
      clear HQ HR
      go_wp2_with fail
      have ho2 := OQ.box (p := ⟨w.heap.size + 1 + 1, 0, none⟩) XR.1 (by decide) (.slice Q (nw q) qc)
      exact bodyPost_ret (v := .agg #[.slice Q (nw q) qc]) (by simp [results, Try.results68, go_sem, kXR, zXR]) rfl ⟨_, rfl, by rw [HF.out]; exact ⟨Q, qc, rfl, ho2⟩, WW.setCell (by simp <;> omega) _⟩
    · obtain ⟨j, rfl⟩ : ∃ j, k = j + 1 := ⟨k - 1, by omega⟩
      obtain rfl : z = (j : Int) := by omega
      clear h0 hz
      have HRM : Hid (r < m) := (show r < m by rw [HR.out]; exact Nat.mod_lt _ HM0.out)
      have nwr : nw r ≤ 70 := Nat.le_trans (nw_mono (Nat.le_of_lt HRM.out)) hm
      have nwq : nw q ≤ 140 := by rw [HQ.out]; exact Nat.le_trans (nw_mono (Nat.le_trans (Nat.div_le_self _ _) (Nat.div_le_self _ _))) hb
      obtain ⟨r1, hr1⟩ : ∃ x, x = r + r := ⟨_, rfl⟩
      obtain ⟨q1, hq1⟩ : ∃ x, x = q + q := ⟨_, rfl⟩
      have R1 := hid hr1
      have Q1 := hid hq1
      have nwr1 : nw r1 ≤ 71 := by rw [hr1]; exact nw_sum nwr nwr
      have nwq1 : nw q1 ≤ 141 := by rw [hq1]; exact nw_sum nwq nwq
      have l1 : (0 : Int) ≤ ((j : Nat) : Int) := by omega
      clear hr1 hq1
      cases hbt : bitN b j
      · have HB := hid hbt
        have HB2 : Hid (b / 2 ^ j = 2 * (b / 2 ^ (j + 1)) + 0) := half_no hbt
        have HR2 : Hid (r1 = b / 2 ^ (j + 1) % m + b / 2 ^ (j + 1) % m + 0) := (show r1 = _ by rw [R1.out, HR.out]; rfl)
        clear hbt
        by_cases hcmp : r1 < m
        · have G1 : Hid (decide (r1 < m) = true) := decide_eq_true hcmp
          have HS := hid (over_lt HR2.out hcmp)
          have H2 : Hid (q1 = b / 2 ^ j / m) := (show q1 = _ by rw [HB2.out, HS.out.1, Q1.out, HQ.out])
          have H3 : Hid (r1 = b / 2 ^ j % m) := (show r1 = _ by rw [HB2.out, HS.out.2])
          clear hcmp HS
          go_wp2_with fail
          have WWd := WW.drew
          have XBd := XB.drew
          have XCd := XC.drew
          have XRd := XR.drew
          have XQd := XQ.drew
          have XVd := XV.drew
          have OQd := OQ.drew
          have OVd := OV.drew
          have hst : (fun w' => w'.cell? ⟨w.heap.size + 1 + 1 + 1, 0, none⟩ = some (.slice Q (nw q) qc) ∧ w'.cell? ⟨w.heap.size + 1 + 1 + 1 + 1, 0, none⟩ = some (.slice R (nw r) rc)) wr.drew := ⟨XQ.cell, XV.cell⟩
          clear WW kXB zXB kXC zXC kXR zXR kXQ zXQ kXV zXV XB XC XR XQ XV OQ OV
          have qq0 := XVd.lt
          refine region_L 6 (fun w' => w'.cell? ⟨w.heap.size + 1 + 1 + 1, 0, none⟩ = some (.slice Q (nw q) qc) ∧ w'.cell? ⟨w.heap.size + 1 + 1 + 1 + 1, 0, none⟩ = some (.slice R (nw r) rc)) (by kernel_rfl) hst (fun hHeld => ?_)
          clear hst
          generalize hV : wr.drew = U1x0 at hHeld WWd qq0 XBd XCd XRd XQd XVd OQd OVd ⊢
          clear hV
          have WW := WWd
          have XB := XBd
          have XC := XCd
          have XR := XRd
          have XQ := XQd
          have XV := XVd
          have OQ := OQd
          have OV := OVd
          clear WWd XBd XCd XRd XQd XVd OQd OVd
          refine AnyL_take (i := 0) (oi := oq68_5_0) (v := ?_) rfl (by kernel_rfl) (by kernel_rfl) (by kernel_rfl) (by kernel_rfl) (fun _ _ _ h => h) (Or.inl ⟨by rfl, ?_⟩) (by assumption) ?_
          rotate_left
          · (delta oq68_5_0; intro ws hSw; (try dsimp only at hSw); (try go_simp); (try with_reducible rfl))
          (try simp only [oq68_5_0, Act.put, List.setIfInBounds_toArray, List.set_cons_zero, List.set_cons_succ])
          refine AnyL_take (i := 1) (oi := oq68_5_1) (v := ?_) rfl (by kernel_rfl) (by kernel_rfl) (by kernel_rfl) (by kernel_rfl) (fun _ _ _ h => h) (Or.inl ⟨by rfl, ?_⟩) (by assumption) ?_
          rotate_left
          · (delta oq68_5_1; intro ws hSw; (try dsimp only at hSw); (try go_simp); (try with_reducible rfl))
          (try simp only [oq68_5_1, Act.put, List.setIfInBounds_toArray, List.set_cons_zero, List.set_cons_succ])
          refine AnyL_take (i := 3) (oi := oq68_5_3) (v := ?_) rfl (by kernel_rfl) (by kernel_rfl) (by kernel_rfl) (by kernel_rfl) (fun _ _ _ h => h) (Or.inl ⟨by rfl, ?_⟩) (by assumption) ?_
          rotate_left
          · (delta oq68_5_3; intro ws hSw; (try dsimp only at hSw); (try go_simp); (try with_reducible rfl))
          (try simp only [oq68_5_3, Act.put, List.setIfInBounds_toArray, List.set_cons_zero, List.set_cons_succ])
          refine AnyL_take (i := 4) (oi := oq68_5_4) (v := ?_) rfl (by kernel_rfl) (by kernel_rfl) (by kernel_rfl) (by kernel_rfl) (fun _ _ _ h => h) (Or.inl ⟨by rfl, ?_⟩) (by assumption) ?_
          rotate_left
          · (delta oq68_5_4; intro ws hSw; (try dsimp only at hSw); (try go_simp); (try with_reducible rfl))
          (try simp only [oq68_5_4, Act.put, List.setIfInBounds_toArray, List.set_cons_zero, List.set_cons_succ])
          refine AnyL_ready (rs := [2]) (by kernel_rfl) (by simp) ?_
          refine ReadyL.cons (o := oq68_5_2) rfl (fun K hK => ?_) ReadyL.nil
          delta oq68_5_2
          go_simp
          have hbs : w.heap.size ≤ U1x0.heap.size := WW.size
          have hc := plus_any R R _ _ rc rc r r U1x0 XV.num XV.num (by omega) (by omega)
          rw [← R1.out] at hc
          refine hc.mono ?_
          clear hc
          rintro e V3 ⟨v, rfl, hv, hb⟩
          replace XB := XB.below hb
          replace XC := XC.below hb
          replace XR := XR.below hb
          replace XQ := XQ.below hb
          replace XV := XV.below hb
          replace OQ := OQ.below hb (Nat.le_refl _)
          replace OV := OV.below hb (Nat.le_refl _)
          replace WW := WW.trans (hb.mono WW.size)
          have sz3 := hb.size
          obtain ⟨D1, d1, rfl, ho⟩ := hv
          have O1 := ho.weak (b := w.heap.size) hbs
          clear ho
          clear hb hbs
          refine hK.out _ _ (⟨XQ.cell, XV.cell⟩) (fun hHeld2 => ?_)
          clear hK K hHeld
          have hHeld := hHeld2
          clear hHeld2
          (try simp only [oq68_5_2, Act.put, List.setIfInBounds_toArray, List.set_cons_zero, List.set_cons_succ])
          refine AnyL_ready (rs := [5]) (by kernel_rfl) (by simp) ?_
          refine ReadyL.cons (o := oq68_5_5) rfl (fun K hK => ?_) ReadyL.nil
          delta oq68_5_5
          go_simp
          have hbs : w.heap.size ≤ V3.heap.size := WW.size
          have hc := plus_any Q Q _ _ qc qc q q V3 XQ.num XQ.num (by omega) (by omega)
          rw [← Q1.out] at hc
          refine hc.mono ?_
          clear hc
          rintro e V4 ⟨v, rfl, hv, hb⟩
          replace XB := XB.below hb
          replace XC := XC.below hb
          replace XR := XR.below hb
          replace XQ := XQ.below hb
          replace XV := XV.below hb
          replace OQ := OQ.below hb (Nat.le_refl _)
          replace OV := OV.below hb (Nat.le_refl _)
          replace O1 := O1.below hb (Nat.le_refl _)
          replace WW := WW.trans (hb.mono WW.size)
          have sz4 := hb.size
          obtain ⟨D2, d2, rfl, ho⟩ := hv
          have O2 := ho.weak (b := w.heap.size) hbs
          clear ho
          clear hb hbs
          refine hK.out _ _ (⟨XQ.cell, XV.cell⟩) (fun hHeld2 => ?_)
          clear hK K hHeld
          have hHeld := hHeld2
          clear hHeld2
          (try simp only [oq68_5_5, Act.put, List.setIfInBounds_toArray, List.set_cons_zero, List.set_cons_succ])
          refine AnyL_ready (rs := [6]) (by kernel_rfl) (by simp) ?_
          refine ReadyL.late (o := oq68_5_6) rfl (by rfl) (fun K hK => ?_) ReadyL.nil
          delta oq68_5_6
          have fz := XV.1.frozen 0
          have cz := XV.cell
          have lz := XV.lt
          go_simp
          have XBn := XB.far (p := ⟨w.heap.size + 1 + 1 + 1 + 1, 0, none⟩) XV.1 XV.2.2 (by simp <;> omega) (.slice D1 (nw r1) d1)
          have XCn := XC.far (p := ⟨w.heap.size + 1 + 1 + 1 + 1, 0, none⟩) XV.1 XV.2.2 (by simp <;> omega) (.slice D1 (nw r1) d1)
          have XRn := XR.far (p := ⟨w.heap.size + 1 + 1 + 1 + 1, 0, none⟩) XV.1 XV.2.2 (by simp <;> omega) (.slice D1 (nw r1) d1)
          have XQn := XQ.far (p := ⟨w.heap.size + 1 + 1 + 1 + 1, 0, none⟩) XV.1 XV.2.2 (by simp <;> omega) (.slice D1 (nw r1) d1)
          have XVn := XV.set_ (A' := D1) (n' := (nw r1)) (c' := d1) (a' := r1) (.inr O1)
          have OQn := OQ.box (p := ⟨w.heap.size + 1 + 1 + 1 + 1, 0, none⟩) XV.1 (by decide) (.slice D1 (nw r1) d1)
          have OVn := OV.box (p := ⟨w.heap.size + 1 + 1 + 1 + 1, 0, none⟩) XV.1 (by decide) (.slice D1 (nw r1) d1)
          have O1n := O1.box (p := ⟨w.heap.size + 1 + 1 + 1 + 1, 0, none⟩) XV.1 (by decide) (.slice D1 (nw r1) d1)
          have O2n := O2.box (p := ⟨w.heap.size + 1 + 1 + 1 + 1, 0, none⟩) XV.1 (by decide) (.slice D1 (nw r1) d1)
          have WWn := WW.setCell (p := ⟨w.heap.size + 1 + 1 + 1 + 1, 0, none⟩) (by simp <;> omega) (.slice D1 (nw r1) d1)
          refine hK.out _ _ trivial (fun hHeld2 => ?_)
          clear hK K hHeld2 hHeld
          (try simp only [oq68_5_6, Act.put, List.setIfInBounds_toArray, List.set_cons_zero, List.set_cons_succ])
          generalize hV : V4.setCell ⟨w.heap.size + 1 + 1 + 1 + 1, 0, none⟩ (.slice D1 (nw r1) d1) = V5 at WWn XBn XCn XRn XQn XVn OQn OVn O1n O2n ⊢
          clear hV fz cz lz WW XB XC XR XQ XV OQ OV O1 O2
          have WW := WWn
          have XB := XBn
          have XC := XCn
          have XR := XRn
          have XQ := XQn
          have XV := XVn
          have OQ := OQn
          have OV := OVn
          have O1 := O1n
          have O2 := O2n
          clear WWn XBn XCn XRn XQn XVn OQn OVn O1n O2n
          refine AnyL_ready (rs := [7]) (by kernel_rfl) (by simp) ?_
          refine ReadyL.late (o := oq68_5_7) rfl (by rfl) (fun K hK => ?_) ReadyL.nil
          delta oq68_5_7
          have fz := XQ.1.frozen 0
          have cz := XQ.cell
          have lz := XQ.lt
          go_simp
          have XBn := XB.far (p := ⟨w.heap.size + 1 + 1 + 1, 0, none⟩) XQ.1 XQ.2.2 (by simp <;> omega) (.slice D2 (nw q1) d2)
          have XCn := XC.far (p := ⟨w.heap.size + 1 + 1 + 1, 0, none⟩) XQ.1 XQ.2.2 (by simp <;> omega) (.slice D2 (nw q1) d2)
          have XRn := XR.far (p := ⟨w.heap.size + 1 + 1 + 1, 0, none⟩) XQ.1 XQ.2.2 (by simp <;> omega) (.slice D2 (nw q1) d2)
          have XVn := XV.far (p := ⟨w.heap.size + 1 + 1 + 1, 0, none⟩) XQ.1 XQ.2.2 (by simp <;> omega) (.slice D2 (nw q1) d2)
          have XQn := XQ.set_ (A' := D2) (n' := (nw q1)) (c' := d2) (a' := q1) (.inr O2)
          have OQn := OQ.box (p := ⟨w.heap.size + 1 + 1 + 1, 0, none⟩) XQ.1 (by decide) (.slice D2 (nw q1) d2)
          have OVn := OV.box (p := ⟨w.heap.size + 1 + 1 + 1, 0, none⟩) XQ.1 (by decide) (.slice D2 (nw q1) d2)
          have O1n := O1.box (p := ⟨w.heap.size + 1 + 1 + 1, 0, none⟩) XQ.1 (by decide) (.slice D2 (nw q1) d2)
          have O2n := O2.box (p := ⟨w.heap.size + 1 + 1 + 1, 0, none⟩) XQ.1 (by decide) (.slice D2 (nw q1) d2)
          have WWn := WW.setCell (p := ⟨w.heap.size + 1 + 1 + 1, 0, none⟩) (by simp <;> omega) (.slice D2 (nw q1) d2)
          refine hK.out _ _ trivial (fun hHeld2 => ?_)
          clear hK K hHeld2
          (try simp only [oq68_5_7, Act.put, List.setIfInBounds_toArray, List.set_cons_zero, List.set_cons_succ])
          generalize hV : V5.setCell ⟨w.heap.size + 1 + 1 + 1, 0, none⟩ (.slice D2 (nw q1) d2) = V6 at WWn XBn XCn XRn XQn XVn OQn OVn O1n O2n ⊢
          clear hV fz cz lz WW XB XC XR XQ XV OQ OV O1 O2
          have WW := WWn
          have XB := XBn
          have XC := XCn
          have XR := XRn
          have XQ := XQn
          have XV := XVn
          have OQ := OQn
          have OV := OVn
          have O1 := O1n
          have O2 := O2n
          clear WWn XBn XCn XRn XQn XVn OQn OVn O1n O2n
          refine AnyL_done (by kernel_rfl) ?_ _
          have kXB := XB.cell
          have zXB := XB.lt
          have kXC := XC.cell
          have zXC := XC.lt
          have kXR := XR.cell
          have zXR := XR.lt
          have kXQ := XQ.cell
          have zXQ := XQ.lt
          have kXV := XV.cell
          have zXV := XV.lt
          go_wp2_with fail
          have hbs : w.heap.size ≤ V6.heap.size := WW.size
          have hc := rbit_any B' d b j V6 XB.num (by omega) (by omega)
          rw [HB.out] at hc
          refine hc.mono ?_
          clear hc
          rintro e V7 ⟨rfl, hb⟩
          clear kXB zXB kXC zXC kXR zXR kXQ zXQ kXV zXV
          replace XB := XB.below hb
          replace XC := XC.below hb
          replace XR := XR.below hb
          replace XQ := XQ.below hb
          replace XV := XV.below hb
          replace OQ := OQ.below hb (Nat.le_refl _)
          replace OV := OV.below hb (Nat.le_refl _)
          replace O1 := O1.below hb (Nat.le_refl _)
          replace O2 := O2.below hb (Nat.le_refl _)
          replace WW := WW.trans (hb.mono WW.size)
          have kXB := XB.cell
          have zXB := XB.lt
          have kXC := XC.cell
          have zXC := XC.lt
          have kXR := XR.cell
          have zXR := XR.lt
          have kXQ := XQ.cell
          have zXQ := XQ.lt
          have kXV := XV.cell
          have zXV := XV.lt
          clear hb hbs
          go_wp2_with fail
          have hbs : w.heap.size ≤ V7.heap.size := WW.size
          have hc := less3_any D1 C' d1 p r1 m V7 XV.num XC.num (by omega) (by omega)
          rw [G1.out] at hc
          refine hc.mono ?_
          clear hc
          rintro e V8 ⟨rfl, hb⟩
          clear kXB zXB kXC zXC kXR zXR kXQ zXQ kXV zXV
          replace XB := XB.below hb
          replace XC := XC.below hb
          replace XR := XR.below hb
          replace XQ := XQ.below hb
          replace XV := XV.below hb
          replace OQ := OQ.below hb (Nat.le_refl _)
          replace OV := OV.below hb (Nat.le_refl _)
          replace O1 := O1.below hb (Nat.le_refl _)
          replace O2 := O2.below hb (Nat.le_refl _)
          replace WW := WW.trans (hb.mono WW.size)
          have kXB := XB.cell
          have zXB := XB.lt
          have kXC := XC.cell
          have zXC := XC.lt
          have kXR := XR.cell
          have zXR := XR.lt
          have kXQ := XQ.cell
          have zXQ := XQ.lt
          have kXV := XV.cell
          have zXV := XV.lt
          clear hb hbs
          go_wp2_with fail
          go_roundw
          case rel => exact ⟨j, q1, r1, ((j : Int) - 1), D2, D1, d2, d1, by omega, by go_num, by omega, H2.out, H3.out, WW, XB, XC, XR, XQ, XV, O2, O1⟩
          case measure => simp [intOf] <;> omega
        · have G1 : Hid (decide (r1 < m) = false) := decide_eq_false hcmp
          have HS := hid (over_ge HM0.out (by omega) HR2.out hcmp)
          obtain ⟨q3, hq3⟩ : ∃ x, x = q1 + 1 := ⟨_, rfl⟩
          have Q3 := hid hq3
          obtain ⟨r3, hr3⟩ : ∃ x, x = r1 - m := ⟨_, rfl⟩
          have R3 := hid hr3
          have H2 : Hid (q3 = b / 2 ^ j / m) := (show q3 = _ by rw [hq3, HB2.out, HS.out.1, Q1.out, HQ.out])
          have H3 : Hid (r3 = b / 2 ^ j % m) := (show r3 = _ by rw [hr3, HB2.out, HS.out.2])
          have hle : m ≤ r1 := by omega
          clear hq3 hr3
          clear hcmp HS
          go_wp2_with fail
          have WWd := WW.drew
          have XBd := XB.drew
          have XCd := XC.drew
          have XRd := XR.drew
          have XQd := XQ.drew
          have XVd := XV.drew
          have OQd := OQ.drew
          have OVd := OV.drew
          have hst : (fun w' => w'.cell? ⟨w.heap.size + 1 + 1 + 1, 0, none⟩ = some (.slice Q (nw q) qc) ∧ w'.cell? ⟨w.heap.size + 1 + 1 + 1 + 1, 0, none⟩ = some (.slice R (nw r) rc)) wr.drew := ⟨XQ.cell, XV.cell⟩
          clear WW kXB zXB kXC zXC kXR zXR kXQ zXQ kXV zXV XB XC XR XQ XV OQ OV
          have qq0 := XVd.lt
          refine region_L 6 (fun w' => w'.cell? ⟨w.heap.size + 1 + 1 + 1, 0, none⟩ = some (.slice Q (nw q) qc) ∧ w'.cell? ⟨w.heap.size + 1 + 1 + 1 + 1, 0, none⟩ = some (.slice R (nw r) rc)) (by kernel_rfl) hst (fun hHeld => ?_)
          clear hst
          generalize hV : wr.drew = U1x0 at hHeld WWd qq0 XBd XCd XRd XQd XVd OQd OVd ⊢
          clear hV
          have WW := WWd
          have XB := XBd
          have XC := XCd
          have XR := XRd
          have XQ := XQd
          have XV := XVd
          have OQ := OQd
          have OV := OVd
          clear WWd XBd XCd XRd XQd XVd OQd OVd
          refine AnyL_take (i := 0) (oi := oq68_5_0) (v := ?_) rfl (by kernel_rfl) (by kernel_rfl) (by kernel_rfl) (by kernel_rfl) (fun _ _ _ h => h) (Or.inl ⟨by rfl, ?_⟩) (by assumption) ?_
          rotate_left
          · (delta oq68_5_0; intro ws hSw; (try dsimp only at hSw); (try go_simp); (try with_reducible rfl))
          (try simp only [oq68_5_0, Act.put, List.setIfInBounds_toArray, List.set_cons_zero, List.set_cons_succ])
          refine AnyL_take (i := 1) (oi := oq68_5_1) (v := ?_) rfl (by kernel_rfl) (by kernel_rfl) (by kernel_rfl) (by kernel_rfl) (fun _ _ _ h => h) (Or.inl ⟨by rfl, ?_⟩) (by assumption) ?_
          rotate_left
          · (delta oq68_5_1; intro ws hSw; (try dsimp only at hSw); (try go_simp); (try with_reducible rfl))
          (try simp only [oq68_5_1, Act.put, List.setIfInBounds_toArray, List.set_cons_zero, List.set_cons_succ])
          refine AnyL_take (i := 3) (oi := oq68_5_3) (v := ?_) rfl (by kernel_rfl) (by kernel_rfl) (by kernel_rfl) (by kernel_rfl) (fun _ _ _ h => h) (Or.inl ⟨by rfl, ?_⟩) (by assumption) ?_
          rotate_left
          · (delta oq68_5_3; intro ws hSw; (try dsimp only at hSw); (try go_simp); (try with_reducible rfl))
          (try simp only [oq68_5_3, Act.put, List.setIfInBounds_toArray, List.set_cons_zero, List.set_cons_succ])
          refine AnyL_take (i := 4) (oi := oq68_5_4) (v := ?_) rfl (by kernel_rfl) (by kernel_rfl) (by kernel_rfl) (by kernel_rfl) (fun _ _ _ h => h) (Or.inl ⟨by rfl, ?_⟩) (by assumption) ?_
          rotate_left
          · (delta oq68_5_4; intro ws hSw; (try dsimp only at hSw); (try go_simp); (try with_reducible rfl))
          (try simp only [oq68_5_4, Act.put, List.setIfInBounds_toArray, List.set_cons_zero, List.set_cons_succ])
          refine AnyL_ready (rs := [2]) (by kernel_rfl) (by simp) ?_
          refine ReadyL.cons (o := oq68_5_2) rfl (fun K hK => ?_) ReadyL.nil
          delta oq68_5_2
          go_simp
          have hbs : w.heap.size ≤ U1x0.heap.size := WW.size
          have hc := plus_any R R _ _ rc rc r r U1x0 XV.num XV.num (by omega) (by omega)
          rw [← R1.out] at hc
          refine hc.mono ?_
          clear hc
          rintro e V3 ⟨v, rfl, hv, hb⟩
          replace XB := XB.below hb
          replace XC := XC.below hb
          replace XR := XR.below hb
          replace XQ := XQ.below hb
          replace XV := XV.below hb
          replace OQ := OQ.below hb (Nat.le_refl _)
          replace OV := OV.below hb (Nat.le_refl _)
          replace WW := WW.trans (hb.mono WW.size)
          have sz3 := hb.size
          obtain ⟨D1, d1, rfl, ho⟩ := hv
          have O1 := ho.weak (b := w.heap.size) hbs
          clear ho
          clear hb hbs
          refine hK.out _ _ (⟨XQ.cell, XV.cell⟩) (fun hHeld2 => ?_)
          clear hK K hHeld
          have hHeld := hHeld2
          clear hHeld2
          (try simp only [oq68_5_2, Act.put, List.setIfInBounds_toArray, List.set_cons_zero, List.set_cons_succ])
          refine AnyL_ready (rs := [5]) (by kernel_rfl) (by simp) ?_
          refine ReadyL.cons (o := oq68_5_5) rfl (fun K hK => ?_) ReadyL.nil
          delta oq68_5_5
          go_simp
          have hbs : w.heap.size ≤ V3.heap.size := WW.size
          have hc := plus_any Q Q _ _ qc qc q q V3 XQ.num XQ.num (by omega) (by omega)
          rw [← Q1.out] at hc
          refine hc.mono ?_
          clear hc
          rintro e V4 ⟨v, rfl, hv, hb⟩
          replace XB := XB.below hb
          replace XC := XC.below hb
          replace XR := XR.below hb
          replace XQ := XQ.below hb
          replace XV := XV.below hb
          replace OQ := OQ.below hb (Nat.le_refl _)
          replace OV := OV.below hb (Nat.le_refl _)
          replace O1 := O1.below hb (Nat.le_refl _)
          replace WW := WW.trans (hb.mono WW.size)
          have sz4 := hb.size
          obtain ⟨D2, d2, rfl, ho⟩ := hv
          have O2 := ho.weak (b := w.heap.size) hbs
          clear ho
          clear hb hbs
          refine hK.out _ _ (⟨XQ.cell, XV.cell⟩) (fun hHeld2 => ?_)
          clear hK K hHeld
          have hHeld := hHeld2
          clear hHeld2
          (try simp only [oq68_5_5, Act.put, List.setIfInBounds_toArray, List.set_cons_zero, List.set_cons_succ])
          refine AnyL_ready (rs := [6]) (by kernel_rfl) (by simp) ?_
          refine ReadyL.late (o := oq68_5_6) rfl (by rfl) (fun K hK => ?_) ReadyL.nil
          delta oq68_5_6
          have fz := XV.1.frozen 0
          have cz := XV.cell
          have lz := XV.lt
          go_simp
          have XBn := XB.far (p := ⟨w.heap.size + 1 + 1 + 1 + 1, 0, none⟩) XV.1 XV.2.2 (by simp <;> omega) (.slice D1 (nw r1) d1)
          have XCn := XC.far (p := ⟨w.heap.size + 1 + 1 + 1 + 1, 0, none⟩) XV.1 XV.2.2 (by simp <;> omega) (.slice D1 (nw r1) d1)
          have XRn := XR.far (p := ⟨w.heap.size + 1 + 1 + 1 + 1, 0, none⟩) XV.1 XV.2.2 (by simp <;> omega) (.slice D1 (nw r1) d1)
          have XQn := XQ.far (p := ⟨w.heap.size + 1 + 1 + 1 + 1, 0, none⟩) XV.1 XV.2.2 (by simp <;> omega) (.slice D1 (nw r1) d1)
          have XVn := XV.set_ (A' := D1) (n' := (nw r1)) (c' := d1) (a' := r1) (.inr O1)
          have OQn := OQ.box (p := ⟨w.heap.size + 1 + 1 + 1 + 1, 0, none⟩) XV.1 (by decide) (.slice D1 (nw r1) d1)
          have OVn := OV.box (p := ⟨w.heap.size + 1 + 1 + 1 + 1, 0, none⟩) XV.1 (by decide) (.slice D1 (nw r1) d1)
          have O1n := O1.box (p := ⟨w.heap.size + 1 + 1 + 1 + 1, 0, none⟩) XV.1 (by decide) (.slice D1 (nw r1) d1)
          have O2n := O2.box (p := ⟨w.heap.size + 1 + 1 + 1 + 1, 0, none⟩) XV.1 (by decide) (.slice D1 (nw r1) d1)
          have WWn := WW.setCell (p := ⟨w.heap.size + 1 + 1 + 1 + 1, 0, none⟩) (by simp <;> omega) (.slice D1 (nw r1) d1)
          refine hK.out _ _ trivial (fun hHeld2 => ?_)
          clear hK K hHeld2 hHeld
          (try simp only [oq68_5_6, Act.put, List.setIfInBounds_toArray, List.set_cons_zero, List.set_cons_succ])
          generalize hV : V4.setCell ⟨w.heap.size + 1 + 1 + 1 + 1, 0, none⟩ (.slice D1 (nw r1) d1) = V5 at WWn XBn XCn XRn XQn XVn OQn OVn O1n O2n ⊢
          clear hV fz cz lz WW XB XC XR XQ XV OQ OV O1 O2
          have WW := WWn
          have XB := XBn
          have XC := XCn
          have XR := XRn
          have XQ := XQn
          have XV := XVn
          have OQ := OQn
          have OV := OVn
          have O1 := O1n
          have O2 := O2n
          clear WWn XBn XCn XRn XQn XVn OQn OVn O1n O2n
          refine AnyL_ready (rs := [7]) (by kernel_rfl) (by simp) ?_
          refine ReadyL.late (o := oq68_5_7) rfl (by rfl) (fun K hK => ?_) ReadyL.nil
          delta oq68_5_7
          have fz := XQ.1.frozen 0
          have cz := XQ.cell
          have lz := XQ.lt
          go_simp
          have XBn := XB.far (p := ⟨w.heap.size + 1 + 1 + 1, 0, none⟩) XQ.1 XQ.2.2 (by simp <;> omega) (.slice D2 (nw q1) d2)
          have XCn := XC.far (p := ⟨w.heap.size + 1 + 1 + 1, 0, none⟩) XQ.1 XQ.2.2 (by simp <;> omega) (.slice D2 (nw q1) d2)
          have XRn := XR.far (p := ⟨w.heap.size + 1 + 1 + 1, 0, none⟩) XQ.1 XQ.2.2 (by simp <;> omega) (.slice D2 (nw q1) d2)
          have XVn := XV.far (p := ⟨w.heap.size + 1 + 1 + 1, 0, none⟩) XQ.1 XQ.2.2 (by simp <;> omega) (.slice D2 (nw q1) d2)
          have XQn := XQ.set_ (A' := D2) (n' := (nw q1)) (c' := d2) (a' := q1) (.inr O2)
          have OQn := OQ.box (p := ⟨w.heap.size + 1 + 1 + 1, 0, none⟩) XQ.1 (by decide) (.slice D2 (nw q1) d2)
          have OVn := OV.box (p := ⟨w.heap.size + 1 + 1 + 1, 0, none⟩) XQ.1 (by decide) (.slice D2 (nw q1) d2)
          have O1n := O1.box (p := ⟨w.heap.size + 1 + 1 + 1, 0, none⟩) XQ.1 (by decide) (.slice D2 (nw q1) d2)
          have O2n := O2.box (p := ⟨w.heap.size + 1 + 1 + 1, 0, none⟩) XQ.1 (by decide) (.slice D2 (nw q1) d2)
          have WWn := WW.setCell (p := ⟨w.heap.size + 1 + 1 + 1, 0, none⟩) (by simp <;> omega) (.slice D2 (nw q1) d2)
          refine hK.out _ _ trivial (fun hHeld2 => ?_)
          clear hK K hHeld2
          (try simp only [oq68_5_7, Act.put, List.setIfInBounds_toArray, List.set_cons_zero, List.set_cons_succ])
          generalize hV : V5.setCell ⟨w.heap.size + 1 + 1 + 1, 0, none⟩ (.slice D2 (nw q1) d2) = V6 at WWn XBn XCn XRn XQn XVn OQn OVn O1n O2n ⊢
          clear hV fz cz lz WW XB XC XR XQ XV OQ OV O1 O2
          have WW := WWn
          have XB := XBn
          have XC := XCn
          have XR := XRn
          have XQ := XQn
          have XV := XVn
          have OQ := OQn
          have OV := OVn
          have O1 := O1n
          have O2 := O2n
          clear WWn XBn XCn XRn XQn XVn OQn OVn O1n O2n
          refine AnyL_done (by kernel_rfl) ?_ _
          have kXB := XB.cell
          have zXB := XB.lt
          have kXC := XC.cell
          have zXC := XC.lt
          have kXR := XR.cell
          have zXR := XR.lt
          have kXQ := XQ.cell
          have zXQ := XQ.lt
          have kXV := XV.cell
          have zXV := XV.lt
          go_wp2_with fail
          have hbs : w.heap.size ≤ V6.heap.size := WW.size
          have hc := rbit_any B' d b j V6 XB.num (by omega) (by omega)
          rw [HB.out] at hc
          refine hc.mono ?_
          clear hc
          rintro e V7 ⟨rfl, hb⟩
          clear kXB zXB kXC zXC kXR zXR kXQ zXQ kXV zXV
          replace XB := XB.below hb
          replace XC := XC.below hb
          replace XR := XR.below hb
          replace XQ := XQ.below hb
          replace XV := XV.below hb
          replace OQ := OQ.below hb (Nat.le_refl _)
          replace OV := OV.below hb (Nat.le_refl _)
          replace O1 := O1.below hb (Nat.le_refl _)
          replace O2 := O2.below hb (Nat.le_refl _)
          replace WW := WW.trans (hb.mono WW.size)
          have kXB := XB.cell
          have zXB := XB.lt
          have kXC := XC.cell
          have zXC := XC.lt
          have kXR := XR.cell
          have zXR := XR.lt
          have kXQ := XQ.cell
          have zXQ := XQ.lt
          have kXV := XV.cell
          have zXV := XV.lt
          clear hb hbs
          go_wp2_with fail
          have hbs : w.heap.size ≤ V7.heap.size := WW.size
          have hc := less3_any D1 C' d1 p r1 m V7 XV.num XC.num (by omega) (by omega)
          rw [G1.out] at hc
          refine hc.mono ?_
          clear hc
          rintro e V8 ⟨rfl, hb⟩
          clear kXB zXB kXC zXC kXR zXR kXQ zXQ kXV zXV
          replace XB := XB.below hb
          replace XC := XC.below hb
          replace XR := XR.below hb
          replace XQ := XQ.below hb
          replace XV := XV.below hb
          replace OQ := OQ.below hb (Nat.le_refl _)
          replace OV := OV.below hb (Nat.le_refl _)
          replace O1 := O1.below hb (Nat.le_refl _)
          replace O2 := O2.below hb (Nat.le_refl _)
          replace WW := WW.trans (hb.mono WW.size)
          have kXB := XB.cell
          have zXB := XB.lt
          have kXC := XC.cell
          have zXC := XC.lt
          have kXR := XR.cell
          have zXR := XR.lt
          have kXQ := XQ.cell
          have zXQ := XQ.lt
          have kXV := XV.cell
          have zXV := XV.lt
          clear hb hbs
          go_wp2_with fail
          have WWd := WW.drew
          have XBd := XB.drew
          have XCd := XC.drew
          have XRd := XR.drew
          have XQd := XQ.drew
          have XVd := XV.drew
          have OQd := OQ.drew
          have OVd := OV.drew
          have O1d := O1.drew
          have O2d := O2.drew
          have hst : (fun w' => w'.cell? ⟨w.heap.size + 1 + 1 + 1, 0, none⟩ = some (.slice D2 (nw q1) d2) ∧ w'.cell? ⟨w.heap.size + 1 + 1 + 1 + 1, 0, none⟩ = some (.slice D1 (nw r1) d1) ∧ w'.cell? ⟨w.heap.size + 1, 0, none⟩ = some (.slice C' (nw m) p)) V8.drew := ⟨XQ.cell, XV.cell, XC.cell⟩
          clear WW kXB zXB kXC zXC kXR zXR kXQ zXQ kXV zXV XB XC XR XQ XV OQ OV O1 O2
          have qq0 := XVd.lt
          refine region_L 6 (fun w' => w'.cell? ⟨w.heap.size + 1 + 1 + 1, 0, none⟩ = some (.slice D2 (nw q1) d2) ∧ w'.cell? ⟨w.heap.size + 1 + 1 + 1 + 1, 0, none⟩ = some (.slice D1 (nw r1) d1) ∧ w'.cell? ⟨w.heap.size + 1, 0, none⟩ = some (.slice C' (nw m) p)) (by kernel_rfl) hst (fun hHeld => ?_)
          clear hst
          generalize hV : V8.drew = U8x0 at hHeld WWd qq0 XBd XCd XRd XQd XVd OQd OVd O1d O2d ⊢
          clear hV
          have WW := WWd
          have XB := XBd
          have XC := XCd
          have XR := XRd
          have XQ := XQd
          have XV := XVd
          have OQ := OQd
          have OV := OVd
          have O1 := O1d
          have O2 := O2d
          clear WWd XBd XCd XRd XQd XVd OQd OVd O1d O2d
          refine AnyL_take (i := 0) (oi := oq68_9_0) (v := ?_) rfl (by kernel_rfl) (by kernel_rfl) (by kernel_rfl) (by kernel_rfl) (fun _ _ _ h => h) (Or.inl ⟨by rfl, ?_⟩) (by assumption) ?_
          rotate_left
          · (delta oq68_9_0; intro ws hSw; (try dsimp only at hSw); (try go_simp); (try with_reducible rfl))
          (try simp only [oq68_9_0, Act.put, List.setIfInBounds_toArray, List.set_cons_zero, List.set_cons_succ])
          refine AnyL_take (i := 1) (oi := oq68_9_1) (v := ?_) rfl (by kernel_rfl) (by kernel_rfl) (by kernel_rfl) (by kernel_rfl) (fun _ _ _ h => h) (Or.inl ⟨by rfl, ?_⟩) (by assumption) ?_
          rotate_left
          · (delta oq68_9_1; intro ws hSw; (try dsimp only at hSw); (try go_simp); (try with_reducible rfl))
          (try simp only [oq68_9_1, Act.put, List.setIfInBounds_toArray, List.set_cons_zero, List.set_cons_succ])
          refine AnyL_take (i := 3) (oi := oq68_9_3) (v := ?_) rfl (by kernel_rfl) (by kernel_rfl) (by kernel_rfl) (by kernel_rfl) (fun _ _ _ h => h) (Or.inl ⟨by rfl, ?_⟩) (by assumption) ?_
          rotate_left
          · (delta oq68_9_3; intro ws hSw; (try dsimp only at hSw); (try go_simp); (try with_reducible rfl))
          (try simp only [oq68_9_3, Act.put, List.setIfInBounds_toArray, List.set_cons_zero, List.set_cons_succ])
          refine AnyL_ready (rs := [2]) (by kernel_rfl) (by simp) ?_
          refine ReadyL.cons (o := oq68_9_2) rfl (fun K hK => ?_) ReadyL.nil
          delta oq68_9_2
          go_simp
          have hbs : w.heap.size ≤ U8x0.heap.size := WW.size
          have hc := minus_any D1 C' _ _ d1 p r1 m U8x0 XV.num XC.num (by omega) (by omega) hle
          rw [← R3.out] at hc
          refine hc.mono ?_
          clear hc
          rintro e V10 ⟨v, rfl, hv, hb⟩
          replace XB := XB.below hb
          replace XC := XC.below hb
          replace XR := XR.below hb
          replace XQ := XQ.below hb
          replace XV := XV.below hb
          replace OQ := OQ.below hb (Nat.le_refl _)
          replace OV := OV.below hb (Nat.le_refl _)
          replace O1 := O1.below hb (Nat.le_refl _)
          replace O2 := O2.below hb (Nat.le_refl _)
          replace WW := WW.trans (hb.mono WW.size)
          have sz10 := hb.size
          obtain ⟨D5, d5, rfl, ho⟩ := hv
          have O5 := ho.weak (b := w.heap.size) hbs
          clear ho
          clear hb hbs
          refine hK.out _ _ (⟨XQ.cell, XV.cell, XC.cell⟩) (fun hHeld2 => ?_)
          clear hK K hHeld
          have hHeld := hHeld2
          clear hHeld2
          (try simp only [oq68_9_2, Act.put, List.setIfInBounds_toArray, List.set_cons_zero, List.set_cons_succ])
          refine AnyL_ready (rs := [4]) (by kernel_rfl) (by simp) ?_
          refine ReadyL.cons (o := oq68_9_4) rfl (fun K hK => ?_) ReadyL.nil
          delta oq68_9_4
          go_simp
          have hbs : w.heap.size ≤ V10.heap.size := WW.size
          have hc := of3_1 V10
          refine hc.mono ?_
          clear hc
          rintro e V11 ⟨v, rfl, hv, hb⟩
          replace XB := XB.below hb
          replace XC := XC.below hb
          replace XR := XR.below hb
          replace XQ := XQ.below hb
          replace XV := XV.below hb
          replace OQ := OQ.below hb (Nat.le_refl _)
          replace OV := OV.below hb (Nat.le_refl _)
          replace O1 := O1.below hb (Nat.le_refl _)
          replace O2 := O2.below hb (Nat.le_refl _)
          replace O5 := O5.below hb (Nat.le_refl _)
          replace WW := WW.trans (hb.mono WW.size)
          have sz11 := hb.size
          obtain ⟨D6, d6, rfl, ho⟩ := hv
          have O6 := ho.weak (b := w.heap.size) hbs
          clear ho
          clear hb hbs
          refine hK.out _ _ (⟨XQ.cell, XV.cell, XC.cell⟩) (fun hHeld2 => ?_)
          clear hK K hHeld
          have hHeld := hHeld2
          clear hHeld2
          (try simp only [oq68_9_4, Act.put, List.setIfInBounds_toArray, List.set_cons_zero, List.set_cons_succ])
          refine AnyL_ready (rs := [5]) (by kernel_rfl) (by simp) ?_
          refine ReadyL.cons (o := oq68_9_5) rfl (fun K hK => ?_) ReadyL.nil
          delta oq68_9_5
          go_simp
          have hbs : w.heap.size ≤ V11.heap.size := WW.size
          have hc := plus_any D2 D6 _ _ d2 d6 q1 1 V11 XQ.num O6.num (by omega) (by omega)
          rw [← Q3.out] at hc
          refine hc.mono ?_
          clear hc
          rintro e V12 ⟨v, rfl, hv, hb⟩
          replace XB := XB.below hb
          replace XC := XC.below hb
          replace XR := XR.below hb
          replace XQ := XQ.below hb
          replace XV := XV.below hb
          replace OQ := OQ.below hb (Nat.le_refl _)
          replace OV := OV.below hb (Nat.le_refl _)
          replace O1 := O1.below hb (Nat.le_refl _)
          replace O2 := O2.below hb (Nat.le_refl _)
          replace O5 := O5.below hb (Nat.le_refl _)
          replace O6 := O6.below hb (Nat.le_refl _)
          replace WW := WW.trans (hb.mono WW.size)
          have sz12 := hb.size
          obtain ⟨D7, d7, rfl, ho⟩ := hv
          have O7 := ho.weak (b := w.heap.size) hbs
          clear ho
          clear hb hbs
          refine hK.out _ _ (⟨XQ.cell, XV.cell, XC.cell⟩) (fun hHeld2 => ?_)
          clear hK K hHeld
          have hHeld := hHeld2
          clear hHeld2
          (try simp only [oq68_9_5, Act.put, List.setIfInBounds_toArray, List.set_cons_zero, List.set_cons_succ])
          refine AnyL_ready (rs := [6]) (by kernel_rfl) (by simp) ?_
          refine ReadyL.late (o := oq68_9_6) rfl (by rfl) (fun K hK => ?_) ReadyL.nil
          delta oq68_9_6
          have fz := XV.1.frozen 0
          have cz := XV.cell
          have lz := XV.lt
          go_simp
          have XBn := XB.far (p := ⟨w.heap.size + 1 + 1 + 1 + 1, 0, none⟩) XV.1 XV.2.2 (by simp <;> omega) (.slice D5 (nw r3) d5)
          have XCn := XC.far (p := ⟨w.heap.size + 1 + 1 + 1 + 1, 0, none⟩) XV.1 XV.2.2 (by simp <;> omega) (.slice D5 (nw r3) d5)
          have XRn := XR.far (p := ⟨w.heap.size + 1 + 1 + 1 + 1, 0, none⟩) XV.1 XV.2.2 (by simp <;> omega) (.slice D5 (nw r3) d5)
          have XQn := XQ.far (p := ⟨w.heap.size + 1 + 1 + 1 + 1, 0, none⟩) XV.1 XV.2.2 (by simp <;> omega) (.slice D5 (nw r3) d5)
          have XVn := XV.set_ (A' := D5) (n' := (nw r3)) (c' := d5) (a' := r3) (.inr O5)
          have OQn := OQ.box (p := ⟨w.heap.size + 1 + 1 + 1 + 1, 0, none⟩) XV.1 (by decide) (.slice D5 (nw r3) d5)
          have OVn := OV.box (p := ⟨w.heap.size + 1 + 1 + 1 + 1, 0, none⟩) XV.1 (by decide) (.slice D5 (nw r3) d5)
          have O1n := O1.box (p := ⟨w.heap.size + 1 + 1 + 1 + 1, 0, none⟩) XV.1 (by decide) (.slice D5 (nw r3) d5)
          have O2n := O2.box (p := ⟨w.heap.size + 1 + 1 + 1 + 1, 0, none⟩) XV.1 (by decide) (.slice D5 (nw r3) d5)
          have O5n := O5.box (p := ⟨w.heap.size + 1 + 1 + 1 + 1, 0, none⟩) XV.1 (by decide) (.slice D5 (nw r3) d5)
          have O6n := O6.box (p := ⟨w.heap.size + 1 + 1 + 1 + 1, 0, none⟩) XV.1 (by decide) (.slice D5 (nw r3) d5)
          have O7n := O7.box (p := ⟨w.heap.size + 1 + 1 + 1 + 1, 0, none⟩) XV.1 (by decide) (.slice D5 (nw r3) d5)
          have WWn := WW.setCell (p := ⟨w.heap.size + 1 + 1 + 1 + 1, 0, none⟩) (by simp <;> omega) (.slice D5 (nw r3) d5)
          refine hK.out _ _ trivial (fun hHeld2 => ?_)
          clear hK K hHeld2 hHeld
          (try simp only [oq68_9_6, Act.put, List.setIfInBounds_toArray, List.set_cons_zero, List.set_cons_succ])
          generalize hV : V12.setCell ⟨w.heap.size + 1 + 1 + 1 + 1, 0, none⟩ (.slice D5 (nw r3) d5) = V13 at WWn XBn XCn XRn XQn XVn OQn OVn O1n O2n O5n O6n O7n ⊢
          clear hV fz cz lz WW XB XC XR XQ XV OQ OV O1 O2 O5 O6 O7
          have WW := WWn
          have XB := XBn
          have XC := XCn
          have XR := XRn
          have XQ := XQn
          have XV := XVn
          have OQ := OQn
          have OV := OVn
          have O1 := O1n
          have O2 := O2n
          have O5 := O5n
          have O6 := O6n
          have O7 := O7n
          clear WWn XBn XCn XRn XQn XVn OQn OVn O1n O2n O5n O6n O7n
          refine AnyL_ready (rs := [7]) (by kernel_rfl) (by simp) ?_
          refine ReadyL.late (o := oq68_9_7) rfl (by rfl) (fun K hK => ?_) ReadyL.nil
          delta oq68_9_7
          have fz := XQ.1.frozen 0
          have cz := XQ.cell
          have lz := XQ.lt
          go_simp
          have XBn := XB.far (p := ⟨w.heap.size + 1 + 1 + 1, 0, none⟩) XQ.1 XQ.2.2 (by simp <;> omega) (.slice D7 (nw q3) d7)
          have XCn := XC.far (p := ⟨w.heap.size + 1 + 1 + 1, 0, none⟩) XQ.1 XQ.2.2 (by simp <;> omega) (.slice D7 (nw q3) d7)
          have XRn := XR.far (p := ⟨w.heap.size + 1 + 1 + 1, 0, none⟩) XQ.1 XQ.2.2 (by simp <;> omega) (.slice D7 (nw q3) d7)
          have XVn := XV.far (p := ⟨w.heap.size + 1 + 1 + 1, 0, none⟩) XQ.1 XQ.2.2 (by simp <;> omega) (.slice D7 (nw q3) d7)
          have XQn := XQ.set_ (A' := D7) (n' := (nw q3)) (c' := d7) (a' := q3) (.inr O7)
          have OQn := OQ.box (p := ⟨w.heap.size + 1 + 1 + 1, 0, none⟩) XQ.1 (by decide) (.slice D7 (nw q3) d7)
          have OVn := OV.box (p := ⟨w.heap.size + 1 + 1 + 1, 0, none⟩) XQ.1 (by decide) (.slice D7 (nw q3) d7)
          have O1n := O1.box (p := ⟨w.heap.size + 1 + 1 + 1, 0, none⟩) XQ.1 (by decide) (.slice D7 (nw q3) d7)
          have O2n := O2.box (p := ⟨w.heap.size + 1 + 1 + 1, 0, none⟩) XQ.1 (by decide) (.slice D7 (nw q3) d7)
          have O5n := O5.box (p := ⟨w.heap.size + 1 + 1 + 1, 0, none⟩) XQ.1 (by decide) (.slice D7 (nw q3) d7)
          have O6n := O6.box (p := ⟨w.heap.size + 1 + 1 + 1, 0, none⟩) XQ.1 (by decide) (.slice D7 (nw q3) d7)
          have O7n := O7.box (p := ⟨w.heap.size + 1 + 1 + 1, 0, none⟩) XQ.1 (by decide) (.slice D7 (nw q3) d7)
          have WWn := WW.setCell (p := ⟨w.heap.size + 1 + 1 + 1, 0, none⟩) (by simp <;> omega) (.slice D7 (nw q3) d7)
          refine hK.out _ _ trivial (fun hHeld2 => ?_)
          clear hK K hHeld2
          (try simp only [oq68_9_7, Act.put, List.setIfInBounds_toArray, List.set_cons_zero, List.set_cons_succ])
          generalize hV : V13.setCell ⟨w.heap.size + 1 + 1 + 1, 0, none⟩ (.slice D7 (nw q3) d7) = V14 at WWn XBn XCn XRn XQn XVn OQn OVn O1n O2n O5n O6n O7n ⊢
          clear hV fz cz lz WW XB XC XR XQ XV OQ OV O1 O2 O5 O6 O7
          have WW := WWn
          have XB := XBn
          have XC := XCn
          have XR := XRn
          have XQ := XQn
          have XV := XVn
          have OQ := OQn
          have OV := OVn
          have O1 := O1n
          have O2 := O2n
          have O5 := O5n
          have O6 := O6n
          have O7 := O7n
          clear WWn XBn XCn XRn XQn XVn OQn OVn O1n O2n O5n O6n O7n
          refine AnyL_done (by kernel_rfl) ?_ _
          have kXB := XB.cell
          have zXB := XB.lt
          have kXC := XC.cell
          have zXC := XC.lt
          have kXR := XR.cell
          have zXR := XR.lt
          have kXQ := XQ.cell
          have zXQ := XQ.lt
          have kXV := XV.cell
          have zXV := XV.lt
          go_wp2_with fail
          go_roundw
          case rel => exact ⟨j, q3, r3, ((j : Int) - 1), D7, D5, d7, d5, by omega, by go_num, by omega, H2.out, H3.out, WW, XB, XC, XR, XQ, XV, O7, O5⟩
          case measure => simp [intOf] <;> omega
      · have HB := hid hbt
        obtain ⟨r2, hr2⟩ : ∃ x, x = r1 + 1 := ⟨_, rfl⟩
        have R2 := hid hr2
        have nwr2 : nw r2 ≤ 72 := by rw [hr2]; exact nw_sum nwr1 (by omega)
        clear hr2
        have HB2 : Hid (b / 2 ^ j = 2 * (b / 2 ^ (j + 1)) + 1) := half_yes hbt
        have HR2 : Hid (r2 = b / 2 ^ (j + 1) % m + b / 2 ^ (j + 1) % m + 1) := (show r2 = _ by rw [R2.out, R1.out, HR.out])
        clear hbt
        by_cases hcmp : r2 < m
        · have G1 : Hid (decide (r2 < m) = true) := decide_eq_true hcmp
          have HS := hid (over_lt HR2.out hcmp)
          have H2 : Hid (q1 = b / 2 ^ j / m) := (show q1 = _ by rw [HB2.out, HS.out.1, Q1.out, HQ.out])
          have H3 : Hid (r2 = b / 2 ^ j % m) := (show r2 = _ by rw [HB2.out, HS.out.2])
          clear hcmp HS
          go_wp2_with fail
          have WWd := WW.drew
          have XBd := XB.drew
          have XCd := XC.drew
          have XRd := XR.drew
          have XQd := XQ.drew
          have XVd := XV.drew
          have OQd := OQ.drew
          have OVd := OV.drew
          have hst : (fun w' => w'.cell? ⟨w.heap.size + 1 + 1 + 1, 0, none⟩ = some (.slice Q (nw q) qc) ∧ w'.cell? ⟨w.heap.size + 1 + 1 + 1 + 1, 0, none⟩ = some (.slice R (nw r) rc)) wr.drew := ⟨XQ.cell, XV.cell⟩
          clear WW kXB zXB kXC zXC kXR zXR kXQ zXQ kXV zXV XB XC XR XQ XV OQ OV
          have qq0 := XVd.lt
          refine region_L 6 (fun w' => w'.cell? ⟨w.heap.size + 1 + 1 + 1, 0, none⟩ = some (.slice Q (nw q) qc) ∧ w'.cell? ⟨w.heap.size + 1 + 1 + 1 + 1, 0, none⟩ = some (.slice R (nw r) rc)) (by kernel_rfl) hst (fun hHeld => ?_)
          clear hst
          generalize hV : wr.drew = U1x0 at hHeld WWd qq0 XBd XCd XRd XQd XVd OQd OVd ⊢
          clear hV
          have WW := WWd
          have XB := XBd
          have XC := XCd
          have XR := XRd
          have XQ := XQd
          have XV := XVd
          have OQ := OQd
          have OV := OVd
          clear WWd XBd XCd XRd XQd XVd OQd OVd
          refine AnyL_take (i := 0) (oi := oq68_5_0) (v := ?_) rfl (by kernel_rfl) (by kernel_rfl) (by kernel_rfl) (by kernel_rfl) (fun _ _ _ h => h) (Or.inl ⟨by rfl, ?_⟩) (by assumption) ?_
          rotate_left
          · (delta oq68_5_0; intro ws hSw; (try dsimp only at hSw); (try go_simp); (try with_reducible rfl))
          (try simp only [oq68_5_0, Act.put, List.setIfInBounds_toArray, List.set_cons_zero, List.set_cons_succ])
          refine AnyL_take (i := 1) (oi := oq68_5_1) (v := ?_) rfl (by kernel_rfl) (by kernel_rfl) (by kernel_rfl) (by kernel_rfl) (fun _ _ _ h => h) (Or.inl ⟨by rfl, ?_⟩) (by assumption) ?_
          rotate_left
          · (delta oq68_5_1; intro ws hSw; (try dsimp only at hSw); (try go_simp); (try with_reducible rfl))
          (try simp only [oq68_5_1, Act.put, List.setIfInBounds_toArray, List.set_cons_zero, List.set_cons_succ])
          refine AnyL_take (i := 3) (oi := oq68_5_3) (v := ?_) rfl (by kernel_rfl) (by kernel_rfl) (by kernel_rfl) (by kernel_rfl) (fun _ _ _ h => h) (Or.inl ⟨by rfl, ?_⟩) (by assumption) ?_
          rotate_left
          · (delta oq68_5_3; intro ws hSw; (try dsimp only at hSw); (try go_simp); (try with_reducible rfl))
          (try simp only [oq68_5_3, Act.put, List.setIfInBounds_toArray, List.set_cons_zero, List.set_cons_succ])
          refine AnyL_take (i := 4) (oi := oq68_5_4) (v := ?_) rfl (by kernel_rfl) (by kernel_rfl) (by kernel_rfl) (by kernel_rfl) (fun _ _ _ h => h) (Or.inl ⟨by rfl, ?_⟩) (by assumption) ?_
          rotate_left
          · (delta oq68_5_4; intro ws hSw; (try dsimp only at hSw); (try go_simp); (try with_reducible rfl))
          (try simp only [oq68_5_4, Act.put, List.setIfInBounds_toArray, List.set_cons_zero, List.set_cons_succ])
          refine AnyL_ready (rs := [2]) (by kernel_rfl) (by simp) ?_
          refine ReadyL.cons (o := oq68_5_2) rfl (fun K hK => ?_) ReadyL.nil
          delta oq68_5_2
          go_simp
          have hbs : w.heap.size ≤ U1x0.heap.size := WW.size
          have hc := plus_any R R _ _ rc rc r r U1x0 XV.num XV.num (by omega) (by omega)
          rw [← R1.out] at hc
          refine hc.mono ?_
          clear hc
          rintro e V3 ⟨v, rfl, hv, hb⟩
          replace XB := XB.below hb
          replace XC := XC.below hb
          replace XR := XR.below hb
          replace XQ := XQ.below hb
          replace XV := XV.below hb
          replace OQ := OQ.below hb (Nat.le_refl _)
          replace OV := OV.below hb (Nat.le_refl _)
          replace WW := WW.trans (hb.mono WW.size)
          have sz3 := hb.size
          obtain ⟨D1, d1, rfl, ho⟩ := hv
          have O1 := ho.weak (b := w.heap.size) hbs
          clear ho
          clear hb hbs
          refine hK.out _ _ (⟨XQ.cell, XV.cell⟩) (fun hHeld2 => ?_)
          clear hK K hHeld
          have hHeld := hHeld2
          clear hHeld2
          (try simp only [oq68_5_2, Act.put, List.setIfInBounds_toArray, List.set_cons_zero, List.set_cons_succ])
          refine AnyL_ready (rs := [5]) (by kernel_rfl) (by simp) ?_
          refine ReadyL.cons (o := oq68_5_5) rfl (fun K hK => ?_) ReadyL.nil
          delta oq68_5_5
          go_simp
          have hbs : w.heap.size ≤ V3.heap.size := WW.size
          have hc := plus_any Q Q _ _ qc qc q q V3 XQ.num XQ.num (by omega) (by omega)
          rw [← Q1.out] at hc
          refine hc.mono ?_
          clear hc
          rintro e V4 ⟨v, rfl, hv, hb⟩
          replace XB := XB.below hb
          replace XC := XC.below hb
          replace XR := XR.below hb
          replace XQ := XQ.below hb
          replace XV := XV.below hb
          replace OQ := OQ.below hb (Nat.le_refl _)
          replace OV := OV.below hb (Nat.le_refl _)
          replace O1 := O1.below hb (Nat.le_refl _)
          replace WW := WW.trans (hb.mono WW.size)
          have sz4 := hb.size
          obtain ⟨D2, d2, rfl, ho⟩ := hv
          have O2 := ho.weak (b := w.heap.size) hbs
          clear ho
          clear hb hbs
          refine hK.out _ _ (⟨XQ.cell, XV.cell⟩) (fun hHeld2 => ?_)
          clear hK K hHeld
          have hHeld := hHeld2
          clear hHeld2
          (try simp only [oq68_5_5, Act.put, List.setIfInBounds_toArray, List.set_cons_zero, List.set_cons_succ])
          refine AnyL_ready (rs := [6]) (by kernel_rfl) (by simp) ?_
          refine ReadyL.late (o := oq68_5_6) rfl (by rfl) (fun K hK => ?_) ReadyL.nil
          delta oq68_5_6
          have fz := XV.1.frozen 0
          have cz := XV.cell
          have lz := XV.lt
          go_simp
          have XBn := XB.far (p := ⟨w.heap.size + 1 + 1 + 1 + 1, 0, none⟩) XV.1 XV.2.2 (by simp <;> omega) (.slice D1 (nw r1) d1)
          have XCn := XC.far (p := ⟨w.heap.size + 1 + 1 + 1 + 1, 0, none⟩) XV.1 XV.2.2 (by simp <;> omega) (.slice D1 (nw r1) d1)
          have XRn := XR.far (p := ⟨w.heap.size + 1 + 1 + 1 + 1, 0, none⟩) XV.1 XV.2.2 (by simp <;> omega) (.slice D1 (nw r1) d1)
          have XQn := XQ.far (p := ⟨w.heap.size + 1 + 1 + 1 + 1, 0, none⟩) XV.1 XV.2.2 (by simp <;> omega) (.slice D1 (nw r1) d1)
          have XVn := XV.set_ (A' := D1) (n' := (nw r1)) (c' := d1) (a' := r1) (.inr O1)
          have OQn := OQ.box (p := ⟨w.heap.size + 1 + 1 + 1 + 1, 0, none⟩) XV.1 (by decide) (.slice D1 (nw r1) d1)
          have OVn := OV.box (p := ⟨w.heap.size + 1 + 1 + 1 + 1, 0, none⟩) XV.1 (by decide) (.slice D1 (nw r1) d1)
          have O1n := O1.box (p := ⟨w.heap.size + 1 + 1 + 1 + 1, 0, none⟩) XV.1 (by decide) (.slice D1 (nw r1) d1)
          have O2n := O2.box (p := ⟨w.heap.size + 1 + 1 + 1 + 1, 0, none⟩) XV.1 (by decide) (.slice D1 (nw r1) d1)
          have WWn := WW.setCell (p := ⟨w.heap.size + 1 + 1 + 1 + 1, 0, none⟩) (by simp <;> omega) (.slice D1 (nw r1) d1)
          refine hK.out _ _ trivial (fun hHeld2 => ?_)
          clear hK K hHeld2 hHeld
          (try simp only [oq68_5_6, Act.put, List.setIfInBounds_toArray, List.set_cons_zero, List.set_cons_succ])
          generalize hV : V4.setCell ⟨w.heap.size + 1 + 1 + 1 + 1, 0, none⟩ (.slice D1 (nw r1) d1) = V5 at WWn XBn XCn XRn XQn XVn OQn OVn O1n O2n ⊢
          clear hV fz cz lz WW XB XC XR XQ XV OQ OV O1 O2
          have WW := WWn
          have XB := XBn
          have XC := XCn
          have XR := XRn
          have XQ := XQn
          have XV := XVn
          have OQ := OQn
          have OV := OVn
          have O1 := O1n
          have O2 := O2n
          clear WWn XBn XCn XRn XQn XVn OQn OVn O1n O2n
          refine AnyL_ready (rs := [7]) (by kernel_rfl) (by simp) ?_
          refine ReadyL.late (o := oq68_5_7) rfl (by rfl) (fun K hK => ?_) ReadyL.nil
          delta oq68_5_7
          have fz := XQ.1.frozen 0
          have cz := XQ.cell
          have lz := XQ.lt
          go_simp
          have XBn := XB.far (p := ⟨w.heap.size + 1 + 1 + 1, 0, none⟩) XQ.1 XQ.2.2 (by simp <;> omega) (.slice D2 (nw q1) d2)
          have XCn := XC.far (p := ⟨w.heap.size + 1 + 1 + 1, 0, none⟩) XQ.1 XQ.2.2 (by simp <;> omega) (.slice D2 (nw q1) d2)
          have XRn := XR.far (p := ⟨w.heap.size + 1 + 1 + 1, 0, none⟩) XQ.1 XQ.2.2 (by simp <;> omega) (.slice D2 (nw q1) d2)
          have XVn := XV.far (p := ⟨w.heap.size + 1 + 1 + 1, 0, none⟩) XQ.1 XQ.2.2 (by simp <;> omega) (.slice D2 (nw q1) d2)
          have XQn := XQ.set_ (A' := D2) (n' := (nw q1)) (c' := d2) (a' := q1) (.inr O2)
          have OQn := OQ.box (p := ⟨w.heap.size + 1 + 1 + 1, 0, none⟩) XQ.1 (by decide) (.slice D2 (nw q1) d2)
          have OVn := OV.box (p := ⟨w.heap.size + 1 + 1 + 1, 0, none⟩) XQ.1 (by decide) (.slice D2 (nw q1) d2)
          have O1n := O1.box (p := ⟨w.heap.size + 1 + 1 + 1, 0, none⟩) XQ.1 (by decide) (.slice D2 (nw q1) d2)
          have O2n := O2.box (p := ⟨w.heap.size + 1 + 1 + 1, 0, none⟩) XQ.1 (by decide) (.slice D2 (nw q1) d2)
          have WWn := WW.setCell (p := ⟨w.heap.size + 1 + 1 + 1, 0, none⟩) (by simp <;> omega) (.slice D2 (nw q1) d2)
          refine hK.out _ _ trivial (fun hHeld2 => ?_)
          clear hK K hHeld2
          (try simp only [oq68_5_7, Act.put, List.setIfInBounds_toArray, List.set_cons_zero, List.set_cons_succ])
          generalize hV : V5.setCell ⟨w.heap.size + 1 + 1 + 1, 0, none⟩ (.slice D2 (nw q1) d2) = V6 at WWn XBn XCn XRn XQn XVn OQn OVn O1n O2n ⊢
          clear hV fz cz lz WW XB XC XR XQ XV OQ OV O1 O2
          have WW := WWn
          have XB := XBn
          have XC := XCn
          have XR := XRn
          have XQ := XQn
          have XV := XVn
          have OQ := OQn
          have OV := OVn
          have O1 := O1n
          have O2 := O2n
          clear WWn XBn XCn XRn XQn XVn OQn OVn O1n O2n
          refine AnyL_done (by kernel_rfl) ?_ _
          have kXB := XB.cell
          have zXB := XB.lt
          have kXC := XC.cell
          have zXC := XC.lt
          have kXR := XR.cell
          have zXR := XR.lt
          have kXQ := XQ.cell
          have zXQ := XQ.lt
          have kXV := XV.cell
          have zXV := XV.lt
          go_wp2_with fail
          have hbs : w.heap.size ≤ V6.heap.size := WW.size
          have hc := rbit_any B' d b j V6 XB.num (by omega) (by omega)
          rw [HB.out] at hc
          refine hc.mono ?_
          clear hc
          rintro e V7 ⟨rfl, hb⟩
          clear kXB zXB kXC zXC kXR zXR kXQ zXQ kXV zXV
          replace XB := XB.below hb
          replace XC := XC.below hb
          replace XR := XR.below hb
          replace XQ := XQ.below hb
          replace XV := XV.below hb
          replace OQ := OQ.below hb (Nat.le_refl _)
          replace OV := OV.below hb (Nat.le_refl _)
          replace O1 := O1.below hb (Nat.le_refl _)
          replace O2 := O2.below hb (Nat.le_refl _)
          replace WW := WW.trans (hb.mono WW.size)
          have kXB := XB.cell
          have zXB := XB.lt
          have kXC := XC.cell
          have zXC := XC.lt
          have kXR := XR.cell
          have zXR := XR.lt
          have kXQ := XQ.cell
          have zXQ := XQ.lt
          have kXV := XV.cell
          have zXV := XV.lt
          clear hb hbs
          go_wp2_with fail
          have WWd := WW.drew
          have XBd := XB.drew
          have XCd := XC.drew
          have XRd := XR.drew
          have XQd := XQ.drew
          have XVd := XV.drew
          have OQd := OQ.drew
          have OVd := OV.drew
          have O1d := O1.drew
          have O2d := O2.drew
          have hst : (fun w' => w'.cell? ⟨w.heap.size + 1 + 1 + 1 + 1, 0, none⟩ = some (.slice D1 (nw r1) d1)) V7.drew := XV.cell
          clear WW kXB zXB kXC zXC kXR zXR kXQ zXQ kXV zXV XB XC XR XQ XV OQ OV O1 O2
          have qq0 := XVd.lt
          refine region_L 3 (fun w' => w'.cell? ⟨w.heap.size + 1 + 1 + 1 + 1, 0, none⟩ = some (.slice D1 (nw r1) d1)) (by kernel_rfl) hst (fun hHeld => ?_)
          clear hst
          generalize hV : V7.drew = U7x0 at hHeld WWd qq0 XBd XCd XRd XQd XVd OQd OVd O1d O2d ⊢
          clear hV
          have WW := WWd
          have XB := XBd
          have XC := XCd
          have XR := XRd
          have XQ := XQd
          have XV := XVd
          have OQ := OQd
          have OV := OVd
          have O1 := O1d
          have O2 := O2d
          clear WWd XBd XCd XRd XQd XVd OQd OVd O1d O2d
          refine AnyL_take (i := 0) (oi := oq68_7_0) (v := ?_) rfl (by kernel_rfl) (by kernel_rfl) (by kernel_rfl) (by kernel_rfl) (fun _ _ _ h => h) (Or.inl ⟨by rfl, ?_⟩) (by assumption) ?_
          rotate_left
          · (delta oq68_7_0; intro ws hSw; (try dsimp only at hSw); (try go_simp); (try with_reducible rfl))
          (try simp only [oq68_7_0, Act.put, List.setIfInBounds_toArray, List.set_cons_zero, List.set_cons_succ])
          refine AnyL_ready (rs := [1]) (by kernel_rfl) (by simp) ?_
          refine ReadyL.cons (o := oq68_7_1) rfl (fun K hK => ?_) ReadyL.nil
          delta oq68_7_1
          go_simp
          have hbs : w.heap.size ≤ U7x0.heap.size := WW.size
          have hc := of3_1 U7x0
          refine hc.mono ?_
          clear hc
          rintro e V9 ⟨v, rfl, hv, hb⟩
          replace XB := XB.below hb
          replace XC := XC.below hb
          replace XR := XR.below hb
          replace XQ := XQ.below hb
          replace XV := XV.below hb
          replace OQ := OQ.below hb (Nat.le_refl _)
          replace OV := OV.below hb (Nat.le_refl _)
          replace O1 := O1.below hb (Nat.le_refl _)
          replace O2 := O2.below hb (Nat.le_refl _)
          replace WW := WW.trans (hb.mono WW.size)
          have sz9 := hb.size
          obtain ⟨D3, d3, rfl, ho⟩ := hv
          have O3 := ho.weak (b := w.heap.size) hbs
          clear ho
          clear hb hbs
          refine hK.out _ _ (XV.cell) (fun hHeld2 => ?_)
          clear hK K hHeld
          have hHeld := hHeld2
          clear hHeld2
          (try simp only [oq68_7_1, Act.put, List.setIfInBounds_toArray, List.set_cons_zero, List.set_cons_succ])
          refine AnyL_ready (rs := [2]) (by kernel_rfl) (by simp) ?_
          refine ReadyL.cons (o := oq68_7_2) rfl (fun K hK => ?_) ReadyL.nil
          delta oq68_7_2
          go_simp
          have hbs : w.heap.size ≤ V9.heap.size := WW.size
          have hc := plus_any D1 D3 _ _ d1 d3 r1 1 V9 XV.num O3.num (by omega) (by omega)
          rw [← R2.out] at hc
          refine hc.mono ?_
          clear hc
          rintro e V10 ⟨v, rfl, hv, hb⟩
          replace XB := XB.below hb
          replace XC := XC.below hb
          replace XR := XR.below hb
          replace XQ := XQ.below hb
          replace XV := XV.below hb
          replace OQ := OQ.below hb (Nat.le_refl _)
          replace OV := OV.below hb (Nat.le_refl _)
          replace O1 := O1.below hb (Nat.le_refl _)
          replace O2 := O2.below hb (Nat.le_refl _)
          replace O3 := O3.below hb (Nat.le_refl _)
          replace WW := WW.trans (hb.mono WW.size)
          have sz10 := hb.size
          obtain ⟨D4, d4, rfl, ho⟩ := hv
          have O4 := ho.weak (b := w.heap.size) hbs
          clear ho
          clear hb hbs
          refine hK.out _ _ (XV.cell) (fun hHeld2 => ?_)
          clear hK K hHeld
          have hHeld := hHeld2
          clear hHeld2
          (try simp only [oq68_7_2, Act.put, List.setIfInBounds_toArray, List.set_cons_zero, List.set_cons_succ])
          refine AnyL_ready (rs := [3]) (by kernel_rfl) (by simp) ?_
          refine ReadyL.late (o := oq68_7_3) rfl (by rfl) (fun K hK => ?_) ReadyL.nil
          delta oq68_7_3
          have fz := XV.1.frozen 0
          have cz := XV.cell
          have lz := XV.lt
          go_simp
          have XBn := XB.far (p := ⟨w.heap.size + 1 + 1 + 1 + 1, 0, none⟩) XV.1 XV.2.2 (by simp <;> omega) (.slice D4 (nw r2) d4)
          have XCn := XC.far (p := ⟨w.heap.size + 1 + 1 + 1 + 1, 0, none⟩) XV.1 XV.2.2 (by simp <;> omega) (.slice D4 (nw r2) d4)
          have XRn := XR.far (p := ⟨w.heap.size + 1 + 1 + 1 + 1, 0, none⟩) XV.1 XV.2.2 (by simp <;> omega) (.slice D4 (nw r2) d4)
          have XQn := XQ.far (p := ⟨w.heap.size + 1 + 1 + 1 + 1, 0, none⟩) XV.1 XV.2.2 (by simp <;> omega) (.slice D4 (nw r2) d4)
          have XVn := XV.set_ (A' := D4) (n' := (nw r2)) (c' := d4) (a' := r2) (.inr O4)
          have OQn := OQ.box (p := ⟨w.heap.size + 1 + 1 + 1 + 1, 0, none⟩) XV.1 (by decide) (.slice D4 (nw r2) d4)
          have OVn := OV.box (p := ⟨w.heap.size + 1 + 1 + 1 + 1, 0, none⟩) XV.1 (by decide) (.slice D4 (nw r2) d4)
          have O1n := O1.box (p := ⟨w.heap.size + 1 + 1 + 1 + 1, 0, none⟩) XV.1 (by decide) (.slice D4 (nw r2) d4)
          have O2n := O2.box (p := ⟨w.heap.size + 1 + 1 + 1 + 1, 0, none⟩) XV.1 (by decide) (.slice D4 (nw r2) d4)
          have O3n := O3.box (p := ⟨w.heap.size + 1 + 1 + 1 + 1, 0, none⟩) XV.1 (by decide) (.slice D4 (nw r2) d4)
          have O4n := O4.box (p := ⟨w.heap.size + 1 + 1 + 1 + 1, 0, none⟩) XV.1 (by decide) (.slice D4 (nw r2) d4)
          have WWn := WW.setCell (p := ⟨w.heap.size + 1 + 1 + 1 + 1, 0, none⟩) (by simp <;> omega) (.slice D4 (nw r2) d4)
          refine hK.out _ _ trivial (fun hHeld2 => ?_)
          clear hK K hHeld2 hHeld
          (try simp only [oq68_7_3, Act.put, List.setIfInBounds_toArray, List.set_cons_zero, List.set_cons_succ])
          generalize hV : V10.setCell ⟨w.heap.size + 1 + 1 + 1 + 1, 0, none⟩ (.slice D4 (nw r2) d4) = V11 at WWn XBn XCn XRn XQn XVn OQn OVn O1n O2n O3n O4n ⊢
          clear hV fz cz lz WW XB XC XR XQ XV OQ OV O1 O2 O3 O4
          have WW := WWn
          have XB := XBn
          have XC := XCn
          have XR := XRn
          have XQ := XQn
          have XV := XVn
          have OQ := OQn
          have OV := OVn
          have O1 := O1n
          have O2 := O2n
          have O3 := O3n
          have O4 := O4n
          clear WWn XBn XCn XRn XQn XVn OQn OVn O1n O2n O3n O4n
          refine AnyL_done (by kernel_rfl) ?_ _
          have kXB := XB.cell
          have zXB := XB.lt
          have kXC := XC.cell
          have zXC := XC.lt
          have kXR := XR.cell
          have zXR := XR.lt
          have kXQ := XQ.cell
          have zXQ := XQ.lt
          have kXV := XV.cell
          have zXV := XV.lt
          go_wp2_with fail
          have hbs : w.heap.size ≤ V11.heap.size := WW.size
          have hc := less3_any D4 C' d4 p r2 m V11 XV.num XC.num (by omega) (by omega)
          rw [G1.out] at hc
          refine hc.mono ?_
          clear hc
          rintro e V12 ⟨rfl, hb⟩
          clear kXB zXB kXC zXC kXR zXR kXQ zXQ kXV zXV
          replace XB := XB.below hb
          replace XC := XC.below hb
          replace XR := XR.below hb
          replace XQ := XQ.below hb
          replace XV := XV.below hb
          replace OQ := OQ.below hb (Nat.le_refl _)
          replace OV := OV.below hb (Nat.le_refl _)
          replace O1 := O1.below hb (Nat.le_refl _)
          replace O2 := O2.below hb (Nat.le_refl _)
          replace O3 := O3.below hb (Nat.le_refl _)
          replace O4 := O4.below hb (Nat.le_refl _)
          replace WW := WW.trans (hb.mono WW.size)
          have kXB := XB.cell
          have zXB := XB.lt
          have kXC := XC.cell
          have zXC := XC.lt
          have kXR := XR.cell
          have zXR := XR.lt
          have kXQ := XQ.cell
          have zXQ := XQ.lt
          have kXV := XV.cell
          have zXV := XV.lt
          clear hb hbs
          go_wp2_with fail
          go_roundw
          case rel => exact ⟨j, q1, r2, ((j : Int) - 1), D2, D4, d2, d4, by omega, by go_num, by omega, H2.out, H3.out, WW, XB, XC, XR, XQ, XV, O2, O4⟩
          case measure => simp [intOf] <;> omega
        · have G1 : Hid (decide (r2 < m) = false) := decide_eq_false hcmp
          have HS := hid (over_ge HM0.out (by omega) HR2.out hcmp)
          obtain ⟨q3, hq3⟩ : ∃ x, x = q1 + 1 := ⟨_, rfl⟩
          have Q3 := hid hq3
          obtain ⟨r3, hr3⟩ : ∃ x, x = r2 - m := ⟨_, rfl⟩
          have R3 := hid hr3
          have H2 : Hid (q3 = b / 2 ^ j / m) := (show q3 = _ by rw [hq3, HB2.out, HS.out.1, Q1.out, HQ.out])
          have H3 : Hid (r3 = b / 2 ^ j % m) := (show r3 = _ by rw [hr3, HB2.out, HS.out.2])
          have hle : m ≤ r2 := by omega
          clear hq3 hr3
          clear hcmp HS
          go_wp2_with fail
          have WWd := WW.drew
          have XBd := XB.drew
          have XCd := XC.drew
          have XRd := XR.drew
          have XQd := XQ.drew
          have XVd := XV.drew
          have OQd := OQ.drew
          have OVd := OV.drew
          have hst : (fun w' => w'.cell? ⟨w.heap.size + 1 + 1 + 1, 0, none⟩ = some (.slice Q (nw q) qc) ∧ w'.cell? ⟨w.heap.size + 1 + 1 + 1 + 1, 0, none⟩ = some (.slice R (nw r) rc)) wr.drew := ⟨XQ.cell, XV.cell⟩
          clear WW kXB zXB kXC zXC kXR zXR kXQ zXQ kXV zXV XB XC XR XQ XV OQ OV
          have qq0 := XVd.lt
          refine region_L 6 (fun w' => w'.cell? ⟨w.heap.size + 1 + 1 + 1, 0, none⟩ = some (.slice Q (nw q) qc) ∧ w'.cell? ⟨w.heap.size + 1 + 1 + 1 + 1, 0, none⟩ = some (.slice R (nw r) rc)) (by kernel_rfl) hst (fun hHeld => ?_)
          clear hst
          generalize hV : wr.drew = U1x0 at hHeld WWd qq0 XBd XCd XRd XQd XVd OQd OVd ⊢
          clear hV
          have WW := WWd
          have XB := XBd
          have XC := XCd
          have XR := XRd
          have XQ := XQd
          have XV := XVd
          have OQ := OQd
          have OV := OVd
          clear WWd XBd XCd XRd XQd XVd OQd OVd
          refine AnyL_take (i := 0) (oi := oq68_5_0) (v := ?_) rfl (by kernel_rfl) (by kernel_rfl) (by kernel_rfl) (by kernel_rfl) (fun _ _ _ h => h) (Or.inl ⟨by rfl, ?_⟩) (by assumption) ?_
          rotate_left
          · (delta oq68_5_0; intro ws hSw; (try dsimp only at hSw); (try go_simp); (try with_reducible rfl))
          (try simp only [oq68_5_0, Act.put, List.setIfInBounds_toArray, List.set_cons_zero, List.set_cons_succ])
          refine AnyL_take (i := 1) (oi := oq68_5_1) (v := ?_) rfl (by kernel_rfl) (by kernel_rfl) (by kernel_rfl) (by kernel_rfl) (fun _ _ _ h => h) (Or.inl ⟨by rfl, ?_⟩) (by assumption) ?_
          rotate_left
          · (delta oq68_5_1; intro ws hSw; (try dsimp only at hSw); (try go_simp); (try with_reducible rfl))
          (try simp only [oq68_5_1, Act.put, List.setIfInBounds_toArray, List.set_cons_zero, List.set_cons_succ])
          refine AnyL_take (i := 3) (oi := oq68_5_3) (v := ?_) rfl (by kernel_rfl) (by kernel_rfl) (by kernel_rfl) (by kernel_rfl) (fun _ _ _ h => h) (Or.inl ⟨by rfl, ?_⟩) (by assumption) ?_
          rotate_left
          · (delta oq68_5_3; intro ws hSw; (try dsimp only at hSw); (try go_simp); (try with_reducible rfl))
          (try simp only [oq68_5_3, Act.put, List.setIfInBounds_toArray, List.set_cons_zero, List.set_cons_succ])
          refine AnyL_take (i := 4) (oi := oq68_5_4) (v := ?_) rfl (by kernel_rfl) (by kernel_rfl) (by kernel_rfl) (by kernel_rfl) (fun _ _ _ h => h) (Or.inl ⟨by rfl, ?_⟩) (by assumption) ?_
          rotate_left
          · (delta oq68_5_4; intro ws hSw; (try dsimp only at hSw); (try go_simp); (try with_reducible rfl))
          (try simp only [oq68_5_4, Act.put, List.setIfInBounds_toArray, List.set_cons_zero, List.set_cons_succ])
          refine AnyL_ready (rs := [2]) (by kernel_rfl) (by simp) ?_
          refine ReadyL.cons (o := oq68_5_2) rfl (fun K hK => ?_) ReadyL.nil
          delta oq68_5_2
          go_simp
          have hbs : w.heap.size ≤ U1x0.heap.size := WW.size
          have hc := plus_any R R _ _ rc rc r r U1x0 XV.num XV.num (by omega) (by omega)
          rw [← R1.out] at hc
          refine hc.mono ?_
          clear hc
          rintro e V3 ⟨v, rfl, hv, hb⟩
          replace XB := XB.below hb
          replace XC := XC.below hb
          replace XR := XR.below hb
          replace XQ := XQ.below hb
          replace XV := XV.below hb
          replace OQ := OQ.below hb (Nat.le_refl _)
          replace OV := OV.below hb (Nat.le_refl _)
          replace WW := WW.trans (hb.mono WW.size)
          have sz3 := hb.size
          obtain ⟨D1, d1, rfl, ho⟩ := hv
          have O1 := ho.weak (b := w.heap.size) hbs
          clear ho
          clear hb hbs
          refine hK.out _ _ (⟨XQ.cell, XV.cell⟩) (fun hHeld2 => ?_)
          clear hK K hHeld
          have hHeld := hHeld2
          clear hHeld2
          (try simp only [oq68_5_2, Act.put, List.setIfInBounds_toArray, List.set_cons_zero, List.set_cons_succ])
          refine AnyL_ready (rs := [5]) (by kernel_rfl) (by simp) ?_
          refine ReadyL.cons (o := oq68_5_5) rfl (fun K hK => ?_) ReadyL.nil
          delta oq68_5_5
          go_simp
          have hbs : w.heap.size ≤ V3.heap.size := WW.size
          have hc := plus_any Q Q _ _ qc qc q q V3 XQ.num XQ.num (by omega) (by omega)
          rw [← Q1.out] at hc
          refine hc.mono ?_
          clear hc
          rintro e V4 ⟨v, rfl, hv, hb⟩
          replace XB := XB.below hb
          replace XC := XC.below hb
          replace XR := XR.below hb
          replace XQ := XQ.below hb
          replace XV := XV.below hb
          replace OQ := OQ.below hb (Nat.le_refl _)
          replace OV := OV.below hb (Nat.le_refl _)
          replace O1 := O1.below hb (Nat.le_refl _)
          replace WW := WW.trans (hb.mono WW.size)
          have sz4 := hb.size
          obtain ⟨D2, d2, rfl, ho⟩ := hv
          have O2 := ho.weak (b := w.heap.size) hbs
          clear ho
          clear hb hbs
          refine hK.out _ _ (⟨XQ.cell, XV.cell⟩) (fun hHeld2 => ?_)
          clear hK K hHeld
          have hHeld := hHeld2
          clear hHeld2
          (try simp only [oq68_5_5, Act.put, List.setIfInBounds_toArray, List.set_cons_zero, List.set_cons_succ])
          refine AnyL_ready (rs := [6]) (by kernel_rfl) (by simp) ?_
          refine ReadyL.late (o := oq68_5_6) rfl (by rfl) (fun K hK => ?_) ReadyL.nil
          delta oq68_5_6
          have fz := XV.1.frozen 0
          have cz := XV.cell
          have lz := XV.lt
          go_simp
          have XBn := XB.far (p := ⟨w.heap.size + 1 + 1 + 1 + 1, 0, none⟩) XV.1 XV.2.2 (by simp <;> omega) (.slice D1 (nw r1) d1)
          have XCn := XC.far (p := ⟨w.heap.size + 1 + 1 + 1 + 1, 0, none⟩) XV.1 XV.2.2 (by simp <;> omega) (.slice D1 (nw r1) d1)
          have XRn := XR.far (p := ⟨w.heap.size + 1 + 1 + 1 + 1, 0, none⟩) XV.1 XV.2.2 (by simp <;> omega) (.slice D1 (nw r1) d1)
          have XQn := XQ.far (p := ⟨w.heap.size + 1 + 1 + 1 + 1, 0, none⟩) XV.1 XV.2.2 (by simp <;> omega) (.slice D1 (nw r1) d1)
          have XVn := XV.set_ (A' := D1) (n' := (nw r1)) (c' := d1) (a' := r1) (.inr O1)
          have OQn := OQ.box (p := ⟨w.heap.size + 1 + 1 + 1 + 1, 0, none⟩) XV.1 (by decide) (.slice D1 (nw r1) d1)
          have OVn := OV.box (p := ⟨w.heap.size + 1 + 1 + 1 + 1, 0, none⟩) XV.1 (by decide) (.slice D1 (nw r1) d1)
          have O1n := O1.box (p := ⟨w.heap.size + 1 + 1 + 1 + 1, 0, none⟩) XV.1 (by decide) (.slice D1 (nw r1) d1)
          have O2n := O2.box (p := ⟨w.heap.size + 1 + 1 + 1 + 1, 0, none⟩) XV.1 (by decide) (.slice D1 (nw r1) d1)
          have WWn := WW.setCell (p := ⟨w.heap.size + 1 + 1 + 1 + 1, 0, none⟩) (by simp <;> omega) (.slice D1 (nw r1) d1)
          refine hK.out _ _ trivial (fun hHeld2 => ?_)
          clear hK K hHeld2 hHeld
          (try simp only [oq68_5_6, Act.put, List.setIfInBounds_toArray, List.set_cons_zero, List.set_cons_succ])
          generalize hV : V4.setCell ⟨w.heap.size + 1 + 1 + 1 + 1, 0, none⟩ (.slice D1 (nw r1) d1) = V5 at WWn XBn XCn XRn XQn XVn OQn OVn O1n O2n ⊢
          clear hV fz cz lz WW XB XC XR XQ XV OQ OV O1 O2
          have WW := WWn
          have XB := XBn
          have XC := XCn
          have XR := XRn
          have XQ := XQn
          have XV := XVn
          have OQ := OQn
          have OV := OVn
          have O1 := O1n
          have O2 := O2n
          clear WWn XBn XCn XRn XQn XVn OQn OVn O1n O2n
          refine AnyL_ready (rs := [7]) (by kernel_rfl) (by simp) ?_
          refine ReadyL.late (o := oq68_5_7) rfl (by rfl) (fun K hK => ?_) ReadyL.nil
          delta oq68_5_7
          have fz := XQ.1.frozen 0
          have cz := XQ.cell
          have lz := XQ.lt
          go_simp
          have XBn := XB.far (p := ⟨w.heap.size + 1 + 1 + 1, 0, none⟩) XQ.1 XQ.2.2 (by simp <;> omega) (.slice D2 (nw q1) d2)
          have XCn := XC.far (p := ⟨w.heap.size + 1 + 1 + 1, 0, none⟩) XQ.1 XQ.2.2 (by simp <;> omega) (.slice D2 (nw q1) d2)
          have XRn := XR.far (p := ⟨w.heap.size + 1 + 1 + 1, 0, none⟩) XQ.1 XQ.2.2 (by simp <;> omega) (.slice D2 (nw q1) d2)
          have XVn := XV.far (p := ⟨w.heap.size + 1 + 1 + 1, 0, none⟩) XQ.1 XQ.2.2 (by simp <;> omega) (.slice D2 (nw q1) d2)
          have XQn := XQ.set_ (A' := D2) (n' := (nw q1)) (c' := d2) (a' := q1) (.inr O2)
          have OQn := OQ.box (p := ⟨w.heap.size + 1 + 1 + 1, 0, none⟩) XQ.1 (by decide) (.slice D2 (nw q1) d2)
          have OVn := OV.box (p := ⟨w.heap.size + 1 + 1 + 1, 0, none⟩) XQ.1 (by decide) (.slice D2 (nw q1) d2)
          have O1n := O1.box (p := ⟨w.heap.size + 1 + 1 + 1, 0, none⟩) XQ.1 (by decide) (.slice D2 (nw q1) d2)
          have O2n := O2.box (p := ⟨w.heap.size + 1 + 1 + 1, 0, none⟩) XQ.1 (by decide) (.slice D2 (nw q1) d2)
          have WWn := WW.setCell (p := ⟨w.heap.size + 1 + 1 + 1, 0, none⟩) (by simp <;> omega) (.slice D2 (nw q1) d2)
          refine hK.out _ _ trivial (fun hHeld2 => ?_)
          clear hK K hHeld2
          (try simp only [oq68_5_7, Act.put, List.setIfInBounds_toArray, List.set_cons_zero, List.set_cons_succ])
          generalize hV : V5.setCell ⟨w.heap.size + 1 + 1 + 1, 0, none⟩ (.slice D2 (nw q1) d2) = V6 at WWn XBn XCn XRn XQn XVn OQn OVn O1n O2n ⊢
          clear hV fz cz lz WW XB XC XR XQ XV OQ OV O1 O2
          have WW := WWn
          have XB := XBn
          have XC := XCn
          have XR := XRn
          have XQ := XQn
          have XV := XVn
          have OQ := OQn
          have OV := OVn
          have O1 := O1n
          have O2 := O2n
          clear WWn XBn XCn XRn XQn XVn OQn OVn O1n O2n
          refine AnyL_done (by kernel_rfl) ?_ _
          have kXB := XB.cell
          have zXB := XB.lt
          have kXC := XC.cell
          have zXC := XC.lt
          have kXR := XR.cell
          have zXR := XR.lt
          have kXQ := XQ.cell
          have zXQ := XQ.lt
          have kXV := XV.cell
          have zXV := XV.lt
          go_wp2_with fail
          have hbs : w.heap.size ≤ V6.heap.size := WW.size
          have hc := rbit_any B' d b j V6 XB.num (by omega) (by omega)
          rw [HB.out] at hc
          refine hc.mono ?_
          clear hc
          rintro e V7 ⟨rfl, hb⟩
          clear kXB zXB kXC zXC kXR zXR kXQ zXQ kXV zXV
          replace XB := XB.below hb
          replace XC := XC.below hb
          replace XR := XR.below hb
          replace XQ := XQ.below hb
          replace XV := XV.below hb
          replace OQ := OQ.below hb (Nat.le_refl _)
          replace OV := OV.below hb (Nat.le_refl _)
          replace O1 := O1.below hb (Nat.le_refl _)
          replace O2 := O2.below hb (Nat.le_refl _)
          replace WW := WW.trans (hb.mono WW.size)
          have kXB := XB.cell
          have zXB := XB.lt
          have kXC := XC.cell
          have zXC := XC.lt
          have kXR := XR.cell
          have zXR := XR.lt
          have kXQ := XQ.cell
          have zXQ := XQ.lt
          have kXV := XV.cell
          have zXV := XV.lt
          clear hb hbs
          go_wp2_with fail
          have WWd := WW.drew
          have XBd := XB.drew
          have XCd := XC.drew
          have XRd := XR.drew
          have XQd := XQ.drew
          have XVd := XV.drew
          have OQd := OQ.drew
          have OVd := OV.drew
          have O1d := O1.drew
          have O2d := O2.drew
          have hst : (fun w' => w'.cell? ⟨w.heap.size + 1 + 1 + 1 + 1, 0, none⟩ = some (.slice D1 (nw r1) d1)) V7.drew := XV.cell
          clear WW kXB zXB kXC zXC kXR zXR kXQ zXQ kXV zXV XB XC XR XQ XV OQ OV O1 O2
          have qq0 := XVd.lt
          refine region_L 3 (fun w' => w'.cell? ⟨w.heap.size + 1 + 1 + 1 + 1, 0, none⟩ = some (.slice D1 (nw r1) d1)) (by kernel_rfl) hst (fun hHeld => ?_)
          clear hst
          generalize hV : V7.drew = U7x0 at hHeld WWd qq0 XBd XCd XRd XQd XVd OQd OVd O1d O2d ⊢
          clear hV
          have WW := WWd
          have XB := XBd
          have XC := XCd
          have XR := XRd
          have XQ := XQd
          have XV := XVd
          have OQ := OQd
          have OV := OVd
          have O1 := O1d
          have O2 := O2d
          clear WWd XBd XCd XRd XQd XVd OQd OVd O1d O2d
          refine AnyL_take (i := 0) (oi := oq68_7_0) (v := ?_) rfl (by kernel_rfl) (by kernel_rfl) (by kernel_rfl) (by kernel_rfl) (fun _ _ _ h => h) (Or.inl ⟨by rfl, ?_⟩) (by assumption) ?_
          rotate_left
          · (delta oq68_7_0; intro ws hSw; (try dsimp only at hSw); (try go_simp); (try with_reducible rfl))
          (try simp only [oq68_7_0, Act.put, List.setIfInBounds_toArray, List.set_cons_zero, List.set_cons_succ])
          refine AnyL_ready (rs := [1]) (by kernel_rfl) (by simp) ?_
          refine ReadyL.cons (o := oq68_7_1) rfl (fun K hK => ?_) ReadyL.nil
          delta oq68_7_1
          go_simp
          have hbs : w.heap.size ≤ U7x0.heap.size := WW.size
          have hc := of3_1 U7x0
          refine hc.mono ?_
          clear hc
          rintro e V9 ⟨v, rfl, hv, hb⟩
          replace XB := XB.below hb
          replace XC := XC.below hb
          replace XR := XR.below hb
          replace XQ := XQ.below hb
          replace XV := XV.below hb
          replace OQ := OQ.below hb (Nat.le_refl _)
          replace OV := OV.below hb (Nat.le_refl _)
          replace O1 := O1.below hb (Nat.le_refl _)
          replace O2 := O2.below hb (Nat.le_refl _)
          replace WW := WW.trans (hb.mono WW.size)
          have sz9 := hb.size
          obtain ⟨D3, d3, rfl, ho⟩ := hv
          have O3 := ho.weak (b := w.heap.size) hbs
          clear ho
          clear hb hbs
          refine hK.out _ _ (XV.cell) (fun hHeld2 => ?_)
          clear hK K hHeld
          have hHeld := hHeld2
          clear hHeld2
          (try simp only [oq68_7_1, Act.put, List.setIfInBounds_toArray, List.set_cons_zero, List.set_cons_succ])
          refine AnyL_ready (rs := [2]) (by kernel_rfl) (by simp) ?_
          refine ReadyL.cons (o := oq68_7_2) rfl (fun K hK => ?_) ReadyL.nil
          delta oq68_7_2
          go_simp
          have hbs : w.heap.size ≤ V9.heap.size := WW.size
          have hc := plus_any D1 D3 _ _ d1 d3 r1 1 V9 XV.num O3.num (by omega) (by omega)
          rw [← R2.out] at hc
          refine hc.mono ?_
          clear hc
          rintro e V10 ⟨v, rfl, hv, hb⟩
          replace XB := XB.below hb
          replace XC := XC.below hb
          replace XR := XR.below hb
          replace XQ := XQ.below hb
          replace XV := XV.below hb
          replace OQ := OQ.below hb (Nat.le_refl _)
          replace OV := OV.below hb (Nat.le_refl _)
          replace O1 := O1.below hb (Nat.le_refl _)
          replace O2 := O2.below hb (Nat.le_refl _)
          replace O3 := O3.below hb (Nat.le_refl _)
          replace WW := WW.trans (hb.mono WW.size)
          have sz10 := hb.size
          obtain ⟨D4, d4, rfl, ho⟩ := hv
          have O4 := ho.weak (b := w.heap.size) hbs
          clear ho
          clear hb hbs
          refine hK.out _ _ (XV.cell) (fun hHeld2 => ?_)
          clear hK K hHeld
          have hHeld := hHeld2
          clear hHeld2
          (try simp only [oq68_7_2, Act.put, List.setIfInBounds_toArray, List.set_cons_zero, List.set_cons_succ])
          refine AnyL_ready (rs := [3]) (by kernel_rfl) (by simp) ?_
          refine ReadyL.late (o := oq68_7_3) rfl (by rfl) (fun K hK => ?_) ReadyL.nil
          delta oq68_7_3
          have fz := XV.1.frozen 0
          have cz := XV.cell
          have lz := XV.lt
          go_simp
          have XBn := XB.far (p := ⟨w.heap.size + 1 + 1 + 1 + 1, 0, none⟩) XV.1 XV.2.2 (by simp <;> omega) (.slice D4 (nw r2) d4)
          have XCn := XC.far (p := ⟨w.heap.size + 1 + 1 + 1 + 1, 0, none⟩) XV.1 XV.2.2 (by simp <;> omega) (.slice D4 (nw r2) d4)
          have XRn := XR.far (p := ⟨w.heap.size + 1 + 1 + 1 + 1, 0, none⟩) XV.1 XV.2.2 (by simp <;> omega) (.slice D4 (nw r2) d4)
          have XQn := XQ.far (p := ⟨w.heap.size + 1 + 1 + 1 + 1, 0, none⟩) XV.1 XV.2.2 (by simp <;> omega) (.slice D4 (nw r2) d4)
          have XVn := XV.set_ (A' := D4) (n' := (nw r2)) (c' := d4) (a' := r2) (.inr O4)
          have OQn := OQ.box (p := ⟨w.heap.size + 1 + 1 + 1 + 1, 0, none⟩) XV.1 (by decide) (.slice D4 (nw r2) d4)
          have OVn := OV.box (p := ⟨w.heap.size + 1 + 1 + 1 + 1, 0, none⟩) XV.1 (by decide) (.slice D4 (nw r2) d4)
          have O1n := O1.box (p := ⟨w.heap.size + 1 + 1 + 1 + 1, 0, none⟩) XV.1 (by decide) (.slice D4 (nw r2) d4)
          have O2n := O2.box (p := ⟨w.heap.size + 1 + 1 + 1 + 1, 0, none⟩) XV.1 (by decide) (.slice D4 (nw r2) d4)
          have O3n := O3.box (p := ⟨w.heap.size + 1 + 1 + 1 + 1, 0, none⟩) XV.1 (by decide) (.slice D4 (nw r2) d4)
          have O4n := O4.box (p := ⟨w.heap.size + 1 + 1 + 1 + 1, 0, none⟩) XV.1 (by decide) (.slice D4 (nw r2) d4)
          have WWn := WW.setCell (p := ⟨w.heap.size + 1 + 1 + 1 + 1, 0, none⟩) (by simp <;> omega) (.slice D4 (nw r2) d4)
          refine hK.out _ _ trivial (fun hHeld2 => ?_)
          clear hK K hHeld2 hHeld
          (try simp only [oq68_7_3, Act.put, List.setIfInBounds_toArray, List.set_cons_zero, List.set_cons_succ])
          generalize hV : V10.setCell ⟨w.heap.size + 1 + 1 + 1 + 1, 0, none⟩ (.slice D4 (nw r2) d4) = V11 at WWn XBn XCn XRn XQn XVn OQn OVn O1n O2n O3n O4n ⊢
          clear hV fz cz lz WW XB XC XR XQ XV OQ OV O1 O2 O3 O4
          have WW := WWn
          have XB := XBn
          have XC := XCn
          have XR := XRn
          have XQ := XQn
          have XV := XVn
          have OQ := OQn
          have OV := OVn
          have O1 := O1n
          have O2 := O2n
          have O3 := O3n
          have O4 := O4n
          clear WWn XBn XCn XRn XQn XVn OQn OVn O1n O2n O3n O4n
          refine AnyL_done (by kernel_rfl) ?_ _
          have kXB := XB.cell
          have zXB := XB.lt
          have kXC := XC.cell
          have zXC := XC.lt
          have kXR := XR.cell
          have zXR := XR.lt
          have kXQ := XQ.cell
          have zXQ := XQ.lt
          have kXV := XV.cell
          have zXV := XV.lt
          go_wp2_with fail
          have hbs : w.heap.size ≤ V11.heap.size := WW.size
          have hc := less3_any D4 C' d4 p r2 m V11 XV.num XC.num (by omega) (by omega)
          rw [G1.out] at hc
          refine hc.mono ?_
          clear hc
          rintro e V12 ⟨rfl, hb⟩
          clear kXB zXB kXC zXC kXR zXR kXQ zXQ kXV zXV
          replace XB := XB.below hb
          replace XC := XC.below hb
          replace XR := XR.below hb
          replace XQ := XQ.below hb
          replace XV := XV.below hb
          replace OQ := OQ.below hb (Nat.le_refl _)
          replace OV := OV.below hb (Nat.le_refl _)
          replace O1 := O1.below hb (Nat.le_refl _)
          replace O2 := O2.below hb (Nat.le_refl _)
          replace O3 := O3.below hb (Nat.le_refl _)
          replace O4 := O4.below hb (Nat.le_refl _)
          replace WW := WW.trans (hb.mono WW.size)
          have kXB := XB.cell
          have zXB := XB.lt
          have kXC := XC.cell
          have zXC := XC.lt
          have kXR := XR.cell
          have zXR := XR.lt
          have kXQ := XQ.cell
          have zXQ := XQ.lt
          have kXV := XV.cell
          have zXV := XV.lt
          clear hb hbs
          go_wp2_with fail
          have WWd := WW.drew
          have XBd := XB.drew
          have XCd := XC.drew
          have XRd := XR.drew
          have XQd := XQ.drew
          have XVd := XV.drew
          have OQd := OQ.drew
          have OVd := OV.drew
          have O1d := O1.drew
          have O2d := O2.drew
          have O3d := O3.drew
          have O4d := O4.drew
          have hst : (fun w' => w'.cell? ⟨w.heap.size + 1 + 1 + 1, 0, none⟩ = some (.slice D2 (nw q1) d2) ∧ w'.cell? ⟨w.heap.size + 1 + 1 + 1 + 1, 0, none⟩ = some (.slice D4 (nw r2) d4) ∧ w'.cell? ⟨w.heap.size + 1, 0, none⟩ = some (.slice C' (nw m) p)) V12.drew := ⟨XQ.cell, XV.cell, XC.cell⟩
          clear WW kXB zXB kXC zXC kXR zXR kXQ zXQ kXV zXV XB XC XR XQ XV OQ OV O1 O2 O3 O4
          have qq0 := XVd.lt
          refine region_L 6 (fun w' => w'.cell? ⟨w.heap.size + 1 + 1 + 1, 0, none⟩ = some (.slice D2 (nw q1) d2) ∧ w'.cell? ⟨w.heap.size + 1 + 1 + 1 + 1, 0, none⟩ = some (.slice D4 (nw r2) d4) ∧ w'.cell? ⟨w.heap.size + 1, 0, none⟩ = some (.slice C' (nw m) p)) (by kernel_rfl) hst (fun hHeld => ?_)
          clear hst
          generalize hV : V12.drew = U12x0 at hHeld WWd qq0 XBd XCd XRd XQd XVd OQd OVd O1d O2d O3d O4d ⊢
          clear hV
          have WW := WWd
          have XB := XBd
          have XC := XCd
          have XR := XRd
          have XQ := XQd
          have XV := XVd
          have OQ := OQd
          have OV := OVd
          have O1 := O1d
          have O2 := O2d
          have O3 := O3d
          have O4 := O4d
          clear WWd XBd XCd XRd XQd XVd OQd OVd O1d O2d O3d O4d
          refine AnyL_take (i := 0) (oi := oq68_9_0) (v := ?_) rfl (by kernel_rfl) (by kernel_rfl) (by kernel_rfl) (by kernel_rfl) (fun _ _ _ h => h) (Or.inl ⟨by rfl, ?_⟩) (by assumption) ?_
          rotate_left
          · (delta oq68_9_0; intro ws hSw; (try dsimp only at hSw); (try go_simp); (try with_reducible rfl))
          (try simp only [oq68_9_0, Act.put, List.setIfInBounds_toArray, List.set_cons_zero, List.set_cons_succ])
          refine AnyL_take (i := 1) (oi := oq68_9_1) (v := ?_) rfl (by kernel_rfl) (by kernel_rfl) (by kernel_rfl) (by kernel_rfl) (fun _ _ _ h => h) (Or.inl ⟨by rfl, ?_⟩) (by assumption) ?_
          rotate_left
          · (delta oq68_9_1; intro ws hSw; (try dsimp only at hSw); (try go_simp); (try with_reducible rfl))
          (try simp only [oq68_9_1, Act.put, List.setIfInBounds_toArray, List.set_cons_zero, List.set_cons_succ])
          refine AnyL_take (i := 3) (oi := oq68_9_3) (v := ?_) rfl (by kernel_rfl) (by kernel_rfl) (by kernel_rfl) (by kernel_rfl) (fun _ _ _ h => h) (Or.inl ⟨by rfl, ?_⟩) (by assumption) ?_
          rotate_left
          · (delta oq68_9_3; intro ws hSw; (try dsimp only at hSw); (try go_simp); (try with_reducible rfl))
          (try simp only [oq68_9_3, Act.put, List.setIfInBounds_toArray, List.set_cons_zero, List.set_cons_succ])
          refine AnyL_ready (rs := [2]) (by kernel_rfl) (by simp) ?_
          refine ReadyL.cons (o := oq68_9_2) rfl (fun K hK => ?_) ReadyL.nil
          delta oq68_9_2
          go_simp
          have hbs : w.heap.size ≤ U12x0.heap.size := WW.size
          have hc := minus_any D4 C' _ _ d4 p r2 m U12x0 XV.num XC.num (by omega) (by omega) hle
          rw [← R3.out] at hc
          refine hc.mono ?_
          clear hc
          rintro e V14 ⟨v, rfl, hv, hb⟩
          replace XB := XB.below hb
          replace XC := XC.below hb
          replace XR := XR.below hb
          replace XQ := XQ.below hb
          replace XV := XV.below hb
          replace OQ := OQ.below hb (Nat.le_refl _)
          replace OV := OV.below hb (Nat.le_refl _)
          replace O1 := O1.below hb (Nat.le_refl _)
          replace O2 := O2.below hb (Nat.le_refl _)
          replace O3 := O3.below hb (Nat.le_refl _)
          replace O4 := O4.below hb (Nat.le_refl _)
          replace WW := WW.trans (hb.mono WW.size)
          have sz14 := hb.size
          obtain ⟨D5, d5, rfl, ho⟩ := hv
          have O5 := ho.weak (b := w.heap.size) hbs
          clear ho
          clear hb hbs
          refine hK.out _ _ (⟨XQ.cell, XV.cell, XC.cell⟩) (fun hHeld2 => ?_)
          clear hK K hHeld
          have hHeld := hHeld2
          clear hHeld2
          (try simp only [oq68_9_2, Act.put, List.setIfInBounds_toArray, List.set_cons_zero, List.set_cons_succ])
          refine AnyL_ready (rs := [4]) (by kernel_rfl) (by simp) ?_
          refine ReadyL.cons (o := oq68_9_4) rfl (fun K hK => ?_) ReadyL.nil
          delta oq68_9_4
          go_simp
          have hbs : w.heap.size ≤ V14.heap.size := WW.size
          have hc := of3_1 V14
          refine hc.mono ?_
          clear hc
          rintro e V15 ⟨v, rfl, hv, hb⟩
          replace XB := XB.below hb
          replace XC := XC.below hb
          replace XR := XR.below hb
          replace XQ := XQ.below hb
          replace XV := XV.below hb
          replace OQ := OQ.below hb (Nat.le_refl _)
          replace OV := OV.below hb (Nat.le_refl _)
          replace O1 := O1.below hb (Nat.le_refl _)
          replace O2 := O2.below hb (Nat.le_refl _)
          replace O3 := O3.below hb (Nat.le_refl _)
          replace O4 := O4.below hb (Nat.le_refl _)
          replace O5 := O5.below hb (Nat.le_refl _)
          replace WW := WW.trans (hb.mono WW.size)
          have sz15 := hb.size
          obtain ⟨D6, d6, rfl, ho⟩ := hv
          have O6 := ho.weak (b := w.heap.size) hbs
          clear ho
          clear hb hbs
          refine hK.out _ _ (⟨XQ.cell, XV.cell, XC.cell⟩) (fun hHeld2 => ?_)
          clear hK K hHeld
          have hHeld := hHeld2
          clear hHeld2
          (try simp only [oq68_9_4, Act.put, List.setIfInBounds_toArray, List.set_cons_zero, List.set_cons_succ])
          refine AnyL_ready (rs := [5]) (by kernel_rfl) (by simp) ?_
          refine ReadyL.cons (o := oq68_9_5) rfl (fun K hK => ?_) ReadyL.nil
          delta oq68_9_5
          go_simp
          have hbs : w.heap.size ≤ V15.heap.size := WW.size
          have hc := plus_any D2 D6 _ _ d2 d6 q1 1 V15 XQ.num O6.num (by omega) (by omega)
          rw [← Q3.out] at hc
          refine hc.mono ?_
          clear hc
          rintro e V16 ⟨v, rfl, hv, hb⟩
          replace XB := XB.below hb
          replace XC := XC.below hb
          replace XR := XR.below hb
          replace XQ := XQ.below hb
          replace XV := XV.below hb
          replace OQ := OQ.below hb (Nat.le_refl _)
          replace OV := OV.below hb (Nat.le_refl _)
          replace O1 := O1.below hb (Nat.le_refl _)
          replace O2 := O2.below hb (Nat.le_refl _)
          replace O3 := O3.below hb (Nat.le_refl _)
          replace O4 := O4.below hb (Nat.le_refl _)
          replace O5 := O5.below hb (Nat.le_refl _)
          replace O6 := O6.below hb (Nat.le_refl _)
          replace WW := WW.trans (hb.mono WW.size)
          have sz16 := hb.size
          obtain ⟨D7, d7, rfl, ho⟩ := hv
          have O7 := ho.weak (b := w.heap.size) hbs
          clear ho
          clear hb hbs
          refine hK.out _ _ (⟨XQ.cell, XV.cell, XC.cell⟩) (fun hHeld2 => ?_)
          clear hK K hHeld
          have hHeld := hHeld2
          clear hHeld2
          (try simp only [oq68_9_5, Act.put, List.setIfInBounds_toArray, List.set_cons_zero, List.set_cons_succ])
          refine AnyL_ready (rs := [6]) (by kernel_rfl) (by simp) ?_
          refine ReadyL.late (o := oq68_9_6) rfl (by rfl) (fun K hK => ?_) ReadyL.nil
          delta oq68_9_6
          have fz := XV.1.frozen 0
          have cz := XV.cell
          have lz := XV.lt
          go_simp
          have XBn := XB.far (p := ⟨w.heap.size + 1 + 1 + 1 + 1, 0, none⟩) XV.1 XV.2.2 (by simp <;> omega) (.slice D5 (nw r3) d5)
          have XCn := XC.far (p := ⟨w.heap.size + 1 + 1 + 1 + 1, 0, none⟩) XV.1 XV.2.2 (by simp <;> omega) (.slice D5 (nw r3) d5)
          have XRn := XR.far (p := ⟨w.heap.size + 1 + 1 + 1 + 1, 0, none⟩) XV.1 XV.2.2 (by simp <;> omega) (.slice D5 (nw r3) d5)
          have XQn := XQ.far (p := ⟨w.heap.size + 1 + 1 + 1 + 1, 0, none⟩) XV.1 XV.2.2 (by simp <;> omega) (.slice D5 (nw r3) d5)
          have XVn := XV.set_ (A' := D5) (n' := (nw r3)) (c' := d5) (a' := r3) (.inr O5)
          have OQn := OQ.box (p := ⟨w.heap.size + 1 + 1 + 1 + 1, 0, none⟩) XV.1 (by decide) (.slice D5 (nw r3) d5)
          have OVn := OV.box (p := ⟨w.heap.size + 1 + 1 + 1 + 1, 0, none⟩) XV.1 (by decide) (.slice D5 (nw r3) d5)
          have O1n := O1.box (p := ⟨w.heap.size + 1 + 1 + 1 + 1, 0, none⟩) XV.1 (by decide) (.slice D5 (nw r3) d5)
          have O2n := O2.box (p := ⟨w.heap.size + 1 + 1 + 1 + 1, 0, none⟩) XV.1 (by decide) (.slice D5 (nw r3) d5)
          have O3n := O3.box (p := ⟨w.heap.size + 1 + 1 + 1 + 1, 0, none⟩) XV.1 (by decide) (.slice D5 (nw r3) d5)
          have O4n := O4.box (p := ⟨w.heap.size + 1 + 1 + 1 + 1, 0, none⟩) XV.1 (by decide) (.slice D5 (nw r3) d5)
          have O5n := O5.box (p := ⟨w.heap.size + 1 + 1 + 1 + 1, 0, none⟩) XV.1 (by decide) (.slice D5 (nw r3) d5)
          have O6n := O6.box (p := ⟨w.heap.size + 1 + 1 + 1 + 1, 0, none⟩) XV.1 (by decide) (.slice D5 (nw r3) d5)
          have O7n := O7.box (p := ⟨w.heap.size + 1 + 1 + 1 + 1, 0, none⟩) XV.1 (by decide) (.slice D5 (nw r3) d5)
          have WWn := WW.setCell (p := ⟨w.heap.size + 1 + 1 + 1 + 1, 0, none⟩) (by simp <;> omega) (.slice D5 (nw r3) d5)
          refine hK.out _ _ trivial (fun hHeld2 => ?_)
          clear hK K hHeld2 hHeld
          (try simp only [oq68_9_6, Act.put, List.setIfInBounds_toArray, List.set_cons_zero, List.set_cons_succ])
          generalize hV : V16.setCell ⟨w.heap.size + 1 + 1 + 1 + 1, 0, none⟩ (.slice D5 (nw r3) d5) = V17 at WWn XBn XCn XRn XQn XVn OQn OVn O1n O2n O3n O4n O5n O6n O7n ⊢
          clear hV fz cz lz WW XB XC XR XQ XV OQ OV O1 O2 O3 O4 O5 O6 O7
          have WW := WWn
          have XB := XBn
          have XC := XCn
          have XR := XRn
          have XQ := XQn
          have XV := XVn
          have OQ := OQn
          have OV := OVn
          have O1 := O1n
          have O2 := O2n
          have O3 := O3n
          have O4 := O4n
          have O5 := O5n
          have O6 := O6n
          have O7 := O7n
          clear WWn XBn XCn XRn XQn XVn OQn OVn O1n O2n O3n O4n O5n O6n O7n
          refine AnyL_ready (rs := [7]) (by kernel_rfl) (by simp) ?_
          refine ReadyL.late (o := oq68_9_7) rfl (by rfl) (fun K hK => ?_) ReadyL.nil
          delta oq68_9_7
          have fz := XQ.1.frozen 0
          have cz := XQ.cell
          have lz := XQ.lt
          go_simp
          have XBn := XB.far (p := ⟨w.heap.size + 1 + 1 + 1, 0, none⟩) XQ.1 XQ.2.2 (by simp <;> omega) (.slice D7 (nw q3) d7)
          have XCn := XC.far (p := ⟨w.heap.size + 1 + 1 + 1, 0, none⟩) XQ.1 XQ.2.2 (by simp <;> omega) (.slice D7 (nw q3) d7)
          have XRn := XR.far (p := ⟨w.heap.size + 1 + 1 + 1, 0, none⟩) XQ.1 XQ.2.2 (by simp <;> omega) (.slice D7 (nw q3) d7)
          have XVn := XV.far (p := ⟨w.heap.size + 1 + 1 + 1, 0, none⟩) XQ.1 XQ.2.2 (by simp <;> omega) (.slice D7 (nw q3) d7)
          have XQn := XQ.set_ (A' := D7) (n' := (nw q3)) (c' := d7) (a' := q3) (.inr O7)
          have OQn := OQ.box (p := ⟨w.heap.size + 1 + 1 + 1, 0, none⟩) XQ.1 (by decide) (.slice D7 (nw q3) d7)
          have OVn := OV.box (p := ⟨w.heap.size + 1 + 1 + 1, 0, none⟩) XQ.1 (by decide) (.slice D7 (nw q3) d7)
          have O1n := O1.box (p := ⟨w.heap.size + 1 + 1 + 1, 0, none⟩) XQ.1 (by decide) (.slice D7 (nw q3) d7)
          have O2n := O2.box (p := ⟨w.heap.size + 1 + 1 + 1, 0, none⟩) XQ.1 (by decide) (.slice D7 (nw q3) d7)
          have O3n := O3.box (p := ⟨w.heap.size + 1 + 1 + 1, 0, none⟩) XQ.1 (by decide) (.slice D7 (nw q3) d7)
          have O4n := O4.box (p := ⟨w.heap.size + 1 + 1 + 1, 0, none⟩) XQ.1 (by decide) (.slice D7 (nw q3) d7)
          have O5n := O5.box (p := ⟨w.heap.size + 1 + 1 + 1, 0, none⟩) XQ.1 (by decide) (.slice D7 (nw q3) d7)
          have O6n := O6.box (p := ⟨w.heap.size + 1 + 1 + 1, 0, none⟩) XQ.1 (by decide) (.slice D7 (nw q3) d7)
          have O7n := O7.box (p := ⟨w.heap.size + 1 + 1 + 1, 0, none⟩) XQ.1 (by decide) (.slice D7 (nw q3) d7)
          have WWn := WW.setCell (p := ⟨w.heap.size + 1 + 1 + 1, 0, none⟩) (by simp <;> omega) (.slice D7 (nw q3) d7)
          refine hK.out _ _ trivial (fun hHeld2 => ?_)
          clear hK K hHeld2
          (try simp only [oq68_9_7, Act.put, List.setIfInBounds_toArray, List.set_cons_zero, List.set_cons_succ])
          generalize hV : V17.setCell ⟨w.heap.size + 1 + 1 + 1, 0, none⟩ (.slice D7 (nw q3) d7) = V18 at WWn XBn XCn XRn XQn XVn OQn OVn O1n O2n O3n O4n O5n O6n O7n ⊢
          clear hV fz cz lz WW XB XC XR XQ XV OQ OV O1 O2 O3 O4 O5 O6 O7
          have WW := WWn
          have XB := XBn
          have XC := XCn
          have XR := XRn
          have XQ := XQn
          have XV := XVn
          have OQ := OQn
          have OV := OVn
          have O1 := O1n
          have O2 := O2n
          have O3 := O3n
          have O4 := O4n
          have O5 := O5n
          have O6 := O6n
          have O7 := O7n
          clear WWn XBn XCn XRn XQn XVn OQn OVn O1n O2n O3n O4n O5n O6n O7n
          refine AnyL_done (by kernel_rfl) ?_ _
          have kXB := XB.cell
          have zXB := XB.lt
          have kXC := XC.cell
          have zXC := XC.lt
          have kXR := XR.cell
          have zXR := XR.lt
          have kXQ := XQ.cell
          have zXQ := XQ.lt
          have kXV := XV.cell
          have zXV := XV.lt
          go_wp2_with fail
          go_roundw
          case rel => exact ⟨j, q3, r3, ((j : Int) - 1), D7, D5, d7, d5, by omega, by go_num, by omega, H2.out, H3.out, WW, XB, XC, XR, XQ, XV, O7, O5⟩
          case measure => simp [intOf] <;> omega

end Go.Proofs.Ytckajjapockonaa
