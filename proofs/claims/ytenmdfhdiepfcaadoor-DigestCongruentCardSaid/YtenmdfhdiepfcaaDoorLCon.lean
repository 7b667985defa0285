/- DigestCongruent: the walk. -/
import Derived.Test.YtenmdfhdiepfcaaDoorLNum
set_option linter.unusedVariables false
set_option linter.unusedSimpArgs false
namespace Go.Proofs.YtenmdfhdiepfcaaDoor
open Go Go.RowKit
def oq8_4_0 : Oper := { dst := some 32, op := Op.load 25 (Operand.tmp 4), type := 25, pos := "law.go:105", after := #[], guard := none }
def oq8_4_1 : Oper := { dst := some 33, op := Op.move (Operand.tmp 9), type := 3, pos := "law.go:105", after := #[], guard := none }
def oq8_4_2 : Oper := { dst := some 34, op := Op.call { callee := Callee.value (Operand.func 21), args := #[Operand.tmp 32, Operand.tmp 33], argTypes := #[25, 3] }, type := 41, pos := "law.go:105", after := #[{ on := 0, ground := Ground.data }, { on := 1, ground := Ground.data }], guard := none }
def oq8_4_3 : Oper := { dst := some 31, op := Op.move (Operand.tmp 34), type := 41, pos := "law.go:105", after := #[{ on := 2, ground := Ground.data }], guard := none }
def oq8_4_4 : Oper := { dst := some 35, op := Op.extract (Operand.tmp 31) 0, type := 3, pos := "law.go:105", after := #[{ on := 3, ground := Ground.data }], guard := none }
def oq8_4_5 : Oper := { dst := some 36, op := Op.extract (Operand.tmp 31) 1, type := 28, pos := "law.go:105", after := #[{ on := 3, ground := Ground.data }, { on := 6, ground := Ground.gcOnly Departure.lateStores }], guard := none }
def oq8_4_6 : Oper := { dst := some 11, op := Op.assign (Operand.tmp 35), type := 3, pos := "law.go:105", after := #[{ on := 4, ground := Ground.data }, { on := 2, ground := Ground.chain }, { on := 0, ground := Ground.phase }, { on := 1, ground := Ground.phase }, { on := 2, ground := Ground.phase }, { on := 3, ground := Ground.phase }, { on := 4, ground := Ground.phase }, { on := 5, ground := Ground.textOnly Departure.lateStores }], guard := none }
def oq8_4_7 : Oper := { dst := some 12, op := Op.assign (Operand.tmp 36), type := 28, pos := "law.go:105", after := #[{ on := 5, ground := Ground.data }, { on := 6, ground := Ground.chain }, { on := 0, ground := Ground.phase }, { on := 1, ground := Ground.phase }, { on := 2, ground := Ground.phase }, { on := 3, ground := Ground.phase }, { on := 4, ground := Ground.phase }, { on := 5, ground := Ground.phase }, { on := 6, ground := Ground.phase }], guard := none }
def oq8_5_0 : Oper := { dst := some 38, op := Op.load 25 (Operand.tmp 4), type := 25, pos := "law.go:106", after := #[], guard := none }
def oq8_5_1 : Oper := { dst := some 39, op := Op.move (Operand.tmp 9), type := 3, pos := "law.go:106", after := #[], guard := none }
def oq8_5_2 : Oper := { dst := some 40, op := Op.move (Operand.tmp 10), type := 3, pos := "law.go:106", after := #[], guard := none }
def oq8_5_3 : Oper := { dst := some 41, op := Op.binOp BinOp.mul 3 (Operand.tmp 39) (Operand.tmp 40) 3, type := 3, pos := "law.go:106", after := #[{ on := 1, ground := Ground.data }, { on := 2, ground := Ground.data }], guard := none }
def oq8_5_4 : Oper := { dst := some 42, op := Op.call { callee := Callee.value (Operand.func 21), args := #[Operand.tmp 38, Operand.tmp 41], argTypes := #[25, 3] }, type := 41, pos := "law.go:106", after := #[{ on := 0, ground := Ground.data }, { on := 3, ground := Ground.data }], guard := none }
def oq8_5_5 : Oper := { dst := some 37, op := Op.move (Operand.tmp 42), type := 41, pos := "law.go:106", after := #[{ on := 4, ground := Ground.data }], guard := none }
def oq8_5_6 : Oper := { dst := some 43, op := Op.extract (Operand.tmp 37) 0, type := 3, pos := "law.go:106", after := #[{ on := 5, ground := Ground.data }], guard := none }
def oq8_5_7 : Oper := { dst := some 44, op := Op.extract (Operand.tmp 37) 1, type := 28, pos := "law.go:106", after := #[{ on := 5, ground := Ground.data }, { on := 8, ground := Ground.gcOnly Departure.lateStores }], guard := none }
def oq8_5_8 : Oper := { dst := some 13, op := Op.assign (Operand.tmp 43), type := 3, pos := "law.go:106", after := #[{ on := 6, ground := Ground.data }, { on := 4, ground := Ground.chain }, { on := 0, ground := Ground.phase }, { on := 1, ground := Ground.phase }, { on := 2, ground := Ground.phase }, { on := 3, ground := Ground.phase }, { on := 4, ground := Ground.phase }, { on := 5, ground := Ground.phase }, { on := 6, ground := Ground.phase }, { on := 7, ground := Ground.textOnly Departure.lateStores }], guard := none }
def oq8_5_9 : Oper := { dst := some 14, op := Op.assign (Operand.tmp 44), type := 28, pos := "law.go:106", after := #[{ on := 7, ground := Ground.data }, { on := 8, ground := Ground.chain }, { on := 0, ground := Ground.phase }, { on := 1, ground := Ground.phase }, { on := 2, ground := Ground.phase }, { on := 3, ground := Ground.phase }, { on := 4, ground := Ground.phase }, { on := 5, ground := Ground.phase }, { on := 6, ground := Ground.phase }, { on := 7, ground := Ground.phase }, { on := 8, ground := Ground.phase }], guard := none }
def oq8_9_0 : Oper := { dst := some 82, op := Op.load 25 (Operand.tmp 4), type := 25, pos := "law.go:112", after := #[], guard := none }
def oq8_9_1 : Oper := { dst := some 83, op := Op.move (Operand.tmp 15), type := 3, pos := "law.go:112", after := #[], guard := none }
def oq8_9_2 : Oper := { dst := some 84, op := Op.binOp BinOp.shl 3 (Operand.const (Value.int IntKind.i64 1)) (Operand.tmp 83) 3, type := 3, pos := "law.go:112", after := #[{ on := 1, ground := Ground.data }], guard := none }
def oq8_9_3 : Oper := { dst := some 85, op := Op.call { callee := Callee.value (Operand.func 21), args := #[Operand.tmp 82, Operand.tmp 84], argTypes := #[25, 3] }, type := 41, pos := "law.go:112", after := #[{ on := 0, ground := Ground.data }, { on := 2, ground := Ground.data }], guard := none }
def oq8_9_4 : Oper := { dst := some 81, op := Op.move (Operand.tmp 85), type := 41, pos := "law.go:112", after := #[{ on := 3, ground := Ground.data }], guard := none }
def oq8_9_5 : Oper := { dst := some 86, op := Op.extract (Operand.tmp 81) 0, type := 3, pos := "law.go:112", after := #[{ on := 4, ground := Ground.data }], guard := none }
def oq8_9_6 : Oper := { dst := some 87, op := Op.extract (Operand.tmp 81) 1, type := 28, pos := "law.go:112", after := #[{ on := 4, ground := Ground.data }, { on := 7, ground := Ground.gcOnly Departure.lateStores }], guard := none }
def oq8_9_7 : Oper := { dst := some 16, op := Op.assign (Operand.tmp 86), type := 3, pos := "law.go:112", after := #[{ on := 5, ground := Ground.data }, { on := 3, ground := Ground.chain }, { on := 0, ground := Ground.phase }, { on := 1, ground := Ground.phase }, { on := 2, ground := Ground.phase }, { on := 3, ground := Ground.phase }, { on := 4, ground := Ground.phase }, { on := 5, ground := Ground.phase }, { on := 6, ground := Ground.textOnly Departure.lateStores }], guard := none }
def oq8_9_8 : Oper := { dst := some 17, op := Op.assign (Operand.tmp 87), type := 28, pos := "law.go:112", after := #[{ on := 6, ground := Ground.data }, { on := 7, ground := Ground.chain }, { on := 0, ground := Ground.phase }, { on := 1, ground := Ground.phase }, { on := 2, ground := Ground.phase }, { on := 3, ground := Ground.phase }, { on := 4, ground := Ground.phase }, { on := 5, ground := Ground.phase }, { on := 6, ground := Ground.phase }, { on := 7, ground := Ground.phase }], guard := none }

theorem vb_ltk (l : List Nat) (h : ∀ d ∈ l, d < 256) : ∀ k, k ≤ l.length → vb 256 (l.take k) < 256 ^ k := by
  intro k
  induction k with
  | zero => intro _; simp [vb]
  | succ k ih =>
    intro hk
    have h1 := ih (by omega)
    have h2 : l.getD k 0 < 256 := by rw [List.getD_eq_getElem?_getD, List.getElem?_eq_getElem (by omega)]; exact h _ (List.getElem_mem _)
    rw [vb_snoc l (by omega), Nat.pow_succ]
    omega
theorem vb_take_le (l : List Nat) (h : ∀ d ∈ l, d < 256) (k : Nat) : vb 256 (l.take k) < 256 ^ k := by
  rcases Nat.lt_or_ge l.length k with hk | hk
  rotate_left
  · exact vb_ltk l h k hk
  · rw [List.take_of_length_le (by omega)]
    have h1 := vb_ltk l h l.length (Nat.le_refl _)
    rw [List.take_length] at h1
    exact Nat.lt_of_lt_of_le h1 (Nat.pow_le_pow_right (by omega) (by omega))
theorem vb_lt7 (l : List Nat) (h : ∀ d ∈ l, d < 256) (k : Nat) (hk : k ≤ 7) : vb 256 (l.take k) < 72057594037927936 :=
  Nat.lt_of_lt_of_le (vb_take_le l h k) (Nat.le_trans (Nat.pow_le_pow_right (by omega) hk) (by decide))
theorem vb_lt8 (l : List Nat) (h : ∀ d ∈ l, d < 256) : vb 256 (l.take 8) < 18446744073709551616 :=
  Nat.lt_of_lt_of_le (vb_take_le l h 8) (by decide)
theorem low_mod (a b : Nat) (c : Nat) {t : List Nat} (ht : t.length = 8) (hc : c ≤ 64) : b % 2 ^ c = (a * 256 ^ t.length + b) % 2 ^ c := by
  rw [ht, show (256 : Nat) ^ 8 = 2 ^ 64 from by decide, show (2 : Nat) ^ 64 = 2 ^ c * 2 ^ (64 - c) from by rw [← Nat.pow_add]; congr 1; omega, Nat.mul_comm, Nat.mul_assoc, Nat.mul_add_mod]
set_option maxRecDepth 100000 in
set_option maxHeartbeats 8000000 in
theorem cong_walk (l : List Nat) (m k n : Nat) (w : World) (hT : Tabs w) (hl : l.length = 32) (h8 : ∀ x ∈ l, x < 256) (hm : m < 4294967296) (hk : k < 4294967296) (hn : n < 256) :
    Calls Tryd.prog 8 #[hv l, .int .u32 ((m : Nat) : Int), .int .u32 ((k : Nat) : Int), .int .u8 ((n : Nat) : Int)] w (fun e w' => e = .returned (.bool true) ∧ Below w.heap.size w w') := by
  obtain ⟨ca, hca⟩ : ∃ cs, cs = brow l := ⟨_, rfl⟩
  have e1 : hv l = .agg ca := by rw [hca]; rfl
  have za : ca.size = 32 := by rw [hca, brow_size, hl]
  obtain ⟨a, ha⟩ : ∃ a, a = m % 1073741824 + 1 := ⟨_, rfl⟩
  obtain ⟨b, hb⟩ : ∃ b, b = k % 1073741824 + 1 := ⟨_, rfl⟩
  have ha1 : 1 ≤ a := by omega
  have hb1 : 1 ≤ b := by omega
  have ha2 : a ≤ 1073741824 := by omega
  have hb2 : b ≤ 1073741824 := by omega
  obtain ⟨ab, hab⟩ : ∃ x, x = a * b := ⟨_, rfl⟩
  have hab1 : 1 ≤ ab := by rw [hab]; exact Nat.mul_pos ha1 hb1
  have hab2 : ab ≤ 1152921504606846976 := by rw [hab]; exact Nat.le_trans (Nat.mul_le_mul ha2 hb2) (by decide)
  obtain ⟨v, hv0⟩ : ∃ v, v = vb 256 (l.take 16) := ⟨_, rfl⟩
  obtain ⟨x, hx⟩ : ∃ x, x = v % a := ⟨_, rfl⟩
  obtain ⟨y, hy⟩ : ∃ x, x = v % ab := ⟨_, rfl⟩
  have hxa : x < a := by rw [hx]; exact Nat.mod_lt _ ha1
  have hya : y < ab := by rw [hy]; exact Nat.mod_lt _ hab1
  have hyx : y % a = x := by rw [hy, hx, hab]; exact Nat.mod_mul_right_mod v a b
  obtain ⟨c, hc⟩ : ∃ c, c = n % 61 := ⟨_, rfl⟩
  have hc1 : c < 61 := by omega
  obtain ⟨p2, hp2⟩ : ∃ p, p = 2 ^ c := ⟨_, rfl⟩
  have hp1 : 1 ≤ p2 := by rw [hp2]; exact Nat.pos_of_ne_zero (by simp)
  have hp3 : p2 ≤ 1152921504606846976 := by rw [hp2]; exact Nat.le_trans (Nat.pow_le_pow_right (by omega) (show c ≤ 60 by omega)) (by decide)
  obtain ⟨z, hz⟩ : ∃ x, x = v % p2 := ⟨_, rfl⟩
  have hzp : z < p2 := by rw [hz]; exact Nat.mod_lt _ hp1
  have HA : Hid (∀ V, Calls Tryd.prog 21 #[.agg ca, .int .i64 ((a : Nat) : Int)] V (fun e w' => e = .returned (.tuple #[.int .i64 ((x : Nat) : Int), .int .i64 0]) ∧ Below V.heap.size V w')) := (show ∀ V, _ from fun V => by rw [← e1, hx, hv0]; exact number_ok l a V hl h8 (by omega) (by omega))
  have HAB : Hid (∀ V, Calls Tryd.prog 21 #[.agg ca, .int .i64 ((ab : Nat) : Int)] V (fun e w' => e = .returned (.tuple #[.int .i64 ((y : Nat) : Int), .int .i64 0]) ∧ Below V.heap.size V w')) := (show ∀ V, _ from fun V => by rw [← e1, hy, hv0]; exact number_ok l ab V hl h8 (by omega) (by omega))
  have HC : Hid (∀ V, Calls Tryd.prog 21 #[.agg ca, .int .i64 ((p2 : Nat) : Int)] V (fun e w' => e = .returned (.tuple #[.int .i64 ((z : Nat) : Int), .int .i64 0]) ∧ Below V.heap.size V w')) := (show ∀ V, _ from fun V => by rw [← e1, hz, hv0]; exact number_ok l p2 V hl h8 (by omega) (by omega))
  have HT := hid hT
  have HCA := hid hca
  have HL := hid hl
  have H8 := hid h8
  have HP2 := hid hp2
  have HZ := hid hz
  have HV := hid hv0
  have HY := hid hyx
  have WW := (Below.refl w.heap.size w).alloc (Nat.le_refl _) (.cells ca 25)
  have b1 := Blk.new w 25 ca
  have wa : ((m : Nat) : Int) % 1073741824 + 1 = ((a : Nat) : Int) := by omega
  have wb : ((k : Nat) : Int) % 1073741824 + 1 = ((b : Nat) : Int) := by omega
  have wc : ((n : Nat) : Int) % 61 = ((c : Nat) : Int) := by omega
  have wab : ((a : Nat) : Int) * ((b : Nat) : Int) = ((ab : Nat) : Int) := by rw [hab]; simp
  have wwab : IntKind.i64.wrap ((ab : Nat) : Int) = ((ab : Nat) : Int) := wrap_nat (by omega)
  have wwa : IntKind.i64.wrap ((a : Nat) : Int) = ((a : Nat) : Int) := wrap_nat (by omega)
  have wwb : IntKind.i64.wrap ((b : Nat) : Int) = ((b : Nat) : Int) := wrap_nat (by omega)
  rw [e1]
  clear hca e1 hl h8 hT hx hy hz hv0 hp2 hab ha hb hc hyx
  go_enter Tryd.func8, Tryd.ntmps8
  refine wp_seq_k (fun K1 hK1 => ?_)
  have HK1 := hid hK1
  clear hK1
  go_wp2_with fail
  refine HK1.out _ _ ?_
  clear HK1
  generalize hV : w.alloc (.cells ca 25) = V0 at b1 WW ⊢
  clear hV
  refine wp_seq_k (fun K2 hK2 => ?_)
  have HK2 := hid hK2
  clear hK2
  go_wp2_with fail
  refine (awake_any V0 (HT.out.below' HT.out.big WW)).mono ?_
  rintro e V00 ⟨rfl, hb⟩
  replace b1 := b1.below hb b1.lt
  replace WW := WW.trans (hb.mono WW.size)
  clear hb
  go_wp2_with fail
  refine HK2.out _ _ ?_
  clear HK2
  refine wp_seq_k (fun K3 hK3 => ?_)
  have HK3 := hid hK3
  clear hK3
  go_wp2_with fail
  refine HK3.out _ _ ?_
  clear HK3
  refine wp_seq_k (fun K4 hK4 => ?_)
  have HK4 := hid hK4
  clear hK4
  have hHeld : (fun V => Blk V w.heap.size 25 ca) V00 := b1
  clear b1
  refine wp_region_lit ?_
  refine list_take (o := oq8_4_0) (v := .agg ca) (S := (fun V => Blk V w.heap.size 25 ca)) (yields_hash w.heap.size ca (by rfl) (.tmp 4) rfl rfl (fun _ h => h) za) hHeld ?_
  (try simp only [oq8_4_0, Act.put, List.setIfInBounds_toArray, List.set_cons_zero, List.set_cons_succ])
  refine list_take (o := oq8_4_1) (v := ?_) (S := (fun V => Blk V w.heap.size 25 ca)) (Or.inl ⟨by rfl, ?_⟩) hHeld ?_
  rotate_left
  · (delta oq8_4_1; intro ws hSw; (try dsimp only at hSw); (try go_simp); (try with_reducible rfl))
  (try simp only [oq8_4_1, Act.put, List.setIfInBounds_toArray, List.set_cons_zero, List.set_cons_succ])
  refine list_step (o := oq8_4_2) (S := (fun V => Blk V w.heap.size 25 ca)) (by rfl) (fun K hK => ?_)
  delta oq8_4_2
  go_simp
  refine (HA.out _).mono ?_
  rintro e V1 ⟨rfl, hb⟩
  have hSV : (fun V => Blk V w.heap.size 25 ca) V1 := hHeld.below hb hHeld.lt
  replace WW := WW.trans (hb.mono WW.size)
  refine hK.out _ _ hSV (fun hHeld2 => ?_)
  clear hK K hHeld hSV hb
  have hHeld := hHeld2
  clear hHeld2
  (try simp only [oq8_4_2, Act.put, List.setIfInBounds_toArray, List.set_cons_zero, List.set_cons_succ])
  refine list_take (o := oq8_4_3) (v := ?_) (S := (fun V => Blk V w.heap.size 25 ca)) (Or.inl ⟨by rfl, ?_⟩) hHeld ?_
  rotate_left
  · (delta oq8_4_3; intro ws hSw; (try dsimp only at hSw); (try go_simp); (try with_reducible rfl))
  (try simp only [oq8_4_3, Act.put, List.setIfInBounds_toArray, List.set_cons_zero, List.set_cons_succ])
  refine list_take (o := oq8_4_4) (v := ?_) (S := (fun V => Blk V w.heap.size 25 ca)) (Or.inl ⟨by rfl, ?_⟩) hHeld ?_
  rotate_left
  · (delta oq8_4_4; intro ws hSw; (try dsimp only at hSw); (try go_simp); (try with_reducible rfl))
  (try simp only [oq8_4_4, Act.put, List.setIfInBounds_toArray, List.set_cons_zero, List.set_cons_succ])
  refine list_take (o := oq8_4_5) (v := ?_) (S := (fun V => Blk V w.heap.size 25 ca)) (Or.inl ⟨by rfl, ?_⟩) hHeld ?_
  rotate_left
  · (delta oq8_4_5; intro ws hSw; (try dsimp only at hSw); (try go_simp); (try with_reducible rfl))
  (try simp only [oq8_4_5, Act.put, List.setIfInBounds_toArray, List.set_cons_zero, List.set_cons_succ])
  refine list_take (o := oq8_4_6) (v := ?_) (S := (fun V => Blk V w.heap.size 25 ca)) (Or.inl ⟨by rfl, ?_⟩) hHeld ?_
  rotate_left
  · (delta oq8_4_6; intro ws hSw; (try dsimp only at hSw); (try go_simp); (try with_reducible rfl))
  (try simp only [oq8_4_6, Act.put, List.setIfInBounds_toArray, List.set_cons_zero, List.set_cons_succ])
  refine list_take (o := oq8_4_7) (v := ?_) (S := (fun V => Blk V w.heap.size 25 ca)) (Or.inl ⟨by rfl, ?_⟩) hHeld ?_
  rotate_left
  · (delta oq8_4_7; intro ws hSw; (try dsimp only at hSw); (try go_simp); (try with_reducible rfl))
  (try simp only [oq8_4_7, Act.put, List.setIfInBounds_toArray, List.set_cons_zero, List.set_cons_succ])
  refine HK4.out _ _ ?_
  clear HK4
  refine wp_seq_k (fun K5 hK5 => ?_)
  have HK5 := hid hK5
  clear hK5
  refine wp_region_lit ?_
  refine list_take (o := oq8_5_0) (v := .agg ca) (S := (fun V => Blk V w.heap.size 25 ca)) (yields_hash w.heap.size ca (by rfl) (.tmp 4) rfl rfl (fun _ h => h) za) hHeld ?_
  (try simp only [oq8_5_0, Act.put, List.setIfInBounds_toArray, List.set_cons_zero, List.set_cons_succ])
  refine list_take (o := oq8_5_1) (v := ?_) (S := (fun V => Blk V w.heap.size 25 ca)) (Or.inl ⟨by rfl, ?_⟩) hHeld ?_
  rotate_left
  · (delta oq8_5_1; intro ws hSw; (try dsimp only at hSw); (try go_simp); (try with_reducible rfl))
  (try simp only [oq8_5_1, Act.put, List.setIfInBounds_toArray, List.set_cons_zero, List.set_cons_succ])
  refine list_take (o := oq8_5_2) (v := ?_) (S := (fun V => Blk V w.heap.size 25 ca)) (Or.inl ⟨by rfl, ?_⟩) hHeld ?_
  rotate_left
  · (delta oq8_5_2; intro ws hSw; (try dsimp only at hSw); (try go_simp); (try with_reducible rfl))
  (try simp only [oq8_5_2, Act.put, List.setIfInBounds_toArray, List.set_cons_zero, List.set_cons_succ])
  refine list_take (o := oq8_5_3) (v := .int .i64 ((ab : Nat) : Int)) (S := (fun V => Blk V w.heap.size 25 ca)) (Or.inl ⟨by rfl, fun ws h => by delta oq8_5_3; go_simp⟩) hHeld ?_
  (try simp only [oq8_5_3, Act.put, List.setIfInBounds_toArray, List.set_cons_zero, List.set_cons_succ])
  refine list_step (o := oq8_5_4) (S := (fun V => Blk V w.heap.size 25 ca)) (by rfl) (fun K hK => ?_)
  delta oq8_5_4
  go_simp
  refine (HAB.out _).mono ?_
  rintro e V2 ⟨rfl, hb⟩
  have hSV : (fun V => Blk V w.heap.size 25 ca) V2 := hHeld.below hb hHeld.lt
  replace WW := WW.trans (hb.mono WW.size)
  refine hK.out _ _ hSV (fun hHeld2 => ?_)
  clear hK K hHeld hSV hb
  have hHeld := hHeld2
  clear hHeld2
  (try simp only [oq8_5_4, Act.put, List.setIfInBounds_toArray, List.set_cons_zero, List.set_cons_succ])
  refine list_take (o := oq8_5_5) (v := ?_) (S := (fun V => Blk V w.heap.size 25 ca)) (Or.inl ⟨by rfl, ?_⟩) hHeld ?_
  rotate_left
  · (delta oq8_5_5; intro ws hSw; (try dsimp only at hSw); (try go_simp); (try with_reducible rfl))
  (try simp only [oq8_5_5, Act.put, List.setIfInBounds_toArray, List.set_cons_zero, List.set_cons_succ])
  refine list_take (o := oq8_5_6) (v := ?_) (S := (fun V => Blk V w.heap.size 25 ca)) (Or.inl ⟨by rfl, ?_⟩) hHeld ?_
  rotate_left
  · (delta oq8_5_6; intro ws hSw; (try dsimp only at hSw); (try go_simp); (try with_reducible rfl))
  (try simp only [oq8_5_6, Act.put, List.setIfInBounds_toArray, List.set_cons_zero, List.set_cons_succ])
  refine list_take (o := oq8_5_7) (v := ?_) (S := (fun V => Blk V w.heap.size 25 ca)) (Or.inl ⟨by rfl, ?_⟩) hHeld ?_
  rotate_left
  · (delta oq8_5_7; intro ws hSw; (try dsimp only at hSw); (try go_simp); (try with_reducible rfl))
  (try simp only [oq8_5_7, Act.put, List.setIfInBounds_toArray, List.set_cons_zero, List.set_cons_succ])
  refine list_take (o := oq8_5_8) (v := ?_) (S := (fun V => Blk V w.heap.size 25 ca)) (Or.inl ⟨by rfl, ?_⟩) hHeld ?_
  rotate_left
  · (delta oq8_5_8; intro ws hSw; (try dsimp only at hSw); (try go_simp); (try with_reducible rfl))
  (try simp only [oq8_5_8, Act.put, List.setIfInBounds_toArray, List.set_cons_zero, List.set_cons_succ])
  refine list_take (o := oq8_5_9) (v := ?_) (S := (fun V => Blk V w.heap.size 25 ca)) (Or.inl ⟨by rfl, ?_⟩) hHeld ?_
  rotate_left
  · (delta oq8_5_9; intro ws hSw; (try dsimp only at hSw); (try go_simp); (try with_reducible rfl))
  (try simp only [oq8_5_9, Act.put, List.setIfInBounds_toArray, List.set_cons_zero, List.set_cons_succ])
  refine HK5.out _ _ ?_
  clear HK5
  refine wp_seq_k (fun K6 hK6 => ?_)
  have HK6 := hid hK6
  clear hK6
  have hxa0 : ¬ (((a : Nat) : Int) ≤ ((x : Nat) : Int)) := by omega
  have hya0 : ¬ (((ab : Nat) : Int) ≤ ((y : Nat) : Int)) := by omega
  have hyx2 : (((y : Nat) : Int)).tmod ((a : Nat) : Int) = ((x : Nat) : Int) := by rw [← HY.out]; rfl
  have wwx : IntKind.i64.wrap ((x : Nat) : Int) = ((x : Nat) : Int) := wrap_nat (by omega)
  have ha0 : ¬ (a = 0) := by omega
  go_wp2_with fail
  refine HK6.out _ _ ?_
  clear HK6
  refine wp_seq_k (fun K7 hK7 => ?_)
  have HK7 := hid hK7
  clear hK7
  go_wp2_with fail
  refine HK7.out _ _ ?_
  clear HK7
  refine wp_seq_k (fun K8 hK8 => ?_)
  have HK8 := hid hK8
  clear hK8
  have hc0 : ¬ (((c : Nat) : Int) < 0) := by omega
  have HPI : Hid ((2 : Int) ^ c = ((p2 : Nat) : Int)) := (show _ = _ by rw [HP2.out]; simp)
  have hpw : IntKind.i64.wrap (2 ^ c) = ((p2 : Nat) : Int) := by rw [HPI.out]; exact wrap_nat (by omega)
  have hHeld0 : (fun V => Blk V w.heap.size 25 ca) V2.drew := hHeld
  clear hHeld
  replace WW := WW.drew
  refine region_L 16 (fun V => Blk V w.heap.size 25 ca) (by kernel_rfl) hHeld0 (fun hHeld => ?_)
  clear hHeld0
  generalize hV : V2.drew = V20 at hHeld WW ⊢
  clear hV
  refine AnyL_take (i := 0) (oi := oq8_9_0) (v := .agg ca) rfl (by kernel_rfl) (by kernel_rfl) (by kernel_rfl) (by kernel_rfl) (fun _ _ _ h => h) (yields_hash w.heap.size ca (by rfl) (.tmp 4) rfl rfl (fun _ h => h) za) (by assumption) ?_
  (try simp only [oq8_9_0, Act.put, List.setIfInBounds_toArray, List.set_cons_zero, List.set_cons_succ])
  refine AnyL_take (i := 1) (oi := oq8_9_1) (v := ?_) rfl (by kernel_rfl) (by kernel_rfl) (by kernel_rfl) (by kernel_rfl) (fun _ _ _ h => h) (Or.inl ⟨by rfl, ?_⟩) (by assumption) ?_
  rotate_left
  · (delta oq8_9_1; intro ws hSw; (try dsimp only at hSw); (try go_simp); (try with_reducible rfl))
  (try simp only [oq8_9_1, Act.put, List.setIfInBounds_toArray, List.set_cons_zero, List.set_cons_succ])
  refine AnyL_take (i := 2) (oi := oq8_9_2) (v := .int .i64 ((p2 : Nat) : Int)) rfl (by kernel_rfl) (by kernel_rfl) (by kernel_rfl) (by kernel_rfl) (fun _ _ _ h => h) (Or.inl ⟨by rfl, fun ws h => by delta oq8_9_2; go_simp⟩) (by assumption) ?_
  (try simp only [oq8_9_2, Act.put, List.setIfInBounds_toArray, List.set_cons_zero, List.set_cons_succ])
  refine AnyL_ready (rs := [3]) (by kernel_rfl) (by simp) ?_
  refine ReadyL.cons (o := oq8_9_3) rfl (fun K hK => ?_) ReadyL.nil
  delta oq8_9_3
  go_simp
  refine (HC.out _).mono ?_
  rintro e V3 ⟨rfl, hb⟩
  have hSV : (fun V => Blk V w.heap.size 25 ca) V3 := hHeld.below hb hHeld.lt
  replace WW := WW.trans (hb.mono WW.size)
  refine hK.out _ _ hSV (fun hHeld2 => ?_)
  clear hK K hHeld hSV hb
  have hHeld := hHeld2
  clear hHeld2
  (try simp only [oq8_9_3, Act.put, List.setIfInBounds_toArray, List.set_cons_zero, List.set_cons_succ])
  refine AnyL_take (i := 4) (oi := oq8_9_4) (v := ?_) rfl (by kernel_rfl) (by kernel_rfl) (by kernel_rfl) (by kernel_rfl) (fun _ _ _ h => h) (Or.inl ⟨by rfl, ?_⟩) (by assumption) ?_
  rotate_left
  · (delta oq8_9_4; intro ws hSw; (try dsimp only at hSw); (try go_simp); (try with_reducible rfl))
  (try simp only [oq8_9_4, Act.put, List.setIfInBounds_toArray, List.set_cons_zero, List.set_cons_succ])
  refine AnyL_take (i := 5) (oi := oq8_9_5) (v := ?_) rfl (by kernel_rfl) (by kernel_rfl) (by kernel_rfl) (by kernel_rfl) (fun _ _ _ h => h) (Or.inl ⟨by rfl, ?_⟩) (by assumption) ?_
  rotate_left
  · (delta oq8_9_5; intro ws hSw; (try dsimp only at hSw); (try go_simp); (try with_reducible rfl))
  (try simp only [oq8_9_5, Act.put, List.setIfInBounds_toArray, List.set_cons_zero, List.set_cons_succ])
  refine AnyL_take (i := 6) (oi := oq8_9_6) (v := ?_) rfl (by kernel_rfl) (by kernel_rfl) (by kernel_rfl) (by kernel_rfl) (fun _ _ _ h => h) (Or.inl ⟨by rfl, ?_⟩) (by assumption) ?_
  rotate_left
  · (delta oq8_9_6; intro ws hSw; (try dsimp only at hSw); (try go_simp); (try with_reducible rfl))
  (try simp only [oq8_9_6, Act.put, List.setIfInBounds_toArray, List.set_cons_zero, List.set_cons_succ])
  refine AnyL_take (i := 7) (oi := oq8_9_7) (v := ?_) rfl (by kernel_rfl) (by kernel_rfl) (by kernel_rfl) (by kernel_rfl) (fun _ _ _ h => h) (Or.inl ⟨by rfl, ?_⟩) (by assumption) ?_
  rotate_left
  · (delta oq8_9_7; intro ws hSw; (try dsimp only at hSw); (try go_simp); (try with_reducible rfl))
  (try simp only [oq8_9_7, Act.put, List.setIfInBounds_toArray, List.set_cons_zero, List.set_cons_succ])
  refine AnyL_take (i := 8) (oi := oq8_9_8) (v := ?_) rfl (by kernel_rfl) (by kernel_rfl) (by kernel_rfl) (by kernel_rfl) (fun _ _ _ h => h) (Or.inl ⟨by rfl, ?_⟩) (by assumption) ?_
  rotate_left
  · (delta oq8_9_8; intro ws hSw; (try dsimp only at hSw); (try go_simp); (try with_reducible rfl))
  (try simp only [oq8_9_8, Act.put, List.setIfInBounds_toArray, List.set_cons_zero, List.set_cons_succ])
  refine AnyL_done (by kernel_rfl) ?_ _
  refine HK8.out _ _ ?_
  clear HK8
  clear hxa0 hya0 hyx2
  go_wp2_with fail
  go_loopw [18, 90] (fun v i wr => ∃ k : Nat, k ≤ 8 ∧ i = .int .i64 ((k : Nat) : Int) ∧ v = .int .u64 ((vb 256 ((l.drop 8).take k) : Nat) : Int) ∧ Below w.heap.size w wr ∧ Blk wr w.heap.size 25 ca) (fun v i wr => 8 - (intOf i).toNat)
  case atStart => exact ⟨0, by omega, rfl, by simp [vb], WW, hHeld⟩
  case round =>
    clear WW hHeld
    obtain ⟨k, hk, rfl, rfl, WW, b1⟩ := hrel
    by_cases hlt : k < 8
    · have hll := HL.out
      have hvs : Hid (vb 256 ((l.drop 8).take (k + 1)) = _) := (show _ = _ by rw [vb_snoc (l.drop 8) (by rw [List.length_drop]; omega)])
      have hvl : vb 256 ((l.drop 8).take k) < 72057594037927936 := vb_lt7 _ (fun d hd => H8.out d (List.mem_of_mem_drop hd)) k (by omega)
      have hx8 : (l.drop 8).getD k 0 < 256 := by
        rw [List.getD_eq_getElem?_getD, List.getElem?_eq_getElem (by rw [List.length_drop]; omega)]
        exact H8.out _ (List.mem_of_mem_drop (List.getElem_mem _))
      have hcell : wr.cell? ⟨w.heap.size, 8 + k, none⟩ = some (.int .u8 (((l.drop 8).getD k 0 : Nat) : Int)) := by
        rw [HCA.out] at b1
        rw [List.getD_eq_getElem?_getD, List.getElem?_drop, ← List.getD_eq_getElem?_getD]
        exact b1.readb (by omega)
      clear hll
      generalize (l.drop 8).getD k 0 = d at hvs hx8 hcell
      generalize vb 256 ((l.drop 8).take k) = u at hvs hvl
      have hor : bits BinOp.or IntKind.u64 (((u : Nat) : Int) * 256) ((d : Nat) : Int) = ((u * 256 + d : Nat) : Int) := by
        have h := or_apart ((u : Nat) : Int) ((d : Nat) : Int) 8 (by omega) (by omega) (by omega) (by omega) (by omega)
        rw [show (2 : Int) ^ 8 = 256 from rfl] at h
        rw [h]; simp
      have hww : IntKind.u64.wrap (((u : Nat) : Int) * 256) = ((u : Nat) : Int) * 256 := by rw [IntKind.wrap_u64]; omega
      have hwm : (((u : Nat) : Int) * 256) % 18446744073709551616 = ((u : Nat) : Int) * 256 := by omega
      have hwd : IntKind.u64.wrap ((d : Nat) : Int) = ((d : Nat) : Int) := by rw [IntKind.wrap_u64]; omega
      go_wp2_with fail
      exact ⟨⟨k + 1, by omega, rfl, by rw [hvs.out]; simp, WW, b1⟩, by simp [intOf]; omega⟩
    · have hk2 : k = 8 := by omega
      subst hk2
      have hll := HL.out
      have hlow : vb 256 ((l.drop 8).take 8) % p2 = z := by
        rw [HZ.out, HV.out, HP2.out, show (16 : Nat) = 8 + 8 from rfl, List.take_add, vb_append]
        exact low_mod _ _ c (by rw [List.length_take, List.length_drop]; omega) (by omega)
      have hul : vb 256 ((l.drop 8).take 8) < 18446744073709551616 := vb_lt8 _ (fun d hd => H8.out d (List.mem_of_mem_drop hd))
      clear hll
      generalize vb 256 ((l.drop 8).take 8) = u at hlow hul
      have hand : bits BinOp.and IntKind.u64 ((u : Nat) : Int) (((p2 : Nat) : Int) - 1) = ((z : Nat) : Int) := by
        rw [show ((p2 : Nat) : Int) - 1 = ((p2 - 1 : Nat) : Int) by omega, bits_and_u64_nat _ _ hul (by omega), ← hlow, HP2.out, Nat.and_two_pow_sub_one_eq_mod]
      have hpw2 : IntKind.u64.wrap (2 ^ c) = ((p2 : Nat) : Int) := by rw [HPI.out, IntKind.wrap_u64]; omega
      have hpw3 : (2 ^ c : Int) % 18446744073709551616 = ((p2 : Nat) : Int) := by rw [HPI.out]; omega
      have hwp : IntKind.u64.wrap (((p2 : Nat) : Int) - 1) = ((p2 : Nat) : Int) - 1 := by rw [IntKind.wrap_u64]; omega
      have hwz : IntKind.u64.wrap ((z : Nat) : Int) = ((z : Nat) : Int) := by rw [IntKind.wrap_u64]; omega
      clear hlow
      go_wp2_with fail
      go_ret
      exact ⟨rfl, WW⟩
end Go.Proofs.YtenmdfhdiepfcaaDoor
