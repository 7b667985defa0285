/- digest.Parse. -/
import Derived.Test.YtenmdfhdiepfcaaDoorLTx3
set_option linter.unusedVariables false
set_option linter.unusedSimpArgs false
namespace Go.Proofs.YtenmdfhdiepfcaaDoor
open Go Go.RowKit
def oq24_7_0 : Oper := { dst := some 15, op := Op.move (Operand.tmp 0), type := 9, pos := "digest.go:80", after := #[], guard := none }
def oq24_7_1 : Oper := { dst := some 16, op := Op.move (Operand.tmp 5), type := 3, pos := "digest.go:80", after := #[], guard := none }
def oq24_7_2 : Oper := { dst := some 17, op := Op.binOp BinOp.mul 3 (Operand.const (Value.int IntKind.i64 2)) (Operand.tmp 16) 3, type := 3, pos := "digest.go:80", after := #[{ on := 1, ground := Ground.data }], guard := none }
def oq24_7_3 : Oper := { dst := some 18, op := Op.index 9 (Operand.tmp 15) (Operand.tmp 17), type := 5, pos := "digest.go:80", after := #[{ on := 0, ground := Ground.data }, { on := 2, ground := Ground.data }], guard := none }
def oq24_7_4 : Oper := { dst := some 19, op := Op.call { callee := Callee.value (Operand.func 50), args := #[Operand.const (Value.string { data := #[48, 49, 50, 51, 52, 53, 54, 55, 56, 57, 97, 98, 99, 100, 101, 102] }), Operand.tmp 18], argTypes := #[9, 5] }, type := 3, pos := "digest.go:80", after := #[{ on := 3, ground := Ground.data }], guard := none }
def oq24_7_5 : Oper := { dst := some 20, op := Op.move (Operand.tmp 0), type := 9, pos := "digest.go:80", after := #[], guard := none }
def oq24_7_6 : Oper := { dst := some 21, op := Op.move (Operand.tmp 5), type := 3, pos := "digest.go:80", after := #[], guard := none }
def oq24_7_7 : Oper := { dst := some 22, op := Op.binOp BinOp.mul 3 (Operand.const (Value.int IntKind.i64 2)) (Operand.tmp 21) 3, type := 3, pos := "digest.go:80", after := #[{ on := 6, ground := Ground.data }], guard := none }
def oq24_7_8 : Oper := { dst := some 23, op := Op.binOp BinOp.add 3 (Operand.tmp 22) (Operand.const (Value.int IntKind.i64 1)) 3, type := 3, pos := "digest.go:80", after := #[{ on := 7, ground := Ground.data }], guard := none }
def oq24_7_9 : Oper := { dst := some 24, op := Op.index 9 (Operand.tmp 20) (Operand.tmp 23), type := 5, pos := "digest.go:80", after := #[{ on := 5, ground := Ground.data }, { on := 8, ground := Ground.data }], guard := none }
def oq24_7_10 : Oper := { dst := some 25, op := Op.call { callee := Callee.value (Operand.func 50), args := #[Operand.const (Value.string { data := #[48, 49, 50, 51, 52, 53, 54, 55, 56, 57, 97, 98, 99, 100, 101, 102] }), Operand.tmp 24], argTypes := #[9, 5] }, type := 3, pos := "digest.go:80", after := #[{ on := 9, ground := Ground.data }, { on := 4, ground := Ground.chain }], guard := none }
def oq24_7_11 : Oper := { dst := some 6, op := Op.assign (Operand.tmp 19), type := 3, pos := "digest.go:80", after := #[{ on := 4, ground := Ground.data }, { on := 10, ground := Ground.chain }, { on := 0, ground := Ground.phase }, { on := 1, ground := Ground.phase }, { on := 2, ground := Ground.phase }, { on := 3, ground := Ground.phase }, { on := 4, ground := Ground.phase }, { on := 5, ground := Ground.textOnly Departure.lateStores }, { on := 6, ground := Ground.textOnly Departure.lateStores }, { on := 7, ground := Ground.textOnly Departure.lateStores }, { on := 8, ground := Ground.textOnly Departure.lateStores }, { on := 9, ground := Ground.textOnly Departure.lateStores }, { on := 10, ground := Ground.textOnly Departure.lateStoresUnsure }], guard := none }
def oq24_7_12 : Oper := { dst := some 7, op := Op.assign (Operand.tmp 25), type := 3, pos := "digest.go:80", after := #[{ on := 10, ground := Ground.data }, { on := 11, ground := Ground.chain }, { on := 0, ground := Ground.phase }, { on := 1, ground := Ground.phase }, { on := 2, ground := Ground.phase }, { on := 3, ground := Ground.phase }, { on := 4, ground := Ground.phase }, { on := 5, ground := Ground.phase }, { on := 6, ground := Ground.phase }, { on := 7, ground := Ground.phase }, { on := 8, ground := Ground.phase }, { on := 9, ground := Ground.phase }, { on := 10, ground := Ground.phase }, { on := 11, ground := Ground.phase }], guard := none }

theorem find_dgt (c : Nat) (V : World) (h : c < 256) : Calls Tryd.prog 50 #[.string { data := #[48, 49, 50, 51, 52, 53, 54, 55, 56, 57, 97, 98, 99, 100, 101, 102] }, .int .u8 ((c : Nat) : Int)] V (fun e w' => e = .returned (.int .i64 (dgt c)) ∧ w' = V) := by
  have h1 := Tryd.strings_IndexByte { data := #[48, 49, 50, 51, 52, 53, 54, 55, 56, 57, 97, 98, 99, 100, 101, 102] } ((c : Nat) : Int) V
  rw [Int.toNat_natCast] at h1
  have h2 := index_dgt ⟨c, h⟩
  rw [← h2]
  exact h1
theorem or_hex : ∀ a b : Fin 16, bits BinOp.or IntKind.i64 (((a.val : Nat) : Int) * 16) ((b.val : Nat) : Int) = ((a.val * 16 + b.val : Nat) : Int) := by decide +kernel
set_option maxRecDepth 100000 in
set_option maxHeartbeats 4000000 in
theorem parse_any (s : ByteArray) (w : World) (r : List Nat) (b : Int) (Hok : okT s → r = pk s 64 ∧ b = 0) (Hno : ¬ okT s → r = zl ∧ b = 3) :
    Calls Tryd.prog 24 #[.string s] w (fun e w' => e = .returned (.tuple #[hv r, .int .i64 b]) ∧ Below w.heap.size w w') := by
  have hz := (zero_of_info info25).1
  rw [brow_zero] at hz
  replace hz : ∀ w, (zeroValue 25).run Tryd.prog w = .ok (.agg b32) w := hz
  have b1 := (Blk.new w 25 b32).alloc (.cells b32 25)
  have b2 := Blk.new (w.alloc (.cells b32 25)) 25 b32
  have WW := ((Below.refl w.heap.size w).alloc (Nat.le_refl _) (.cells b32 25)).alloc (by simp) (.cells b32 25)
  simp only [World.size_alloc] at b2
  have HHok := hid Hok
  have HHno := hid Hno
  clear Hok Hno
  by_cases h64 : s.size = 64
  · have hs1 : (((s.size : Nat) : Int) != 64) = false := by rw [h64]; rfl
    have HS := hid h64
    clear h64
    have HDG : Hid (∀ k V, Calls Tryd.prog 50 #[.string { data := #[48, 49, 50, 51, 52, 53, 54, 55, 56, 57, 97, 98, 99, 100, 101, 102] }, .int .u8 ((tx s k : Nat) : Int)] V (fun e w' => e = .returned (.int .i64 (dgt (tx s k))) ∧ w' = V)) := (show ∀ k V, _ from fun k V => find_dgt _ V (tx_lt s k))
    go_enter Tryd.func24, Tryd.ntmps24
    refine wp_seq_k (fun K1 hK1 => ?_)
    have HK1 := hid hK1
    clear hK1
    go_wp2_with fail
    refine HK1.out _ _ ?_
    clear HK1
    refine wp_seq_k (fun K2 hK2 => ?_)
    have HK2 := hid hK2
    clear hK2
    go_wp2_with fail
    refine HK2.out _ _ ?_
    clear HK2
    generalize hV : (w.alloc (.cells b32 25)).alloc (.cells b32 25) = V0 at b1 b2 WW ⊢
    clear hV
    refine wp_seq_k (fun K3 hK3 => ?_)
    have HK3 := hid hK3
    clear hK3
    go_wp2_with fail
    refine HK3.out _ _ ?_
    clear HK3
    refine wp_seq_k (fun K4 hK4 => ?_)
    have HK4 := hid hK4
    clear hK4
    go_wp2_with fail
    rw [b32_zl, zl, ← pk_zero s] at b2
    have hzz : (0 : Nat) = 2 * 0 := rfl
    rw [hzz] at b2
    clear hzz
    go_loopw [12] (fun i wr => ∃ k : Nat, k ≤ 32 ∧ i = .int .i64 ((k : Nat) : Int) ∧ (∀ j, j < 2 * k → 0 ≤ dgt (tx s j)) ∧ Below w.heap.size w wr ∧ Blk wr w.heap.size 25 b32 ∧ Blk wr (w.heap.size + 1) 25 (brow (pk s (2 * k)))) (fun i wr => 32 - (intOf i).toNat)
    case atStart => exact ⟨0, by omega, rfl, fun j hj => by omega, WW, b1, b2⟩
    case round =>
      clear WW b1 b2
      obtain ⟨k, hk, rfl, hall, WW, b1, b2⟩ := hrel
      have HALL := hid hall
      clear hall
      by_cases hlt : k < 32
      · obtain ⟨k2, hk2⟩ : ∃ x, x = 2 * k := ⟨_, rfl⟩
        obtain ⟨k3, hk3⟩ : ∃ x, x = 2 * k + 1 := ⟨_, rfl⟩
        have e2 : 2 * ((k : Nat) : Int) = ((k2 : Nat) : Int) := by omega
        have e3 : ((k2 : Nat) : Int) + 1 = ((k3 : Nat) : Int) := by omega
        have m2 : IntKind.i64.wrap ((k2 : Nat) : Int) = ((k2 : Nat) : Int) := wrap_nat (by omega)
        have m3 : IntKind.i64.wrap ((k3 : Nat) : Int) = ((k3 : Nat) : Int) := wrap_nat (by omega)
        have hi2 : ∀ w', (Instr.index 9 (.string s) (.int .i64 ((k2 : Nat) : Int))).run Tryd.prog w' = .ok (.int .u8 ((tx s k2 : Nat) : Int)) w' := fun w' => index_tx s k2 (by rw [HS.out]; omega) w'
        have hi3 : ∀ w', (Instr.index 9 (.string s) (.int .i64 ((k3 : Nat) : Int))).run Tryd.prog w' = .ok (.int .u8 ((tx s k3 : Nat) : Int)) w' := fun w' => index_tx s k3 (by rw [HS.out]; omega) w'
        have HD2 := hid (HDG.out k2)
        have HD3 := hid (HDG.out k3)
        have p1 := dgt_lo (tx s k2)
        have p2 := dgt_hi (tx s k2)
        have q1 := dgt_lo (tx s k3)
        have q2 := dgt_hi (tx s k3)
        have hset := pk_two s hlt
        rw [← hk3, ← hk2] at hset
        have HSET := hid hset
        clear hset
        have HK2X := hid hk2
        have HK3X := hid hk3
        have HNEG : Hid ((dgt (tx s k2) < 0 ∨ dgt (tx s k3) < 0) → ¬ okT s) := (show _ from fun h hok => by
          have g2 := hok.2 k2 (by omega)
          have g3 := hok.2 k3 (by omega)
          omega)
        have HALL2 : Hid (0 ≤ dgt (tx s k2) → 0 ≤ dgt (tx s k3) → ∀ j, j < 2 * (k + 1) → 0 ≤ dgt (tx s j)) := (show _ from fun g2 g3 j hj => by
          rcases Nat.lt_or_ge j (2 * k) with h | h
          · exact HALL.out j h
          · rcases (show j = k2 ∨ j = k3 by omega) with rfl | rfl
            · exact g2
            · exact g3)
        rw [← hk2] at b2
        clear hk2 hk3
        have hf3 := b2.frozen k
        generalize hA : dgt (tx s k2) = da at HD2 p1 p2 HSET HNEG HALL2
        generalize hB : dgt (tx s k3) = db at HD3 q1 q2 HSET HNEG HALL2
        have HDA := hid hA
        have HDB := hid hB
        clear hA hB
        generalize tx s k2 = c2 at hi2 HD2 HDA
        generalize tx s k3 = c3 at hi3 HD3 HDB
        refine wp_seq_k (fun A0 hA0 => ?_)
        have HA0 := hid hA0
        clear hA0
        go_wp2_with fail
        refine HA0.out _ _ ?_
        clear HA0
        refine wp_seq_k (fun A1 hA1 => ?_)
        have HA1 := hid hA1
        clear hA1
        go_wp2_with fail
        refine HA1.out _ _ ?_
        clear HA1
        refine wp_seq_k (fun A2 hA2 => ?_)
        have HA2 := hid hA2
        clear hA2
        refine wp_block ?_
        refine wp_seq_k (fun A3 hA3 => ?_)
        have HA3 := hid hA3
        clear hA3
        go_wp2_with fail
        refine HA3.out _ _ ?_
        clear HA3
        refine wp_seq_k (fun A4 hA4 => ?_)
        have HA4 := hid hA4
        clear hA4
        replace WW := WW.drew
        replace b1 : Blk wr.drew w.heap.size 25 b32 := b1
        replace b2 : Blk wr.drew (w.heap.size + 1) 25 (brow (pk s k2)) := b2
        refine region_L 20 (fun _ => True) (by kernel_rfl) trivial (fun hHeld => ?_)
        generalize hV : wr.drew = V2 at b1 b2 WW ⊢
        clear hV
        refine AnyL_take (i := 0) (oi := oq24_7_0) (v := ?_) rfl (by kernel_rfl) (by kernel_rfl) (by kernel_rfl) (by kernel_rfl) (fun _ _ _ h => h) (Or.inl ⟨by rfl, ?_⟩) (by assumption) ?_
        rotate_left
        · (delta oq24_7_0; intro ws hSw; (try dsimp only at hSw); (try go_simp); (try with_reducible rfl))
        (try simp only [oq24_7_0, Act.put, List.setIfInBounds_toArray, List.set_cons_zero, List.set_cons_succ])
        refine AnyL_take (i := 1) (oi := oq24_7_1) (v := ?_) rfl (by kernel_rfl) (by kernel_rfl) (by kernel_rfl) (by kernel_rfl) (fun _ _ _ h => h) (Or.inl ⟨by rfl, ?_⟩) (by assumption) ?_
        rotate_left
        · (delta oq24_7_1; intro ws hSw; (try dsimp only at hSw); (try go_simp); (try with_reducible rfl))
        (try simp only [oq24_7_1, Act.put, List.setIfInBounds_toArray, List.set_cons_zero, List.set_cons_succ])
        refine AnyL_take (i := 2) (oi := oq24_7_2) (v := .int .i64 ((k2 : Nat) : Int)) rfl (by kernel_rfl) (by kernel_rfl) (by kernel_rfl) (by kernel_rfl) (fun _ _ _ h => h) (Or.inl ⟨by rfl, fun ws h => by delta oq24_7_2; go_simp⟩) (by assumption) ?_
        (try simp only [oq24_7_2, Act.put, List.setIfInBounds_toArray, List.set_cons_zero, List.set_cons_succ])
        refine AnyL_take (i := 3) (oi := oq24_7_3) (v := .int .u8 ((c2 : Nat) : Int)) rfl (by kernel_rfl) (by kernel_rfl) (by kernel_rfl) (by kernel_rfl) (fun _ _ _ h => h) (Or.inl ⟨by rfl, fun ws h => by delta oq24_7_3; go_simp⟩) (by assumption) ?_
        (try simp only [oq24_7_3, Act.put, List.setIfInBounds_toArray, List.set_cons_zero, List.set_cons_succ])
        refine AnyL_take (i := 5) (oi := oq24_7_5) (v := ?_) rfl (by kernel_rfl) (by kernel_rfl) (by kernel_rfl) (by kernel_rfl) (fun _ _ _ h => h) (Or.inl ⟨by rfl, ?_⟩) (by assumption) ?_
        rotate_left
        · (delta oq24_7_5; intro ws hSw; (try dsimp only at hSw); (try go_simp); (try with_reducible rfl))
        (try simp only [oq24_7_5, Act.put, List.setIfInBounds_toArray, List.set_cons_zero, List.set_cons_succ])
        refine AnyL_take (i := 6) (oi := oq24_7_6) (v := ?_) rfl (by kernel_rfl) (by kernel_rfl) (by kernel_rfl) (by kernel_rfl) (fun _ _ _ h => h) (Or.inl ⟨by rfl, ?_⟩) (by assumption) ?_
        rotate_left
        · (delta oq24_7_6; intro ws hSw; (try dsimp only at hSw); (try go_simp); (try with_reducible rfl))
        (try simp only [oq24_7_6, Act.put, List.setIfInBounds_toArray, List.set_cons_zero, List.set_cons_succ])
        refine AnyL_take (i := 7) (oi := oq24_7_7) (v := .int .i64 ((k2 : Nat) : Int)) rfl (by kernel_rfl) (by kernel_rfl) (by kernel_rfl) (by kernel_rfl) (fun _ _ _ h => h) (Or.inl ⟨by rfl, fun ws h => by delta oq24_7_7; go_simp⟩) (by assumption) ?_
        (try simp only [oq24_7_7, Act.put, List.setIfInBounds_toArray, List.set_cons_zero, List.set_cons_succ])
        refine AnyL_take (i := 8) (oi := oq24_7_8) (v := .int .i64 ((k3 : Nat) : Int)) rfl (by kernel_rfl) (by kernel_rfl) (by kernel_rfl) (by kernel_rfl) (fun _ _ _ h => h) (Or.inl ⟨by rfl, fun ws h => by delta oq24_7_8; go_simp⟩) (by assumption) ?_
        (try simp only [oq24_7_8, Act.put, List.setIfInBounds_toArray, List.set_cons_zero, List.set_cons_succ])
        refine AnyL_take (i := 9) (oi := oq24_7_9) (v := .int .u8 ((c3 : Nat) : Int)) rfl (by kernel_rfl) (by kernel_rfl) (by kernel_rfl) (by kernel_rfl) (fun _ _ _ h => h) (Or.inl ⟨by rfl, fun ws h => by delta oq24_7_9; go_simp⟩) (by assumption) ?_
        (try simp only [oq24_7_9, Act.put, List.setIfInBounds_toArray, List.set_cons_zero, List.set_cons_succ])
        refine AnyL_ready (rs := [4]) (by kernel_rfl) (by simp) ?_
        refine ReadyL.cons (o := oq24_7_4) rfl (fun K hK => ?_) ReadyL.nil
        delta oq24_7_4
        go_simp
        refine (HD2.out _).mono ?_
        rintro e w' ⟨rfl, rfl⟩
        refine hK.out _ _ trivial (fun hHeld2 => ?_)
        clear hK K hHeld
        have hHeld := hHeld2
        clear hHeld2
        (try simp only [oq24_7_4, Act.put, List.setIfInBounds_toArray, List.set_cons_zero, List.set_cons_succ])
        refine AnyL_ready (rs := [10]) (by kernel_rfl) (by simp) ?_
        refine ReadyL.cons (o := oq24_7_10) rfl (fun K hK => ?_) ReadyL.nil
        delta oq24_7_10
        go_simp
        refine (HD3.out _).mono ?_
        rintro e w' ⟨rfl, rfl⟩
        refine hK.out _ _ trivial (fun hHeld2 => ?_)
        clear hK K hHeld
        have hHeld := hHeld2
        clear hHeld2
        (try simp only [oq24_7_10, Act.put, List.setIfInBounds_toArray, List.set_cons_zero, List.set_cons_succ])
        refine AnyL_take (i := 11) (oi := oq24_7_11) (v := ?_) rfl (by kernel_rfl) (by kernel_rfl) (by kernel_rfl) (by kernel_rfl) (fun _ _ _ h => h) (Or.inl ⟨by rfl, ?_⟩) (by assumption) ?_
        rotate_left
        · (delta oq24_7_11; intro ws hSw; (try dsimp only at hSw); (try go_simp); (try with_reducible rfl))
        (try simp only [oq24_7_11, Act.put, List.setIfInBounds_toArray, List.set_cons_zero, List.set_cons_succ])
        refine AnyL_take (i := 12) (oi := oq24_7_12) (v := ?_) rfl (by kernel_rfl) (by kernel_rfl) (by kernel_rfl) (by kernel_rfl) (fun _ _ _ h => h) (Or.inl ⟨by rfl, ?_⟩) (by assumption) ?_
        rotate_left
        · (delta oq24_7_12; intro ws hSw; (try dsimp only at hSw); (try go_simp); (try with_reducible rfl))
        (try simp only [oq24_7_12, Act.put, List.setIfInBounds_toArray, List.set_cons_zero, List.set_cons_succ])
        refine AnyL_done (by kernel_rfl) ?_ _
        refine HA4.out _ _ ?_
        clear HA4 hHeld
        refine wp_seq_k (fun A5 hA5 => ?_)
        have HA5 := hid hA5
        clear hA5
        by_cases hneg : da < 0 ∨ db < 0
        · have hno := HHno.out (HNEG.out hneg)
          obtain ⟨rfl, rfl⟩ := hno
          clear HHok HHno HDG HALL HSET
          have hc : (da < 0) ∨ (¬ da < 0 ∧ db < 0) := by omega
          clear hneg
          rcases hc with h | ⟨h, h'⟩
          all_goals
            refine wp_seq_k (fun A6 hA6 => ?_)
            have HA6 := hid hA6
            clear hA6
            go_wp2_with fail
            refine HA6.out _ _ ?_
            clear HA6
            refine wp_cond_true rfl ?_
            refine wp_seq_k (fun A7 hA7 => ?_)
            refine wp_region_lit ?_
            refine list_take (v := .agg b32) (S := fun _ => True) (Or.inl ⟨by rfl, fun ws _ => by go_simp⟩) trivial ?_
            refine wpList_store_row rfl 25 (.tmp 2) (.tmp 32) rfl w.heap.size b32 rfl rfl 25 _ b1 (by rw [b32_size]; kernel_rfl) (by rfl) (brow_one _) ?_
            go_wp2_with fail
            exact bodyPost_ret (v := .tuple #[hv zl, .int .i64 3]) (results_cell_tmp rfl _ _ w.heap.size 25 b32 (0, 0) _ _ rfl rfl (b1.setRow_ _) Tryd.underlying25 rfl (by rw [b32_size]; kernel_rfl)) rfl ⟨rfl, below_setRow_ WW (by omega) _⟩
        · obtain ⟨xa, rfl⟩ : ∃ d : Nat, da = ((d : Nat) : Int) := ⟨da.toNat, by omega⟩
          obtain ⟨xb, rfl⟩ : ∃ d : Nat, db = ((d : Nat) : Int) := ⟨db.toNat, by omega⟩
          obtain ⟨y, hy⟩ : ∃ y, y = xa * 16 + xb := ⟨_, rfl⟩
          have HSY : Hid ((pk s k2).set k y = pk s (2 * (k + 1))) := (show _ = _ by rw [← HSET.out, hy]; simp)
          have v1 : bits BinOp.or IntKind.i64 (((xa : Nat) : Int) * 16) ((xb : Nat) : Int) = ((y : Nat) : Int) := by rw [hy]; exact or_hex ⟨xa, by omega⟩ ⟨xb, by omega⟩
          have hy8 : y < 256 := by omega
          have v2 : IntKind.i64.wrap (((xa : Nat) : Int) * 16) = ((xa : Nat) : Int) * 16 := by rw [IntKind.wrap_i64]; omega
          have v3 : IntKind.u8.wrap ((y : Nat) : Int) = ((y : Nat) : Int) := by rw [IntKind.wrap_u8]; omega
          have v4 : ((y : Nat) : Int) % 256 = ((y : Nat) : Int) := by omega
          clear hy HSET HDG HNEG hneg
          have HA12 := hid (HALL2.out (by omega) (by omega))
          clear HALL2
          have hf4 := b2.frozen k
          have hr4 := b2.readb (i := k) (by rw [pk_len]; exact hlt)
          generalize (pk s k2).getD k 0 = x0 at hr4
          have hk33 : ((k : Nat) : Int) < 32 := by omega
          have hk34 : ¬ ((k : Nat) : Int) < 0 := by omega
          go_wp2_with fail
          refine HA5.out _ _ ?_
          clear HA5
          go_wp2_with fail
          refine HA2.out _ _ ?_
          clear HA2
          go_wp2_with fail
          go_roundw
          case rel => exact ⟨k + 1, by omega, rfl, HA12.out, WW.setCell (by simp <;> omega) _, b1.far (by simp <;> omega) _, b2.putb HSY.out⟩
          case measure => simp [intOf] <;> omega
      · have hk2 : k = 32 := by omega
        subst hk2
        have hok := HHok.out ⟨HS.out, HALL.out⟩
        obtain ⟨rfl, rfl⟩ := hok
        clear HHok HHno HDG HALL
        go_wp2_with fail
        refine HK4.out _ _ ?_
        clear HK4
        refine wp_seq_k (fun A6 hA6 => ?_)
        refine wp_region_lit ?_
        refine wpList_load_row rfl 25 (.tmp 4) rfl _ rfl 25 _ (0, 0) _ b2 Tryd.underlying25 rfl (by rw [brow_size, pk_len]; kernel_rfl) ?_
        refine wpList_store_row rfl 25 (.tmp 2) (.tmp 41) rfl w.heap.size (brow (pk s 64)) rfl rfl 25 _ b1 (by rw [brow_size, pk_len]; kernel_rfl) (by rw [brow_size, pk_len, b32_size]) (brow_one _) ?_
        go_wp2_with fail
        exact bodyPost_ret (v := .tuple #[hv (pk s 64), .int .i64 0]) (results_cell_tmp rfl _ _ w.heap.size 25 (brow (pk s 64)) (0, 0) _ _ rfl rfl (b1.setRow_ _) Tryd.underlying25 rfl (by rw [brow_size, pk_len]; kernel_rfl)) rfl ⟨rfl, below_setRow_ WW (by omega) _⟩
  · have hno := HHno.out (fun h => h64 h.1)
    obtain ⟨rfl, rfl⟩ := hno
    clear HHok HHno
    have hs1 : (((s.size : Nat) : Int) != 64) = true := by simp; omega
    clear h64
    go_enter Tryd.func24, Tryd.ntmps24
    refine wp_seq_k (fun K1 hK1 => ?_)
    have HK1 := hid hK1
    clear hK1
    go_wp2_with fail
    refine HK1.out _ _ ?_
    clear HK1
    refine wp_seq_k (fun K2 hK2 => ?_)
    have HK2 := hid hK2
    clear hK2
    go_wp2_with fail
    refine HK2.out _ _ ?_
    clear HK2
    generalize hV : (w.alloc (.cells b32 25)).alloc (.cells b32 25) = V0 at b1 b2 WW ⊢
    clear hV
    refine wp_seq_k (fun K3 hK3 => ?_)
    have HK3 := hid hK3
    clear hK3
    refine wp_seq_k (fun K4 hK4 => ?_)
    have HK4 := hid hK4
    clear hK4
    go_wp2_with fail
    refine HK4.out _ _ ?_
    clear HK4
    refine wp_cond_true rfl ?_
    refine wp_seq_k (fun A6 hA6 => ?_)
    refine wp_region_lit ?_
    refine list_take (v := .agg b32) (S := fun _ => True) (Or.inl ⟨by rfl, fun ws _ => by go_simp⟩) trivial ?_
    refine wpList_store_row rfl 25 (.tmp 2) (.tmp 11) rfl w.heap.size b32 rfl rfl 25 _ b1 (by rw [b32_size]; kernel_rfl) (by rfl) (brow_one _) ?_
    go_wp2_with fail
    exact bodyPost_ret (v := .tuple #[hv zl, .int .i64 3]) (results_cell_tmp rfl _ _ w.heap.size 25 b32 (0, 0) _ _ rfl rfl (b1.setRow_ _) Tryd.underlying25 rfl (by rw [b32_size]; kernel_rfl)) rfl ⟨rfl, below_setRow_ WW (by omega) _⟩
end Go.Proofs.YtenmdfhdiepfcaaDoor
