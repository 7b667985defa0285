/- the reference of layer 3: Plus. -/
import Derived.Test.YtckajjapockonaaRf2
set_option linter.unusedVariables false
set_option linter.unusedSimpArgs false
namespace Go.Proofs.Ytckajjapockonaa
open Go.RowKit

theorem add_digs (a b k S cc : Nat) (h : S + cc * 2 ^ (32 * k) = a % 2 ^ (32 * k) + b % 2 ^ (32 * k)) (hc : cc ≤ 1) :
    (dig a k + dig b k + cc) % 4294967296 * 2 ^ (32 * k) + S + (dig a k + dig b k + cc) / 4294967296 * 2 ^ (32 * (k + 1)) = a % 2 ^ (32 * (k + 1)) + b % 2 ^ (32 * (k + 1)) ∧ (dig a k + dig b k + cc) / 4294967296 ≤ 1 := by
  have := sum_step a b k S cc h
  have d1 := dig_lt a k
  have d2 := dig_lt b k
  exact ⟨by omega, by omega⟩
theorem mod_of_lt {a n k : Nat} (h : a < 2 ^ (32 * n)) (hk : n ≤ k) : a % 2 ^ (32 * k) = a := Nat.mod_eq_of_lt (Nat.lt_of_lt_of_le h (pw_le hk))
set_option maxHeartbeats 8000000 in
theorem plus_any (A B' : Option Addr) (n m c d a b : Nat) (w : World) (hA : Num w w.heap.size A n a) (hB : Num w w.heap.size B' m b) (hn : n ≤ 100000) (hm : m ≤ 100000) :
    Calls Try.prog 37 #[.agg #[.slice A n c], .agg #[.slice B' m d]] w (RetNat w.heap.size (a + b) w) := by
  obtain ⟨b0, b1, b2, bw⟩ := boxes3 w (.slice A n c) (.slice B' m d) (.slice none 0 0)
  have HXA := hid (Box.mk b0 hA bw)
  have HXB := hid (Box.mk b1 hB bw)
  have HB2 := hid b2
  have HWW := hid bw
  have LA := hid hA.lt
  have LB := hid hB.lt
  clear b0 b1 b2 bw hA hB
  go_enter Try.func37, Try.ntmps37
  go_wp2_with fail
  generalize hV : ((w.alloc (.cells #[.slice A n c] 24)).alloc (.cells #[.slice B' m d] 24)).alloc (.cells #[.slice none 0 0] 24) = V at HXA HXB HB2 HWW ⊢
  clear hV
  go_loopw [7, 5, 6] (fun i o cy wr => ∃ (k cc S : Nat), k ≤ 100001 ∧ i = .int .i64 k ∧ cy = .int .u64 cc ∧ cc ≤ 1 ∧ (k ≤ max n m ∨ (k ≤ max n m + 1 ∧ cc = 0)) ∧ OwnsV wr V.heap.size o k S ∧ S + cc * 2 ^ (32 * k) = a % 2 ^ (32 * k) + b % 2 ^ (32 * k) ∧ Below V.heap.size V wr) (fun i _ _ _ => max n m + 1 - (intOf i).toNat)
  case atStart => exact ⟨0, 0, 0, by omega, rfl, rfl, by omega, by omega, OwnsV.none_ _ _, by simp [Nat.mod_one], Below.refl _ _⟩
  case round =>
    obtain ⟨k, cc, S, hk, rfl, rfl, hcc, hkm, hO, hI, hbl⟩ := hrel
    obtain ⟨O, oc, rfl, hO'⟩ := hO.own
    have HO := hid hO
    have HO' := hid hO'
    have HI := hid hI
    have HBL := hid hbl
    have HXA_0 := hid (HXA.out.below hbl)
    have HXB_0 := hid (HXB.out.below hbl)
    have kA := HXA_0.out.cell
    have kB := HXB_0.out.cell
    clear hO hO' hI hbl
    by_cases hlt : k < n ∨ k < m ∨ 0 < cc
    · obtain ⟨p, hp⟩ : ∃ p : Nat, p = dig a k + dig b k := ⟨_, rfl⟩
      obtain ⟨t, ht⟩ : ∃ t : Nat, t = p + cc := ⟨_, rfl⟩
      obtain ⟨r, hr⟩ : ∃ r : Nat, r = t % 4294967296 := ⟨_, rfl⟩
      obtain ⟨q, hq⟩ : ∃ q : Nat, q = t / 4294967296 := ⟨_, rfl⟩
      have d1 := dig_lt a k
      have d2 := dig_lt b k
      have hkx : k ≤ max n m := by omega
      have hq0 : ¬ (k < n ∨ k < m) → q = 0 := fun h => by
        have z1 : dig a k = 0 := dig_above LA.out (by omega)
        have z2 : dig b k = 0 := dig_above LB.out (by omega)
        omega
      have hnext : k + 1 ≤ max n m ∨ (k + 1 ≤ max n m + 1 ∧ q = 0) := by
        by_cases h5 : k < n ∨ k < m
        · left; omega
        · right; exact ⟨by omega, hq0 h5⟩
      have HS := add_digs a b k S cc HI.out hcc
      rw [← hp, ← ht, ← hr, ← hq] at HS
      have HS1 := hid HS.1
      have HNX := hid hnext
      have q1 := HS.2
      have t2 : t ≤ 8589934591 := by omega
      have r1 : r ≤ 4294967295 := by omega
      have e1 : (t : Int) % 4294967296 = (r : Int) := by omega
      have e2 : (t : Int) / 4294967296 = (q : Int) := by omega
      have t1 : Int.tmod (t : Int) 4294967296 = (r : Int) := by rw [Int.tmod_eq_emod_of_nonneg (by omega)]; exact e1
      have w3 : IntKind.u32.wrap (r : Int) = (r : Int) := by rw [IntKind.wrap_u32]; omega
      have w4 : IntKind.u64.wrap (r : Int) = (r : Int) := by rw [IntKind.wrap_u64]; omega
      have w5 : IntKind.u64.wrap (q : Int) = (q : Int) := by rw [IntKind.wrap_u64]; omega
      obtain ⟨X, hX⟩ : ∃ X : Int, ((dig a k : Nat) : Int) = X := ⟨_, rfl⟩
      obtain ⟨Y, hY⟩ : ∃ Y : Int, ((dig b k : Nat) : Int) = Y := ⟨_, rfl⟩
      have w1 : IntKind.u64.wrap (X + Y) = (p : Int) := by rw [IntKind.wrap_u64]; omega
      have w2 : IntKind.u64.wrap ((p : Int) + (cc : Int)) = (t : Int) := by rw [IntKind.wrap_u64]; omega
      have EX := hid hX
      have EY := hid hY
      have j1 : IntKind.i64.wrap ((k : Int) + 1) = ((k + 1 : Nat) : Int) := by rw [IntWalk.i64_in _ (by omega)]; omega
      have HXA_0' := hid HXA_0.out.drew
      have HXB_0' := hid HXB_0.out.drew
      have HO_0 := hid HO.out.drew
      have HW_0 := hid HBL.out.drew
      clear HXA_0 HXB_0 HO HO' HBL
      have HXA_0 := HXA_0'
      have HXB_0 := HXB_0'
      clear HXA_0' HXB_0'
      clear HI HS hp ht hr hq hX hY d1 d2 hq0 hnext
      by_cases hn1 : k < n
      · have l1 : ((k : Nat) : Int) < ((n : Nat) : Int) := by omega
        go_wp2_with fail
        refine wp_region_held_drew (S := (fun w' => w'.cell? ⟨w.heap.size, 0, none⟩ = some (.slice A n c) ∧ w'.cell? ⟨w.heap.size + 1, 0, none⟩ = some (.slice B' m d))) (by kernel_rfl) (⟨kA, kB⟩) (fun hHeld => ?_)
        refine wpAnyH_take (i := 0) (oi := { dst := some 27, op := Op.load 24 (Operand.tmp 2), type := 24, pos := "ref.go:61", after := #[], guard := none }) (v := ?_) rfl (by kernel_rfl) (by kernel_rfl) (by kernel_rfl) (fun _ _ _ h => h) (Or.inl ⟨by rfl, ?_⟩) (by assumption) ?_
        rotate_left
        · (intro ws hSw; (try dsimp only at hSw); (try go_simp); (try with_reducible rfl))
        (try simp only [Act.put, List.setIfInBounds_toArray, List.set_cons_zero, List.set_cons_succ])
        refine wpAnyH_take (i := 1) (oi := { dst := some 28, op := Op.move (Operand.tmp 7), type := 3, pos := "ref.go:61", after := #[], guard := none }) (v := ?_) rfl (by kernel_rfl) (by kernel_rfl) (by kernel_rfl) (fun _ _ _ h => h) (Or.inl ⟨by rfl, ?_⟩) (by assumption) ?_
        rotate_left
        · (intro ws hSw; (try dsimp only at hSw); (try go_simp); (try with_reducible rfl))
        (try simp only [Act.put, List.setIfInBounds_toArray, List.set_cons_zero, List.set_cons_succ])
        refine wpAnyH_take (i := 3) (oi := { dst := some 30, op := Op.load 24 (Operand.tmp 3), type := 24, pos := "ref.go:61", after := #[], guard := none }) (v := ?_) rfl (by kernel_rfl) (by kernel_rfl) (by kernel_rfl) (fun _ _ _ h => h) (Or.inl ⟨by rfl, ?_⟩) (by assumption) ?_
        rotate_left
        · (intro ws hSw; (try dsimp only at hSw); (try go_simp); (try with_reducible rfl))
        (try simp only [Act.put, List.setIfInBounds_toArray, List.set_cons_zero, List.set_cons_succ])
        refine wpAnyH_take (i := 4) (oi := { dst := some 31, op := Op.move (Operand.tmp 7), type := 3, pos := "ref.go:61", after := #[], guard := none }) (v := ?_) rfl (by kernel_rfl) (by kernel_rfl) (by kernel_rfl) (fun _ _ _ h => h) (Or.inl ⟨by rfl, ?_⟩) (by assumption) ?_
        rotate_left
        · (intro ws hSw; (try dsimp only at hSw); (try go_simp); (try with_reducible rfl))
        (try simp only [Act.put, List.setIfInBounds_toArray, List.set_cons_zero, List.set_cons_succ])
        refine wpAnyH_take (i := 7) (oi := { dst := some 34, op := Op.move (Operand.tmp 6), type := 42, pos := "ref.go:61", after := #[], guard := none }) (v := ?_) rfl (by kernel_rfl) (by kernel_rfl) (by kernel_rfl) (fun _ _ _ h => h) (Or.inl ⟨by rfl, ?_⟩) (by assumption) ?_
        rotate_left
        · (intro ws hSw; (try dsimp only at hSw); (try go_simp); (try with_reducible rfl))
        (try simp only [Act.put, List.setIfInBounds_toArray, List.set_cons_zero, List.set_cons_succ])
        refine wpAnyH_ready (rs := [2]) (by kernel_rfl) (by simp) ?_
        refine AllReadyH.cons (o := { dst := some 29, op := Op.call { callee := Callee.value (Operand.func 73), args := #[Operand.tmp 27, Operand.tmp 28], argTypes := #[24, 3] }, type := 42, pos := "ref.go:61", after := #[{ on := 0, ground := Ground.data }, { on := 1, ground := Ground.data }], guard := none }) rfl (fun K hK => ?_) AllReadyH.nil
        go_simp
        refine (word3_b A n c a k _ _ HXA_0.out.num (by omega) (by omega) EX.out).mono ?_
        rintro e v_1 ⟨rfl, hb⟩
        have HXA_1 := hid (HXA_0.out.below hb)
        have HXB_1 := hid (HXB_0.out.below hb)
        have HW_1 := hid (HW_0.out.trans (hb.mono HW_0.out.size))
        have HO_1 := hid (HO_0.out.below hb (Nat.le_refl _))
        have qA_1 := HXA_1.out.cell
        have qB_1 := HXB_1.out.cell
        clear hb
        refine hK.out _ _ (⟨qA_1, qB_1⟩) (fun hHeld2 => ?_)
        clear hK K hHeld
        have hHeld := hHeld2
        clear hHeld2
        (try simp only [Act.put, List.setIfInBounds_toArray, List.set_cons_zero, List.set_cons_succ])
        refine wpAnyH_ready (rs := [5]) (by kernel_rfl) (by simp) ?_
        refine AllReadyH.cons (o := { dst := some 32, op := Op.call { callee := Callee.value (Operand.func 73), args := #[Operand.tmp 30, Operand.tmp 31], argTypes := #[24, 3] }, type := 42, pos := "ref.go:61", after := #[{ on := 3, ground := Ground.data }, { on := 4, ground := Ground.data }, { on := 2, ground := Ground.chain }], guard := none }) rfl (fun K hK => ?_) AllReadyH.nil
        go_simp
        refine (word3_b B' m d b k _ _ HXB_1.out.num (by omega) (by omega) EY.out).mono ?_
        rintro e v_2 ⟨rfl, hb⟩
        have HXA_2 := hid (HXA_1.out.below hb)
        have HXB_2 := hid (HXB_1.out.below hb)
        have HW_2 := hid (HW_1.out.trans (hb.mono HW_1.out.size))
        have HO_2 := hid (HO_1.out.below hb (Nat.le_refl _))
        have qA_2 := HXA_2.out.cell
        have qB_2 := HXB_2.out.cell
        clear hb
        refine hK.out _ _ (⟨qA_2, qB_2⟩) (fun hHeld5 => ?_)
        clear hK K hHeld
        have hHeld := hHeld5
        clear hHeld5
        (try simp only [Act.put, List.setIfInBounds_toArray, List.set_cons_zero, List.set_cons_succ])
        refine wpAnyH_take (i := 6) (oi := { dst := some 33, op := Op.binOp BinOp.add 42 (Operand.tmp 29) (Operand.tmp 32) 42, type := 42, pos := "ref.go:61", after := #[{ on := 2, ground := Ground.data }, { on := 5, ground := Ground.data }], guard := none }) (v := ?_) rfl (by kernel_rfl) (by kernel_rfl) (by kernel_rfl) (fun _ _ _ h => h) (Or.inl ⟨by rfl, ?_⟩) (by assumption) ?_
        rotate_left
        · (intro ws hSw; (try dsimp only at hSw); (try go_simp); (try with_reducible rfl))
        (try simp only [Act.put, List.setIfInBounds_toArray, List.set_cons_zero, List.set_cons_succ])
        refine wpAnyH_take (i := 8) (oi := { dst := some 35, op := Op.binOp BinOp.add 42 (Operand.tmp 33) (Operand.tmp 34) 42, type := 42, pos := "ref.go:61", after := #[{ on := 6, ground := Ground.data }, { on := 7, ground := Ground.data }], guard := none }) (v := ?_) rfl (by kernel_rfl) (by kernel_rfl) (by kernel_rfl) (fun _ _ _ h => h) (Or.inl ⟨by rfl, ?_⟩) (by assumption) ?_
        rotate_left
        · (intro ws hSw; (try dsimp only at hSw); (try go_simp); (try with_reducible rfl))
        (try simp only [Act.put, List.setIfInBounds_toArray, List.set_cons_zero, List.set_cons_succ])
        refine wpAnyH_take (i := 9) (oi := { dst := some 8, op := Op.assign (Operand.tmp 35), type := 42, pos := "ref.go:61", after := #[{ on := 8, ground := Ground.data }, { on := 5, ground := Ground.chain }, { on := 0, ground := Ground.phase }, { on := 1, ground := Ground.phase }, { on := 2, ground := Ground.phase }, { on := 3, ground := Ground.phase }, { on := 4, ground := Ground.phase }, { on := 5, ground := Ground.phase }, { on := 6, ground := Ground.phase }, { on := 7, ground := Ground.phase }, { on := 8, ground := Ground.phase }], guard := none }) (v := ?_) rfl (by kernel_rfl) (by kernel_rfl) (by kernel_rfl) (fun _ _ _ h => h) (Or.inl ⟨by rfl, ?_⟩) (by assumption) ?_
        rotate_left
        · (intro ws hSw; (try dsimp only at hSw); (try go_simp); (try with_reducible rfl))
        (try simp only [Act.put, List.setIfInBounds_toArray, List.set_cons_zero, List.set_cons_succ])
        refine wpAnyH_done (by kernel_rfl) ?_ _
        clear hHeld
        go_wp2_with (at_builtin; refine wp_app1 rfl _ _ rfl V.heap.size v_2 (.slice O k oc) k S r rfl HO_2.out rfl r1 (by omega) HW_2.out.size ?_; intro O1 oc1 v1 ho1 hb1 hlt1 hc1; have HO1 := hid ho1; have HB1 := hid hb1; clear ho1 hb1)
        go_roundw
        case rel => exact ⟨k + 1, q, _, by omega, by go_num, rfl, q1, HNX.out, HO1.out, HS1.out, HW_2.out.trans HB1.out⟩
        case measure => simp [intOf] <;> omega
      · have l1 : ((n : Nat) : Int) ≤ ((k : Nat) : Int) := by omega
        by_cases hm1 : k < m
        · have l2 : ((k : Nat) : Int) < ((m : Nat) : Int) := by omega
          go_wp2_with fail
          refine wp_region_held_drew (S := (fun w' => w'.cell? ⟨w.heap.size, 0, none⟩ = some (.slice A n c) ∧ w'.cell? ⟨w.heap.size + 1, 0, none⟩ = some (.slice B' m d))) (by kernel_rfl) (⟨kA, kB⟩) (fun hHeld => ?_)
          refine wpAnyH_take (i := 0) (oi := { dst := some 27, op := Op.load 24 (Operand.tmp 2), type := 24, pos := "ref.go:61", after := #[], guard := none }) (v := ?_) rfl (by kernel_rfl) (by kernel_rfl) (by kernel_rfl) (fun _ _ _ h => h) (Or.inl ⟨by rfl, ?_⟩) (by assumption) ?_
          rotate_left
          · (intro ws hSw; (try dsimp only at hSw); (try go_simp); (try with_reducible rfl))
          (try simp only [Act.put, List.setIfInBounds_toArray, List.set_cons_zero, List.set_cons_succ])
          refine wpAnyH_take (i := 1) (oi := { dst := some 28, op := Op.move (Operand.tmp 7), type := 3, pos := "ref.go:61", after := #[], guard := none }) (v := ?_) rfl (by kernel_rfl) (by kernel_rfl) (by kernel_rfl) (fun _ _ _ h => h) (Or.inl ⟨by rfl, ?_⟩) (by assumption) ?_
          rotate_left
          · (intro ws hSw; (try dsimp only at hSw); (try go_simp); (try with_reducible rfl))
          (try simp only [Act.put, List.setIfInBounds_toArray, List.set_cons_zero, List.set_cons_succ])
          refine wpAnyH_take (i := 3) (oi := { dst := some 30, op := Op.load 24 (Operand.tmp 3), type := 24, pos := "ref.go:61", after := #[], guard := none }) (v := ?_) rfl (by kernel_rfl) (by kernel_rfl) (by kernel_rfl) (fun _ _ _ h => h) (Or.inl ⟨by rfl, ?_⟩) (by assumption) ?_
          rotate_left
          · (intro ws hSw; (try dsimp only at hSw); (try go_simp); (try with_reducible rfl))
          (try simp only [Act.put, List.setIfInBounds_toArray, List.set_cons_zero, List.set_cons_succ])
          refine wpAnyH_take (i := 4) (oi := { dst := some 31, op := Op.move (Operand.tmp 7), type := 3, pos := "ref.go:61", after := #[], guard := none }) (v := ?_) rfl (by kernel_rfl) (by kernel_rfl) (by kernel_rfl) (fun _ _ _ h => h) (Or.inl ⟨by rfl, ?_⟩) (by assumption) ?_
          rotate_left
          · (intro ws hSw; (try dsimp only at hSw); (try go_simp); (try with_reducible rfl))
          (try simp only [Act.put, List.setIfInBounds_toArray, List.set_cons_zero, List.set_cons_succ])
          refine wpAnyH_take (i := 7) (oi := { dst := some 34, op := Op.move (Operand.tmp 6), type := 42, pos := "ref.go:61", after := #[], guard := none }) (v := ?_) rfl (by kernel_rfl) (by kernel_rfl) (by kernel_rfl) (fun _ _ _ h => h) (Or.inl ⟨by rfl, ?_⟩) (by assumption) ?_
          rotate_left
          · (intro ws hSw; (try dsimp only at hSw); (try go_simp); (try with_reducible rfl))
          (try simp only [Act.put, List.setIfInBounds_toArray, List.set_cons_zero, List.set_cons_succ])
          refine wpAnyH_ready (rs := [2]) (by kernel_rfl) (by simp) ?_
          refine AllReadyH.cons (o := { dst := some 29, op := Op.call { callee := Callee.value (Operand.func 73), args := #[Operand.tmp 27, Operand.tmp 28], argTypes := #[24, 3] }, type := 42, pos := "ref.go:61", after := #[{ on := 0, ground := Ground.data }, { on := 1, ground := Ground.data }], guard := none }) rfl (fun K hK => ?_) AllReadyH.nil
          go_simp
          refine (word3_b A n c a k _ _ HXA_0.out.num (by omega) (by omega) EX.out).mono ?_
          rintro e v_1 ⟨rfl, hb⟩
          have HXA_1 := hid (HXA_0.out.below hb)
          have HXB_1 := hid (HXB_0.out.below hb)
          have HW_1 := hid (HW_0.out.trans (hb.mono HW_0.out.size))
          have HO_1 := hid (HO_0.out.below hb (Nat.le_refl _))
          have qA_1 := HXA_1.out.cell
          have qB_1 := HXB_1.out.cell
          clear hb
          refine hK.out _ _ (⟨qA_1, qB_1⟩) (fun hHeld2 => ?_)
          clear hK K hHeld
          have hHeld := hHeld2
          clear hHeld2
          (try simp only [Act.put, List.setIfInBounds_toArray, List.set_cons_zero, List.set_cons_succ])
          refine wpAnyH_ready (rs := [5]) (by kernel_rfl) (by simp) ?_
          refine AllReadyH.cons (o := { dst := some 32, op := Op.call { callee := Callee.value (Operand.func 73), args := #[Operand.tmp 30, Operand.tmp 31], argTypes := #[24, 3] }, type := 42, pos := "ref.go:61", after := #[{ on := 3, ground := Ground.data }, { on := 4, ground := Ground.data }, { on := 2, ground := Ground.chain }], guard := none }) rfl (fun K hK => ?_) AllReadyH.nil
          go_simp
          refine (word3_b B' m d b k _ _ HXB_1.out.num (by omega) (by omega) EY.out).mono ?_
          rintro e v_2 ⟨rfl, hb⟩
          have HXA_2 := hid (HXA_1.out.below hb)
          have HXB_2 := hid (HXB_1.out.below hb)
          have HW_2 := hid (HW_1.out.trans (hb.mono HW_1.out.size))
          have HO_2 := hid (HO_1.out.below hb (Nat.le_refl _))
          have qA_2 := HXA_2.out.cell
          have qB_2 := HXB_2.out.cell
          clear hb
          refine hK.out _ _ (⟨qA_2, qB_2⟩) (fun hHeld5 => ?_)
          clear hK K hHeld
          have hHeld := hHeld5
          clear hHeld5
          (try simp only [Act.put, List.setIfInBounds_toArray, List.set_cons_zero, List.set_cons_succ])
          refine wpAnyH_take (i := 6) (oi := { dst := some 33, op := Op.binOp BinOp.add 42 (Operand.tmp 29) (Operand.tmp 32) 42, type := 42, pos := "ref.go:61", after := #[{ on := 2, ground := Ground.data }, { on := 5, ground := Ground.data }], guard := none }) (v := ?_) rfl (by kernel_rfl) (by kernel_rfl) (by kernel_rfl) (fun _ _ _ h => h) (Or.inl ⟨by rfl, ?_⟩) (by assumption) ?_
          rotate_left
          · (intro ws hSw; (try dsimp only at hSw); (try go_simp); (try with_reducible rfl))
          (try simp only [Act.put, List.setIfInBounds_toArray, List.set_cons_zero, List.set_cons_succ])
          refine wpAnyH_take (i := 8) (oi := { dst := some 35, op := Op.binOp BinOp.add 42 (Operand.tmp 33) (Operand.tmp 34) 42, type := 42, pos := "ref.go:61", after := #[{ on := 6, ground := Ground.data }, { on := 7, ground := Ground.data }], guard := none }) (v := ?_) rfl (by kernel_rfl) (by kernel_rfl) (by kernel_rfl) (fun _ _ _ h => h) (Or.inl ⟨by rfl, ?_⟩) (by assumption) ?_
          rotate_left
          · (intro ws hSw; (try dsimp only at hSw); (try go_simp); (try with_reducible rfl))
          (try simp only [Act.put, List.setIfInBounds_toArray, List.set_cons_zero, List.set_cons_succ])
          refine wpAnyH_take (i := 9) (oi := { dst := some 8, op := Op.assign (Operand.tmp 35), type := 42, pos := "ref.go:61", after := #[{ on := 8, ground := Ground.data }, { on := 5, ground := Ground.chain }, { on := 0, ground := Ground.phase }, { on := 1, ground := Ground.phase }, { on := 2, ground := Ground.phase }, { on := 3, ground := Ground.phase }, { on := 4, ground := Ground.phase }, { on := 5, ground := Ground.phase }, { on := 6, ground := Ground.phase }, { on := 7, ground := Ground.phase }, { on := 8, ground := Ground.phase }], guard := none }) (v := ?_) rfl (by kernel_rfl) (by kernel_rfl) (by kernel_rfl) (fun _ _ _ h => h) (Or.inl ⟨by rfl, ?_⟩) (by assumption) ?_
          rotate_left
          · (intro ws hSw; (try dsimp only at hSw); (try go_simp); (try with_reducible rfl))
          (try simp only [Act.put, List.setIfInBounds_toArray, List.set_cons_zero, List.set_cons_succ])
          refine wpAnyH_done (by kernel_rfl) ?_ _
          clear hHeld
          go_wp2_with (at_builtin; refine wp_app1 rfl _ _ rfl V.heap.size v_2 (.slice O k oc) k S r rfl HO_2.out rfl r1 (by omega) HW_2.out.size ?_; intro O1 oc1 v1 ho1 hb1 hlt1 hc1; have HO1 := hid ho1; have HB1 := hid hb1; clear ho1 hb1)
          go_roundw
          case rel => exact ⟨k + 1, q, _, by omega, by go_num, rfl, q1, HNX.out, HO1.out, HS1.out, HW_2.out.trans HB1.out⟩
          case measure => simp [intOf] <;> omega
        · have l2 : ((m : Nat) : Int) ≤ ((k : Nat) : Int) := by omega
          have l3 : (0 : Int) < (cc : Int) := by omega
          have l4 : 0 < cc := by omega
          go_wp2_with fail
          refine wp_region_held_drew (S := (fun w' => w'.cell? ⟨w.heap.size, 0, none⟩ = some (.slice A n c) ∧ w'.cell? ⟨w.heap.size + 1, 0, none⟩ = some (.slice B' m d))) (by kernel_rfl) (⟨kA, kB⟩) (fun hHeld => ?_)
          refine wpAnyH_take (i := 0) (oi := { dst := some 27, op := Op.load 24 (Operand.tmp 2), type := 24, pos := "ref.go:61", after := #[], guard := none }) (v := ?_) rfl (by kernel_rfl) (by kernel_rfl) (by kernel_rfl) (fun _ _ _ h => h) (Or.inl ⟨by rfl, ?_⟩) (by assumption) ?_
          rotate_left
          · (intro ws hSw; (try dsimp only at hSw); (try go_simp); (try with_reducible rfl))
          (try simp only [Act.put, List.setIfInBounds_toArray, List.set_cons_zero, List.set_cons_succ])
          refine wpAnyH_take (i := 1) (oi := { dst := some 28, op := Op.move (Operand.tmp 7), type := 3, pos := "ref.go:61", after := #[], guard := none }) (v := ?_) rfl (by kernel_rfl) (by kernel_rfl) (by kernel_rfl) (fun _ _ _ h => h) (Or.inl ⟨by rfl, ?_⟩) (by assumption) ?_
          rotate_left
          · (intro ws hSw; (try dsimp only at hSw); (try go_simp); (try with_reducible rfl))
          (try simp only [Act.put, List.setIfInBounds_toArray, List.set_cons_zero, List.set_cons_succ])
          refine wpAnyH_take (i := 3) (oi := { dst := some 30, op := Op.load 24 (Operand.tmp 3), type := 24, pos := "ref.go:61", after := #[], guard := none }) (v := ?_) rfl (by kernel_rfl) (by kernel_rfl) (by kernel_rfl) (fun _ _ _ h => h) (Or.inl ⟨by rfl, ?_⟩) (by assumption) ?_
          rotate_left
          · (intro ws hSw; (try dsimp only at hSw); (try go_simp); (try with_reducible rfl))
          (try simp only [Act.put, List.setIfInBounds_toArray, List.set_cons_zero, List.set_cons_succ])
          refine wpAnyH_take (i := 4) (oi := { dst := some 31, op := Op.move (Operand.tmp 7), type := 3, pos := "ref.go:61", after := #[], guard := none }) (v := ?_) rfl (by kernel_rfl) (by kernel_rfl) (by kernel_rfl) (fun _ _ _ h => h) (Or.inl ⟨by rfl, ?_⟩) (by assumption) ?_
          rotate_left
          · (intro ws hSw; (try dsimp only at hSw); (try go_simp); (try with_reducible rfl))
          (try simp only [Act.put, List.setIfInBounds_toArray, List.set_cons_zero, List.set_cons_succ])
          refine wpAnyH_take (i := 7) (oi := { dst := some 34, op := Op.move (Operand.tmp 6), type := 42, pos := "ref.go:61", after := #[], guard := none }) (v := ?_) rfl (by kernel_rfl) (by kernel_rfl) (by kernel_rfl) (fun _ _ _ h => h) (Or.inl ⟨by rfl, ?_⟩) (by assumption) ?_
          rotate_left
          · (intro ws hSw; (try dsimp only at hSw); (try go_simp); (try with_reducible rfl))
          (try simp only [Act.put, List.setIfInBounds_toArray, List.set_cons_zero, List.set_cons_succ])
          refine wpAnyH_ready (rs := [2]) (by kernel_rfl) (by simp) ?_
          refine AllReadyH.cons (o := { dst := some 29, op := Op.call { callee := Callee.value (Operand.func 73), args := #[Operand.tmp 27, Operand.tmp 28], argTypes := #[24, 3] }, type := 42, pos := "ref.go:61", after := #[{ on := 0, ground := Ground.data }, { on := 1, ground := Ground.data }], guard := none }) rfl (fun K hK => ?_) AllReadyH.nil
          go_simp
          refine (word3_b A n c a k _ _ HXA_0.out.num (by omega) (by omega) EX.out).mono ?_
          rintro e v_1 ⟨rfl, hb⟩
          have HXA_1 := hid (HXA_0.out.below hb)
          have HXB_1 := hid (HXB_0.out.below hb)
          have HW_1 := hid (HW_0.out.trans (hb.mono HW_0.out.size))
          have HO_1 := hid (HO_0.out.below hb (Nat.le_refl _))
          have qA_1 := HXA_1.out.cell
          have qB_1 := HXB_1.out.cell
          clear hb
          refine hK.out _ _ (⟨qA_1, qB_1⟩) (fun hHeld2 => ?_)
          clear hK K hHeld
          have hHeld := hHeld2
          clear hHeld2
          (try simp only [Act.put, List.setIfInBounds_toArray, List.set_cons_zero, List.set_cons_succ])
          refine wpAnyH_ready (rs := [5]) (by kernel_rfl) (by simp) ?_
          refine AllReadyH.cons (o := { dst := some 32, op := Op.call { callee := Callee.value (Operand.func 73), args := #[Operand.tmp 30, Operand.tmp 31], argTypes := #[24, 3] }, type := 42, pos := "ref.go:61", after := #[{ on := 3, ground := Ground.data }, { on := 4, ground := Ground.data }, { on := 2, ground := Ground.chain }], guard := none }) rfl (fun K hK => ?_) AllReadyH.nil
          go_simp
          refine (word3_b B' m d b k _ _ HXB_1.out.num (by omega) (by omega) EY.out).mono ?_
          rintro e v_2 ⟨rfl, hb⟩
          have HXA_2 := hid (HXA_1.out.below hb)
          have HXB_2 := hid (HXB_1.out.below hb)
          have HW_2 := hid (HW_1.out.trans (hb.mono HW_1.out.size))
          have HO_2 := hid (HO_1.out.below hb (Nat.le_refl _))
          have qA_2 := HXA_2.out.cell
          have qB_2 := HXB_2.out.cell
          clear hb
          refine hK.out _ _ (⟨qA_2, qB_2⟩) (fun hHeld5 => ?_)
          clear hK K hHeld
          have hHeld := hHeld5
          clear hHeld5
          (try simp only [Act.put, List.setIfInBounds_toArray, List.set_cons_zero, List.set_cons_succ])
          refine wpAnyH_take (i := 6) (oi := { dst := some 33, op := Op.binOp BinOp.add 42 (Operand.tmp 29) (Operand.tmp 32) 42, type := 42, pos := "ref.go:61", after := #[{ on := 2, ground := Ground.data }, { on := 5, ground := Ground.data }], guard := none }) (v := ?_) rfl (by kernel_rfl) (by kernel_rfl) (by kernel_rfl) (fun _ _ _ h => h) (Or.inl ⟨by rfl, ?_⟩) (by assumption) ?_
          rotate_left
          · (intro ws hSw; (try dsimp only at hSw); (try go_simp); (try with_reducible rfl))
          (try simp only [Act.put, List.setIfInBounds_toArray, List.set_cons_zero, List.set_cons_succ])
          refine wpAnyH_take (i := 8) (oi := { dst := some 35, op := Op.binOp BinOp.add 42 (Operand.tmp 33) (Operand.tmp 34) 42, type := 42, pos := "ref.go:61", after := #[{ on := 6, ground := Ground.data }, { on := 7, ground := Ground.data }], guard := none }) (v := ?_) rfl (by kernel_rfl) (by kernel_rfl) (by kernel_rfl) (fun _ _ _ h => h) (Or.inl ⟨by rfl, ?_⟩) (by assumption) ?_
          rotate_left
          · (intro ws hSw; (try dsimp only at hSw); (try go_simp); (try with_reducible rfl))
          (try simp only [Act.put, List.setIfInBounds_toArray, List.set_cons_zero, List.set_cons_succ])
          refine wpAnyH_take (i := 9) (oi := { dst := some 8, op := Op.assign (Operand.tmp 35), type := 42, pos := "ref.go:61", after := #[{ on := 8, ground := Ground.data }, { on := 5, ground := Ground.chain }, { on := 0, ground := Ground.phase }, { on := 1, ground := Ground.phase }, { on := 2, ground := Ground.phase }, { on := 3, ground := Ground.phase }, { on := 4, ground := Ground.phase }, { on := 5, ground := Ground.phase }, { on := 6, ground := Ground.phase }, { on := 7, ground := Ground.phase }, { on := 8, ground := Ground.phase }], guard := none }) (v := ?_) rfl (by kernel_rfl) (by kernel_rfl) (by kernel_rfl) (fun _ _ _ h => h) (Or.inl ⟨by rfl, ?_⟩) (by assumption) ?_
          rotate_left
          · (intro ws hSw; (try dsimp only at hSw); (try go_simp); (try with_reducible rfl))
          (try simp only [Act.put, List.setIfInBounds_toArray, List.set_cons_zero, List.set_cons_succ])
          refine wpAnyH_done (by kernel_rfl) ?_ _
          clear hHeld
          go_wp2_with (at_builtin; refine wp_app1 rfl _ _ rfl V.heap.size v_2 (.slice O k oc) k S r rfl HO_2.out rfl r1 (by omega) HW_2.out.size ?_; intro O1 oc1 v1 ho1 hb1 hlt1 hc1; have HO1 := hid ho1; have HB1 := hid hb1; clear ho1 hb1)
          go_roundw
          case rel => exact ⟨k + 1, q, _, by omega, by go_num, rfl, q1, HNX.out, HO1.out, HS1.out, HW_2.out.trans HB1.out⟩
          case measure => simp [intOf] <;> omega
    · have l1 : ((n : Nat) : Int) ≤ ((k : Nat) : Int) := by omega
      have l2 : ((m : Nat) : Int) ≤ ((k : Nat) : Int) := by omega
      obtain rfl : cc = 0 := by omega
      have HF : Hid (S = a + b) := by
        show _ = _
        have := HI.out
        rw [mod_of_lt LA.out (by omega), mod_of_lt LB.out (by omega)] at this
        omega
      rw [HF.out] at HO'
      clear HI hlt
      go_wp2_with fail
      refine (trim3_any O k oc (a + b) V.heap.size wr HO'.out HBL.out.size (by omega)).mono ?_
      rintro e w9 ⟨v, rfl, ⟨A', c', rfl, ho⟩, hb⟩
      have HBW := hid (HBL.out.trans (hb.mono HBL.out.size))
      have HO9 := hid (ho.weak (b := w.heap.size) HWW.out.size)
      have B9 := hid (HB2.out.below HBW.out HB2.out.lt)
      have W9 := hid (HWW.out.trans (HBW.out.mono HWW.out.size))
      have cB := B9.out.cell0
      have fB := B9.out.frozen 0
      clear hb ho
      go_wp2_with fail
      have ho2 := HO9.out.box (p := ⟨w.heap.size + 1 + 1, 0, none⟩) B9.out (by decide) (.slice A' (nw (a + b)) c')
      exact bodyPost_ret (v := .agg #[.slice A' (nw (a + b)) c']) (by simp [results, Try.results37, go_sem, cB]) rfl ⟨_, rfl, ⟨A', c', rfl, ho2⟩, W9.out.setCell (by simp <;> omega) _⟩

end Go.Proofs.Ytckajjapockonaa
