/- The reference: Add, Sub. -/
import Derived.Test.YtlhfaaghfhiaoaaRef3
set_option linter.unusedVariables false
set_option linter.unusedSimpArgs false
namespace Go.Proofs.Ytlhfaaghfhiaoaa
open Go.RowKit

theorem add_lt_pw {a b k : Nat} (h1 : a < 2 ^ (32 * k)) (h2 : b < 2 ^ (32 * k)) : a + b < 2 ^ (32 * (k + 1)) := by rw [pw_succ]; omega
theorem radd_any (A B' : Option Addr) (n m c d a b : Nat) (w : World) (hA : Num w w.heap.size A n a) (hB : Num w w.heap.size B' m b) (hn : n ≤ 64) (hm : m ≤ 64) :
    Calls Try.prog 27 #[.agg #[.slice A n c], .agg #[.slice B' m d]] w (RetTwo w.heap.size (limS (a + b)).1 (limS (a + b)).2 w) := by
  obtain ⟨b0, b1, b2, bw⟩ := boxes3 w (.slice A n c) (.slice B' m d) (.slice none 0 0)
  have HXA := hid (Box.mk b0 hA bw)
  have HXB := hid (Box.mk b1 hB bw)
  have HB2 := hid b2
  have HWW := hid bw
  have HN : Hid (nw (a + b) ≤ 1000000) := by
    show _ ≤ _
    have h1 := Nat.lt_of_lt_of_le hA.lt (pw_le hn)
    have h2 := Nat.lt_of_lt_of_le hB.lt (pw_le hm)
    exact Nat.le_trans (nw_le (add_lt_pw h1 h2)) (by omega)
  clear b0 b1 b2 bw hA hB
  obtain ⟨l1, hl1⟩ : ∃ x, x = (limS (a + b)).1 := ⟨_, rfl⟩
  obtain ⟨l2, hl2⟩ : ∃ x, x = (limS (a + b)).2 := ⟨_, rfl⟩
  rw [← hl1, ← hl2]
  have L1 := hid hl1
  have L2 := hid hl2
  clear hl1 hl2
  go_enter Try.func27, Try.ntmps27
  go_wp2_with fail
  generalize hV : ((w.alloc (.cells #[.slice A n c] 24)).alloc (.cells #[.slice B' m d] 24)).alloc (.cells #[.slice none 0 0] 24) = V at HXA HXB HB2 HWW ⊢
  clear hV
  have kA := HXA.out.cell
  have kB := HXB.out.cell
  go_wp2_with fail
  refine (rsum_any A B' n m c d a b V HXA.out.num HXB.out.num (by omega) (by omega)).mono ?_
  rintro e v1 ⟨v, rfl, ⟨D, dc, rfl, ho⟩, hb⟩
  have HO := hid ho
  have HB1 := hid hb
  clear ho hb kA kB
  go_wp2_with fail
  have hc := rsized_any D dc (a + b) V.heap.size v1 HO.out HB1.out.size HN.out
  rw [← L1.out, ← L2.out] at hc
  refine hc.mono ?_
  clear hc
  rintro e v2 ⟨v, rfl, ⟨E, ec, rfl, ho⟩, hb⟩
  have HBW := hid (HB1.out.trans (hb.mono HB1.out.size))
  have HO9 := hid (ho.weak (b := w.heap.size) HWW.out.size)
  have B9 := hid (HB2.out.below HBW.out HB2.out.lt)
  have W9 := hid (HWW.out.trans (HBW.out.mono HWW.out.size))
  have cB := B9.out.cell0
  have fB := B9.out.frozen 0
  clear hb ho
  go_wp2_with fail
  have ho2 := HO9.out.box (p := ⟨w.heap.size + 1 + 1, 0, none⟩) B9.out (by decide) (.slice E (nw l1) ec)
  exact bodyPost_ret (v := .tuple #[.agg #[.slice E (nw l1) ec], .int .i64 l2]) (by simp [results, Try.results27, go_sem, cB]) rfl ⟨_, rfl, ⟨E, ec, rfl, ho2⟩, W9.out.setCell (by simp <;> omega) _⟩

theorem rtrim_nil (w : World) : Calls Try.prog 45 #[.slice none 0 0] w (RetNat w.heap.size 0 w) := by
  obtain ⟨i0, hi0, hz0, hz1, hz2⟩ := info_parts info62
  obtain ⟨b0, bw⟩ := boxes1 w (.slice none 0 0)
  have B0 := hid b0
  have BW := hid bw
  clear b0 bw
  go_enter Try.func45, Try.ntmps45
  go_wp2_with fail
  generalize hV : w.alloc (.cells #[.slice none 0 0] 24) = V at B0 BW ⊢
  clear hV
  go_loopw [3] (fun i wr => ∃ j : Nat, i = .int .i64 0 ∧ wr = V.drewN j) (fun i _ => 0)
  case atStart => exact ⟨0, rfl, rfl⟩
  case round =>
    obtain ⟨j, rfl, rfl⟩ := hrel
    have HO := hid (OwnsV.empty (V.drewN j) w.heap.size BW.out.size)
    have HB1 := hid ((B0.out.drewN j).alloc (.cells #[] 62))
    have HW1 := hid ((below_drewN BW.out j).alloc BW.out.size (.cells #[] 62))
    go_wp2_with (at_builtin; refine wpList_append_own_none rfl _ _ 22 rfl w.heap.size 62 i0 1 Try.underlying22 hi0 (.slice (some ⟨V.heap.size, 0, none⟩) 0 0) 0 (words 0 0).toList rfl HO.out.2 rfl ?_; generalize (V.drewN j).alloc (.cells #[] 62) = V2 at HB1 HW1 HO ⊢; have cB := HB1.out.cell0; have fB := HB1.out.frozen 0; have zB := HB1.out.lt)
    have hbl : Below w.heap.size w (V2.setCell ⟨w.heap.size, 0, none⟩ (.slice (some ⟨V.heap.size, 0, none⟩) 0 0)) := Below.setCell HW1.out (Nat.le_refl _) _
    exact bodyPost_ret (v := .agg #[.slice (some ⟨V.heap.size, 0, none⟩) 0 0]) (by simp [results, Try.results45, go_sem, cB]) rfl ⟨_, rfl, ⟨_, 0, rfl, Own.nil _ _ _ _ (Nat.zero_le _)⟩, hbl⟩
set_option maxHeartbeats 4000000 in
theorem rsub_any (A B' : Option Addr) (n m c d a b : Nat) (w : World) (hA : Num w w.heap.size A n a) (hB : Num w w.heap.size B' m b) (hn : n ≤ 100000) (hm : m ≤ 100000) (hle : b ≤ a) :
    Calls Try.prog 29 #[.agg #[.slice A n c], .agg #[.slice B' m d]] w (RetNat w.heap.size (a - b) w) := by
  obtain ⟨b0, b1, b2, bw⟩ := boxes3 w (.slice A n c) (.slice B' m d) (.slice none 0 0)
  have HXA := hid (Box.mk b0 hA bw)
  have HXB := hid (Box.mk b1 hB bw)
  have HB2 := hid b2
  have HWW := hid bw
  have LA := hid hA.lt
  have HLE := hid hle
  clear b0 b1 b2 bw hA hB hle
  go_enter Try.func29, Try.ntmps29
  go_wp2_with fail
  generalize hV : ((w.alloc (.cells #[.slice A n c] 24)).alloc (.cells #[.slice B' m d] 24)).alloc (.cells #[.slice none 0 0] 24) = V at HXA HXB HB2 HWW ⊢
  clear hV
  go_loopw [7, 5, 6] (fun i o cy wr => ∃ (k cc S : Nat), k ≤ 100000 ∧ i = .int .i64 k ∧ cy = .int .i64 cc ∧ cc ≤ 1 ∧ k ≤ n ∧ (k = 0 → o = .slice none 0 0) ∧ OwnsV wr V.heap.size o k S ∧ S + b % 2 ^ (32 * k) = a % 2 ^ (32 * k) + cc * 2 ^ (32 * k) ∧ Below V.heap.size V wr) (fun i _ _ _ => n - (intOf i).toNat)
  case atStart => exact ⟨0, 0, 0, by omega, rfl, rfl, by omega, by omega, fun _ => rfl, OwnsV.none_ _ _, by simp [Nat.mod_one], Below.refl _ _⟩
  case round =>
    obtain ⟨k, cc, S, hk, rfl, rfl, hcc, hkm, hz0, hO, hI, hbl⟩ := hrel
    obtain ⟨O, oc, rfl, hO'⟩ := hO.own
    have HO := hid hO
    have HO' := hid hO'
    have HI := hid hI
    have HBL := hid hbl
    have HZ := hid hz0
    have HXA_0 := hid (HXA.out.below hbl)
    have HXB_0 := hid (HXB.out.below hbl)
    have kA := HXA_0.out.cell
    have kB := HXB_0.out.cell
    clear hO hO' hI hbl hz0
    by_cases hlt : k < n
    · have d1 := dig_lt a k
      have d2 := dig_lt b k
      have l1 : ((k : Nat) : Int) < ((n : Nat) : Int) := by omega
      obtain ⟨X, hX⟩ : ∃ X : Int, ((dig a k : Nat) : Int) = X := ⟨_, rfl⟩
      obtain ⟨Y, hY⟩ : ∃ Y : Int, ((dig b k : Nat) : Int) = Y := ⟨_, rfl⟩
      have EX := hid hX
      have EY := hid hY
      obtain ⟨p, hp⟩ : ∃ p : Int, p = X - Y := ⟨_, rfl⟩
      obtain ⟨t, ht⟩ : ∃ t : Int, t = p - (cc : Int) := ⟨_, rfl⟩
      have w1 : IntKind.i64.wrap (X - Y) = p := by rw [IntWalk.i64_in _ (by omega)]; omega
      have w2 : IntKind.i64.wrap (p - (cc : Int)) = t := by rw [IntWalk.i64_in _ (by omega)]; omega
      have j1 : IntKind.i64.wrap ((k : Int) + 1) = ((k + 1 : Nat) : Int) := by rw [IntWalk.i64_in _ (by omega)]; omega
      have HXA_0' := hid HXA_0.out.drew
      have HXB_0' := hid HXB_0.out.drew
      have HO_0 := hid HO.out.drew
      have HW_0 := hid HBL.out.drew
      clear HXA_0 HXB_0 HO HO' HBL HZ
      have HXA_0 := HXA_0'
      have HXB_0 := HXB_0'
      clear HXA_0' HXB_0'
      by_cases hneg : t < 0
      · obtain ⟨r, hr⟩ : ∃ r : Nat, (r : Int) = t + 4294967296 := ⟨(t + 4294967296).toNat, by omega⟩
        have r1 : r ≤ 4294967295 := by omega
        have HS1 := hid (diff_step a b k S cc (dig a k) (dig b k) HI.out r 1 (by omega))
        have w5 : IntKind.i64.wrap (t + 4294967296) = (r : Int) := by rw [IntWalk.i64_in _ (by omega)]; omega
        have l2 : decide (t < 0) = true := by simpa using hneg
        have w3 : IntKind.u32.wrap (r : Int) = (r : Int) := by rw [IntKind.wrap_u32]; omega
        have w4 : IntKind.i64.wrap (r : Int) = (r : Int) := IntWalk.i64_in _ (by omega)
        clear HI hp ht hr hX hY d1 d2 hneg
        go_wp2_with fail
        refine wp_region_held_drew (S := (fun w' => w'.cell? ⟨w.heap.size, 0, none⟩ = some (.slice A n c) ∧ w'.cell? ⟨w.heap.size + 1, 0, none⟩ = some (.slice B' m d))) (by kernel_rfl) (⟨kA, kB⟩) (fun hHeld => ?_)
        refine wpAnyH_take (i := 0) (oi := { dst := some 16, op := Op.load 24 (Operand.tmp 2), type := 24, pos := "ref.go:97", after := #[], guard := none }) (v := ?_) rfl (by kernel_rfl) (by kernel_rfl) (by kernel_rfl) (fun _ _ _ h => h) (Or.inl ⟨by rfl, ?_⟩) (by assumption) ?_
        rotate_left
        · (intro ws hSw; (try dsimp only at hSw); (try go_simp); (try with_reducible rfl))
        (try simp only [Act.put, List.setIfInBounds_toArray, List.set_cons_zero, List.set_cons_succ])
        refine wpAnyH_take (i := 1) (oi := { dst := some 17, op := Op.move (Operand.tmp 7), type := 3, pos := "ref.go:97", after := #[], guard := none }) (v := ?_) rfl (by kernel_rfl) (by kernel_rfl) (by kernel_rfl) (fun _ _ _ h => h) (Or.inl ⟨by rfl, ?_⟩) (by assumption) ?_
        rotate_left
        · (intro ws hSw; (try dsimp only at hSw); (try go_simp); (try with_reducible rfl))
        (try simp only [Act.put, List.setIfInBounds_toArray, List.set_cons_zero, List.set_cons_succ])
        refine wpAnyH_take (i := 3) (oi := { dst := some 19, op := Op.load 24 (Operand.tmp 3), type := 24, pos := "ref.go:97", after := #[], guard := none }) (v := ?_) rfl (by kernel_rfl) (by kernel_rfl) (by kernel_rfl) (fun _ _ _ h => h) (Or.inl ⟨by rfl, ?_⟩) (by assumption) ?_
        rotate_left
        · (intro ws hSw; (try dsimp only at hSw); (try go_simp); (try with_reducible rfl))
        (try simp only [Act.put, List.setIfInBounds_toArray, List.set_cons_zero, List.set_cons_succ])
        refine wpAnyH_take (i := 4) (oi := { dst := some 20, op := Op.move (Operand.tmp 7), type := 3, pos := "ref.go:97", after := #[], guard := none }) (v := ?_) rfl (by kernel_rfl) (by kernel_rfl) (by kernel_rfl) (fun _ _ _ h => h) (Or.inl ⟨by rfl, ?_⟩) (by assumption) ?_
        rotate_left
        · (intro ws hSw; (try dsimp only at hSw); (try go_simp); (try with_reducible rfl))
        (try simp only [Act.put, List.setIfInBounds_toArray, List.set_cons_zero, List.set_cons_succ])
        refine wpAnyH_take (i := 7) (oi := { dst := some 23, op := Op.move (Operand.tmp 6), type := 3, pos := "ref.go:97", after := #[], guard := none }) (v := ?_) rfl (by kernel_rfl) (by kernel_rfl) (by kernel_rfl) (fun _ _ _ h => h) (Or.inl ⟨by rfl, ?_⟩) (by assumption) ?_
        rotate_left
        · (intro ws hSw; (try dsimp only at hSw); (try go_simp); (try with_reducible rfl))
        (try simp only [Act.put, List.setIfInBounds_toArray, List.set_cons_zero, List.set_cons_succ])
        refine wpAnyH_ready (rs := [2]) (by kernel_rfl) (by simp) ?_
        refine AllReadyH.cons (o := { dst := some 18, op := Op.call { callee := Callee.value (Operand.func 47), args := #[Operand.tmp 16, Operand.tmp 17], argTypes := #[24, 3] }, type := 3, pos := "ref.go:97", after := #[{ on := 0, ground := Ground.data }, { on := 1, ground := Ground.data }], guard := none }) rfl (fun K hK => ?_) AllReadyH.nil
        go_simp
        refine (rword_b A n c a k _ _ _ HXA_0.out.num (by omega) (by omega) rfl EX.out).mono ?_
        rintro e v_1 ⟨rfl, hb⟩
        have HXA_1 := hid (HXA_0.out.below hb)
        have HXB_1 := hid (HXB_0.out.below hb)
        have HW_1 := hid (HW_0.out.trans (hb.mono HW_0.out.size))
        have HO_1 := hid (HO_0.out.below hb (Nat.le_refl _))
        have qA_1 := HXA_1.out.cell
        have qB_1 := HXB_1.out.cell
        clear hb
        refine hK.out _ _ (⟨qA_1, qB_1⟩) (fun hHeld2 => ?_)
        clear hK K hHeld
        have hHeld := hHeld2
        clear hHeld2
        (try simp only [Act.put, List.setIfInBounds_toArray, List.set_cons_zero, List.set_cons_succ])
        refine wpAnyH_ready (rs := [5]) (by kernel_rfl) (by simp) ?_
        refine AllReadyH.cons (o := { dst := some 21, op := Op.call { callee := Callee.value (Operand.func 47), args := #[Operand.tmp 19, Operand.tmp 20], argTypes := #[24, 3] }, type := 3, pos := "ref.go:97", after := #[{ on := 3, ground := Ground.data }, { on := 4, ground := Ground.data }, { on := 2, ground := Ground.chain }], guard := none }) rfl (fun K hK => ?_) AllReadyH.nil
        go_simp
        refine (rword_b B' m d b k _ _ _ HXB_1.out.num (by omega) (by omega) rfl EY.out).mono ?_
        rintro e v_2 ⟨rfl, hb⟩
        have HXA_2 := hid (HXA_1.out.below hb)
        have HXB_2 := hid (HXB_1.out.below hb)
        have HW_2 := hid (HW_1.out.trans (hb.mono HW_1.out.size))
        have HO_2 := hid (HO_1.out.below hb (Nat.le_refl _))
        have qA_2 := HXA_2.out.cell
        have qB_2 := HXB_2.out.cell
        clear hb
        refine hK.out _ _ (⟨qA_2, qB_2⟩) (fun hHeld5 => ?_)
        clear hK K hHeld
        have hHeld := hHeld5
        clear hHeld5
        (try simp only [Act.put, List.setIfInBounds_toArray, List.set_cons_zero, List.set_cons_succ])
        refine wpAnyH_take (i := 6) (oi := { dst := some 22, op := Op.binOp BinOp.sub 3 (Operand.tmp 18) (Operand.tmp 21) 3, type := 3, pos := "ref.go:97", after := #[{ on := 2, ground := Ground.data }, { on := 5, ground := Ground.data }], guard := none }) (v := ?_) rfl (by kernel_rfl) (by kernel_rfl) (by kernel_rfl) (fun _ _ _ h => h) (Or.inl ⟨by rfl, ?_⟩) (by assumption) ?_
        rotate_left
        · (intro ws hSw; (try dsimp only at hSw); (try go_simp); (try with_reducible rfl))
        (try simp only [Act.put, List.setIfInBounds_toArray, List.set_cons_zero, List.set_cons_succ])
        refine wpAnyH_take (i := 8) (oi := { dst := some 24, op := Op.binOp BinOp.sub 3 (Operand.tmp 22) (Operand.tmp 23) 3, type := 3, pos := "ref.go:97", after := #[{ on := 6, ground := Ground.data }, { on := 7, ground := Ground.data }], guard := none }) (v := ?_) rfl (by kernel_rfl) (by kernel_rfl) (by kernel_rfl) (fun _ _ _ h => h) (Or.inl ⟨by rfl, ?_⟩) (by assumption) ?_
        rotate_left
        · (intro ws hSw; (try dsimp only at hSw); (try go_simp); (try with_reducible rfl))
        (try simp only [Act.put, List.setIfInBounds_toArray, List.set_cons_zero, List.set_cons_succ])
        refine wpAnyH_take (i := 9) (oi := { dst := some 8, op := Op.assign (Operand.tmp 24), type := 3, pos := "ref.go:97", after := #[{ on := 8, ground := Ground.data }, { on := 5, ground := Ground.chain }, { on := 0, ground := Ground.phase }, { on := 1, ground := Ground.phase }, { on := 2, ground := Ground.phase }, { on := 3, ground := Ground.phase }, { on := 4, ground := Ground.phase }, { on := 5, ground := Ground.phase }, { on := 6, ground := Ground.phase }, { on := 7, ground := Ground.phase }, { on := 8, ground := Ground.phase }], guard := none }) (v := ?_) rfl (by kernel_rfl) (by kernel_rfl) (by kernel_rfl) (fun _ _ _ h => h) (Or.inl ⟨by rfl, ?_⟩) (by assumption) ?_
        rotate_left
        · (intro ws hSw; (try dsimp only at hSw); (try go_simp); (try with_reducible rfl))
        (try simp only [Act.put, List.setIfInBounds_toArray, List.set_cons_zero, List.set_cons_succ])
        refine wpAnyH_done (by kernel_rfl) ?_ _
        clear hHeld
        go_wp2_with (at_builtin; refine wp_app1 rfl _ _ rfl V.heap.size v_2 (.slice O k oc) k S r rfl HO_2.out rfl r1 (by omega) HW_2.out.size ?_; intro O1 oc1 v1 ho1 hb1 hlt1 hc1; have HO1 := hid ho1; have HB1 := hid hb1; clear ho1 hb1)
        go_roundw
        case rel => exact ⟨k + 1, 1, _, by omega, by go_num, rfl, by omega, by omega, fun h => by omega, HO1.out, by rw [Nat.add_comm (r * _)]; exact HS1.out, HW_2.out.trans HB1.out⟩
        case measure => simp [intOf] <;> omega
      · obtain ⟨r, hr⟩ : ∃ r : Nat, t = (r : Int) := ⟨t.toNat, by omega⟩
        have r1 : r ≤ 4294967295 := by omega
        have HS1 := hid (diff_step a b k S cc (dig a k) (dig b k) HI.out r 0 (by omega))
        have l2 : decide ((r : Int) < 0) = false := by simp
        have w3 : IntKind.u32.wrap (r : Int) = (r : Int) := by rw [IntKind.wrap_u32]; omega
        have w4 : IntKind.i64.wrap (r : Int) = (r : Int) := IntWalk.i64_in _ (by omega)
        rw [hr] at w2
        clear HI hp ht hX hY d1 d2 hneg hr
        go_wp2_with fail
        refine wp_region_held_drew (S := (fun w' => w'.cell? ⟨w.heap.size, 0, none⟩ = some (.slice A n c) ∧ w'.cell? ⟨w.heap.size + 1, 0, none⟩ = some (.slice B' m d))) (by kernel_rfl) (⟨kA, kB⟩) (fun hHeld => ?_)
        refine wpAnyH_take (i := 0) (oi := { dst := some 16, op := Op.load 24 (Operand.tmp 2), type := 24, pos := "ref.go:97", after := #[], guard := none }) (v := ?_) rfl (by kernel_rfl) (by kernel_rfl) (by kernel_rfl) (fun _ _ _ h => h) (Or.inl ⟨by rfl, ?_⟩) (by assumption) ?_
        rotate_left
        · (intro ws hSw; (try dsimp only at hSw); (try go_simp); (try with_reducible rfl))
        (try simp only [Act.put, List.setIfInBounds_toArray, List.set_cons_zero, List.set_cons_succ])
        refine wpAnyH_take (i := 1) (oi := { dst := some 17, op := Op.move (Operand.tmp 7), type := 3, pos := "ref.go:97", after := #[], guard := none }) (v := ?_) rfl (by kernel_rfl) (by kernel_rfl) (by kernel_rfl) (fun _ _ _ h => h) (Or.inl ⟨by rfl, ?_⟩) (by assumption) ?_
        rotate_left
        · (intro ws hSw; (try dsimp only at hSw); (try go_simp); (try with_reducible rfl))
        (try simp only [Act.put, List.setIfInBounds_toArray, List.set_cons_zero, List.set_cons_succ])
        refine wpAnyH_take (i := 3) (oi := { dst := some 19, op := Op.load 24 (Operand.tmp 3), type := 24, pos := "ref.go:97", after := #[], guard := none }) (v := ?_) rfl (by kernel_rfl) (by kernel_rfl) (by kernel_rfl) (fun _ _ _ h => h) (Or.inl ⟨by rfl, ?_⟩) (by assumption) ?_
        rotate_left
        · (intro ws hSw; (try dsimp only at hSw); (try go_simp); (try with_reducible rfl))
        (try simp only [Act.put, List.setIfInBounds_toArray, List.set_cons_zero, List.set_cons_succ])
        refine wpAnyH_take (i := 4) (oi := { dst := some 20, op := Op.move (Operand.tmp 7), type := 3, pos := "ref.go:97", after := #[], guard := none }) (v := ?_) rfl (by kernel_rfl) (by kernel_rfl) (by kernel_rfl) (fun _ _ _ h => h) (Or.inl ⟨by rfl, ?_⟩) (by assumption) ?_
        rotate_left
        · (intro ws hSw; (try dsimp only at hSw); (try go_simp); (try with_reducible rfl))
        (try simp only [Act.put, List.setIfInBounds_toArray, List.set_cons_zero, List.set_cons_succ])
        refine wpAnyH_take (i := 7) (oi := { dst := some 23, op := Op.move (Operand.tmp 6), type := 3, pos := "ref.go:97", after := #[], guard := none }) (v := ?_) rfl (by kernel_rfl) (by kernel_rfl) (by kernel_rfl) (fun _ _ _ h => h) (Or.inl ⟨by rfl, ?_⟩) (by assumption) ?_
        rotate_left
        · (intro ws hSw; (try dsimp only at hSw); (try go_simp); (try with_reducible rfl))
        (try simp only [Act.put, List.setIfInBounds_toArray, List.set_cons_zero, List.set_cons_succ])
        refine wpAnyH_ready (rs := [2]) (by kernel_rfl) (by simp) ?_
        refine AllReadyH.cons (o := { dst := some 18, op := Op.call { callee := Callee.value (Operand.func 47), args := #[Operand.tmp 16, Operand.tmp 17], argTypes := #[24, 3] }, type := 3, pos := "ref.go:97", after := #[{ on := 0, ground := Ground.data }, { on := 1, ground := Ground.data }], guard := none }) rfl (fun K hK => ?_) AllReadyH.nil
        go_simp
        refine (rword_b A n c a k _ _ _ HXA_0.out.num (by omega) (by omega) rfl EX.out).mono ?_
        rintro e v_1 ⟨rfl, hb⟩
        have HXA_1 := hid (HXA_0.out.below hb)
        have HXB_1 := hid (HXB_0.out.below hb)
        have HW_1 := hid (HW_0.out.trans (hb.mono HW_0.out.size))
        have HO_1 := hid (HO_0.out.below hb (Nat.le_refl _))
        have qA_1 := HXA_1.out.cell
        have qB_1 := HXB_1.out.cell
        clear hb
        refine hK.out _ _ (⟨qA_1, qB_1⟩) (fun hHeld2 => ?_)
        clear hK K hHeld
        have hHeld := hHeld2
        clear hHeld2
        (try simp only [Act.put, List.setIfInBounds_toArray, List.set_cons_zero, List.set_cons_succ])
        refine wpAnyH_ready (rs := [5]) (by kernel_rfl) (by simp) ?_
        refine AllReadyH.cons (o := { dst := some 21, op := Op.call { callee := Callee.value (Operand.func 47), args := #[Operand.tmp 19, Operand.tmp 20], argTypes := #[24, 3] }, type := 3, pos := "ref.go:97", after := #[{ on := 3, ground := Ground.data }, { on := 4, ground := Ground.data }, { on := 2, ground := Ground.chain }], guard := none }) rfl (fun K hK => ?_) AllReadyH.nil
        go_simp
        refine (rword_b B' m d b k _ _ _ HXB_1.out.num (by omega) (by omega) rfl EY.out).mono ?_
        rintro e v_2 ⟨rfl, hb⟩
        have HXA_2 := hid (HXA_1.out.below hb)
        have HXB_2 := hid (HXB_1.out.below hb)
        have HW_2 := hid (HW_1.out.trans (hb.mono HW_1.out.size))
        have HO_2 := hid (HO_1.out.below hb (Nat.le_refl _))
        have qA_2 := HXA_2.out.cell
        have qB_2 := HXB_2.out.cell
        clear hb
        refine hK.out _ _ (⟨qA_2, qB_2⟩) (fun hHeld5 => ?_)
        clear hK K hHeld
        have hHeld := hHeld5
        clear hHeld5
        (try simp only [Act.put, List.setIfInBounds_toArray, List.set_cons_zero, List.set_cons_succ])
        refine wpAnyH_take (i := 6) (oi := { dst := some 22, op := Op.binOp BinOp.sub 3 (Operand.tmp 18) (Operand.tmp 21) 3, type := 3, pos := "ref.go:97", after := #[{ on := 2, ground := Ground.data }, { on := 5, ground := Ground.data }], guard := none }) (v := ?_) rfl (by kernel_rfl) (by kernel_rfl) (by kernel_rfl) (fun _ _ _ h => h) (Or.inl ⟨by rfl, ?_⟩) (by assumption) ?_
        rotate_left
        · (intro ws hSw; (try dsimp only at hSw); (try go_simp); (try with_reducible rfl))
        (try simp only [Act.put, List.setIfInBounds_toArray, List.set_cons_zero, List.set_cons_succ])
        refine wpAnyH_take (i := 8) (oi := { dst := some 24, op := Op.binOp BinOp.sub 3 (Operand.tmp 22) (Operand.tmp 23) 3, type := 3, pos := "ref.go:97", after := #[{ on := 6, ground := Ground.data }, { on := 7, ground := Ground.data }], guard := none }) (v := ?_) rfl (by kernel_rfl) (by kernel_rfl) (by kernel_rfl) (fun _ _ _ h => h) (Or.inl ⟨by rfl, ?_⟩) (by assumption) ?_
        rotate_left
        · (intro ws hSw; (try dsimp only at hSw); (try go_simp); (try with_reducible rfl))
        (try simp only [Act.put, List.setIfInBounds_toArray, List.set_cons_zero, List.set_cons_succ])
        refine wpAnyH_take (i := 9) (oi := { dst := some 8, op := Op.assign (Operand.tmp 24), type := 3, pos := "ref.go:97", after := #[{ on := 8, ground := Ground.data }, { on := 5, ground := Ground.chain }, { on := 0, ground := Ground.phase }, { on := 1, ground := Ground.phase }, { on := 2, ground := Ground.phase }, { on := 3, ground := Ground.phase }, { on := 4, ground := Ground.phase }, { on := 5, ground := Ground.phase }, { on := 6, ground := Ground.phase }, { on := 7, ground := Ground.phase }, { on := 8, ground := Ground.phase }], guard := none }) (v := ?_) rfl (by kernel_rfl) (by kernel_rfl) (by kernel_rfl) (fun _ _ _ h => h) (Or.inl ⟨by rfl, ?_⟩) (by assumption) ?_
        rotate_left
        · (intro ws hSw; (try dsimp only at hSw); (try go_simp); (try with_reducible rfl))
        (try simp only [Act.put, List.setIfInBounds_toArray, List.set_cons_zero, List.set_cons_succ])
        refine wpAnyH_done (by kernel_rfl) ?_ _
        clear hHeld
        go_wp2_with (at_builtin; refine wp_app1 rfl _ _ rfl V.heap.size v_2 (.slice O k oc) k S r rfl HO_2.out rfl r1 (by omega) HW_2.out.size ?_; intro O1 oc1 v1 ho1 hb1 hlt1 hc1; have HO1 := hid ho1; have HB1 := hid hb1; clear ho1 hb1)
        go_roundw
        case rel => exact ⟨k + 1, 0, _, by omega, by go_num, rfl, by omega, by omega, fun h => by omega, HO1.out, by rw [Nat.add_comm (r * _)]; exact HS1.out, HW_2.out.trans HB1.out⟩
        case measure => simp [intOf] <;> omega
    · obtain rfl : k = n := by omega
      have HF : Hid (S = a - b) := by
        show _ = _
        have h1 := HI.out
        have h2 := LA.out
        have h3 := HLE.out
        have h4 := HO.out.1
        rw [Nat.mod_eq_of_lt h2, Nat.mod_eq_of_lt (by omega)] at h1
        rcases Nat.lt_or_ge cc 1 with h5 | h5
        · obtain rfl : cc = 0 := by omega
          omega
        · obtain rfl : cc = 1 := by omega
          omega
      have l1 : decide (((k : Nat) : Int) < ((k : Nat) : Int)) = false := by simp
      clear HI
      rw [HF.out] at HO HO'
      have HC : Calls Try.prog 45 #[.slice O k oc] wr (RetNat wr.heap.size (a - b) wr) := by
        by_cases h0 : k = 0
        · subst h0
          have e := HZ.out rfl
          have h1 := HO.out.1
          obtain h2 : a - b = 0 := by simpa using h1
          rw [e, h2]
          exact rtrim_nil wr
        · obtain ⟨g, cs, e, g1, g2, g3⟩ := HO'.out.2.2.2 (by omega)
          subst e
          exact rtrim_any _ k oc (a - b) _ wr HO'.out.num (Nat.le_refl _) (by omega) HO'.out.2.1
      have HC := hid HC
      clear hlt
      go_wp2_with fail
      refine HC.out.mono ?_
      rintro e w9 ⟨v, rfl, ⟨A', c', rfl, ho⟩, hb⟩
      have HBW := hid (HBL.out.trans (hb.mono HBL.out.size))
      have HO9 := hid (ho.weak (b := w.heap.size) (Nat.le_trans HWW.out.size HBL.out.size))
      have B9 := hid (HB2.out.below HBW.out HB2.out.lt)
      have W9 := hid (HWW.out.trans (HBW.out.mono HWW.out.size))
      have cB := B9.out.cell0
      have fB := B9.out.frozen 0
      clear hb ho
      go_wp2_with fail
      have ho2 := HO9.out.box (p := ⟨w.heap.size + 1 + 1, 0, none⟩) B9.out (by decide) (.slice A' (nw (a - b)) c')
      exact bodyPost_ret (v := .agg #[.slice A' (nw (a - b)) c']) (by simp [results, Try.results29, go_sem, cB]) rfl ⟨_, rfl, ⟨A', c', rfl, ho2⟩, W9.out.setCell (by simp <;> omega) _⟩

end Go.Proofs.Ytlhfaaghfhiaoaa
