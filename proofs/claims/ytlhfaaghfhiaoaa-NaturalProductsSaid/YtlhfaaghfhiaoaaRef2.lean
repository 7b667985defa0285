/- The reference: append of one word, Compare, sized. -/
import Derived.Test.YtlhfaaghfhiaoaaRef
import Derived.Test.YtlhfaaghfhiaoaaLShiftsP
import Derived.Laws.AppendOwnNone
set_option linter.unusedVariables false
set_option linter.unusedSimpArgs false
namespace Go.Proofs.Ytlhfaaghfhiaoaa
open Go.RowKit

theorem wp_app1 {ops : Array Oper} {rest : List Oper} {o : Oper} {a : Act} {Q : Exit → Act → World → Prop} (hgd : o.guard = none) (s x : Operand)
    (ho : o.op = .call { callee := .builtin .append, args := #[s, x], argTypes := #[22, 22] }) (base : Nat) (V : World) (v : Value) (k S y : Nat) (hs : a.eval s = v) (hO : OwnsV V base v k S)
    (hx : a.eval x = .slice (some ⟨V.heap.size, 0, none⟩) 1 1) (hy : y ≤ 4294967295) (hk : k ≤ 1000000) (hb : base ≤ V.heap.size)
    (h : ∀ A c w', OwnsV w' base (.slice (some A) (k + 1) c) (k + 1) (y * 2 ^ (32 * k) + S) → Below base V w' → A.block < w'.heap.size → k + 1 ≤ c → wpList Try.prog ops Q rest (a.put o.dst (.slice (some A) (k + 1) c)) w') :
    wpList Try.prog ops Q (o :: rest) a (V.alloc (.cells #[.int .u32 ((y : Nat) : Int)] 62)) := by
  obtain ⟨i0, hi0, hz0, hz1, hz2⟩ := info_parts info62
  have hy2 : y < 2 ^ (32 * 1) := by show y < 4294967296; omega
  have hw : words 1 y = #[.int .u32 ((y : Nat) : Int)] := by
    show #[Value.int .u32 ((dig y 0 : Nat) : Int)] = _
    rw [show dig y 0 = y by unfold dig; rw [show 2 ^ (32 * 0) = 1 from rfl]; omega]
  have hN : Num (V.alloc (.cells #[.int .u32 ((y : Nat) : Int)] 62)) (V.heap.size + 1) (some ⟨V.heap.size, 0, none⟩) 1 y := by
    rw [← hw]; exact num_blk (Blk.new V 62 (words 1 y)) hy2 (by omega)
  refine wpList_append_own_at _ hgd s x 22 ho base 62 i0 (.int .u32 0) 1 4 Try.underlying22 hi0 hz0 hz1 hz2 rfl (by decide) v k (words k S).toList hs (hO.alloc _).2 ⟨V.heap.size, 0, none⟩ 1 1 (words 1 y).toList hx (words_len 1 y) hN.news (words_oneCell 1 y) (by unfold maxLen; omega) (by omega) (by simp; omega) ?_
  intro v' w' hown hg hnil _
  have h1 := OwnsV.app (k := k) (m := 1) hO.1 hy2 hown
  have hb1 : Below base V w' := ((Below.refl _ _).alloc hb _).grown hg (by simp; omega) (fun j hj => (hO.2.lt j hj).1)
  obtain ⟨A, c, rfl, hO2⟩ := h1.own
  cases A with
  | none => exact absurd (hO2.2.2.2 (by omega)) (by rintro ⟨g, cs, e, _⟩; cases e)
  | some A =>
    obtain ⟨g, cs, e, h2, h3, h4⟩ := hO2.2.2.2 (by omega)
    injection e with e
    subst e
    exact h _ _ _ h1 hb1 h3.lt hO2.2.1
theorem OwnsV.num {w : World} {base k s c B : Nat} {A : Option Addr} (h : OwnsV w base (.slice A k c) k s) (hB : w.heap.size ≤ B) : Num w B A k s := by
  obtain ⟨A', c', e, ho⟩ := h.own
  injection e with e1 e2 e3
  subst e1
  exact ho.num.more hB

theorem ord_at {a b t : Nat} (h : a / 2 ^ (32 * (t + 1)) = b / 2 ^ (32 * (t + 1))) (hd : dig a t = dig b t) : a / 2 ^ (32 * t) = b / 2 ^ (32 * t) := by
  rw [div_split a t, div_split b t, h, hd]
theorem rcompare_any (A B' : Option Addr) (n m c d a b : Nat) (w : World) (hA : Num w w.heap.size A n a) (hB : Num w w.heap.size B' m b) (hn : n ≤ 64) (hm : m ≤ 64) :
    Calls Try.prog 28 #[.agg #[.slice A n c], .agg #[.slice B' m d]] w (RetB (.int .i64 (ordN a b)) w) := by
  obtain ⟨b0, b1, bw⟩ := boxes2 w (.slice A n c) (.slice B' m d)
  have XA := Box.mk b0 hA bw
  have XB := Box.mk b1 hB bw
  have WW := bw
  have HE : Hid (a / 2 ^ (32 * 64) = b / 2 ^ (32 * 64)) := by
    show _ = _
    rw [Nat.div_eq_of_lt (Nat.lt_of_lt_of_le hA.lt (pw_le hn)), Nat.div_eq_of_lt (Nat.lt_of_lt_of_le hB.lt (pw_le hm))]
  clear b0 b1 bw hA hB
  go_enter Try.func28, Try.ntmps28
  go_wp2_with fail
  have HXA := hid XA
  have HXB := hid XB
  have HWW := hid WW
  clear XA XB WW
  go_loopw [5] (fun i wr => ∃ (k : Nat) (z : Int), k ≤ 64 ∧ z = (k : Int) - 1 ∧ i = .int .i64 z ∧ a / 2 ^ (32 * k) = b / 2 ^ (32 * k) ∧ Box wr w.heap.size A n c a ∧ Box wr (w.heap.size + 1) B' m d b ∧ Below w.heap.size w wr) (fun i _ => (intOf i + 1).toNat)
  case atStart => exact ⟨64, _, by omega, rfl, rfl, HE.out, HXA.out, HXB.out, HWW.out⟩
  case round =>
    obtain ⟨k, z, hk, hz, rfl, hI, hX, hY, hW⟩ := hrel
    have HI := hid hI
    clear hI HXA HXB HWW HE
    have HXA_0 := hid hX.drew
    have HXB_0 := hid hY.drew
    have HW_0 := hid hW.drew
    have kA := hX.cell
    have kB := hY.cell
    have HW := hid hW
    clear hX hY hW
    by_cases hk0 : k = 0
    · subst hk0
      obtain rfl : z = -1 := by omega
      clear hz
      have HF : Hid (ordN a b = 0) := by
        have := HI.out
        rw [show 2 ^ (32 * 0) = 1 from rfl, Nat.div_one, Nat.div_one] at this
        rw [this]; exact ordN_eq b
      go_wp2_with fail
      go_ret
      exact ⟨ret_int HF.out.symm, HW.out⟩
    · obtain ⟨t, rfl⟩ : ∃ t, k = t + 1 := ⟨k - 1, by omega⟩
      obtain rfl : z = (t : Int) := by omega
      clear hz hk0
      have ht2 : t < 64 := by omega
      obtain ⟨X, hX⟩ : ∃ X : Int, ((dig a t : Nat) : Int) = X := ⟨_, rfl⟩
      obtain ⟨Y, hY⟩ : ∃ Y : Int, ((dig b t : Nat) : Int) = Y := ⟨_, rfl⟩
      have EX := hid hX
      have EY := hid hY
      rcases Nat.lt_trichotomy (dig a t) (dig b t) with hd | hd | hd
      · have HF : Hid (-1 = ordN a b) := by show _ = _; rw [← ord_dig HI.out (by omega), ordN_lt hd]
        have l1 : decide (X < Y) = true := by simp; omega
        clear hX hY hd
        go_wp2_with fail
        refine wp_region_held_drew (S := (fun w' => w'.cell? ⟨w.heap.size, 0, none⟩ = some (.slice A n c) ∧ w'.cell? ⟨w.heap.size + 1, 0, none⟩ = some (.slice B' m d))) (by kernel_rfl) (⟨kA, kB⟩) (fun hHeld => ?_)
        refine wpAnyH_take (i := 0) (oi := { dst := some 10, op := Op.load 24 (Operand.tmp 2), type := 24, pos := "ref.go:38", after := #[], guard := none }) (v := ?_) rfl (by kernel_rfl) (by kernel_rfl) (by kernel_rfl) (fun _ _ _ h => h) (Or.inl ⟨by rfl, ?_⟩) (by assumption) ?_
        rotate_left
        · (intro ws hSw; (try dsimp only at hSw); (try go_simp); (try with_reducible rfl))
        (try simp only [Act.put, List.setIfInBounds_toArray, List.set_cons_zero, List.set_cons_succ])
        refine wpAnyH_take (i := 1) (oi := { dst := some 11, op := Op.move (Operand.tmp 5), type := 3, pos := "ref.go:38", after := #[], guard := none }) (v := ?_) rfl (by kernel_rfl) (by kernel_rfl) (by kernel_rfl) (fun _ _ _ h => h) (Or.inl ⟨by rfl, ?_⟩) (by assumption) ?_
        rotate_left
        · (intro ws hSw; (try dsimp only at hSw); (try go_simp); (try with_reducible rfl))
        (try simp only [Act.put, List.setIfInBounds_toArray, List.set_cons_zero, List.set_cons_succ])
        refine wpAnyH_take (i := 3) (oi := { dst := some 13, op := Op.load 24 (Operand.tmp 3), type := 24, pos := "ref.go:38", after := #[], guard := none }) (v := ?_) rfl (by kernel_rfl) (by kernel_rfl) (by kernel_rfl) (fun _ _ _ h => h) (Or.inl ⟨by rfl, ?_⟩) (by assumption) ?_
        rotate_left
        · (intro ws hSw; (try dsimp only at hSw); (try go_simp); (try with_reducible rfl))
        (try simp only [Act.put, List.setIfInBounds_toArray, List.set_cons_zero, List.set_cons_succ])
        refine wpAnyH_take (i := 4) (oi := { dst := some 14, op := Op.move (Operand.tmp 5), type := 3, pos := "ref.go:38", after := #[], guard := none }) (v := ?_) rfl (by kernel_rfl) (by kernel_rfl) (by kernel_rfl) (fun _ _ _ h => h) (Or.inl ⟨by rfl, ?_⟩) (by assumption) ?_
        rotate_left
        · (intro ws hSw; (try dsimp only at hSw); (try go_simp); (try with_reducible rfl))
        (try simp only [Act.put, List.setIfInBounds_toArray, List.set_cons_zero, List.set_cons_succ])
        refine wpAnyH_ready (rs := [2]) (by kernel_rfl) (by simp) ?_
        refine AllReadyH.cons (o := { dst := some 12, op := Op.call { callee := Callee.value (Operand.func 47), args := #[Operand.tmp 10, Operand.tmp 11], argTypes := #[24, 3] }, type := 3, pos := "ref.go:38", after := #[{ on := 0, ground := Ground.data }, { on := 1, ground := Ground.data }], guard := none }) rfl (fun K hK => ?_) AllReadyH.nil
        go_simp
        refine (rword_b A n c a t _ _ _ HXA_0.out.num (by omega) (by omega) rfl EX.out).mono ?_
        rintro e v_1 ⟨rfl, hb⟩
        have HXA_1 := hid (HXA_0.out.below hb)
        have HXB_1 := hid (HXB_0.out.below hb)
        have HW_1 := hid (HW_0.out.trans (hb.mono HW_0.out.size))
        have qA_1 := HXA_1.out.cell
        have qB_1 := HXB_1.out.cell
        clear hb
        refine hK.out _ _ (⟨qA_1, qB_1⟩) (fun hHeld2 => ?_)
        clear hK K hHeld
        have hHeld := hHeld2
        clear hHeld2
        (try simp only [Act.put, List.setIfInBounds_toArray, List.set_cons_zero, List.set_cons_succ])
        refine wpAnyH_ready (rs := [5]) (by kernel_rfl) (by simp) ?_
        refine AllReadyH.cons (o := { dst := some 15, op := Op.call { callee := Callee.value (Operand.func 47), args := #[Operand.tmp 13, Operand.tmp 14], argTypes := #[24, 3] }, type := 3, pos := "ref.go:38", after := #[{ on := 3, ground := Ground.data }, { on := 4, ground := Ground.data }, { on := 2, ground := Ground.chain }], guard := none }) rfl (fun K hK => ?_) AllReadyH.nil
        go_simp
        refine (rword_b B' m d b t _ _ _ HXB_1.out.num (by omega) (by omega) rfl EY.out).mono ?_
        rintro e v_2 ⟨rfl, hb⟩
        have HXA_2 := hid (HXA_1.out.below hb)
        have HXB_2 := hid (HXB_1.out.below hb)
        have HW_2 := hid (HW_1.out.trans (hb.mono HW_1.out.size))
        have qA_2 := HXA_2.out.cell
        have qB_2 := HXB_2.out.cell
        clear hb
        refine hK.out _ _ (⟨qA_2, qB_2⟩) (fun hHeld5 => ?_)
        clear hK K hHeld
        have hHeld := hHeld5
        clear hHeld5
        (try simp only [Act.put, List.setIfInBounds_toArray, List.set_cons_zero, List.set_cons_succ])
        refine wpAnyH_take (i := 6) (oi := { dst := some 16, op := Op.binOp BinOp.lss 3 (Operand.tmp 12) (Operand.tmp 15) 3, type := 4, pos := "ref.go:38", after := #[{ on := 2, ground := Ground.data }, { on := 5, ground := Ground.data }], guard := none }) (v := ?_) rfl (by kernel_rfl) (by kernel_rfl) (by kernel_rfl) (fun _ _ _ h => h) (Or.inl ⟨by rfl, ?_⟩) (by assumption) ?_
        rotate_left
        · (intro ws hSw; (try dsimp only at hSw); (try go_simp); (try with_reducible rfl))
        (try simp only [Act.put, List.setIfInBounds_toArray, List.set_cons_zero, List.set_cons_succ])
        refine wpAnyH_done (by kernel_rfl) ?_ _
        clear hHeld
        go_wp2_with fail
        go_ret
        exact ⟨ret_int HF.out, HW_2.out⟩
      · have HK := hid (ord_at HI.out hd)
        have l1 : decide (X < Y) = false := by simp; omega
        have l2 : decide (Y < X) = false := by simp; omega
        clear hX hY hd
        go_wp2_with fail
        refine wp_region_held_drew (S := (fun w' => w'.cell? ⟨w.heap.size, 0, none⟩ = some (.slice A n c) ∧ w'.cell? ⟨w.heap.size + 1, 0, none⟩ = some (.slice B' m d))) (by kernel_rfl) (⟨kA, kB⟩) (fun hHeld => ?_)
        refine wpAnyH_take (i := 0) (oi := { dst := some 10, op := Op.load 24 (Operand.tmp 2), type := 24, pos := "ref.go:38", after := #[], guard := none }) (v := ?_) rfl (by kernel_rfl) (by kernel_rfl) (by kernel_rfl) (fun _ _ _ h => h) (Or.inl ⟨by rfl, ?_⟩) (by assumption) ?_
        rotate_left
        · (intro ws hSw; (try dsimp only at hSw); (try go_simp); (try with_reducible rfl))
        (try simp only [Act.put, List.setIfInBounds_toArray, List.set_cons_zero, List.set_cons_succ])
        refine wpAnyH_take (i := 1) (oi := { dst := some 11, op := Op.move (Operand.tmp 5), type := 3, pos := "ref.go:38", after := #[], guard := none }) (v := ?_) rfl (by kernel_rfl) (by kernel_rfl) (by kernel_rfl) (fun _ _ _ h => h) (Or.inl ⟨by rfl, ?_⟩) (by assumption) ?_
        rotate_left
        · (intro ws hSw; (try dsimp only at hSw); (try go_simp); (try with_reducible rfl))
        (try simp only [Act.put, List.setIfInBounds_toArray, List.set_cons_zero, List.set_cons_succ])
        refine wpAnyH_take (i := 3) (oi := { dst := some 13, op := Op.load 24 (Operand.tmp 3), type := 24, pos := "ref.go:38", after := #[], guard := none }) (v := ?_) rfl (by kernel_rfl) (by kernel_rfl) (by kernel_rfl) (fun _ _ _ h => h) (Or.inl ⟨by rfl, ?_⟩) (by assumption) ?_
        rotate_left
        · (intro ws hSw; (try dsimp only at hSw); (try go_simp); (try with_reducible rfl))
        (try simp only [Act.put, List.setIfInBounds_toArray, List.set_cons_zero, List.set_cons_succ])
        refine wpAnyH_take (i := 4) (oi := { dst := some 14, op := Op.move (Operand.tmp 5), type := 3, pos := "ref.go:38", after := #[], guard := none }) (v := ?_) rfl (by kernel_rfl) (by kernel_rfl) (by kernel_rfl) (fun _ _ _ h => h) (Or.inl ⟨by rfl, ?_⟩) (by assumption) ?_
        rotate_left
        · (intro ws hSw; (try dsimp only at hSw); (try go_simp); (try with_reducible rfl))
        (try simp only [Act.put, List.setIfInBounds_toArray, List.set_cons_zero, List.set_cons_succ])
        refine wpAnyH_ready (rs := [2]) (by kernel_rfl) (by simp) ?_
        refine AllReadyH.cons (o := { dst := some 12, op := Op.call { callee := Callee.value (Operand.func 47), args := #[Operand.tmp 10, Operand.tmp 11], argTypes := #[24, 3] }, type := 3, pos := "ref.go:38", after := #[{ on := 0, ground := Ground.data }, { on := 1, ground := Ground.data }], guard := none }) rfl (fun K hK => ?_) AllReadyH.nil
        go_simp
        refine (rword_b A n c a t _ _ _ HXA_0.out.num (by omega) (by omega) rfl EX.out).mono ?_
        rintro e v_1 ⟨rfl, hb⟩
        have HXA_1 := hid (HXA_0.out.below hb)
        have HXB_1 := hid (HXB_0.out.below hb)
        have HW_1 := hid (HW_0.out.trans (hb.mono HW_0.out.size))
        have qA_1 := HXA_1.out.cell
        have qB_1 := HXB_1.out.cell
        clear hb
        refine hK.out _ _ (⟨qA_1, qB_1⟩) (fun hHeld2 => ?_)
        clear hK K hHeld
        have hHeld := hHeld2
        clear hHeld2
        (try simp only [Act.put, List.setIfInBounds_toArray, List.set_cons_zero, List.set_cons_succ])
        refine wpAnyH_ready (rs := [5]) (by kernel_rfl) (by simp) ?_
        refine AllReadyH.cons (o := { dst := some 15, op := Op.call { callee := Callee.value (Operand.func 47), args := #[Operand.tmp 13, Operand.tmp 14], argTypes := #[24, 3] }, type := 3, pos := "ref.go:38", after := #[{ on := 3, ground := Ground.data }, { on := 4, ground := Ground.data }, { on := 2, ground := Ground.chain }], guard := none }) rfl (fun K hK => ?_) AllReadyH.nil
        go_simp
        refine (rword_b B' m d b t _ _ _ HXB_1.out.num (by omega) (by omega) rfl EY.out).mono ?_
        rintro e v_2 ⟨rfl, hb⟩
        have HXA_2 := hid (HXA_1.out.below hb)
        have HXB_2 := hid (HXB_1.out.below hb)
        have HW_2 := hid (HW_1.out.trans (hb.mono HW_1.out.size))
        have qA_2 := HXA_2.out.cell
        have qB_2 := HXB_2.out.cell
        clear hb
        refine hK.out _ _ (⟨qA_2, qB_2⟩) (fun hHeld5 => ?_)
        clear hK K hHeld
        have hHeld := hHeld5
        clear hHeld5
        (try simp only [Act.put, List.setIfInBounds_toArray, List.set_cons_zero, List.set_cons_succ])
        refine wpAnyH_take (i := 6) (oi := { dst := some 16, op := Op.binOp BinOp.lss 3 (Operand.tmp 12) (Operand.tmp 15) 3, type := 4, pos := "ref.go:38", after := #[{ on := 2, ground := Ground.data }, { on := 5, ground := Ground.data }], guard := none }) (v := ?_) rfl (by kernel_rfl) (by kernel_rfl) (by kernel_rfl) (fun _ _ _ h => h) (Or.inl ⟨by rfl, ?_⟩) (by assumption) ?_
        rotate_left
        · (intro ws hSw; (try dsimp only at hSw); (try go_simp); (try with_reducible rfl))
        (try simp only [Act.put, List.setIfInBounds_toArray, List.set_cons_zero, List.set_cons_succ])
        refine wpAnyH_done (by kernel_rfl) ?_ _
        clear hHeld
        go_wp2_with fail
        have HXA_2' := hid HXA_2.out.drew
        have HXB_2' := hid HXB_2.out.drew
        have HW_2' := hid HW_2.out.drew
        clear HXA_2 HXB_2 HW_2
        have HXA_2 := HXA_2'
        have HXB_2 := HXB_2'
        have HW_2 := HW_2'
        clear HXA_2' HXB_2' HW_2'
        refine wp_region_held_drew (S := (fun w' => w'.cell? ⟨w.heap.size, 0, none⟩ = some (.slice A n c) ∧ w'.cell? ⟨w.heap.size + 1, 0, none⟩ = some (.slice B' m d))) (by kernel_rfl) (⟨qA_2, qB_2⟩) (fun hHeld => ?_)
        refine wpAnyH_take (i := 0) (oi := { dst := some 17, op := Op.load 24 (Operand.tmp 2), type := 24, pos := "ref.go:41", after := #[], guard := none }) (v := ?_) rfl (by kernel_rfl) (by kernel_rfl) (by kernel_rfl) (fun _ _ _ h => h) (Or.inl ⟨by rfl, ?_⟩) (by assumption) ?_
        rotate_left
        · (intro ws hSw; (try dsimp only at hSw); (try go_simp); (try with_reducible rfl))
        (try simp only [Act.put, List.setIfInBounds_toArray, List.set_cons_zero, List.set_cons_succ])
        refine wpAnyH_take (i := 1) (oi := { dst := some 18, op := Op.move (Operand.tmp 5), type := 3, pos := "ref.go:41", after := #[], guard := none }) (v := ?_) rfl (by kernel_rfl) (by kernel_rfl) (by kernel_rfl) (fun _ _ _ h => h) (Or.inl ⟨by rfl, ?_⟩) (by assumption) ?_
        rotate_left
        · (intro ws hSw; (try dsimp only at hSw); (try go_simp); (try with_reducible rfl))
        (try simp only [Act.put, List.setIfInBounds_toArray, List.set_cons_zero, List.set_cons_succ])
        refine wpAnyH_take (i := 3) (oi := { dst := some 20, op := Op.load 24 (Operand.tmp 3), type := 24, pos := "ref.go:41", after := #[], guard := none }) (v := ?_) rfl (by kernel_rfl) (by kernel_rfl) (by kernel_rfl) (fun _ _ _ h => h) (Or.inl ⟨by rfl, ?_⟩) (by assumption) ?_
        rotate_left
        · (intro ws hSw; (try dsimp only at hSw); (try go_simp); (try with_reducible rfl))
        (try simp only [Act.put, List.setIfInBounds_toArray, List.set_cons_zero, List.set_cons_succ])
        refine wpAnyH_take (i := 4) (oi := { dst := some 21, op := Op.move (Operand.tmp 5), type := 3, pos := "ref.go:41", after := #[], guard := none }) (v := ?_) rfl (by kernel_rfl) (by kernel_rfl) (by kernel_rfl) (fun _ _ _ h => h) (Or.inl ⟨by rfl, ?_⟩) (by assumption) ?_
        rotate_left
        · (intro ws hSw; (try dsimp only at hSw); (try go_simp); (try with_reducible rfl))
        (try simp only [Act.put, List.setIfInBounds_toArray, List.set_cons_zero, List.set_cons_succ])
        refine wpAnyH_ready (rs := [2]) (by kernel_rfl) (by simp) ?_
        refine AllReadyH.cons (o := { dst := some 19, op := Op.call { callee := Callee.value (Operand.func 47), args := #[Operand.tmp 17, Operand.tmp 18], argTypes := #[24, 3] }, type := 3, pos := "ref.go:41", after := #[{ on := 0, ground := Ground.data }, { on := 1, ground := Ground.data }], guard := none }) rfl (fun K hK => ?_) AllReadyH.nil
        go_simp
        refine (rword_b A n c a t _ _ _ HXA_2.out.num (by omega) (by omega) rfl EX.out).mono ?_
        rintro e v_3 ⟨rfl, hb⟩
        have HXA_3 := hid (HXA_2.out.below hb)
        have HXB_3 := hid (HXB_2.out.below hb)
        have HW_3 := hid (HW_2.out.trans (hb.mono HW_2.out.size))
        have qA_3 := HXA_3.out.cell
        have qB_3 := HXB_3.out.cell
        clear hb
        refine hK.out _ _ (⟨qA_3, qB_3⟩) (fun hHeld2 => ?_)
        clear hK K hHeld
        have hHeld := hHeld2
        clear hHeld2
        (try simp only [Act.put, List.setIfInBounds_toArray, List.set_cons_zero, List.set_cons_succ])
        refine wpAnyH_ready (rs := [5]) (by kernel_rfl) (by simp) ?_
        refine AllReadyH.cons (o := { dst := some 22, op := Op.call { callee := Callee.value (Operand.func 47), args := #[Operand.tmp 20, Operand.tmp 21], argTypes := #[24, 3] }, type := 3, pos := "ref.go:41", after := #[{ on := 3, ground := Ground.data }, { on := 4, ground := Ground.data }, { on := 2, ground := Ground.chain }], guard := none }) rfl (fun K hK => ?_) AllReadyH.nil
        go_simp
        refine (rword_b B' m d b t _ _ _ HXB_3.out.num (by omega) (by omega) rfl EY.out).mono ?_
        rintro e v_4 ⟨rfl, hb⟩
        have HXA_4 := hid (HXA_3.out.below hb)
        have HXB_4 := hid (HXB_3.out.below hb)
        have HW_4 := hid (HW_3.out.trans (hb.mono HW_3.out.size))
        have qA_4 := HXA_4.out.cell
        have qB_4 := HXB_4.out.cell
        clear hb
        refine hK.out _ _ (⟨qA_4, qB_4⟩) (fun hHeld5 => ?_)
        clear hK K hHeld
        have hHeld := hHeld5
        clear hHeld5
        (try simp only [Act.put, List.setIfInBounds_toArray, List.set_cons_zero, List.set_cons_succ])
        refine wpAnyH_take (i := 6) (oi := { dst := some 23, op := Op.binOp BinOp.gtr 3 (Operand.tmp 19) (Operand.tmp 22) 3, type := 4, pos := "ref.go:41", after := #[{ on := 2, ground := Ground.data }, { on := 5, ground := Ground.data }], guard := none }) (v := ?_) rfl (by kernel_rfl) (by kernel_rfl) (by kernel_rfl) (fun _ _ _ h => h) (Or.inl ⟨by rfl, ?_⟩) (by assumption) ?_
        rotate_left
        · (intro ws hSw; (try dsimp only at hSw); (try go_simp); (try with_reducible rfl))
        (try simp only [Act.put, List.setIfInBounds_toArray, List.set_cons_zero, List.set_cons_succ])
        refine wpAnyH_done (by kernel_rfl) ?_ _
        clear hHeld
        go_wp2_with fail
        go_roundw
        case rel => exact ⟨t, _, by omega, rfl, by go_num, HK.out, HXA_4.out, HXB_4.out, HW_4.out⟩
        case measure => simp [intOf] <;> omega
      · have HF : Hid (1 = ordN a b) := by show _ = _; rw [← ord_dig HI.out (by omega), ordN_gt hd]
        have l1 : decide (X < Y) = false := by simp; omega
        have l2 : decide (Y < X) = true := by simp; omega
        clear hX hY hd
        go_wp2_with fail
        refine wp_region_held_drew (S := (fun w' => w'.cell? ⟨w.heap.size, 0, none⟩ = some (.slice A n c) ∧ w'.cell? ⟨w.heap.size + 1, 0, none⟩ = some (.slice B' m d))) (by kernel_rfl) (⟨kA, kB⟩) (fun hHeld => ?_)
        refine wpAnyH_take (i := 0) (oi := { dst := some 10, op := Op.load 24 (Operand.tmp 2), type := 24, pos := "ref.go:38", after := #[], guard := none }) (v := ?_) rfl (by kernel_rfl) (by kernel_rfl) (by kernel_rfl) (fun _ _ _ h => h) (Or.inl ⟨by rfl, ?_⟩) (by assumption) ?_
        rotate_left
        · (intro ws hSw; (try dsimp only at hSw); (try go_simp); (try with_reducible rfl))
        (try simp only [Act.put, List.setIfInBounds_toArray, List.set_cons_zero, List.set_cons_succ])
        refine wpAnyH_take (i := 1) (oi := { dst := some 11, op := Op.move (Operand.tmp 5), type := 3, pos := "ref.go:38", after := #[], guard := none }) (v := ?_) rfl (by kernel_rfl) (by kernel_rfl) (by kernel_rfl) (fun _ _ _ h => h) (Or.inl ⟨by rfl, ?_⟩) (by assumption) ?_
        rotate_left
        · (intro ws hSw; (try dsimp only at hSw); (try go_simp); (try with_reducible rfl))
        (try simp only [Act.put, List.setIfInBounds_toArray, List.set_cons_zero, List.set_cons_succ])
        refine wpAnyH_take (i := 3) (oi := { dst := some 13, op := Op.load 24 (Operand.tmp 3), type := 24, pos := "ref.go:38", after := #[], guard := none }) (v := ?_) rfl (by kernel_rfl) (by kernel_rfl) (by kernel_rfl) (fun _ _ _ h => h) (Or.inl ⟨by rfl, ?_⟩) (by assumption) ?_
        rotate_left
        · (intro ws hSw; (try dsimp only at hSw); (try go_simp); (try with_reducible rfl))
        (try simp only [Act.put, List.setIfInBounds_toArray, List.set_cons_zero, List.set_cons_succ])
        refine wpAnyH_take (i := 4) (oi := { dst := some 14, op := Op.move (Operand.tmp 5), type := 3, pos := "ref.go:38", after := #[], guard := none }) (v := ?_) rfl (by kernel_rfl) (by kernel_rfl) (by kernel_rfl) (fun _ _ _ h => h) (Or.inl ⟨by rfl, ?_⟩) (by assumption) ?_
        rotate_left
        · (intro ws hSw; (try dsimp only at hSw); (try go_simp); (try with_reducible rfl))
        (try simp only [Act.put, List.setIfInBounds_toArray, List.set_cons_zero, List.set_cons_succ])
        refine wpAnyH_ready (rs := [2]) (by kernel_rfl) (by simp) ?_
        refine AllReadyH.cons (o := { dst := some 12, op := Op.call { callee := Callee.value (Operand.func 47), args := #[Operand.tmp 10, Operand.tmp 11], argTypes := #[24, 3] }, type := 3, pos := "ref.go:38", after := #[{ on := 0, ground := Ground.data }, { on := 1, ground := Ground.data }], guard := none }) rfl (fun K hK => ?_) AllReadyH.nil
        go_simp
        refine (rword_b A n c a t _ _ _ HXA_0.out.num (by omega) (by omega) rfl EX.out).mono ?_
        rintro e v_1 ⟨rfl, hb⟩
        have HXA_1 := hid (HXA_0.out.below hb)
        have HXB_1 := hid (HXB_0.out.below hb)
        have HW_1 := hid (HW_0.out.trans (hb.mono HW_0.out.size))
        have qA_1 := HXA_1.out.cell
        have qB_1 := HXB_1.out.cell
        clear hb
        refine hK.out _ _ (⟨qA_1, qB_1⟩) (fun hHeld2 => ?_)
        clear hK K hHeld
        have hHeld := hHeld2
        clear hHeld2
        (try simp only [Act.put, List.setIfInBounds_toArray, List.set_cons_zero, List.set_cons_succ])
        refine wpAnyH_ready (rs := [5]) (by kernel_rfl) (by simp) ?_
        refine AllReadyH.cons (o := { dst := some 15, op := Op.call { callee := Callee.value (Operand.func 47), args := #[Operand.tmp 13, Operand.tmp 14], argTypes := #[24, 3] }, type := 3, pos := "ref.go:38", after := #[{ on := 3, ground := Ground.data }, { on := 4, ground := Ground.data }, { on := 2, ground := Ground.chain }], guard := none }) rfl (fun K hK => ?_) AllReadyH.nil
        go_simp
        refine (rword_b B' m d b t _ _ _ HXB_1.out.num (by omega) (by omega) rfl EY.out).mono ?_
        rintro e v_2 ⟨rfl, hb⟩
        have HXA_2 := hid (HXA_1.out.below hb)
        have HXB_2 := hid (HXB_1.out.below hb)
        have HW_2 := hid (HW_1.out.trans (hb.mono HW_1.out.size))
        have qA_2 := HXA_2.out.cell
        have qB_2 := HXB_2.out.cell
        clear hb
        refine hK.out _ _ (⟨qA_2, qB_2⟩) (fun hHeld5 => ?_)
        clear hK K hHeld
        have hHeld := hHeld5
        clear hHeld5
        (try simp only [Act.put, List.setIfInBounds_toArray, List.set_cons_zero, List.set_cons_succ])
        refine wpAnyH_take (i := 6) (oi := { dst := some 16, op := Op.binOp BinOp.lss 3 (Operand.tmp 12) (Operand.tmp 15) 3, type := 4, pos := "ref.go:38", after := #[{ on := 2, ground := Ground.data }, { on := 5, ground := Ground.data }], guard := none }) (v := ?_) rfl (by kernel_rfl) (by kernel_rfl) (by kernel_rfl) (fun _ _ _ h => h) (Or.inl ⟨by rfl, ?_⟩) (by assumption) ?_
        rotate_left
        · (intro ws hSw; (try dsimp only at hSw); (try go_simp); (try with_reducible rfl))
        (try simp only [Act.put, List.setIfInBounds_toArray, List.set_cons_zero, List.set_cons_succ])
        refine wpAnyH_done (by kernel_rfl) ?_ _
        clear hHeld
        go_wp2_with fail
        have HXA_2' := hid HXA_2.out.drew
        have HXB_2' := hid HXB_2.out.drew
        have HW_2' := hid HW_2.out.drew
        clear HXA_2 HXB_2 HW_2
        have HXA_2 := HXA_2'
        have HXB_2 := HXB_2'
        have HW_2 := HW_2'
        clear HXA_2' HXB_2' HW_2'
        refine wp_region_held_drew (S := (fun w' => w'.cell? ⟨w.heap.size, 0, none⟩ = some (.slice A n c) ∧ w'.cell? ⟨w.heap.size + 1, 0, none⟩ = some (.slice B' m d))) (by kernel_rfl) (⟨qA_2, qB_2⟩) (fun hHeld => ?_)
        refine wpAnyH_take (i := 0) (oi := { dst := some 17, op := Op.load 24 (Operand.tmp 2), type := 24, pos := "ref.go:41", after := #[], guard := none }) (v := ?_) rfl (by kernel_rfl) (by kernel_rfl) (by kernel_rfl) (fun _ _ _ h => h) (Or.inl ⟨by rfl, ?_⟩) (by assumption) ?_
        rotate_left
        · (intro ws hSw; (try dsimp only at hSw); (try go_simp); (try with_reducible rfl))
        (try simp only [Act.put, List.setIfInBounds_toArray, List.set_cons_zero, List.set_cons_succ])
        refine wpAnyH_take (i := 1) (oi := { dst := some 18, op := Op.move (Operand.tmp 5), type := 3, pos := "ref.go:41", after := #[], guard := none }) (v := ?_) rfl (by kernel_rfl) (by kernel_rfl) (by kernel_rfl) (fun _ _ _ h => h) (Or.inl ⟨by rfl, ?_⟩) (by assumption) ?_
        rotate_left
        · (intro ws hSw; (try dsimp only at hSw); (try go_simp); (try with_reducible rfl))
        (try simp only [Act.put, List.setIfInBounds_toArray, List.set_cons_zero, List.set_cons_succ])
        refine wpAnyH_take (i := 3) (oi := { dst := some 20, op := Op.load 24 (Operand.tmp 3), type := 24, pos := "ref.go:41", after := #[], guard := none }) (v := ?_) rfl (by kernel_rfl) (by kernel_rfl) (by kernel_rfl) (fun _ _ _ h => h) (Or.inl ⟨by rfl, ?_⟩) (by assumption) ?_
        rotate_left
        · (intro ws hSw; (try dsimp only at hSw); (try go_simp); (try with_reducible rfl))
        (try simp only [Act.put, List.setIfInBounds_toArray, List.set_cons_zero, List.set_cons_succ])
        refine wpAnyH_take (i := 4) (oi := { dst := some 21, op := Op.move (Operand.tmp 5), type := 3, pos := "ref.go:41", after := #[], guard := none }) (v := ?_) rfl (by kernel_rfl) (by kernel_rfl) (by kernel_rfl) (fun _ _ _ h => h) (Or.inl ⟨by rfl, ?_⟩) (by assumption) ?_
        rotate_left
        · (intro ws hSw; (try dsimp only at hSw); (try go_simp); (try with_reducible rfl))
        (try simp only [Act.put, List.setIfInBounds_toArray, List.set_cons_zero, List.set_cons_succ])
        refine wpAnyH_ready (rs := [2]) (by kernel_rfl) (by simp) ?_
        refine AllReadyH.cons (o := { dst := some 19, op := Op.call { callee := Callee.value (Operand.func 47), args := #[Operand.tmp 17, Operand.tmp 18], argTypes := #[24, 3] }, type := 3, pos := "ref.go:41", after := #[{ on := 0, ground := Ground.data }, { on := 1, ground := Ground.data }], guard := none }) rfl (fun K hK => ?_) AllReadyH.nil
        go_simp
        refine (rword_b A n c a t _ _ _ HXA_2.out.num (by omega) (by omega) rfl EX.out).mono ?_
        rintro e v_3 ⟨rfl, hb⟩
        have HXA_3 := hid (HXA_2.out.below hb)
        have HXB_3 := hid (HXB_2.out.below hb)
        have HW_3 := hid (HW_2.out.trans (hb.mono HW_2.out.size))
        have qA_3 := HXA_3.out.cell
        have qB_3 := HXB_3.out.cell
        clear hb
        refine hK.out _ _ (⟨qA_3, qB_3⟩) (fun hHeld2 => ?_)
        clear hK K hHeld
        have hHeld := hHeld2
        clear hHeld2
        (try simp only [Act.put, List.setIfInBounds_toArray, List.set_cons_zero, List.set_cons_succ])
        refine wpAnyH_ready (rs := [5]) (by kernel_rfl) (by simp) ?_
        refine AllReadyH.cons (o := { dst := some 22, op := Op.call { callee := Callee.value (Operand.func 47), args := #[Operand.tmp 20, Operand.tmp 21], argTypes := #[24, 3] }, type := 3, pos := "ref.go:41", after := #[{ on := 3, ground := Ground.data }, { on := 4, ground := Ground.data }, { on := 2, ground := Ground.chain }], guard := none }) rfl (fun K hK => ?_) AllReadyH.nil
        go_simp
        refine (rword_b B' m d b t _ _ _ HXB_3.out.num (by omega) (by omega) rfl EY.out).mono ?_
        rintro e v_4 ⟨rfl, hb⟩
        have HXA_4 := hid (HXA_3.out.below hb)
        have HXB_4 := hid (HXB_3.out.below hb)
        have HW_4 := hid (HW_3.out.trans (hb.mono HW_3.out.size))
        have qA_4 := HXA_4.out.cell
        have qB_4 := HXB_4.out.cell
        clear hb
        refine hK.out _ _ (⟨qA_4, qB_4⟩) (fun hHeld5 => ?_)
        clear hK K hHeld
        have hHeld := hHeld5
        clear hHeld5
        (try simp only [Act.put, List.setIfInBounds_toArray, List.set_cons_zero, List.set_cons_succ])
        refine wpAnyH_take (i := 6) (oi := { dst := some 23, op := Op.binOp BinOp.gtr 3 (Operand.tmp 19) (Operand.tmp 22) 3, type := 4, pos := "ref.go:41", after := #[{ on := 2, ground := Ground.data }, { on := 5, ground := Ground.data }], guard := none }) (v := ?_) rfl (by kernel_rfl) (by kernel_rfl) (by kernel_rfl) (fun _ _ _ h => h) (Or.inl ⟨by rfl, ?_⟩) (by assumption) ?_
        rotate_left
        · (intro ws hSw; (try dsimp only at hSw); (try go_simp); (try with_reducible rfl))
        (try simp only [Act.put, List.setIfInBounds_toArray, List.set_cons_zero, List.set_cons_succ])
        refine wpAnyH_done (by kernel_rfl) ?_ _
        clear hHeld
        go_wp2_with fail
        go_ret
        exact ⟨ret_int HF.out, HW_4.out⟩

theorem rsized_any (A : Option Addr) (c a base : Nat) (w : World) (hO : Own w base A (nw a) c a) (hb : base ≤ w.heap.size) (hn : nw a ≤ 1000000) :
    Calls Try.prog 52 #[.agg #[.slice A (nw a) c]] w (RetTwo base (limS a).1 (limS a).2 w) := by
  obtain ⟨b0, b1, bw⟩ := boxes2 w (.slice A (nw a) c) (.slice none 0 0)
  by_cases h : nw a ≤ 64
  · rw [limS_ok h]
    have h1 : decide (64 < ((nw a : Nat) : Int)) = false := by simp; omega
    clear h
    go_enter Try.func52, Try.ntmps52
    go_wp2_with fail
    obtain ⟨_, _, bw2⟩ := boxes2 w (.slice A (nw a) c) (.slice A (nw a) c)
    have ho2 := hO.below bw2 (Nat.le_refl _)
    exact bodyPost_ret (v := .tuple #[.agg #[.slice A (nw a) c], .int .i64 0]) (by simp [results, Try.results52, go_sem]) rfl ⟨_, rfl, ⟨A, c, rfl, ho2⟩, bw2⟩
  · rw [limS_big h]
    have h1 : decide (64 < ((nw a : Nat) : Int)) = true := by simp; omega
    clear h
    go_enter Try.func52, Try.ntmps52
    go_wp2_with fail
    exact bodyPost_ret (v := .tuple #[.agg #[.slice none 0 0], .int .i64 9]) (by simp [results, Try.results52, go_sem]) rfl ⟨_, rfl, NatV.nil _ _, bw⟩

end Go.Proofs.Ytlhfaaghfhiaoaa
