/- natmod: Gcd. -/
import Derived.Test.YtckajjapockonaaRf12
set_option linter.unusedVariables false
set_option linter.unusedSimpArgs false
namespace Go.Proofs.Ytckajjapockonaa
open Go.RowKit

def oq25_4_0 : Oper := { dst := some 18, op := Op.load 24 (Operand.tmp 3), type := 24, pos := "natmod.go:54", after := #[], guard := none }
def oq25_4_1 : Oper := { dst := some 19, op := Op.load 24 (Operand.tmp 2), type := 24, pos := "natmod.go:54", after := #[], guard := none }
def oq25_4_2 : Oper := { dst := some 20, op := Op.load 24 (Operand.tmp 3), type := 24, pos := "natmod.go:54", after := #[], guard := none }
def oq25_4_3 : Oper := { dst := some 21, op := Op.call { callee := Callee.value (Operand.func 58), args := #[Operand.tmp 19, Operand.tmp 20], argTypes := #[24, 24] }, type := 24, pos := "natmod.go:54", after := #[{ on := 1, ground := Ground.data }, { on := 2, ground := Ground.data }], guard := none }
def oq25_4_4 : Oper := { dst := none, op := Op.store 24 (Operand.tmp 2) (Operand.tmp 18), type := 0, pos := "natmod.go:54", after := #[{ on := 0, ground := Ground.data }, { on := 3, ground := Ground.chain }, { on := 0, ground := Ground.phase }, { on := 1, ground := Ground.phase }, { on := 2, ground := Ground.textOnly Departure.lateStores }, { on := 3, ground := Ground.textOnly Departure.lateStoresUnsure }], guard := none }
def oq25_4_5 : Oper := { dst := none, op := Op.store 24 (Operand.tmp 3) (Operand.tmp 21), type := 0, pos := "natmod.go:54", after := #[{ on := 3, ground := Ground.data }, { on := 4, ground := Ground.chain }, { on := 0, ground := Ground.phase }, { on := 1, ground := Ground.phase }, { on := 2, ground := Ground.phase }, { on := 3, ground := Ground.phase }, { on := 4, ground := Ground.phase }], guard := none }
/-- What Gcd returns. -/
def gcdV (n a k b : Nat) : Nat × Int := if okB n a && okB k b then (Nat.gcd a b, 0) else (0, 1)
theorem clone_n (A : Option Addr) (n c a B : Nat) (w : World) (hA : Num w B A n a) (hB : B ≤ w.heap.size) (hn : n ≤ 1000000) :
    Calls Try.prog 65 #[.slice A n c] w (fun e w' => ∃ D d, e = .returned (.slice D n d) ∧ Own w' w.heap.size D n d a ∧ Below w.heap.size w w') := by
  cases A with
  | none =>
    have h0 : n = 0 := by
      rcases Nat.eq_zero_or_pos n with h | h
      · exact h
      · obtain ⟨ad, e, _⟩ := hA.2 h; cases e
    subst h0
    have ha : a = 0 := by have := hA.lt; simp at this; exact this
    subst ha
    clear hA
    have hq := fun w => Lib.run_eql_slice_nil (P := Try.prog) w 22 50 none 0 c 0 0 Try.underlying22
    go_enter Try.func65, Try.ntmps65
    go_wp2_with fail
    go_ret
    exact ⟨_, _, rfl, Own.nil _ _ _ _ (Nat.zero_le _), Below.refl _ _⟩
  | some ad =>
    obtain ⟨i0, hi0, hz0, hz1, hz2⟩ := info_parts info50
    have HA := hid (hA.alloc hB (.cells #[] 50))
    have HO := hid (OwnsV.empty w w.heap.size (Nat.le_refl _))
    clear hA
    have hq := fun w => Lib.run_eql_slice_nil (P := Try.prog) w 22 50 (some ad) n c 0 0 Try.underlying22
    go_enter Try.func65, Try.ntmps65
    go_wp2_with (at_builtin; refine wpList_append_own _ rfl _ _ 22 rfl w.heap.size 50 i0 (.int .u32 0) 1 4 Try.underlying22 hi0 hz0 hz1 hz2 rfl (by decide) (.slice (some ⟨w.heap.size, 0, none⟩) 0 0) 0 (words 0 0).toList rfl HO.out.2 ad n _ (words n a).toList rfl (words_len n a) HA.out.news (words_oneCell n a) (by unfold maxLen; omega) (by omega) (by simp) ?_; intro v1 w1 hown1 hg1 _)
    go_ret
    have h1 : OwnsV w1 w.heap.size v1 (0 + n) (a * 2 ^ (32 * 0) + 0) := OwnsV.app (k := 0) (s := 0) (by simp) HA.out.lt hown1
    rw [Nat.zero_add, Nat.add_zero, show 2 ^ (32 * 0) = 1 from rfl, Nat.mul_one] at h1
    obtain ⟨A', c', rfl, ho⟩ := h1.own
    exact ⟨_, _, rfl, ho, ((Below.refl _ _).alloc (Nat.le_refl _) _).grown hg1 (by simp) (fun k hk => Nat.le_of_eq (by simpa [Value.ownBlock] using hk))⟩


set_option maxHeartbeats 8000000 in
theorem ngcd_a (A B' : Option Addr) (n k c d a b : Nat) (w : World) (hA : Num w w.heap.size A n a) (hB : Num w w.heap.size B' k b) (hn : n ≤ 9223372036854775807) (hk : k ≤ 9223372036854775807) (h1 : okB n a = false) :
    Calls Try.prog 25 #[.agg #[.slice A n c], .agg #[.slice B' k d]] w (RetTwo w.heap.size (gcdV n a k b).1 (gcdV n a k b).2 w) := by
  have G1 := hid h1
  have HV : gcdV n a k b = (0, 1) := by unfold gcdV; rw [h1]; rfl
  rw [HV]
  clear HV h1
  obtain ⟨b0, b1, b2, bw⟩ := boxes3 w (.slice A n c) (.slice B' k d) (.slice none 0 0)
  have XA := VB.mk (B := w.heap.size) (a := a) b0 (.inl hA) bw (Nat.le_refl _) (by omega)
  have XB := VB.mk (B := w.heap.size) (a := b) b1 (.inl hB) bw (Nat.le_refl _) (by omega)
  have XR := VB.mk (B := w.heap.size) (a := 0) b2 (.inr (Own.nil _ _ _ _ (Nat.zero_le _))) bw (Nat.le_refl _) (by omega)
  have WW := bw
  clear bw b0 b1 b2
  go_enter Try.func25, Try.ntmps25
  go_wp2_with fail
  generalize hV : (((w.alloc (.cells #[.slice A n c] 24)).alloc (.cells #[.slice B' k d] 24)).alloc (.cells #[.slice none 0 0] 24)) = V0 at XA XB XR WW ⊢
  clear hV
  have hbs : w.heap.size ≤ V0.heap.size := WW.size
  have hc := valid_any A _ c a _ V0 XA.num (Nat.le_refl _) hn
  rw [G1.out] at hc
  refine hc.mono ?_
  clear hc
  rintro e V1 ⟨rfl, hb⟩
  replace XA := XA.below hb
  replace XB := XB.below hb
  replace XR := XR.below hb
  replace WW := WW.trans (hb.mono WW.size)
  have fXR := XR.1.frozen 0
  have kXA := XA.cell
  have zXA := XA.lt
  have kXB := XB.cell
  have zXB := XB.lt
  have kXR := XR.cell
  have zXR := XR.lt
  clear hb hbs
  go_wp2_with fail
  exact bodyPost_ret (v := .tuple #[.agg #[.slice none 0 0], .int .i64 1]) (by simp [results, Try.results25, go_sem, kXR, zXR]) rfl ⟨_, rfl, NatV.nil _ _, WW.setCell (by simp <;> omega) _⟩

set_option maxHeartbeats 8000000 in
theorem ngcd_b (A B' : Option Addr) (n k c d a b : Nat) (w : World) (hA : Num w w.heap.size A n a) (hB : Num w w.heap.size B' k b) (hn : n ≤ 9223372036854775807) (hk : k ≤ 9223372036854775807) (h1 : okB n a = true) (h2 : okB k b = false) :
    Calls Try.prog 25 #[.agg #[.slice A n c], .agg #[.slice B' k d]] w (RetTwo w.heap.size (gcdV n a k b).1 (gcdV n a k b).2 w) := by
  have G1 := hid h1
  have HV : gcdV n a k b = (0, 1) := by unfold gcdV; rw [h1, h2]; rfl
  rw [HV]
  have G2 := hid h2
  clear HV h1 h2
  obtain ⟨b0, b1, b2, bw⟩ := boxes3 w (.slice A n c) (.slice B' k d) (.slice none 0 0)
  have XA := VB.mk (B := w.heap.size) (a := a) b0 (.inl hA) bw (Nat.le_refl _) (by omega)
  have XB := VB.mk (B := w.heap.size) (a := b) b1 (.inl hB) bw (Nat.le_refl _) (by omega)
  have XR := VB.mk (B := w.heap.size) (a := 0) b2 (.inr (Own.nil _ _ _ _ (Nat.zero_le _))) bw (Nat.le_refl _) (by omega)
  have WW := bw
  clear bw b0 b1 b2
  go_enter Try.func25, Try.ntmps25
  go_wp2_with fail
  generalize hV : (((w.alloc (.cells #[.slice A n c] 24)).alloc (.cells #[.slice B' k d] 24)).alloc (.cells #[.slice none 0 0] 24)) = V0 at XA XB XR WW ⊢
  clear hV
  have hbs : w.heap.size ≤ V0.heap.size := WW.size
  have hc := valid_any A _ c a _ V0 XA.num (Nat.le_refl _) hn
  rw [G1.out] at hc
  refine hc.mono ?_
  clear hc
  rintro e V1 ⟨rfl, hb⟩
  replace XA := XA.below hb
  replace XB := XB.below hb
  replace XR := XR.below hb
  replace WW := WW.trans (hb.mono WW.size)
  have kXA := XA.cell
  have zXA := XA.lt
  have kXB := XB.cell
  have zXB := XB.lt
  have kXR := XR.cell
  have zXR := XR.lt
  clear hb hbs
  go_wp2_with fail
  have hbs : w.heap.size ≤ V1.heap.size := WW.size
  have hc := valid_any B' _ d b _ V1 XB.num (Nat.le_refl _) hk
  rw [G2.out] at hc
  refine hc.mono ?_
  clear hc
  rintro e V2 ⟨rfl, hb⟩
  clear kXA zXA kXB zXB kXR zXR
  replace XA := XA.below hb
  replace XB := XB.below hb
  replace XR := XR.below hb
  replace WW := WW.trans (hb.mono WW.size)
  have fXR := XR.1.frozen 0
  have kXA := XA.cell
  have zXA := XA.lt
  have kXB := XB.cell
  have zXB := XB.lt
  have kXR := XR.cell
  have zXR := XR.lt
  clear hb hbs
  go_wp2_with fail
  exact bodyPost_ret (v := .tuple #[.agg #[.slice none 0 0], .int .i64 1]) (by simp [results, Try.results25, go_sem, kXR, zXR]) rfl ⟨_, rfl, NatV.nil _ _, WW.setCell (by simp <;> omega) _⟩

set_option maxHeartbeats 8000000 in
theorem ngcd_ok (A B' : Option Addr) (n k c d a b : Nat) (w : World) (hA : Num w w.heap.size A n a) (hB : Num w w.heap.size B' k b) (hn : n ≤ 9223372036854775807) (hk : k ≤ 9223372036854775807) (h1 : okB n a = true) (h2 : okB k b = true) :
    Calls Try.prog 25 #[.agg #[.slice A n c], .agg #[.slice B' k d]] w (RetTwo w.heap.size (gcdV n a k b).1 (gcdV n a k b).2 w) := by
  have G1 := hid h1
  have HV : gcdV n a k b = (Nat.gcd a b, 0) := by unfold gcdV; rw [h1, h2]; rfl
  rw [HV]
  have G2 := hid h2
  obtain ⟨hna, ha⟩ := okB_yes.1 h1
  obtain ⟨hkb, hb⟩ := okB_yes.1 h2
  subst hna hkb
  clear HV h1 h2
  obtain ⟨b0, b1, b2, bw⟩ := boxes3 w (.slice A (nw a) c) (.slice B' (nw b) d) (.slice none 0 0)
  have XA := VB.mk (B := w.heap.size) (a := a) b0 (.inl hA) bw (Nat.le_refl _) (by omega)
  have XB := VB.mk (B := w.heap.size) (a := b) b1 (.inl hB) bw (Nat.le_refl _) (by omega)
  have XR := VB.mk (B := w.heap.size) (a := 0) b2 (.inr (Own.nil _ _ _ _ (Nat.zero_le _))) bw (Nat.le_refl _) (by omega)
  have WW := bw
  clear bw b0 b1 b2
  go_enter Try.func25, Try.ntmps25
  go_wp2_with fail
  generalize hV : (((w.alloc (.cells #[.slice A (nw a) c] 24)).alloc (.cells #[.slice B' (nw b) d] 24)).alloc (.cells #[.slice none 0 0] 24)) = V0 at XA XB XR WW ⊢
  clear hV
  have hbs : w.heap.size ≤ V0.heap.size := WW.size
  have hc := valid_any A _ c a _ V0 XA.num (Nat.le_refl _) hn
  rw [G1.out] at hc
  refine hc.mono ?_
  clear hc
  rintro e V1 ⟨rfl, hb⟩
  replace XA := XA.below hb
  replace XB := XB.below hb
  replace XR := XR.below hb
  replace WW := WW.trans (hb.mono WW.size)
  have kXA := XA.cell
  have zXA := XA.lt
  have kXB := XB.cell
  have zXB := XB.lt
  have kXR := XR.cell
  have zXR := XR.lt
  clear hb hbs
  go_wp2_with fail
  have hbs : w.heap.size ≤ V1.heap.size := WW.size
  have hc := valid_any B' _ d b _ V1 XB.num (Nat.le_refl _) hk
  rw [G2.out] at hc
  refine hc.mono ?_
  clear hc
  rintro e V2 ⟨rfl, hb⟩
  clear kXA zXA kXB zXB kXR zXR
  replace XA := XA.below hb
  replace XB := XB.below hb
  replace XR := XR.below hb
  replace WW := WW.trans (hb.mono WW.size)
  have kXA := XA.cell
  have zXA := XA.lt
  have kXB := XB.cell
  have zXB := XB.lt
  have kXR := XR.cell
  have zXR := XR.lt
  clear hb hbs
  go_wp2_with fail
  go_loopw [] (fun  wr => ∃ (x y : Nat) (X Y : Option Addr) (xc yc : Nat), nw x ≤ 64 ∧ nw y ≤ 64 ∧ Hid (Nat.gcd x y = Nat.gcd a b) ∧ Below w.heap.size w wr ∧ VB w.heap.size wr (w.heap.size) X (nw x) xc x ∧ VB w.heap.size wr (w.heap.size + 1) Y (nw y) yc y ∧ VB w.heap.size wr (w.heap.size + 1 + 1) none 0 0 0) (fun  wr => numAt wr (w.heap.size + 1))
  case atStart => exact ⟨a, b, A, B', c, d, ha, hb, rfl, WW, XA, XB, XR⟩
  case round =>
    clear WW kXA zXA kXB zXB kXR zXR XA XB XR
    obtain ⟨x, y, X, Y, xc, yc, hx, hy, HG, WW, XA, XB, XR⟩ := hrel
    have kXA := XA.cell
    have zXA := XA.lt
    have kXB := XB.cell
    have zXB := XB.lt
    have kXR := XR.cell
    have zXR := XR.lt
    by_cases h0 : y = 0
    · have HF : Hid (Nat.gcd a b = x) := (show Nat.gcd a b = x by rw [← HG.out, h0, Nat.gcd_zero_right])
      have G3 : Hid (decide (y = 0) = true) := decide_eq_true h0
      clear HG h0
      go_wp2_with fail
      have hbs : w.heap.size ≤ wr.heap.size := WW.size
      have hc := zero_any Y yc y wr XB.num hy
      rw [G3.out] at hc
      refine hc.mono ?_
      clear hc
      rintro e V3 ⟨rfl, hb⟩
      clear kXA zXA kXB zXB kXR zXR
      replace XA := XA.below hb
      replace XB := XB.below hb
      replace XR := XR.below hb
      replace WW := WW.trans (hb.mono WW.size)
      have kXA := XA.cell
      have zXA := XA.lt
      have kXB := XB.cell
      have zXB := XB.lt
      have kXR := XR.cell
      have zXR := XR.lt
      clear hb hbs
      go_wp2_with fail
      have hbs : w.heap.size ≤ V3.heap.size := WW.size
      have hc := clone_n X (nw x) xc x _ V3 XA.num (Nat.le_refl _) (by omega)
      refine hc.mono ?_
      clear hc
      rintro e V4 ⟨E, ec, rfl, ho, hb⟩
      clear kXA zXA kXB zXB kXR zXR
      replace XA := XA.below hb
      replace XB := XB.below hb
      replace XR := XR.below hb
      replace WW := WW.trans (hb.mono WW.size)
      have fXR := XR.1.frozen 0
      have O1 := ho.weak (b := w.heap.size) hbs
      clear ho
      have kXA := XA.cell
      have zXA := XA.lt
      have kXB := XB.cell
      have zXB := XB.lt
      have kXR := XR.cell
      have zXR := XR.lt
      clear hb hbs
      go_wp2_with fail
      have ho2 := O1.box (p := ⟨w.heap.size + 1 + 1, 0, none⟩) XR.1 (by decide) (.slice E (nw x) ec)
      exact bodyPost_ret (v := .tuple #[.agg #[.slice E (nw x) ec], .int .i64 0]) (by simp [results, Try.results25, go_sem, kXR, zXR]) rfl ⟨_, rfl, by rw [HF.out]; exact ⟨E, ec, rfl, ho2⟩, WW.setCell (by simp <;> omega) _⟩
    · obtain ⟨t, ht⟩ : ∃ t, t = x % y := ⟨_, rfl⟩
      have HT := hid ht
      have HTY : Hid (t < y) := (show t < y by rw [ht]; exact Nat.mod_lt _ (by omega))
      have HG2 : Hid (Nat.gcd y t = Nat.gcd a b) := (show Nat.gcd y t = _ by rw [ht, gcd_step]; exact HG.out)
      have nt : nw t ≤ 64 := Nat.le_trans (nw_mono (Nat.le_of_lt HTY.out)) hy
      have HY0 := hid h0
      have G3 : Hid (decide (y = 0) = false) := decide_eq_false h0
      have HN0 : Hid (numAt wr (w.heap.size + 1) = y) := numAt_eq kXB XB.num
      clear ht h0
      go_wp2_with fail
      have hbs : w.heap.size ≤ wr.heap.size := WW.size
      have hc := zero_any Y yc y wr XB.num hy
      rw [G3.out] at hc
      refine hc.mono ?_
      clear hc
      rintro e V3 ⟨rfl, hb⟩
      clear kXA zXA kXB zXB kXR zXR
      replace XA := XA.below hb
      replace XB := XB.below hb
      replace XR := XR.below hb
      replace WW := WW.trans (hb.mono WW.size)
      have kXA := XA.cell
      have zXA := XA.lt
      have kXB := XB.cell
      have zXB := XB.lt
      have kXR := XR.cell
      have zXR := XR.lt
      clear hb hbs
      go_wp2_with fail
      have WWd := WW.drew
      have XAd := XA.drew
      have XBd := XB.drew
      have XRd := XR.drew
      have hst : (fun w' => w'.cell? ⟨w.heap.size, 0, none⟩ = some (.slice X (nw x) xc) ∧ w'.cell? ⟨w.heap.size + 1, 0, none⟩ = some (.slice Y (nw y) yc)) V3.drew := ⟨XA.cell, XB.cell⟩
      clear WW kXA zXA kXB zXB kXR zXR XA XB XR
      have qq0 := XRd.lt
      refine region_L 4 (fun w' => w'.cell? ⟨w.heap.size, 0, none⟩ = some (.slice X (nw x) xc) ∧ w'.cell? ⟨w.heap.size + 1, 0, none⟩ = some (.slice Y (nw y) yc)) (by kernel_rfl) hst (fun hHeld => ?_)
      clear hst
      refine AnyL_name (fun W' => Below w.heap.size w W' ∧ VB w.heap.size W' (w.heap.size) X (nw x) xc x ∧ VB w.heap.size W' (w.heap.size + 1) Y (nw y) yc y ∧ VB w.heap.size W' (w.heap.size + 1 + 1) none 0 0 0 ∧ V3.drew.heap.size ≤ W'.heap.size ∧ (fun w' => w'.cell? ⟨w.heap.size, 0, none⟩ = some (.slice X (nw x) xc) ∧ w'.cell? ⟨w.heap.size + 1, 0, none⟩ = some (.slice Y (nw y) yc)) W') ⟨WWd, XAd, XBd, XRd, Nat.le_refl _, hHeld⟩ ?_
      clear hHeld WWd XAd XBd XRd
      rintro U3x0 ⟨WW, XA, XB, XR, sz0, hHeld⟩
      refine AnyL_take (i := 0) (oi := oq25_4_0) (v := ?_) rfl (by kernel_rfl) (by kernel_rfl) (by kernel_rfl) (by kernel_rfl) (fun _ _ _ h => h) (Or.inl ⟨by rfl, ?_⟩) (by assumption) ?_
      rotate_left
      · (delta oq25_4_0; intro ws hSw; (try dsimp only at hSw); (try go_simp); (try with_reducible rfl))
      (try simp only [oq25_4_0, Act.put, List.setIfInBounds_toArray, List.set_cons_zero, List.set_cons_succ])
      refine AnyL_take (i := 1) (oi := oq25_4_1) (v := ?_) rfl (by kernel_rfl) (by kernel_rfl) (by kernel_rfl) (by kernel_rfl) (fun _ _ _ h => h) (Or.inl ⟨by rfl, ?_⟩) (by assumption) ?_
      rotate_left
      · (delta oq25_4_1; intro ws hSw; (try dsimp only at hSw); (try go_simp); (try with_reducible rfl))
      (try simp only [oq25_4_1, Act.put, List.setIfInBounds_toArray, List.set_cons_zero, List.set_cons_succ])
      refine AnyL_take (i := 2) (oi := oq25_4_2) (v := ?_) rfl (by kernel_rfl) (by kernel_rfl) (by kernel_rfl) (by kernel_rfl) (fun _ _ _ h => h) (Or.inl ⟨by rfl, ?_⟩) (by assumption) ?_
      rotate_left
      · (delta oq25_4_2; intro ws hSw; (try dsimp only at hSw); (try go_simp); (try with_reducible rfl))
      (try simp only [oq25_4_2, Act.put, List.setIfInBounds_toArray, List.set_cons_zero, List.set_cons_succ])
      refine AnyL_ready (rs := [3]) (by kernel_rfl) (by simp) ?_
      refine ReadyL.cons (o := oq25_4_3) rfl (fun K hK => ?_) ReadyL.nil
      delta oq25_4_3
      go_simp
      have hbs : w.heap.size ≤ U3x0.heap.size := WW.size
      have hc := remainder_any X Y xc yc x y U3x0 XA.num XB.num (by omega) (by omega) HY0.out
      rw [← HT.out] at hc
      refine hc.mono ?_
      clear hc
      rintro e V5 ⟨v, rfl, hv, hb⟩
      replace XA := XA.below hb
      replace XB := XB.below hb
      replace XR := XR.below hb
      replace WW := WW.trans (hb.mono WW.size)
      have sz5 := hb.size
      obtain ⟨D1, d1, rfl, ho⟩ := hv
      have O1 := ho.weak (b := w.heap.size) hbs
      clear ho
      clear hb hbs
      refine hK.out _ _ (⟨XA.cell, XB.cell⟩) (fun hHeld2 => ?_)
      clear hK K hHeld
      have hHeld := hHeld2
      clear hHeld2
      (try simp only [oq25_4_3, Act.put, List.setIfInBounds_toArray, List.set_cons_zero, List.set_cons_succ])
      refine AnyL_ready (rs := [4]) (by kernel_rfl) (by simp) ?_
      refine ReadyL.late (o := oq25_4_4) rfl (by rfl) (fun K hK => ?_) ReadyL.nil
      delta oq25_4_4
      have fz := XA.1.frozen 0
      have cz := XA.cell
      have lz := XA.lt
      go_simp
      have XBn := XB.far (p := ⟨w.heap.size, 0, none⟩) XA.1 XA.2.2 (by simp <;> omega) (.slice Y (nw y) yc)
      have XRn := XR.far (p := ⟨w.heap.size, 0, none⟩) XA.1 XA.2.2 (by simp <;> omega) (.slice Y (nw y) yc)
      have XAn := XA.set_ (A' := Y) (n' := (nw y)) (c' := yc) (a' := y) (XB.2.1)
      have O1n := O1.box (p := ⟨w.heap.size, 0, none⟩) XA.1 (by decide) (.slice Y (nw y) yc)
      have WWn := WW.setCell (p := ⟨w.heap.size, 0, none⟩) (by simp <;> omega) (.slice Y (nw y) yc)
      refine hK.out _ _ trivial (fun hHeld2 => ?_)
      clear hK K hHeld2 hHeld
      (try simp only [oq25_4_4, Act.put, List.setIfInBounds_toArray, List.set_cons_zero, List.set_cons_succ])
      refine AnyL_name (fun W' => Below w.heap.size w W' ∧ VB w.heap.size W' (w.heap.size) Y (nw y) yc y ∧ VB w.heap.size W' (w.heap.size + 1) Y (nw y) yc y ∧ VB w.heap.size W' (w.heap.size + 1 + 1) none 0 0 0 ∧ Own W' w.heap.size D1 (nw t) d1 t) ⟨WWn, XAn, XBn, XRn, O1n⟩ ?_
      clear fz cz lz WWn XAn XBn XRn O1n WW XA XB XR O1
      rintro V6 ⟨WW, XA, XB, XR, O1⟩
      refine AnyL_ready (rs := [5]) (by kernel_rfl) (by simp) ?_
      refine ReadyL.late (o := oq25_4_5) rfl (by rfl) (fun K hK => ?_) ReadyL.nil
      delta oq25_4_5
      have fz := XB.1.frozen 0
      have cz := XB.cell
      have lz := XB.lt
      go_simp
      have XAn := XA.far (p := ⟨w.heap.size + 1, 0, none⟩) XB.1 XB.2.2 (by simp <;> omega) (.slice D1 (nw t) d1)
      have XRn := XR.far (p := ⟨w.heap.size + 1, 0, none⟩) XB.1 XB.2.2 (by simp <;> omega) (.slice D1 (nw t) d1)
      have XBn := XB.set_ (A' := D1) (n' := (nw t)) (c' := d1) (a' := t) (.inr O1)
      have O1n := O1.box (p := ⟨w.heap.size + 1, 0, none⟩) XB.1 (by decide) (.slice D1 (nw t) d1)
      have WWn := WW.setCell (p := ⟨w.heap.size + 1, 0, none⟩) (by simp <;> omega) (.slice D1 (nw t) d1)
      refine hK.out _ _ trivial (fun hHeld2 => ?_)
      clear hK K hHeld2
      (try simp only [oq25_4_5, Act.put, List.setIfInBounds_toArray, List.set_cons_zero, List.set_cons_succ])
      refine AnyL_name (fun W' => Below w.heap.size w W' ∧ VB w.heap.size W' (w.heap.size) Y (nw y) yc y ∧ VB w.heap.size W' (w.heap.size + 1) D1 (nw t) d1 t ∧ VB w.heap.size W' (w.heap.size + 1 + 1) none 0 0 0 ∧ Own W' w.heap.size D1 (nw t) d1 t) ⟨WWn, XAn, XBn, XRn, O1n⟩ ?_
      clear fz cz lz WWn XAn XBn XRn O1n WW XA XB XR O1
      rintro V7 ⟨WW, XA, XB, XR, O1⟩
      refine AnyL_done (by kernel_rfl) ?_ _
      have kXA := XA.cell
      have zXA := XA.lt
      have kXB := XB.cell
      have zXB := XB.lt
      have kXR := XR.cell
      have zXR := XR.lt
      have HN1 : Hid (numAt V7 (w.heap.size + 1) = t) := numAt_eq kXB XB.num
      go_wp2_with fail
      go_roundw
      case rel => exact ⟨y, t, Y, D1, yc, d1, hy, nt, HG2.out, WW, XA, XB, XR⟩
      case measure => rw [HN1.out, HN0.out]; exact HTY.out

theorem ngcd_any (A B' : Option Addr) (n k c d a b : Nat) (w : World) (hA : Num w w.heap.size A n a) (hB : Num w w.heap.size B' k b) (hn : n ≤ 9223372036854775807) (hk : k ≤ 9223372036854775807) :
    Calls Try.prog 25 #[.agg #[.slice A n c], .agg #[.slice B' k d]] w (RetTwo w.heap.size (gcdV n a k b).1 (gcdV n a k b).2 w) := by
  cases h1 : okB n a
  · exact ngcd_a A B' n k c d a b w hA hB hn hk h1
  · cases h2 : okB k b
    · exact ngcd_b A B' n k c d a b w hA hB hn hk h1 h2
    · exact ngcd_ok A B' n k c d a b w hA hB hn hk h1 h2

end Go.Proofs.Ytckajjapockonaa
