/- the reference of layer 3: Add, Sub. -/
import Derived.Test.YtckajjapockonaaRf4
set_option linter.unusedVariables false
set_option linter.unusedSimpArgs false
namespace Go.Proofs.Ytckajjapockonaa
open Go.RowKit

set_option maxHeartbeats 4000000 in
theorem radd_lt (A B' C' : Option Addr) (c d p a b m : Nat) (w : World) (hA : Num w w.heap.size A (nw a) a) (hB : Num w w.heap.size B' (nw b) b) (hC : Num w w.heap.size C' (nw m) m) (ha : nw a ≤ 70) (hb : nw b ≤ 70) (hm : nw m ≤ 70) (h1 : a < m) (h2 : b < m) (h : a + b < m) :
    Calls Try.prog 18 #[.agg #[.slice A (nw a) c], .agg #[.slice B' (nw b) d], .agg #[.slice C' (nw m) p]] w (RetNat w.heap.size ((a + b) % m) w) := by
  obtain ⟨s, hs⟩ : ∃ s, s = a + b := ⟨_, rfl⟩
  have HS := hid hs
  have hs1 : nw s ≤ 71 := by rw [hs]; exact nw_sum ha hb
  have HR : (a + b) % m = s := by rw [hs]; exact Nat.mod_eq_of_lt h
  rw [HR]
  have HG : Hid (decide (s < m) = true) := decide_eq_true (by rw [hs]; exact h)
  clear HR hs h h1 h2
  obtain ⟨b0, b1, b2, b3, bw⟩ := boxes4 w (.slice A (nw a) c) (.slice B' (nw b) d) (.slice C' (nw m) p) (.slice none 0 0)
  have XA := Box.mk b0 hA bw
  have XB := Box.mk b1 hB bw
  have XC := Box.mk b2 hC bw
  have XR := Box.mk b3 (Num.nil _ _ _) bw
  have WW := bw
  clear bw b0 b1 b2 b3
  go_enter Try.func18, Try.ntmps18
  go_wp2_with fail
  generalize hV : ((((w.alloc (.cells #[.slice A (nw a) c] 24)).alloc (.cells #[.slice B' (nw b) d] 24)).alloc (.cells #[.slice C' (nw m) p] 24)).alloc (.cells #[.slice none 0 0] 24)) = V0 at XA XB XC XR WW ⊢
  clear hV
  have hbs : w.heap.size ≤ V0.heap.size := WW.size
  have hc := plus_any A B' _ _ c d a b V0 XA.num XB.num (by omega) (by omega)
  rw [← HS.out] at hc
  refine hc.mono ?_
  clear hc
  rintro e V1 ⟨v, rfl, hv, hb⟩
  replace XA := XA.below hb
  replace XB := XB.below hb
  replace XC := XC.below hb
  replace XR := XR.below hb
  replace WW := WW.trans (hb.mono WW.size)
  obtain ⟨D1, d1, rfl, ho⟩ := hv
  have O1 := ho.weak (b := w.heap.size) hbs
  have hv' := O1.num
  clear ho
  have kXA := XA.cell
  have zXA := XA.lt
  have kXB := XB.cell
  have zXB := XB.lt
  have kXC := XC.cell
  have zXC := XC.lt
  have kXR := XR.cell
  have zXR := XR.lt
  clear hb hbs
  go_wp2_with fail
  obtain ⟨b0, bw⟩ := boxes1 V1 (.slice D1 (nw s) d1)
  clear kXA zXA kXB zXB kXC zXC kXR zXR
  replace XA := XA.below bw
  replace XB := XB.below bw
  replace XC := XC.below bw
  replace XR := XR.below bw
  have X1 := Box.mk b0 hv' bw
  replace O1 := O1.below bw (Nat.le_refl _)
  replace WW := WW.trans (bw.mono WW.size)
  clear bw b0 hv'
  generalize hV : (V1.alloc (.cells #[.slice D1 (nw s) d1] 24)) = V2 at XA XB XC XR X1 O1 WW ⊢
  clear hV
  have kXA := XA.cell
  have zXA := XA.lt
  have kXB := XB.cell
  have zXB := XB.lt
  have kXC := XC.cell
  have zXC := XC.lt
  have kXR := XR.cell
  have zXR := XR.lt
  have kX1 := X1.cell
  have zX1 := X1.lt
  have hbs : w.heap.size ≤ V2.heap.size := WW.size
  have hc := less3_any D1 C' d1 p s m V2 X1.num XC.num (by omega) (by omega)
  rw [HG.out] at hc
  refine hc.mono ?_
  clear hc
  rintro e V3 ⟨rfl, hb⟩
  clear kXA zXA kXB zXB kXC zXC kXR zXR kX1 zX1
  replace XA := XA.below hb
  replace XB := XB.below hb
  replace XC := XC.below hb
  replace XR := XR.below hb
  replace X1 := X1.below hb
  replace O1 := O1.below hb (Nat.le_refl _)
  replace WW := WW.trans (hb.mono WW.size)
  have fXR := XR.1.frozen 0
  have kXA := XA.cell
  have zXA := XA.lt
  have kXB := XB.cell
  have zXB := XB.lt
  have kXC := XC.cell
  have zXC := XC.lt
  have kXR := XR.cell
  have zXR := XR.lt
  have kX1 := X1.cell
  have zX1 := X1.lt
  clear hb hbs
  go_wp2_with fail
  have ho2 := O1.box (p := ⟨w.heap.size + 1 + 1 + 1, 0, none⟩) XR.1 (by decide) (.slice D1 (nw s) d1)
  exact bodyPost_ret (v := .agg #[.slice D1 (nw s) d1]) (by simp [results, Try.results18, go_sem, kXR, zXR]) rfl ⟨_, rfl, ⟨D1, d1, rfl, ho2⟩, WW.setCell (by simp <;> omega) _⟩

set_option maxHeartbeats 4000000 in
theorem radd_ge (A B' C' : Option Addr) (c d p a b m : Nat) (w : World) (hA : Num w w.heap.size A (nw a) a) (hB : Num w w.heap.size B' (nw b) b) (hC : Num w w.heap.size C' (nw m) m) (ha : nw a ≤ 70) (hb : nw b ≤ 70) (hm : nw m ≤ 70) (h1 : a < m) (h2 : b < m) (h : ¬ a + b < m) :
    Calls Try.prog 18 #[.agg #[.slice A (nw a) c], .agg #[.slice B' (nw b) d], .agg #[.slice C' (nw m) p]] w (RetNat w.heap.size ((a + b) % m) w) := by
  obtain ⟨s, hs⟩ : ∃ s, s = a + b := ⟨_, rfl⟩
  have HS := hid hs
  have hs1 : nw s ≤ 71 := by rw [hs]; exact nw_sum ha hb
  obtain ⟨r, hr⟩ : ∃ r, r = s - m := ⟨_, rfl⟩
  have HR : (a + b) % m = r := by rw [hr, hs, Nat.mod_eq_sub_mod (by omega)]; exact Nat.mod_eq_of_lt (by omega)
  rw [HR]
  have HE := hid hr
  have HG : Hid (decide (s < m) = false) := decide_eq_false (by rw [hs]; exact h)
  have hle : m ≤ s := by omega
  clear HR hs h h1 h2 hr
  obtain ⟨b0, b1, b2, b3, bw⟩ := boxes4 w (.slice A (nw a) c) (.slice B' (nw b) d) (.slice C' (nw m) p) (.slice none 0 0)
  have XA := Box.mk b0 hA bw
  have XB := Box.mk b1 hB bw
  have XC := Box.mk b2 hC bw
  have XR := Box.mk b3 (Num.nil _ _ _) bw
  have WW := bw
  clear bw b0 b1 b2 b3
  go_enter Try.func18, Try.ntmps18
  go_wp2_with fail
  generalize hV : ((((w.alloc (.cells #[.slice A (nw a) c] 24)).alloc (.cells #[.slice B' (nw b) d] 24)).alloc (.cells #[.slice C' (nw m) p] 24)).alloc (.cells #[.slice none 0 0] 24)) = V0 at XA XB XC XR WW ⊢
  clear hV
  have hbs : w.heap.size ≤ V0.heap.size := WW.size
  have hc := plus_any A B' _ _ c d a b V0 XA.num XB.num (by omega) (by omega)
  rw [← HS.out] at hc
  refine hc.mono ?_
  clear hc
  rintro e V1 ⟨v, rfl, hv, hb⟩
  replace XA := XA.below hb
  replace XB := XB.below hb
  replace XC := XC.below hb
  replace XR := XR.below hb
  replace WW := WW.trans (hb.mono WW.size)
  obtain ⟨D1, d1, rfl, ho⟩ := hv
  have O1 := ho.weak (b := w.heap.size) hbs
  have hv' := O1.num
  clear ho
  have kXA := XA.cell
  have zXA := XA.lt
  have kXB := XB.cell
  have zXB := XB.lt
  have kXC := XC.cell
  have zXC := XC.lt
  have kXR := XR.cell
  have zXR := XR.lt
  clear hb hbs
  go_wp2_with fail
  obtain ⟨b0, bw⟩ := boxes1 V1 (.slice D1 (nw s) d1)
  clear kXA zXA kXB zXB kXC zXC kXR zXR
  replace XA := XA.below bw
  replace XB := XB.below bw
  replace XC := XC.below bw
  replace XR := XR.below bw
  have X1 := Box.mk b0 hv' bw
  replace O1 := O1.below bw (Nat.le_refl _)
  replace WW := WW.trans (bw.mono WW.size)
  clear bw b0 hv'
  generalize hV : (V1.alloc (.cells #[.slice D1 (nw s) d1] 24)) = V2 at XA XB XC XR X1 O1 WW ⊢
  clear hV
  have kXA := XA.cell
  have zXA := XA.lt
  have kXB := XB.cell
  have zXB := XB.lt
  have kXC := XC.cell
  have zXC := XC.lt
  have kXR := XR.cell
  have zXR := XR.lt
  have kX1 := X1.cell
  have zX1 := X1.lt
  have hbs : w.heap.size ≤ V2.heap.size := WW.size
  have hc := less3_any D1 C' d1 p s m V2 X1.num XC.num (by omega) (by omega)
  rw [HG.out] at hc
  refine hc.mono ?_
  clear hc
  rintro e V3 ⟨rfl, hb⟩
  clear kXA zXA kXB zXB kXC zXC kXR zXR kX1 zX1
  replace XA := XA.below hb
  replace XB := XB.below hb
  replace XC := XC.below hb
  replace XR := XR.below hb
  replace X1 := X1.below hb
  replace O1 := O1.below hb (Nat.le_refl _)
  replace WW := WW.trans (hb.mono WW.size)
  have kXA := XA.cell
  have zXA := XA.lt
  have kXB := XB.cell
  have zXB := XB.lt
  have kXC := XC.cell
  have zXC := XC.lt
  have kXR := XR.cell
  have zXR := XR.lt
  have kX1 := X1.cell
  have zX1 := X1.lt
  clear hb hbs
  go_wp2_with fail
  have hbs : w.heap.size ≤ V3.heap.size := WW.size
  have hc := minus_any D1 C' _ _ d1 p s m V3 X1.num XC.num (by omega) (by omega) hle
  rw [← HE.out] at hc
  refine hc.mono ?_
  clear hc
  rintro e V4 ⟨v, rfl, hv, hb⟩
  clear kXA zXA kXB zXB kXC zXC kXR zXR kX1 zX1
  replace XA := XA.below hb
  replace XB := XB.below hb
  replace XC := XC.below hb
  replace XR := XR.below hb
  replace X1 := X1.below hb
  replace O1 := O1.below hb (Nat.le_refl _)
  replace WW := WW.trans (hb.mono WW.size)
  obtain ⟨D2, d2, rfl, ho⟩ := hv
  have O2 := ho.weak (b := w.heap.size) hbs
  have fXR := XR.1.frozen 0
  clear ho
  have kXA := XA.cell
  have zXA := XA.lt
  have kXB := XB.cell
  have zXB := XB.lt
  have kXC := XC.cell
  have zXC := XC.lt
  have kXR := XR.cell
  have zXR := XR.lt
  have kX1 := X1.cell
  have zX1 := X1.lt
  clear hb hbs
  go_wp2_with fail
  have ho2 := O2.box (p := ⟨w.heap.size + 1 + 1 + 1, 0, none⟩) XR.1 (by decide) (.slice D2 (nw r) d2)
  exact bodyPost_ret (v := .agg #[.slice D2 (nw r) d2]) (by simp [results, Try.results18, go_sem, kXR, zXR]) rfl ⟨_, rfl, ⟨D2, d2, rfl, ho2⟩, WW.setCell (by simp <;> omega) _⟩

theorem radd3_any (A B' C' : Option Addr) (c d p a b m : Nat) (w : World) (hA : Num w w.heap.size A (nw a) a) (hB : Num w w.heap.size B' (nw b) b) (hC : Num w w.heap.size C' (nw m) m) (ha : nw a ≤ 70) (hb : nw b ≤ 70) (hm : nw m ≤ 70) (h1 : a < m) (h2 : b < m) :
    Calls Try.prog 18 #[.agg #[.slice A (nw a) c], .agg #[.slice B' (nw b) d], .agg #[.slice C' (nw m) p]] w (RetNat w.heap.size ((a + b) % m) w) := by
  by_cases h : a + b < m
  · exact radd_lt A B' C' c d p a b m w hA hB hC ha hb hm h1 h2 h
  · exact radd_ge A B' C' c d p a b m w hA hB hC ha hb hm h1 h2 h

set_option maxHeartbeats 4000000 in
theorem rsub_lt (A B' C' : Option Addr) (c d p a b m : Nat) (w : World) (hA : Num w w.heap.size A (nw a) a) (hB : Num w w.heap.size B' (nw b) b) (hC : Num w w.heap.size C' (nw m) m) (ha : nw a ≤ 70) (hb : nw b ≤ 70) (hm : nw m ≤ 70) (h1 : a < m) (h2 : b < m) (h : a < b) :
    Calls Try.prog 19 #[.agg #[.slice A (nw a) c], .agg #[.slice B' (nw b) d], .agg #[.slice C' (nw m) p]] w (RetNat w.heap.size ((a + (m - b)) % m) w) := by
  obtain ⟨s, hs⟩ : ∃ s, s = a + m := ⟨_, rfl⟩
  have HS := hid hs
  have hs1 : nw s ≤ 71 := by rw [hs]; exact nw_sum ha hm
  obtain ⟨r, hr⟩ : ∃ r, r = s - b := ⟨_, rfl⟩
  have HR : (a + (m - b)) % m = r := by rw [hr, hs, Nat.mod_eq_of_lt (by omega)]; omega
  rw [HR]
  have HE := hid hr
  have HG : Hid (decide (a < b) = true) := decide_eq_true h
  have hle : b ≤ s := by omega
  clear HR hs hr h h1 h2
  obtain ⟨b0, b1, b2, b3, bw⟩ := boxes4 w (.slice A (nw a) c) (.slice B' (nw b) d) (.slice C' (nw m) p) (.slice none 0 0)
  have XA := Box.mk b0 hA bw
  have XB := Box.mk b1 hB bw
  have XC := Box.mk b2 hC bw
  have XR := Box.mk b3 (Num.nil _ _ _) bw
  have WW := bw
  clear bw b0 b1 b2 b3
  go_enter Try.func19, Try.ntmps19
  go_wp2_with fail
  generalize hV : ((((w.alloc (.cells #[.slice A (nw a) c] 24)).alloc (.cells #[.slice B' (nw b) d] 24)).alloc (.cells #[.slice C' (nw m) p] 24)).alloc (.cells #[.slice none 0 0] 24)) = V0 at XA XB XC XR WW ⊢
  clear hV
  have hbs : w.heap.size ≤ V0.heap.size := WW.size
  have hc := less3_any A B' c d a b V0 XA.num XB.num (by omega) (by omega)
  rw [HG.out] at hc
  refine hc.mono ?_
  clear hc
  rintro e V1 ⟨rfl, hb⟩
  replace XA := XA.below hb
  replace XB := XB.below hb
  replace XC := XC.below hb
  replace XR := XR.below hb
  replace WW := WW.trans (hb.mono WW.size)
  have kXA := XA.cell
  have zXA := XA.lt
  have kXB := XB.cell
  have zXB := XB.lt
  have kXC := XC.cell
  have zXC := XC.lt
  have kXR := XR.cell
  have zXR := XR.lt
  clear hb hbs
  go_wp2_with fail
  have WWd := WW.drew
  have XAd := XA.drew
  have XBd := XB.drew
  have XCd := XC.drew
  have XRd := XR.drew
  have hst : (fun w' => w'.cell? ⟨w.heap.size, 0, none⟩ = some (.slice A (nw a) c) ∧ w'.cell? ⟨w.heap.size + 1, 0, none⟩ = some (.slice B' (nw b) d) ∧ w'.cell? ⟨w.heap.size + 1 + 1, 0, none⟩ = some (.slice C' (nw m) p)) V1.drew := ⟨kXA, kXB, kXC⟩
  clear WW kXA zXA kXB zXB kXC zXC kXR zXR XA XB XC XR 
  have WW := WWd
  have XA := XAd
  have XB := XBd
  have XC := XCd
  have XR := XRd
  clear WWd XAd XBd XCd XRd 
  refine wp_region_held_drew (S := (fun w' => w'.cell? ⟨w.heap.size, 0, none⟩ = some (.slice A (nw a) c) ∧ w'.cell? ⟨w.heap.size + 1, 0, none⟩ = some (.slice B' (nw b) d) ∧ w'.cell? ⟨w.heap.size + 1 + 1, 0, none⟩ = some (.slice C' (nw m) p))) (by kernel_rfl) (hst) (fun hHeld => ?_)
  refine wpAnyH_take (i := 0) (oi := { dst := some 10, op := Op.load 24 (Operand.tmp 3), type := 24, pos := "ref.go:103", after := #[], guard := none }) (v := ?_) rfl (by kernel_rfl) (by kernel_rfl) (by kernel_rfl) (fun _ _ _ h => h) (Or.inl ⟨by rfl, ?_⟩) (by assumption) ?_
  rotate_left
  · (intro ws hSw; (try dsimp only at hSw); (try go_simp); (try with_reducible rfl))
  (try simp only [Act.put, List.setIfInBounds_toArray, List.set_cons_zero, List.set_cons_succ])
  refine wpAnyH_take (i := 1) (oi := { dst := some 11, op := Op.load 24 (Operand.tmp 5), type := 24, pos := "ref.go:103", after := #[], guard := none }) (v := ?_) rfl (by kernel_rfl) (by kernel_rfl) (by kernel_rfl) (fun _ _ _ h => h) (Or.inl ⟨by rfl, ?_⟩) (by assumption) ?_
  rotate_left
  · (intro ws hSw; (try dsimp only at hSw); (try go_simp); (try with_reducible rfl))
  (try simp only [Act.put, List.setIfInBounds_toArray, List.set_cons_zero, List.set_cons_succ])
  refine wpAnyH_take (i := 3) (oi := { dst := some 13, op := Op.load 24 (Operand.tmp 4), type := 24, pos := "ref.go:103", after := #[], guard := none }) (v := ?_) rfl (by kernel_rfl) (by kernel_rfl) (by kernel_rfl) (fun _ _ _ h => h) (Or.inl ⟨by rfl, ?_⟩) (by assumption) ?_
  rotate_left
  · (intro ws hSw; (try dsimp only at hSw); (try go_simp); (try with_reducible rfl))
  (try simp only [Act.put, List.setIfInBounds_toArray, List.set_cons_zero, List.set_cons_succ])
  refine wpAnyH_ready (rs := [2]) (by kernel_rfl) (by simp) ?_
  refine AllReadyH.cons (o := { dst := some 12, op := Op.call { callee := Callee.value (Operand.func 37), args := #[Operand.tmp 10, Operand.tmp 11], argTypes := #[24, 24] }, type := 24, pos := "ref.go:103", after := #[{ on := 0, ground := Ground.data }, { on := 1, ground := Ground.data }], guard := none }) rfl (fun K hK => ?_) AllReadyH.nil
  go_simp
  have hbs : w.heap.size ≤ (V1.drew).heap.size := WW.size
  have hc := plus_any A C' _ _ c p a m (V1.drew) XA.num XC.num (by omega) (by omega)
  rw [← HS.out] at hc
  refine hc.mono ?_
  clear hc
  rintro e V2 ⟨v, rfl, hv, hb⟩
  replace XA := XA.below hb
  replace XB := XB.below hb
  replace XC := XC.below hb
  replace XR := XR.below hb
  replace WW := WW.trans (hb.mono WW.size)
  obtain ⟨D1, d1, rfl, ho⟩ := hv
  have O1 := ho.weak (b := w.heap.size) hbs
  clear ho
  have kXA := XA.cell
  have kXB := XB.cell
  have kXC := XC.cell
  clear hb hbs
  refine hK.out _ _ (⟨kXA, kXB, kXC⟩) (fun hHeld2 => ?_)
  clear hK K hHeld
  have hHeld := hHeld2
  clear hHeld2
  (try simp only [Act.put, List.setIfInBounds_toArray, List.set_cons_zero, List.set_cons_succ])
  refine wpAnyH_ready (rs := [4]) (by kernel_rfl) (by simp) ?_
  refine AllReadyH.cons (o := { dst := some 14, op := Op.call { callee := Callee.value (Operand.func 55), args := #[Operand.tmp 12, Operand.tmp 13], argTypes := #[24, 24] }, type := 24, pos := "ref.go:103", after := #[{ on := 2, ground := Ground.data }, { on := 3, ground := Ground.data }, { on := 2, ground := Ground.chain }], guard := none }) rfl (fun K hK => ?_) AllReadyH.nil
  go_simp
  have hbs : w.heap.size ≤ (V2).heap.size := WW.size
  have hc := minus_any D1 B' _ _ d1 d s b (V2) O1.num XB.num (by omega) (by omega) hle
  rw [← HE.out] at hc
  refine hc.mono ?_
  clear hc
  rintro e V3 ⟨v, rfl, hv, hb⟩
  clear kXA kXB kXC
  replace XA := XA.below hb
  replace XB := XB.below hb
  replace XC := XC.below hb
  replace XR := XR.below hb
  replace O1 := O1.below hb (Nat.le_refl _)
  replace WW := WW.trans (hb.mono WW.size)
  obtain ⟨D2, d2, rfl, ho⟩ := hv
  have O2 := ho.weak (b := w.heap.size) hbs
  clear ho
  have kXA := XA.cell
  have kXB := XB.cell
  have kXC := XC.cell
  clear hb hbs
  have fXR := XR.1.frozen 0
  have kXRs := XR.1.cell0
  refine hK.out _ _ (⟨kXA, kXB, kXC⟩) (fun hHeld4 => ?_)
  clear hK K hHeld
  have hHeld := hHeld4
  clear hHeld4
  (try simp only [Act.put, List.setIfInBounds_toArray, List.set_cons_zero, List.set_cons_succ])
  refine wpAnyH_ready (rs := [5]) (by kernel_rfl) (by simp) ?_
  refine AllReadyH.cons (o := { dst := none, op := Op.store 24 (Operand.tmp 6) (Operand.tmp 14), type := 0, pos := "ref.go:103", after := #[{ on := 4, ground := Ground.data }, { on := 4, ground := Ground.chain }, { on := 0, ground := Ground.phase }, { on := 1, ground := Ground.phase }, { on := 2, ground := Ground.phase }, { on := 3, ground := Ground.phase }, { on := 4, ground := Ground.phase }], guard := none }) rfl (fun K hK => ?_) AllReadyH.nil
  go_simp
  have qXA := (XA.1.far (p := ⟨w.heap.size + 1 + 1 + 1, 0, none⟩) (by simp <;> omega) (.slice D2 (nw r) d2)).cell0
  have qXB := (XB.1.far (p := ⟨w.heap.size + 1 + 1 + 1, 0, none⟩) (by simp <;> omega) (.slice D2 (nw r) d2)).cell0
  have qXC := (XC.1.far (p := ⟨w.heap.size + 1 + 1 + 1, 0, none⟩) (by simp <;> omega) (.slice D2 (nw r) d2)).cell0
  refine hK.out _ _ (⟨qXA, qXB, qXC⟩) (fun hHeld5 => ?_)
  clear hK K hHeld
  have hHeld := hHeld5
  clear hHeld5
  (try simp only [Act.put, List.setIfInBounds_toArray, List.set_cons_zero, List.set_cons_succ])
  refine wpAnyH_done (by kernel_rfl) ?_ _
  clear hHeld
  clear hst kXA kXB kXC
  have kXA := XA.cell
  have zXA := XA.lt
  have kXB := XB.cell
  have zXB := XB.lt
  have kXC := XC.cell
  have zXC := XC.lt
  have kXR := XR.cell
  have zXR := XR.lt
  go_wp2_with fail
  have ho2 := O2.box (p := ⟨w.heap.size + 1 + 1 + 1, 0, none⟩) XR.1 (by decide) (.slice D2 (nw r) d2)
  exact bodyPost_ret (v := .agg #[.slice D2 (nw r) d2]) (by simp [results, Try.results19, go_sem, kXR, zXR]) rfl ⟨_, rfl, ⟨D2, d2, rfl, ho2⟩, WW.setCell (by simp <;> omega) _⟩

set_option maxHeartbeats 4000000 in
theorem rsub_ge (A B' C' : Option Addr) (c d p a b m : Nat) (w : World) (hA : Num w w.heap.size A (nw a) a) (hB : Num w w.heap.size B' (nw b) b) (hC : Num w w.heap.size C' (nw m) m) (ha : nw a ≤ 70) (hb : nw b ≤ 70) (hm : nw m ≤ 70) (h1 : a < m) (h2 : b < m) (h : ¬ a < b) :
    Calls Try.prog 19 #[.agg #[.slice A (nw a) c], .agg #[.slice B' (nw b) d], .agg #[.slice C' (nw m) p]] w (RetNat w.heap.size ((a + (m - b)) % m) w) := by
  obtain ⟨r, hr⟩ : ∃ r, r = a - b := ⟨_, rfl⟩
  have HR : (a + (m - b)) % m = r := by rw [hr, Nat.mod_eq_sub_mod (by omega), Nat.mod_eq_of_lt (by omega)]; omega
  rw [HR]
  have HE := hid hr
  have HG : Hid (decide (a < b) = false) := decide_eq_false h
  have hle : b ≤ a := by omega
  clear HR hr h h1 h2
  obtain ⟨b0, b1, b2, b3, bw⟩ := boxes4 w (.slice A (nw a) c) (.slice B' (nw b) d) (.slice C' (nw m) p) (.slice none 0 0)
  have XA := Box.mk b0 hA bw
  have XB := Box.mk b1 hB bw
  have XC := Box.mk b2 hC bw
  have XR := Box.mk b3 (Num.nil _ _ _) bw
  have WW := bw
  clear bw b0 b1 b2 b3
  go_enter Try.func19, Try.ntmps19
  go_wp2_with fail
  generalize hV : ((((w.alloc (.cells #[.slice A (nw a) c] 24)).alloc (.cells #[.slice B' (nw b) d] 24)).alloc (.cells #[.slice C' (nw m) p] 24)).alloc (.cells #[.slice none 0 0] 24)) = V0 at XA XB XC XR WW ⊢
  clear hV
  have hbs : w.heap.size ≤ V0.heap.size := WW.size
  have hc := less3_any A B' c d a b V0 XA.num XB.num (by omega) (by omega)
  rw [HG.out] at hc
  refine hc.mono ?_
  clear hc
  rintro e V1 ⟨rfl, hb⟩
  replace XA := XA.below hb
  replace XB := XB.below hb
  replace XC := XC.below hb
  replace XR := XR.below hb
  replace WW := WW.trans (hb.mono WW.size)
  have kXA := XA.cell
  have zXA := XA.lt
  have kXB := XB.cell
  have zXB := XB.lt
  have kXC := XC.cell
  have zXC := XC.lt
  have kXR := XR.cell
  have zXR := XR.lt
  clear hb hbs
  go_wp2_with fail
  have hbs : w.heap.size ≤ V1.heap.size := WW.size
  have hc := minus_any A B' _ _ c d a b V1 XA.num XB.num (by omega) (by omega) hle
  rw [← HE.out] at hc
  refine hc.mono ?_
  clear hc
  rintro e V2 ⟨v, rfl, hv, hb⟩
  clear kXA zXA kXB zXB kXC zXC kXR zXR
  replace XA := XA.below hb
  replace XB := XB.below hb
  replace XC := XC.below hb
  replace XR := XR.below hb
  replace WW := WW.trans (hb.mono WW.size)
  obtain ⟨D2, d2, rfl, ho⟩ := hv
  have O2 := ho.weak (b := w.heap.size) hbs
  have fXR := XR.1.frozen 0
  clear ho
  have kXA := XA.cell
  have zXA := XA.lt
  have kXB := XB.cell
  have zXB := XB.lt
  have kXC := XC.cell
  have zXC := XC.lt
  have kXR := XR.cell
  have zXR := XR.lt
  clear hb hbs
  go_wp2_with fail
  have ho2 := O2.box (p := ⟨w.heap.size + 1 + 1 + 1, 0, none⟩) XR.1 (by decide) (.slice D2 (nw r) d2)
  exact bodyPost_ret (v := .agg #[.slice D2 (nw r) d2]) (by simp [results, Try.results19, go_sem, kXR, zXR]) rfl ⟨_, rfl, ⟨D2, d2, rfl, ho2⟩, WW.setCell (by simp <;> omega) _⟩

theorem rsub3_any (A B' C' : Option Addr) (c d p a b m : Nat) (w : World) (hA : Num w w.heap.size A (nw a) a) (hB : Num w w.heap.size B' (nw b) b) (hC : Num w w.heap.size C' (nw m) m) (ha : nw a ≤ 70) (hb : nw b ≤ 70) (hm : nw m ≤ 70) (h1 : a < m) (h2 : b < m) :
    Calls Try.prog 19 #[.agg #[.slice A (nw a) c], .agg #[.slice B' (nw b) d], .agg #[.slice C' (nw m) p]] w (RetNat w.heap.size ((a + (m - b)) % m) w) := by
  by_cases h : a < b
  · exact rsub_lt A B' C' c d p a b m w hA hB hC ha hb hm h1 h2 h
  · exact rsub_ge A B' C' c d p a b m w hA hB hC ha hb hm h1 h2 h

end Go.Proofs.Ytckajjapockonaa
