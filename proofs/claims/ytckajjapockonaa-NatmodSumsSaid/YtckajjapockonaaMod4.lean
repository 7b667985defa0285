/- natmod: Crt where nothing fails. -/
import Derived.Test.YtckajjapockonaaMod3
set_option linter.unusedVariables false
set_option linter.unusedSimpArgs false
namespace Go.Proofs.Ytckajjapockonaa
open Go.RowKit

theorem wpAnyH_name {P : Program} {md : Region.Mode} {ops : Array Oper} {Q : Exit → Act → World → Prop} {S : World → Prop} {fuel : Nat} {listed : Array Bool} {a : Act} {w : World} (Fc : World → Prop) (hf : Fc w)
    (h : ∀ W', Fc W' → wpAnyH P md ops Q S fuel listed a W') : wpAnyH P md ops Q S fuel listed a w := h w hf
theorem wp_landE {P : Program} {c : Code} {Q : Exit → Act → World → Prop} {a : Act} {w : World} {F : Nat → Nat → Option Addr → Nat → Option Addr → Nat → Option Addr → Nat → Act} (R : Nat → Nat → Option Addr → Nat → Option Addr → Nat → World → Prop)
    (hreg : c.wp P (fun e a1 w1 => e = Exit.normal ∧ ∃ g1 g2 E f D d X x, a1 = F g1 g2 E f D d X x ∧ R g1 g2 D d X x w1) a w) (himp : ∀ g1 g2 E f D d X x w1, R g1 g2 D d X x w1 → Q Exit.normal (F g1 g2 E f D d X x) w1) : c.wp P Q a w :=
  Code.wp_mono (fun e a1 w1 h => by obtain ⟨rfl, g1, g2, E, f, D, d, X, x, rfl, hR⟩ := h; exact himp _ _ _ _ _ _ _ _ w1 hR) hreg
theorem wp_landF {P : Program} {c : Code} {Q : Exit → Act → World → Prop} {a : Act} {w : World} {F : Nat → Option Addr → Nat → Option Addr → Nat → Option Addr → Nat → Act} (R : Nat → Option Addr → Nat → World → Prop)
    (hreg : c.wp P (fun e a1 w1 => e = Exit.normal ∧ ∃ g1 D d E f X x, a1 = F g1 D d E f X x ∧ R g1 X x w1) a w) (himp : ∀ g1 D d E f X x w1, R g1 X x w1 → Q Exit.normal (F g1 D d E f X x) w1) : c.wp P Q a w :=
  Code.wp_mono (fun e a1 w1 h => by obtain ⟨rfl, g1, D, d, E, f, X, x, rfl, hR⟩ := h; exact himp _ _ _ _ _ _ _ w1 hR) hreg
theorem invN_lt {a m : Nat} (h : 0 < m) : invN a m < m := by
  classical
  unfold invN
  split
  · rename_i h1; exact (Classical.choose_spec h1).1
  · exact h
/-- The number that Crt finds. -/
noncomputable def crtN (a p b q : Nat) : Nat := a + p * (((b + (q - a % q)) % q * invN (p % q) q) % q)
set_option maxHeartbeats 16000000 in
set_option maxRecDepth 100000 in
theorem crt_ok (A A2 A3 A4 : Option Addr) (c1 c2 c3 c4 a p b q : Nat) (w : World) (hA : Num w w.heap.size A (nw a) a) (hP : Num w w.heap.size A2 (nw p) p) (hB : Num w w.heap.size A3 (nw b) b) (hQ : Num w w.heap.size A4 (nw q) q) (hp32 : nw p ≤ 32) (hq32 : nw q ≤ 32) (hap : a < p) (hbq : b < q) (hg : Nat.gcd p q = 1) (hpq : nw (p * q) ≤ 32) :
    Calls Try.prog 29 #[.agg #[.slice A (nw a) c1], .agg #[.slice A2 (nw p) c2], .agg #[.slice A3 (nw b) c3], .agg #[.slice A4 (nw q) c4]] w (RetTwo w.heap.size (crtN a p b q) 0 w) := by
  have hq0 : ¬ q = 0 := by omega
  have hp0 : 0 < p := by omega
  have ha32 : nw a ≤ 32 := Nat.le_trans (nw_mono (Nat.le_of_lt hap)) hp32
  have hb32 : nw b ≤ 32 := Nat.le_trans (nw_mono (Nat.le_of_lt hbq)) hq32
  obtain ⟨t, ht⟩ : ∃ t, t = p % q := ⟨_, rfl⟩
  have HT := hid ht
  have HTQ : Hid (t < q) := (show t < q by rw [ht]; exact Nat.mod_lt _ (by omega))
  obtain ⟨g, hgg⟩ : ∃ g, g = Nat.gcd t q := ⟨_, rfl⟩
  have HG := hid hgg
  have hg1 : g = 1 := by rw [hgg, ht, Nat.gcd_comm, Nat.gcd_comm q, ← Nat.gcd_rec q p, Nat.gcd_comm]; exact hg
  obtain ⟨x0, hx0⟩ : ∃ x0, x0 = invN t q := ⟨_, rfl⟩
  have HX : Hid (∀ x, x < q → (q : Int) ∣ (t : Int) * (x : Int) - (g : Int) → x = x0) := (show ∀ x, x < q → (q : Int) ∣ (t : Int) * (x : Int) - (g : Int) → x = x0 from fun x h1 h2 => by rw [hg1] at h2; rw [hx0]; exact (invN_eq h1 h2).symm)
  have HA := hid hA
  have HP := hid hP
  have HB := hid hB
  have HQ := hid hQ
  have H1 := hid (okB_nw (Nat.le_trans ha32 (show 32 ≤ 64 by omega)))
  have H2 := hid (okB_nw (Nat.le_trans hb32 (show 32 ≤ 64 by omega)))
  have M1 : Hid (modB (nw p) p = true) := (show modB (nw p) p = true by unfold modB; rw [okB_nw (Nat.le_trans hp32 (show 32 ≤ 64 by omega)), decide_eq_true ⟨nw_pos (by omega), hp32⟩]; rfl)
  have M2 : Hid (modB (nw q) q = true) := (show modB (nw q) q = true by unfold modB; rw [okB_nw (Nat.le_trans hq32 (show 32 ≤ 64 by omega)), decide_eq_true ⟨nw_pos (by omega), hq32⟩]; rfl)
  have R1 : Hid (decide (a < p) = true) := decide_eq_true hap
  have R2 : Hid (decide (b < q) = true) := decide_eq_true hbq
  have HAP := hid hap
  have HBQ := hid hbq
  have HG1 := hid hg1
  have HX0 := hid hx0
  have HGC := hid hg
  have HAP := hid hap
  have HBQ := hid hbq
  have HG1 := hid hg1
  have HX0 := hid hx0
  clear ht hgg hg1 hx0 hap hbq hg
  obtain ⟨b0, b1, b2, b3, b4, bw⟩ := boxes5 w (.slice A (nw a) c1) (.slice A2 (nw p) c2) (.slice A3 (nw b) c3) (.slice A4 (nw q) c4) (.slice none 0 0)
  have XA := Box.mk b0 hA bw
  have XP := Box.mk b1 hP bw
  have XB := Box.mk b2 hB bw
  have XQ := Box.mk b3 hQ bw
  have XR := Box.mk b4 (Num.nil _ _ _) bw
  have WW := bw
  clear bw b0 b1 b2 b3 b4
  go_enter Try.func29, Try.ntmps29
  go_wp2_with fail
  generalize hV : (((((w.alloc (.cells #[.slice A (nw a) c1] 24)).alloc (.cells #[.slice A2 (nw p) c2] 24)).alloc (.cells #[.slice A3 (nw b) c3] 24)).alloc (.cells #[.slice A4 (nw q) c4] 24)).alloc (.cells #[.slice none 0 0] 24)) = V0 at XA XP XB XQ XR WW ⊢
  clear hV
  have hbs : w.heap.size ≤ V0.heap.size := WW.size
  have hc := valid_any A _ c1 a _ V0 XA.num (Nat.le_refl _) (by omega)
  rw [H1.out] at hc
  refine hc.mono ?_
  clear hc
  rintro e V1 ⟨rfl, hb⟩
  replace XA := XA.below hb
  replace XP := XP.below hb
  replace XB := XB.below hb
  replace XQ := XQ.below hb
  replace XR := XR.below hb
  replace WW := WW.trans (hb.mono WW.size)
  have kXA := XA.cell
  have zXA := XA.lt
  have kXP := XP.cell
  have zXP := XP.lt
  have kXB := XB.cell
  have zXB := XB.lt
  have kXQ := XQ.cell
  have zXQ := XQ.lt
  have kXR := XR.cell
  have zXR := XR.lt
  clear hb hbs
  go_wp2_with fail
  have hbs : w.heap.size ≤ V1.heap.size := WW.size
  have hc := valid_any A3 _ c3 b _ V1 XB.num (Nat.le_refl _) (by omega)
  rw [H2.out] at hc
  refine hc.mono ?_
  clear hc
  rintro e V2 ⟨rfl, hb⟩
  clear kXA zXA kXP zXP kXB zXB kXQ zXQ kXR zXR
  replace XA := XA.below hb
  replace XP := XP.below hb
  replace XB := XB.below hb
  replace XQ := XQ.below hb
  replace XR := XR.below hb
  replace WW := WW.trans (hb.mono WW.size)
  have kXA := XA.cell
  have zXA := XA.lt
  have kXP := XP.cell
  have zXP := XP.lt
  have kXB := XB.cell
  have zXB := XB.lt
  have kXQ := XQ.cell
  have zXQ := XQ.lt
  have kXR := XR.cell
  have zXR := XR.lt
  clear hb hbs
  go_wp2_with fail
  have hbs : w.heap.size ≤ V2.heap.size := WW.size
  have hc := modulus_any A2 _ c2 p V2 XP.num (by omega)
  rw [M1.out] at hc
  refine hc.mono ?_
  clear hc
  rintro e V3 ⟨rfl, hb⟩
  clear kXA zXA kXP zXP kXB zXB kXQ zXQ kXR zXR
  replace XA := XA.below hb
  replace XP := XP.below hb
  replace XB := XB.below hb
  replace XQ := XQ.below hb
  replace XR := XR.below hb
  replace WW := WW.trans (hb.mono WW.size)
  have kXA := XA.cell
  have zXA := XA.lt
  have kXP := XP.cell
  have zXP := XP.lt
  have kXB := XB.cell
  have zXB := XB.lt
  have kXQ := XQ.cell
  have zXQ := XQ.lt
  have kXR := XR.cell
  have zXR := XR.lt
  clear hb hbs
  go_wp2_with fail
  have hbs : w.heap.size ≤ V3.heap.size := WW.size
  have hc := modulus_any A4 _ c4 q V3 XQ.num (by omega)
  rw [M2.out] at hc
  refine hc.mono ?_
  clear hc
  rintro e V4 ⟨rfl, hb⟩
  clear kXA zXA kXP zXP kXB zXB kXQ zXQ kXR zXR
  replace XA := XA.below hb
  replace XP := XP.below hb
  replace XB := XB.below hb
  replace XQ := XQ.below hb
  replace XR := XR.below hb
  replace WW := WW.trans (hb.mono WW.size)
  have kXA := XA.cell
  have zXA := XA.lt
  have kXP := XP.cell
  have zXP := XP.lt
  have kXB := XB.cell
  have zXB := XB.lt
  have kXQ := XQ.cell
  have zXQ := XQ.lt
  have kXR := XR.cell
  have zXR := XR.lt
  clear hb hbs
  go_wp2_with fail
  have hbs : w.heap.size ≤ V4.heap.size := WW.size
  have hc := residue_any A A2 c1 c2 a p V4 XA.num XP.num (by omega) (by omega)
  rw [R1.out] at hc
  refine hc.mono ?_
  clear hc
  rintro e V5 ⟨rfl, hb⟩
  clear kXA zXA kXP zXP kXB zXB kXQ zXQ kXR zXR
  replace XA := XA.below hb
  replace XP := XP.below hb
  replace XB := XB.below hb
  replace XQ := XQ.below hb
  replace XR := XR.below hb
  replace WW := WW.trans (hb.mono WW.size)
  have kXA := XA.cell
  have zXA := XA.lt
  have kXP := XP.cell
  have zXP := XP.lt
  have kXB := XB.cell
  have zXB := XB.lt
  have kXQ := XQ.cell
  have zXQ := XQ.lt
  have kXR := XR.cell
  have zXR := XR.lt
  clear hb hbs
  go_wp2_with fail
  have hbs : w.heap.size ≤ V5.heap.size := WW.size
  have hc := residue_any A3 A4 c3 c4 b q V5 XB.num XQ.num (by omega) (by omega)
  rw [R2.out] at hc
  refine hc.mono ?_
  clear hc
  rintro e V6 ⟨rfl, hb⟩
  clear kXA zXA kXP zXP kXB zXB kXQ zXQ kXR zXR
  replace XA := XA.below hb
  replace XP := XP.below hb
  replace XB := XB.below hb
  replace XQ := XQ.below hb
  replace XR := XR.below hb
  replace WW := WW.trans (hb.mono WW.size)
  have kXA := XA.cell
  have zXA := XA.lt
  have kXP := XP.cell
  have zXP := XP.lt
  have kXB := XB.cell
  have zXB := XB.lt
  have kXQ := XQ.cell
  have zXQ := XQ.lt
  have kXR := XR.cell
  have zXR := XR.lt
  clear hb hbs
  go_wp2_with fail
  have BA := XA.1
  have BP := XP.1
  have BB := XB.1
  have BQ := XQ.1
  have BR := XR.1
  clear kXA zXA kXP zXP kXB zXB kXQ zXQ kXR zXR XA XP XB XQ XR
  apply wp_landE (R := fun g10 g11 D2 d2 D3 d3 w1 => Blk w1 (w.heap.size) 24 #[.slice A (nw a) c1] ∧ Blk w1 (w.heap.size + 1) 24 #[.slice A2 (nw p) c2] ∧ Blk w1 (w.heap.size + 1 + 1) 24 #[.slice A3 (nw b) c3] ∧ Blk w1 (w.heap.size + 1 + 1 + 1) 24 #[.slice A4 (nw q) c4] ∧ Blk w1 (w.heap.size + 1 + 1 + 1 + 1) 24 #[.slice none 0 0] ∧ Blk w1 g10 24 #[.slice D2 (nw g) d2] ∧ Blk w1 g11 24 #[.slice D3 (nw x0) d3] ∧ Below w.heap.size w w1 ∧ Val w.heap.size w1 D2 (nw g) d2 g ∧ Own w1 w.heap.size D3 (nw x0) d3 x0)
  case hreg =>
    have z5 : w.heap.size + 5 ≤ V6.heap.size := by have := BR.lt; omega
    refine wp_region_noPanic ?_
    refine wp_region_held_drew (S := (fun w' => w'.cell? ⟨w.heap.size + 1, 0, none⟩ = some (.slice A2 (nw p) c2) ∧ w'.cell? ⟨w.heap.size + 1 + 1 + 1, 0, none⟩ = some (.slice A4 (nw q) c4))) (by kernel_rfl) (⟨BP.cell0, BQ.cell0⟩) (fun hHeld => ?_)
    refine wpAnyH_name (fun W' => Blk W' (w.heap.size) 24 #[.slice A (nw a) c1] ∧ Blk W' (w.heap.size + 1) 24 #[.slice A2 (nw p) c2] ∧ Blk W' (w.heap.size + 1 + 1) 24 #[.slice A3 (nw b) c3] ∧ Blk W' (w.heap.size + 1 + 1 + 1) 24 #[.slice A4 (nw q) c4] ∧ Blk W' (w.heap.size + 1 + 1 + 1 + 1) 24 #[.slice none 0 0] ∧ Below w.heap.size w W' ∧ V6.heap.size ≤ W'.heap.size ∧ (fun w' => w'.cell? ⟨w.heap.size + 1, 0, none⟩ = some (.slice A2 (nw p) c2) ∧ w'.cell? ⟨w.heap.size + 1 + 1 + 1, 0, none⟩ = some (.slice A4 (nw q) c4)) W') (⟨BA, BP, BB, BQ, BR, WW.drew, Nat.le_refl _, hHeld⟩) ?_
    clear hHeld
    rintro W0 ⟨BA, BP, BB, BQ, BR, WW, s0, hHeld⟩
    refine wpAnyH_take (i := 0) (oi := { dst := some 52, op := Op.load 24 (Operand.tmp 5), type := 24, pos := "natmod.go:78", after := #[], guard := none }) (v := ?_) rfl (by kernel_rfl) (by kernel_rfl) (by kernel_rfl) (fun _ _ _ h => h) (Or.inl ⟨by rfl, ?_⟩) (by assumption) ?_
    rotate_left
    · (intro ws hSw; (try dsimp only at hSw); (try go_simp); (try with_reducible rfl))
    (try simp only [Act.put, List.setIfInBounds_toArray, List.set_cons_zero, List.set_cons_succ])
    refine wpAnyH_take (i := 1) (oi := { dst := some 53, op := Op.load 24 (Operand.tmp 7), type := 24, pos := "natmod.go:78", after := #[], guard := none }) (v := ?_) rfl (by kernel_rfl) (by kernel_rfl) (by kernel_rfl) (fun _ _ _ h => h) (Or.inl ⟨by rfl, ?_⟩) (by assumption) ?_
    rotate_left
    · (intro ws hSw; (try dsimp only at hSw); (try go_simp); (try with_reducible rfl))
    (try simp only [Act.put, List.setIfInBounds_toArray, List.set_cons_zero, List.set_cons_succ])
    refine wpAnyH_take (i := 3) (oi := { dst := some 55, op := Op.load 24 (Operand.tmp 7), type := 24, pos := "natmod.go:78", after := #[], guard := none }) (v := ?_) rfl (by kernel_rfl) (by kernel_rfl) (by kernel_rfl) (fun _ _ _ h => h) (Or.inl ⟨by rfl, ?_⟩) (by assumption) ?_
    rotate_left
    · (intro ws hSw; (try dsimp only at hSw); (try go_simp); (try with_reducible rfl))
    (try simp only [Act.put, List.setIfInBounds_toArray, List.set_cons_zero, List.set_cons_succ])
    refine wpAnyH_ready (rs := [2, 8, 9]) (by kernel_rfl) (by simp) ?_
    refine AllReadyH.cons (o := { dst := some 54, op := Op.call { callee := Callee.value (Operand.func 58), args := #[Operand.tmp 52, Operand.tmp 53], argTypes := #[24, 24] }, type := 24, pos := "natmod.go:78", after := #[{ on := 0, ground := Ground.data }, { on := 1, ground := Ground.data }], guard := none }) rfl (fun K hK => ?_) ?_
    · go_simp
      have hc := remainder_any A2 A4 c2 c4 p q W0 ((HP.out.below WW).more WW.size) ((HQ.out.below WW).more WW.size) (by omega) (by omega) hq0
      rw [← HT.out] at hc
      refine hc.mono ?_
      clear hc
      rintro e W1 ⟨v, rfl, ⟨D1, d1, rfl, ho⟩, hb⟩
      have O1 := ho.weak (b := w.heap.size) WW.size
      clear ho
      replace BA := BA.below hb BA.lt
      replace BP := BP.below hb BP.lt
      replace BB := BB.below hb BB.lt
      replace BQ := BQ.below hb BQ.lt
      replace BR := BR.below hb BR.lt
      have hsz := WW.size
      replace WW := WW.trans (hb.mono WW.size)
      have s1 := hb.size
      have c1 := BP.cell0
      have c2' := BQ.cell0
      clear hb hsz
      refine hK.out _ _ ⟨c1, c2'⟩ (fun hHeld2 => ?_)
      clear hK K hHeld c1 c2'
      have hHeld := hHeld2
      clear hHeld2
      (try simp only [Act.put, List.setIfInBounds_toArray, List.set_cons_zero, List.set_cons_succ])
      refine wpAnyH_ready (rs := [4, 8, 9]) (by kernel_rfl) (by simp) ?_
      refine AllReadyH.cons (o := { dst := some 56, op := Op.call { callee := Callee.value (Operand.func 66), args := #[Operand.tmp 54, Operand.tmp 55], argTypes := #[24, 24] }, type := 62, pos := "natmod.go:78", after := #[{ on := 2, ground := Ground.data }, { on := 3, ground := Ground.data }, { on := 2, ground := Ground.chain }], guard := none }) rfl (fun K hK => ?_) ?_
      · go_simp
        have va : Val w.heap.size W1 D1 (nw t) d1 t := .inr O1
        have vb : Val w.heap.size W1 A4 (nw q) c4 q := .inl (HQ.out.below WW)
        have hc := euclid_any D1 A4 d1 c4 t q W1 O1.num ((HQ.out.below WW).more WW.size) hq32 HTQ.out w.heap.size WW.size va vb
        refine hc.mono ?_
        clear hc va vb
        rintro e W2 ⟨D2, d2, u, x, rfl, V2, hu, hb, hxm, hxd⟩
        rw [← HG.out] at V2 hxd ⊢
        obtain ⟨D3, d3, rfl, ho⟩ := hu
        have O3 := ho.weak (b := w.heap.size) WW.size
        have hx := HX.out x hxm hxd
        rw [hx] at O3 ⊢
        clear ho hxm hxd hx
        replace O1 := O1.below hb (Nat.le_refl _)
        replace BA := BA.below hb BA.lt
        replace BP := BP.below hb BP.lt
        replace BB := BB.below hb BB.lt
        replace BQ := BQ.below hb BQ.lt
        replace BR := BR.below hb BR.lt
        have hsz := WW.size
        replace WW := WW.trans (hb.mono WW.size)
        have s2 := hb.size
        have c1 := BP.cell0
        have c2' := BQ.cell0
        clear hb hsz
        refine hK.out _ _ ⟨c1, c2'⟩ (fun hHeld2 => ?_)
        clear hK K hHeld c1 c2'
        have hHeld := hHeld2
        clear hHeld2
        (try simp only [Act.put, List.setIfInBounds_toArray, List.set_cons_zero, List.set_cons_succ])
        refine wpAnyH_take (i := 5) (oi := { dst := some 51, op := Op.move (Operand.tmp 56), type := 62, pos := "natmod.go:78", after := #[{ on := 4, ground := Ground.data }], guard := none }) (v := ?_) rfl (by kernel_rfl) (by kernel_rfl) (by kernel_rfl) (fun _ _ _ h => h) (Or.inl ⟨by rfl, ?_⟩) (by assumption) ?_
        rotate_left
        · (intro ws hSw; (try dsimp only at hSw); (try go_simp); (try with_reducible rfl))
        (try simp only [Act.put, List.setIfInBounds_toArray, List.set_cons_zero, List.set_cons_succ])
        refine wpAnyH_take (i := 6) (oi := { dst := some 57, op := Op.extract (Operand.tmp 51) 0, type := 24, pos := "natmod.go:78", after := #[{ on := 5, ground := Ground.data }], guard := none }) (v := ?_) rfl (by kernel_rfl) (by kernel_rfl) (by kernel_rfl) (fun _ _ _ h => h) (Or.inl ⟨by rfl, ?_⟩) (by assumption) ?_
        rotate_left
        · (intro ws hSw; (try dsimp only at hSw); (try go_simp); (try with_reducible rfl))
        (try simp only [Act.put, List.setIfInBounds_toArray, List.set_cons_zero, List.set_cons_succ])
        refine wpAnyH_take (i := 7) (oi := { dst := some 58, op := Op.extract (Operand.tmp 51) 1, type := 24, pos := "natmod.go:78", after := #[{ on := 5, ground := Ground.data }, { on := 10, ground := Ground.gcOnly Departure.lateStores }], guard := none }) (v := ?_) rfl (by kernel_rfl) (by kernel_rfl) (by kernel_rfl) (fun _ _ _ h => h) (Or.inl ⟨by rfl, ?_⟩) (by assumption) ?_
        rotate_left
        · (intro ws hSw; (try dsimp only at hSw); (try go_simp); (try with_reducible rfl))
        (try simp only [Act.put, List.setIfInBounds_toArray, List.set_cons_zero, List.set_cons_succ])
        refine wpAnyH_ready (rs := [8, 9]) (by kernel_rfl) (by simp) ?_
        refine AllReadyH.cons (o := { dst := some 10, op := Op.alloc 24, type := 0, pos := "natmod.go:78", after := #[], guard := none }) rfl (fun K hK => ?_) ?_
        · go_simp
          have ba := (Below.refl W2.heap.size W2).alloc (Nat.le_refl _) (.cells #[.slice none 0 0] 24)
          have BA' := BA.below ba BA.lt
          have BP' := BP.below ba BP.lt
          have BB' := BB.below ba BB.lt
          have BQ' := BQ.below ba BQ.lt
          have BR' := BR.below ba BR.lt
          have B10' := Blk.new W2 24 #[.slice none 0 0]
          have WW' := WW.trans (ba.mono WW.size)
          have O1' := O1.below ba (Nat.le_refl _)
          have V2' := V2.below ba WW.size
          have O3' := O3.below ba (Nat.le_refl _)
          have sz := ba.size
          have sn : W2.heap.size < (W2.alloc (.cells #[.slice none 0 0] 24)).heap.size := B10'.lt
          refine hK.out _ _ ⟨BP'.cell0, BQ'.cell0⟩ (fun hHeld2 => ?_)
          clear hK K
          (try simp only [Act.put, List.setIfInBounds_toArray, List.set_cons_zero, List.set_cons_succ])
          refine wpAnyH_name (fun W' => Blk W' (w.heap.size) 24 #[.slice A (nw a) c1] ∧ Blk W' (w.heap.size + 1) 24 #[.slice A2 (nw p) c2] ∧ Blk W' (w.heap.size + 1 + 1) 24 #[.slice A3 (nw b) c3] ∧ Blk W' (w.heap.size + 1 + 1 + 1) 24 #[.slice A4 (nw q) c4] ∧ Blk W' (w.heap.size + 1 + 1 + 1 + 1) 24 #[.slice none 0 0] ∧ Blk W' (W2.heap.size) 24 #[.slice none 0 0] ∧ Below w.heap.size w W' ∧ Own W' w.heap.size D1 (nw t) d1 t ∧ Val w.heap.size W' D2 (nw g) d2 g ∧ Own W' w.heap.size D3 (nw x0) d3 x0 ∧ W2.heap.size < W'.heap.size ∧ (fun w' => w'.cell? ⟨w.heap.size + 1, 0, none⟩ = some (.slice A2 (nw p) c2) ∧ w'.cell? ⟨w.heap.size + 1 + 1 + 1, 0, none⟩ = some (.slice A4 (nw q) c4)) W') (⟨BA', BP', BB', BQ', BR', B10', WW', O1', V2', O3', sn, hHeld2⟩) ?_
          clear hHeld2 hHeld sz sn ba BA' BP' BB' BQ' BR' B10' WW' O1' V2' O3' BA BP BB BQ BR WW O1 V2 O3
          rintro W3 ⟨BA, BP, BB, BQ, BR, B10, WW, O1, V2, O3, s3, hHeld⟩
          refine wpAnyH_ready (rs := [9]) (by kernel_rfl) (by simp) ?_
          refine AllReadyH.cons (o := { dst := some 11, op := Op.alloc 24, type := 0, pos := "natmod.go:78", after := #[], guard := none }) rfl (fun K hK => ?_) AllReadyH.nil
          · go_simp
            have ba := (Below.refl W3.heap.size W3).alloc (Nat.le_refl _) (.cells #[.slice none 0 0] 24)
            have BA' := BA.below ba BA.lt
            have BP' := BP.below ba BP.lt
            have BB' := BB.below ba BB.lt
            have BQ' := BQ.below ba BQ.lt
            have BR' := BR.below ba BR.lt
            have B10' := B10.below ba B10.lt
            have B11' := Blk.new W3 24 #[.slice none 0 0]
            have WW' := WW.trans (ba.mono WW.size)
            have O1' := O1.below ba (Nat.le_refl _)
            have V2' := V2.below ba WW.size
            have O3' := O3.below ba (Nat.le_refl _)
            have sz := ba.size
            have sn : W3.heap.size < (W3.alloc (.cells #[.slice none 0 0] 24)).heap.size := B11'.lt
            refine hK.out _ _ ⟨BP'.cell0, BQ'.cell0⟩ (fun hHeld2 => ?_)
            clear hK K
            (try simp only [Act.put, List.setIfInBounds_toArray, List.set_cons_zero, List.set_cons_succ])
            refine wpAnyH_name (fun W' => Blk W' (w.heap.size) 24 #[.slice A (nw a) c1] ∧ Blk W' (w.heap.size + 1) 24 #[.slice A2 (nw p) c2] ∧ Blk W' (w.heap.size + 1 + 1) 24 #[.slice A3 (nw b) c3] ∧ Blk W' (w.heap.size + 1 + 1 + 1) 24 #[.slice A4 (nw q) c4] ∧ Blk W' (w.heap.size + 1 + 1 + 1 + 1) 24 #[.slice none 0 0] ∧ Blk W' (W2.heap.size) 24 #[.slice none 0 0] ∧ Blk W' (W3.heap.size) 24 #[.slice none 0 0] ∧ Below w.heap.size w W' ∧ Own W' w.heap.size D1 (nw t) d1 t ∧ Val w.heap.size W' D2 (nw g) d2 g ∧ Own W' w.heap.size D3 (nw x0) d3 x0 ∧ W3.heap.size < W'.heap.size ∧ (fun w' => w'.cell? ⟨w.heap.size + 1, 0, none⟩ = some (.slice A2 (nw p) c2) ∧ w'.cell? ⟨w.heap.size + 1 + 1 + 1, 0, none⟩ = some (.slice A4 (nw q) c4)) W') (⟨BA', BP', BB', BQ', BR', B10', B11', WW', O1', V2', O3', sn, hHeld2⟩) ?_
            clear hHeld2 hHeld sz sn ba BA' BP' BB' BQ' BR' B10' B11' WW' O1' V2' O3' BA BP BB BQ BR B10 WW O1 V2 O3
            rintro W4 ⟨BA, BP, BB, BQ, BR, B10, B11, WW, O1, V2, O3, s4, hHeld⟩
            obtain ⟨g10, hg10⟩ : ∃ g, g = W2.heap.size := ⟨_, rfl⟩
            obtain ⟨g11, hg11⟩ : ∃ g, g = W3.heap.size := ⟨_, rfl⟩
            have n1 : W2.heap.size ≠ W3.heap.size := by omega
            have n2 : w.heap.size + 5 ≤ W2.heap.size := by omega
            have n3 : w.heap.size + 5 ≤ W3.heap.size := by omega
            rw [← hg10] at B10 n1 n2 ⊢
            rw [← hg11] at B11 n1 n3 ⊢
            clear hg10 hg11
            refine wpAnyH_ready (rs := [10]) (by kernel_rfl) (by simp) ?_
            refine AllReadyH.cons (o := { dst := none, op := Op.store 24 (Operand.tmp 10) (Operand.tmp 57), type := 0, pos := "natmod.go:78", after := #[{ on := 8, ground := Ground.data }, { on := 6, ground := Ground.data }, { on := 4, ground := Ground.chain }, { on := 0, ground := Ground.phase }, { on := 1, ground := Ground.phase }, { on := 2, ground := Ground.phase }, { on := 3, ground := Ground.phase }, { on := 4, ground := Ground.phase }, { on := 5, ground := Ground.phase }, { on := 6, ground := Ground.phase }, { on := 7, ground := Ground.textOnly Departure.lateStores }, { on := 8, ground := Ground.phase }, { on := 9, ground := Ground.phase }], guard := none }) rfl (fun K hK => ?_) AllReadyH.nil
            · have fz := B10.frozen 0
              have cz := B10.cell0
              go_simp
              have BA' := BA.far (p := ⟨g10, 0, none⟩) (by simp <;> omega) (.slice D2 (nw g) d2)
              have BP' := BP.far (p := ⟨g10, 0, none⟩) (by simp <;> omega) (.slice D2 (nw g) d2)
              have BB' := BB.far (p := ⟨g10, 0, none⟩) (by simp <;> omega) (.slice D2 (nw g) d2)
              have BQ' := BQ.far (p := ⟨g10, 0, none⟩) (by simp <;> omega) (.slice D2 (nw g) d2)
              have BR' := BR.far (p := ⟨g10, 0, none⟩) (by simp <;> omega) (.slice D2 (nw g) d2)
              have B11' := B11.far (p := ⟨g10, 0, none⟩) (by simp <;> omega) (.slice D2 (nw g) d2)
              have B10' := B10.set_ 0 (.slice D2 (nw g) d2)
              have WW' := WW.setCell (p := ⟨g10, 0, none⟩) (by simp <;> omega) (.slice D2 (nw g) d2)
              have V2' := V2.box (p := ⟨g10, 0, none⟩) B10 (by simp <;> omega) (.slice D2 (nw g) d2)
              have O3' := O3.box (p := ⟨g10, 0, none⟩) B10 (by decide) (.slice D2 (nw g) d2)
              refine hK.out _ _ ⟨BP'.cell0, BQ'.cell0⟩ (fun hHeld2 => ?_)
              clear hK K fz cz
              (try simp only [Act.put, List.setIfInBounds_toArray, List.set_cons_zero, List.set_cons_succ])
              refine wpAnyH_name (fun W' => Blk W' (w.heap.size) 24 #[.slice A (nw a) c1] ∧ Blk W' (w.heap.size + 1) 24 #[.slice A2 (nw p) c2] ∧ Blk W' (w.heap.size + 1 + 1) 24 #[.slice A3 (nw b) c3] ∧ Blk W' (w.heap.size + 1 + 1 + 1) 24 #[.slice A4 (nw q) c4] ∧ Blk W' (w.heap.size + 1 + 1 + 1 + 1) 24 #[.slice none 0 0] ∧ Blk W' g10 24 #[.slice D2 (nw g) d2] ∧ Blk W' g11 24 #[.slice none 0 0] ∧ Below w.heap.size w W' ∧ Val w.heap.size W' D2 (nw g) d2 g ∧ Own W' w.heap.size D3 (nw x0) d3 x0 ∧ (fun w' => w'.cell? ⟨w.heap.size + 1, 0, none⟩ = some (.slice A2 (nw p) c2) ∧ w'.cell? ⟨w.heap.size + 1 + 1 + 1, 0, none⟩ = some (.slice A4 (nw q) c4)) W') (⟨BA', BP', BB', BQ', BR', B10', B11', WW', V2', O3', hHeld2⟩) ?_
              clear hHeld2 hHeld BA' BP' BB' BQ' BR' B10' B11' WW' V2' O3' BA BP BB BQ BR B10 B11 WW V2 O3
              rintro W5 ⟨BA, BP, BB, BQ, BR, B10, B11, WW, V2, O3, hHeld⟩
              refine wpAnyH_ready (rs := [11]) (by kernel_rfl) (by simp) ?_
              refine AllReadyH.cons (o := { dst := none, op := Op.store 24 (Operand.tmp 11) (Operand.tmp 58), type := 0, pos := "natmod.go:78", after := #[{ on := 9, ground := Ground.data }, { on := 7, ground := Ground.data }, { on := 10, ground := Ground.chain }, { on := 0, ground := Ground.phase }, { on := 1, ground := Ground.phase }, { on := 2, ground := Ground.phase }, { on := 3, ground := Ground.phase }, { on := 4, ground := Ground.phase }, { on := 5, ground := Ground.phase }, { on := 6, ground := Ground.phase }, { on := 7, ground := Ground.phase }, { on := 8, ground := Ground.phase }, { on := 9, ground := Ground.phase }, { on := 10, ground := Ground.phase }], guard := none }) rfl (fun K hK => ?_) AllReadyH.nil
              · have fz := B11.frozen 0
                have cz := B11.cell0
                go_simp
                have BA' := BA.far (p := ⟨g11, 0, none⟩) (by simp <;> omega) (.slice D3 (nw x0) d3)
                have BP' := BP.far (p := ⟨g11, 0, none⟩) (by simp <;> omega) (.slice D3 (nw x0) d3)
                have BB' := BB.far (p := ⟨g11, 0, none⟩) (by simp <;> omega) (.slice D3 (nw x0) d3)
                have BQ' := BQ.far (p := ⟨g11, 0, none⟩) (by simp <;> omega) (.slice D3 (nw x0) d3)
                have BR' := BR.far (p := ⟨g11, 0, none⟩) (by simp <;> omega) (.slice D3 (nw x0) d3)
                have B10' := B10.far (p := ⟨g11, 0, none⟩) (by simp <;> omega) (.slice D3 (nw x0) d3)
                have B11' := B11.set_ 0 (.slice D3 (nw x0) d3)
                have WW' := WW.setCell (p := ⟨g11, 0, none⟩) (by simp <;> omega) (.slice D3 (nw x0) d3)
                have V2' := V2.box (p := ⟨g11, 0, none⟩) B11 (by simp <;> omega) (.slice D3 (nw x0) d3)
                have O3' := O3.box (p := ⟨g11, 0, none⟩) B11 (by decide) (.slice D3 (nw x0) d3)
                refine hK.out _ _ ⟨BP'.cell0, BQ'.cell0⟩ (fun hHeld2 => ?_)
                clear hK K fz cz
                (try simp only [Act.put, List.setIfInBounds_toArray, List.set_cons_zero, List.set_cons_succ])
                refine wpAnyH_name (fun W' => Blk W' (w.heap.size) 24 #[.slice A (nw a) c1] ∧ Blk W' (w.heap.size + 1) 24 #[.slice A2 (nw p) c2] ∧ Blk W' (w.heap.size + 1 + 1) 24 #[.slice A3 (nw b) c3] ∧ Blk W' (w.heap.size + 1 + 1 + 1) 24 #[.slice A4 (nw q) c4] ∧ Blk W' (w.heap.size + 1 + 1 + 1 + 1) 24 #[.slice none 0 0] ∧ Blk W' g10 24 #[.slice D2 (nw g) d2] ∧ Blk W' g11 24 #[.slice D3 (nw x0) d3] ∧ Below w.heap.size w W' ∧ Val w.heap.size W' D2 (nw g) d2 g ∧ Own W' w.heap.size D3 (nw x0) d3 x0 ∧ (fun w' => w'.cell? ⟨w.heap.size + 1, 0, none⟩ = some (.slice A2 (nw p) c2) ∧ w'.cell? ⟨w.heap.size + 1 + 1 + 1, 0, none⟩ = some (.slice A4 (nw q) c4)) W') (⟨BA', BP', BB', BQ', BR', B10', B11', WW', V2', O3', hHeld2⟩) ?_
                clear hHeld2 hHeld BA' BP' BB' BQ' BR' B10' B11' WW' V2' O3' BA BP BB BQ BR B10 B11 WW V2 O3
                rintro W6 ⟨BA, BP, BB, BQ, BR, B10, B11, WW, V2, O3, hHeld⟩
                refine wpAnyH_done (by kernel_rfl) ?_ _
                clear hHeld
                refine NoPanic.normal ?_
                exact ⟨rfl, g10, g11, D1, d1, D2, d2, D3, d3, rfl, BA, BP, BB, BQ, BR, B10, B11, WW, V2, O3⟩
        refine AllReadyH.cons (o := { dst := some 11, op := Op.alloc 24, type := 0, pos := "natmod.go:78", after := #[], guard := none }) rfl (fun K hK => ?_) AllReadyH.nil
        · go_simp
          have ba := (Below.refl W2.heap.size W2).alloc (Nat.le_refl _) (.cells #[.slice none 0 0] 24)
          have BA' := BA.below ba BA.lt
          have BP' := BP.below ba BP.lt
          have BB' := BB.below ba BB.lt
          have BQ' := BQ.below ba BQ.lt
          have BR' := BR.below ba BR.lt
          have B11' := Blk.new W2 24 #[.slice none 0 0]
          have WW' := WW.trans (ba.mono WW.size)
          have O1' := O1.below ba (Nat.le_refl _)
          have V2' := V2.below ba WW.size
          have O3' := O3.below ba (Nat.le_refl _)
          have sz := ba.size
          have sn : W2.heap.size < (W2.alloc (.cells #[.slice none 0 0] 24)).heap.size := B11'.lt
          refine hK.out _ _ ⟨BP'.cell0, BQ'.cell0⟩ (fun hHeld2 => ?_)
          clear hK K
          (try simp only [Act.put, List.setIfInBounds_toArray, List.set_cons_zero, List.set_cons_succ])
          refine wpAnyH_name (fun W' => Blk W' (w.heap.size) 24 #[.slice A (nw a) c1] ∧ Blk W' (w.heap.size + 1) 24 #[.slice A2 (nw p) c2] ∧ Blk W' (w.heap.size + 1 + 1) 24 #[.slice A3 (nw b) c3] ∧ Blk W' (w.heap.size + 1 + 1 + 1) 24 #[.slice A4 (nw q) c4] ∧ Blk W' (w.heap.size + 1 + 1 + 1 + 1) 24 #[.slice none 0 0] ∧ Blk W' (W2.heap.size) 24 #[.slice none 0 0] ∧ Below w.heap.size w W' ∧ Own W' w.heap.size D1 (nw t) d1 t ∧ Val w.heap.size W' D2 (nw g) d2 g ∧ Own W' w.heap.size D3 (nw x0) d3 x0 ∧ W2.heap.size < W'.heap.size ∧ (fun w' => w'.cell? ⟨w.heap.size + 1, 0, none⟩ = some (.slice A2 (nw p) c2) ∧ w'.cell? ⟨w.heap.size + 1 + 1 + 1, 0, none⟩ = some (.slice A4 (nw q) c4)) W') (⟨BA', BP', BB', BQ', BR', B11', WW', O1', V2', O3', sn, hHeld2⟩) ?_
          clear hHeld2 hHeld sz sn ba BA' BP' BB' BQ' BR' B11' WW' O1' V2' O3' BA BP BB BQ BR WW O1 V2 O3
          rintro W7 ⟨BA, BP, BB, BQ, BR, B11, WW, O1, V2, O3, s7, hHeld⟩
          refine wpAnyH_ready (rs := [8]) (by kernel_rfl) (by simp) ?_
          refine AllReadyH.cons (o := { dst := some 10, op := Op.alloc 24, type := 0, pos := "natmod.go:78", after := #[], guard := none }) rfl (fun K hK => ?_) AllReadyH.nil
          · go_simp
            have ba := (Below.refl W7.heap.size W7).alloc (Nat.le_refl _) (.cells #[.slice none 0 0] 24)
            have BA' := BA.below ba BA.lt
            have BP' := BP.below ba BP.lt
            have BB' := BB.below ba BB.lt
            have BQ' := BQ.below ba BQ.lt
            have BR' := BR.below ba BR.lt
            have B11' := B11.below ba B11.lt
            have B10' := Blk.new W7 24 #[.slice none 0 0]
            have WW' := WW.trans (ba.mono WW.size)
            have O1' := O1.below ba (Nat.le_refl _)
            have V2' := V2.below ba WW.size
            have O3' := O3.below ba (Nat.le_refl _)
            have sz := ba.size
            have sn : W7.heap.size < (W7.alloc (.cells #[.slice none 0 0] 24)).heap.size := B10'.lt
            refine hK.out _ _ ⟨BP'.cell0, BQ'.cell0⟩ (fun hHeld2 => ?_)
            clear hK K
            (try simp only [Act.put, List.setIfInBounds_toArray, List.set_cons_zero, List.set_cons_succ])
            refine wpAnyH_name (fun W' => Blk W' (w.heap.size) 24 #[.slice A (nw a) c1] ∧ Blk W' (w.heap.size + 1) 24 #[.slice A2 (nw p) c2] ∧ Blk W' (w.heap.size + 1 + 1) 24 #[.slice A3 (nw b) c3] ∧ Blk W' (w.heap.size + 1 + 1 + 1) 24 #[.slice A4 (nw q) c4] ∧ Blk W' (w.heap.size + 1 + 1 + 1 + 1) 24 #[.slice none 0 0] ∧ Blk W' (W7.heap.size) 24 #[.slice none 0 0] ∧ Blk W' (W2.heap.size) 24 #[.slice none 0 0] ∧ Below w.heap.size w W' ∧ Own W' w.heap.size D1 (nw t) d1 t ∧ Val w.heap.size W' D2 (nw g) d2 g ∧ Own W' w.heap.size D3 (nw x0) d3 x0 ∧ W7.heap.size < W'.heap.size ∧ (fun w' => w'.cell? ⟨w.heap.size + 1, 0, none⟩ = some (.slice A2 (nw p) c2) ∧ w'.cell? ⟨w.heap.size + 1 + 1 + 1, 0, none⟩ = some (.slice A4 (nw q) c4)) W') (⟨BA', BP', BB', BQ', BR', B10', B11', WW', O1', V2', O3', sn, hHeld2⟩) ?_
            clear hHeld2 hHeld sz sn ba BA' BP' BB' BQ' BR' B10' B11' WW' O1' V2' O3' BA BP BB BQ BR B11 WW O1 V2 O3
            rintro W8 ⟨BA, BP, BB, BQ, BR, B10, B11, WW, O1, V2, O3, s8, hHeld⟩
            obtain ⟨g10, hg10⟩ : ∃ g, g = W7.heap.size := ⟨_, rfl⟩
            obtain ⟨g11, hg11⟩ : ∃ g, g = W2.heap.size := ⟨_, rfl⟩
            have n1 : W7.heap.size ≠ W2.heap.size := by omega
            have n2 : w.heap.size + 5 ≤ W7.heap.size := by omega
            have n3 : w.heap.size + 5 ≤ W2.heap.size := by omega
            rw [← hg10] at B10 n1 n2 ⊢
            rw [← hg11] at B11 n1 n3 ⊢
            clear hg10 hg11
            refine wpAnyH_ready (rs := [10]) (by kernel_rfl) (by simp) ?_
            refine AllReadyH.cons (o := { dst := none, op := Op.store 24 (Operand.tmp 10) (Operand.tmp 57), type := 0, pos := "natmod.go:78", after := #[{ on := 8, ground := Ground.data }, { on := 6, ground := Ground.data }, { on := 4, ground := Ground.chain }, { on := 0, ground := Ground.phase }, { on := 1, ground := Ground.phase }, { on := 2, ground := Ground.phase }, { on := 3, ground := Ground.phase }, { on := 4, ground := Ground.phase }, { on := 5, ground := Ground.phase }, { on := 6, ground := Ground.phase }, { on := 7, ground := Ground.textOnly Departure.lateStores }, { on := 8, ground := Ground.phase }, { on := 9, ground := Ground.phase }], guard := none }) rfl (fun K hK => ?_) AllReadyH.nil
            · have fz := B10.frozen 0
              have cz := B10.cell0
              go_simp
              have BA' := BA.far (p := ⟨g10, 0, none⟩) (by simp <;> omega) (.slice D2 (nw g) d2)
              have BP' := BP.far (p := ⟨g10, 0, none⟩) (by simp <;> omega) (.slice D2 (nw g) d2)
              have BB' := BB.far (p := ⟨g10, 0, none⟩) (by simp <;> omega) (.slice D2 (nw g) d2)
              have BQ' := BQ.far (p := ⟨g10, 0, none⟩) (by simp <;> omega) (.slice D2 (nw g) d2)
              have BR' := BR.far (p := ⟨g10, 0, none⟩) (by simp <;> omega) (.slice D2 (nw g) d2)
              have B11' := B11.far (p := ⟨g10, 0, none⟩) (by simp <;> omega) (.slice D2 (nw g) d2)
              have B10' := B10.set_ 0 (.slice D2 (nw g) d2)
              have WW' := WW.setCell (p := ⟨g10, 0, none⟩) (by simp <;> omega) (.slice D2 (nw g) d2)
              have V2' := V2.box (p := ⟨g10, 0, none⟩) B10 (by simp <;> omega) (.slice D2 (nw g) d2)
              have O3' := O3.box (p := ⟨g10, 0, none⟩) B10 (by decide) (.slice D2 (nw g) d2)
              refine hK.out _ _ ⟨BP'.cell0, BQ'.cell0⟩ (fun hHeld2 => ?_)
              clear hK K fz cz
              (try simp only [Act.put, List.setIfInBounds_toArray, List.set_cons_zero, List.set_cons_succ])
              refine wpAnyH_name (fun W' => Blk W' (w.heap.size) 24 #[.slice A (nw a) c1] ∧ Blk W' (w.heap.size + 1) 24 #[.slice A2 (nw p) c2] ∧ Blk W' (w.heap.size + 1 + 1) 24 #[.slice A3 (nw b) c3] ∧ Blk W' (w.heap.size + 1 + 1 + 1) 24 #[.slice A4 (nw q) c4] ∧ Blk W' (w.heap.size + 1 + 1 + 1 + 1) 24 #[.slice none 0 0] ∧ Blk W' g10 24 #[.slice D2 (nw g) d2] ∧ Blk W' g11 24 #[.slice none 0 0] ∧ Below w.heap.size w W' ∧ Val w.heap.size W' D2 (nw g) d2 g ∧ Own W' w.heap.size D3 (nw x0) d3 x0 ∧ (fun w' => w'.cell? ⟨w.heap.size + 1, 0, none⟩ = some (.slice A2 (nw p) c2) ∧ w'.cell? ⟨w.heap.size + 1 + 1 + 1, 0, none⟩ = some (.slice A4 (nw q) c4)) W') (⟨BA', BP', BB', BQ', BR', B10', B11', WW', V2', O3', hHeld2⟩) ?_
              clear hHeld2 hHeld BA' BP' BB' BQ' BR' B10' B11' WW' V2' O3' BA BP BB BQ BR B10 B11 WW V2 O3
              rintro W9 ⟨BA, BP, BB, BQ, BR, B10, B11, WW, V2, O3, hHeld⟩
              refine wpAnyH_ready (rs := [11]) (by kernel_rfl) (by simp) ?_
              refine AllReadyH.cons (o := { dst := none, op := Op.store 24 (Operand.tmp 11) (Operand.tmp 58), type := 0, pos := "natmod.go:78", after := #[{ on := 9, ground := Ground.data }, { on := 7, ground := Ground.data }, { on := 10, ground := Ground.chain }, { on := 0, ground := Ground.phase }, { on := 1, ground := Ground.phase }, { on := 2, ground := Ground.phase }, { on := 3, ground := Ground.phase }, { on := 4, ground := Ground.phase }, { on := 5, ground := Ground.phase }, { on := 6, ground := Ground.phase }, { on := 7, ground := Ground.phase }, { on := 8, ground := Ground.phase }, { on := 9, ground := Ground.phase }, { on := 10, ground := Ground.phase }], guard := none }) rfl (fun K hK => ?_) AllReadyH.nil
              · have fz := B11.frozen 0
                have cz := B11.cell0
                go_simp
                have BA' := BA.far (p := ⟨g11, 0, none⟩) (by simp <;> omega) (.slice D3 (nw x0) d3)
                have BP' := BP.far (p := ⟨g11, 0, none⟩) (by simp <;> omega) (.slice D3 (nw x0) d3)
                have BB' := BB.far (p := ⟨g11, 0, none⟩) (by simp <;> omega) (.slice D3 (nw x0) d3)
                have BQ' := BQ.far (p := ⟨g11, 0, none⟩) (by simp <;> omega) (.slice D3 (nw x0) d3)
                have BR' := BR.far (p := ⟨g11, 0, none⟩) (by simp <;> omega) (.slice D3 (nw x0) d3)
                have B10' := B10.far (p := ⟨g11, 0, none⟩) (by simp <;> omega) (.slice D3 (nw x0) d3)
                have B11' := B11.set_ 0 (.slice D3 (nw x0) d3)
                have WW' := WW.setCell (p := ⟨g11, 0, none⟩) (by simp <;> omega) (.slice D3 (nw x0) d3)
                have V2' := V2.box (p := ⟨g11, 0, none⟩) B11 (by simp <;> omega) (.slice D3 (nw x0) d3)
                have O3' := O3.box (p := ⟨g11, 0, none⟩) B11 (by decide) (.slice D3 (nw x0) d3)
                refine hK.out _ _ ⟨BP'.cell0, BQ'.cell0⟩ (fun hHeld2 => ?_)
                clear hK K fz cz
                (try simp only [Act.put, List.setIfInBounds_toArray, List.set_cons_zero, List.set_cons_succ])
                refine wpAnyH_name (fun W' => Blk W' (w.heap.size) 24 #[.slice A (nw a) c1] ∧ Blk W' (w.heap.size + 1) 24 #[.slice A2 (nw p) c2] ∧ Blk W' (w.heap.size + 1 + 1) 24 #[.slice A3 (nw b) c3] ∧ Blk W' (w.heap.size + 1 + 1 + 1) 24 #[.slice A4 (nw q) c4] ∧ Blk W' (w.heap.size + 1 + 1 + 1 + 1) 24 #[.slice none 0 0] ∧ Blk W' g10 24 #[.slice D2 (nw g) d2] ∧ Blk W' g11 24 #[.slice D3 (nw x0) d3] ∧ Below w.heap.size w W' ∧ Val w.heap.size W' D2 (nw g) d2 g ∧ Own W' w.heap.size D3 (nw x0) d3 x0 ∧ (fun w' => w'.cell? ⟨w.heap.size + 1, 0, none⟩ = some (.slice A2 (nw p) c2) ∧ w'.cell? ⟨w.heap.size + 1 + 1 + 1, 0, none⟩ = some (.slice A4 (nw q) c4)) W') (⟨BA', BP', BB', BQ', BR', B10', B11', WW', V2', O3', hHeld2⟩) ?_
                clear hHeld2 hHeld BA' BP' BB' BQ' BR' B10' B11' WW' V2' O3' BA BP BB BQ BR B10 B11 WW V2 O3
                rintro W10 ⟨BA, BP, BB, BQ, BR, B10, B11, WW, V2, O3, hHeld⟩
                refine wpAnyH_done (by kernel_rfl) ?_ _
                clear hHeld
                refine NoPanic.normal ?_
                exact ⟨rfl, g10, g11, D1, d1, D2, d2, D3, d3, rfl, BA, BP, BB, BQ, BR, B10, B11, WW, V2, O3⟩
      refine AllReadyH.cons (o := { dst := some 10, op := Op.alloc 24, type := 0, pos := "natmod.go:78", after := #[], guard := none }) rfl (fun K hK => ?_) ?_
      · go_simp
        have ba := (Below.refl W1.heap.size W1).alloc (Nat.le_refl _) (.cells #[.slice none 0 0] 24)
        have BA' := BA.below ba BA.lt
        have BP' := BP.below ba BP.lt
        have BB' := BB.below ba BB.lt
        have BQ' := BQ.below ba BQ.lt
        have BR' := BR.below ba BR.lt
        have B10' := Blk.new W1 24 #[.slice none 0 0]
        have WW' := WW.trans (ba.mono WW.size)
        have O1' := O1.below ba (Nat.le_refl _)
        have sz := ba.size
        have sn : W1.heap.size < (W1.alloc (.cells #[.slice none 0 0] 24)).heap.size := B10'.lt
        refine hK.out _ _ ⟨BP'.cell0, BQ'.cell0⟩ (fun hHeld2 => ?_)
        clear hK K
        (try simp only [Act.put, List.setIfInBounds_toArray, List.set_cons_zero, List.set_cons_succ])
        refine wpAnyH_name (fun W' => Blk W' (w.heap.size) 24 #[.slice A (nw a) c1] ∧ Blk W' (w.heap.size + 1) 24 #[.slice A2 (nw p) c2] ∧ Blk W' (w.heap.size + 1 + 1) 24 #[.slice A3 (nw b) c3] ∧ Blk W' (w.heap.size + 1 + 1 + 1) 24 #[.slice A4 (nw q) c4] ∧ Blk W' (w.heap.size + 1 + 1 + 1 + 1) 24 #[.slice none 0 0] ∧ Blk W' (W1.heap.size) 24 #[.slice none 0 0] ∧ Below w.heap.size w W' ∧ Own W' w.heap.size D1 (nw t) d1 t ∧ W1.heap.size < W'.heap.size ∧ (fun w' => w'.cell? ⟨w.heap.size + 1, 0, none⟩ = some (.slice A2 (nw p) c2) ∧ w'.cell? ⟨w.heap.size + 1 + 1 + 1, 0, none⟩ = some (.slice A4 (nw q) c4)) W') (⟨BA', BP', BB', BQ', BR', B10', WW', O1', sn, hHeld2⟩) ?_
        clear hHeld2 hHeld sz sn ba BA' BP' BB' BQ' BR' B10' WW' O1' BA BP BB BQ BR WW O1
        rintro W11 ⟨BA, BP, BB, BQ, BR, B10, WW, O1, s11, hHeld⟩
        refine wpAnyH_ready (rs := [4, 9]) (by kernel_rfl) (by simp) ?_
        refine AllReadyH.cons (o := { dst := some 56, op := Op.call { callee := Callee.value (Operand.func 66), args := #[Operand.tmp 54, Operand.tmp 55], argTypes := #[24, 24] }, type := 62, pos := "natmod.go:78", after := #[{ on := 2, ground := Ground.data }, { on := 3, ground := Ground.data }, { on := 2, ground := Ground.chain }], guard := none }) rfl (fun K hK => ?_) ?_
        · go_simp
          have va : Val w.heap.size W11 D1 (nw t) d1 t := .inr O1
          have vb : Val w.heap.size W11 A4 (nw q) c4 q := .inl (HQ.out.below WW)
          have hc := euclid_any D1 A4 d1 c4 t q W11 O1.num ((HQ.out.below WW).more WW.size) hq32 HTQ.out w.heap.size WW.size va vb
          refine hc.mono ?_
          clear hc va vb
          rintro e W12 ⟨D2, d2, u, x, rfl, V2, hu, hb, hxm, hxd⟩
          rw [← HG.out] at V2 hxd ⊢
          obtain ⟨D3, d3, rfl, ho⟩ := hu
          have O3 := ho.weak (b := w.heap.size) WW.size
          have hx := HX.out x hxm hxd
          rw [hx] at O3 ⊢
          clear ho hxm hxd hx
          replace O1 := O1.below hb (Nat.le_refl _)
          replace BA := BA.below hb BA.lt
          replace BP := BP.below hb BP.lt
          replace BB := BB.below hb BB.lt
          replace BQ := BQ.below hb BQ.lt
          replace BR := BR.below hb BR.lt
          replace B10 := B10.below hb B10.lt
          have hsz := WW.size
          replace WW := WW.trans (hb.mono WW.size)
          have s12 := hb.size
          have c1 := BP.cell0
          have c2' := BQ.cell0
          clear hb hsz
          refine hK.out _ _ ⟨c1, c2'⟩ (fun hHeld2 => ?_)
          clear hK K hHeld c1 c2'
          have hHeld := hHeld2
          clear hHeld2
          (try simp only [Act.put, List.setIfInBounds_toArray, List.set_cons_zero, List.set_cons_succ])
          refine wpAnyH_take (i := 5) (oi := { dst := some 51, op := Op.move (Operand.tmp 56), type := 62, pos := "natmod.go:78", after := #[{ on := 4, ground := Ground.data }], guard := none }) (v := ?_) rfl (by kernel_rfl) (by kernel_rfl) (by kernel_rfl) (fun _ _ _ h => h) (Or.inl ⟨by rfl, ?_⟩) (by assumption) ?_
          rotate_left
          · (intro ws hSw; (try dsimp only at hSw); (try go_simp); (try with_reducible rfl))
          (try simp only [Act.put, List.setIfInBounds_toArray, List.set_cons_zero, List.set_cons_succ])
          refine wpAnyH_take (i := 6) (oi := { dst := some 57, op := Op.extract (Operand.tmp 51) 0, type := 24, pos := "natmod.go:78", after := #[{ on := 5, ground := Ground.data }], guard := none }) (v := ?_) rfl (by kernel_rfl) (by kernel_rfl) (by kernel_rfl) (fun _ _ _ h => h) (Or.inl ⟨by rfl, ?_⟩) (by assumption) ?_
          rotate_left
          · (intro ws hSw; (try dsimp only at hSw); (try go_simp); (try with_reducible rfl))
          (try simp only [Act.put, List.setIfInBounds_toArray, List.set_cons_zero, List.set_cons_succ])
          refine wpAnyH_take (i := 7) (oi := { dst := some 58, op := Op.extract (Operand.tmp 51) 1, type := 24, pos := "natmod.go:78", after := #[{ on := 5, ground := Ground.data }, { on := 10, ground := Ground.gcOnly Departure.lateStores }], guard := none }) (v := ?_) rfl (by kernel_rfl) (by kernel_rfl) (by kernel_rfl) (fun _ _ _ h => h) (Or.inl ⟨by rfl, ?_⟩) (by assumption) ?_
          rotate_left
          · (intro ws hSw; (try dsimp only at hSw); (try go_simp); (try with_reducible rfl))
          (try simp only [Act.put, List.setIfInBounds_toArray, List.set_cons_zero, List.set_cons_succ])
          refine wpAnyH_ready (rs := [9]) (by kernel_rfl) (by simp) ?_
          refine AllReadyH.cons (o := { dst := some 11, op := Op.alloc 24, type := 0, pos := "natmod.go:78", after := #[], guard := none }) rfl (fun K hK => ?_) AllReadyH.nil
          · go_simp
            have ba := (Below.refl W12.heap.size W12).alloc (Nat.le_refl _) (.cells #[.slice none 0 0] 24)
            have BA' := BA.below ba BA.lt
            have BP' := BP.below ba BP.lt
            have BB' := BB.below ba BB.lt
            have BQ' := BQ.below ba BQ.lt
            have BR' := BR.below ba BR.lt
            have B10' := B10.below ba B10.lt
            have B11' := Blk.new W12 24 #[.slice none 0 0]
            have WW' := WW.trans (ba.mono WW.size)
            have O1' := O1.below ba (Nat.le_refl _)
            have V2' := V2.below ba WW.size
            have O3' := O3.below ba (Nat.le_refl _)
            have sz := ba.size
            have sn : W12.heap.size < (W12.alloc (.cells #[.slice none 0 0] 24)).heap.size := B11'.lt
            refine hK.out _ _ ⟨BP'.cell0, BQ'.cell0⟩ (fun hHeld2 => ?_)
            clear hK K
            (try simp only [Act.put, List.setIfInBounds_toArray, List.set_cons_zero, List.set_cons_succ])
            refine wpAnyH_name (fun W' => Blk W' (w.heap.size) 24 #[.slice A (nw a) c1] ∧ Blk W' (w.heap.size + 1) 24 #[.slice A2 (nw p) c2] ∧ Blk W' (w.heap.size + 1 + 1) 24 #[.slice A3 (nw b) c3] ∧ Blk W' (w.heap.size + 1 + 1 + 1) 24 #[.slice A4 (nw q) c4] ∧ Blk W' (w.heap.size + 1 + 1 + 1 + 1) 24 #[.slice none 0 0] ∧ Blk W' (W1.heap.size) 24 #[.slice none 0 0] ∧ Blk W' (W12.heap.size) 24 #[.slice none 0 0] ∧ Below w.heap.size w W' ∧ Own W' w.heap.size D1 (nw t) d1 t ∧ Val w.heap.size W' D2 (nw g) d2 g ∧ Own W' w.heap.size D3 (nw x0) d3 x0 ∧ W12.heap.size < W'.heap.size ∧ (fun w' => w'.cell? ⟨w.heap.size + 1, 0, none⟩ = some (.slice A2 (nw p) c2) ∧ w'.cell? ⟨w.heap.size + 1 + 1 + 1, 0, none⟩ = some (.slice A4 (nw q) c4)) W') (⟨BA', BP', BB', BQ', BR', B10', B11', WW', O1', V2', O3', sn, hHeld2⟩) ?_
            clear hHeld2 hHeld sz sn ba BA' BP' BB' BQ' BR' B10' B11' WW' O1' V2' O3' BA BP BB BQ BR B10 WW O1 V2 O3
            rintro W13 ⟨BA, BP, BB, BQ, BR, B10, B11, WW, O1, V2, O3, s13, hHeld⟩
            obtain ⟨g10, hg10⟩ : ∃ g, g = W1.heap.size := ⟨_, rfl⟩
            obtain ⟨g11, hg11⟩ : ∃ g, g = W12.heap.size := ⟨_, rfl⟩
            have n1 : W1.heap.size ≠ W12.heap.size := by omega
            have n2 : w.heap.size + 5 ≤ W1.heap.size := by omega
            have n3 : w.heap.size + 5 ≤ W12.heap.size := by omega
            rw [← hg10] at B10 n1 n2 ⊢
            rw [← hg11] at B11 n1 n3 ⊢
            clear hg10 hg11
            refine wpAnyH_ready (rs := [10]) (by kernel_rfl) (by simp) ?_
            refine AllReadyH.cons (o := { dst := none, op := Op.store 24 (Operand.tmp 10) (Operand.tmp 57), type := 0, pos := "natmod.go:78", after := #[{ on := 8, ground := Ground.data }, { on := 6, ground := Ground.data }, { on := 4, ground := Ground.chain }, { on := 0, ground := Ground.phase }, { on := 1, ground := Ground.phase }, { on := 2, ground := Ground.phase }, { on := 3, ground := Ground.phase }, { on := 4, ground := Ground.phase }, { on := 5, ground := Ground.phase }, { on := 6, ground := Ground.phase }, { on := 7, ground := Ground.textOnly Departure.lateStores }, { on := 8, ground := Ground.phase }, { on := 9, ground := Ground.phase }], guard := none }) rfl (fun K hK => ?_) AllReadyH.nil
            · have fz := B10.frozen 0
              have cz := B10.cell0
              go_simp
              have BA' := BA.far (p := ⟨g10, 0, none⟩) (by simp <;> omega) (.slice D2 (nw g) d2)
              have BP' := BP.far (p := ⟨g10, 0, none⟩) (by simp <;> omega) (.slice D2 (nw g) d2)
              have BB' := BB.far (p := ⟨g10, 0, none⟩) (by simp <;> omega) (.slice D2 (nw g) d2)
              have BQ' := BQ.far (p := ⟨g10, 0, none⟩) (by simp <;> omega) (.slice D2 (nw g) d2)
              have BR' := BR.far (p := ⟨g10, 0, none⟩) (by simp <;> omega) (.slice D2 (nw g) d2)
              have B11' := B11.far (p := ⟨g10, 0, none⟩) (by simp <;> omega) (.slice D2 (nw g) d2)
              have B10' := B10.set_ 0 (.slice D2 (nw g) d2)
              have WW' := WW.setCell (p := ⟨g10, 0, none⟩) (by simp <;> omega) (.slice D2 (nw g) d2)
              have V2' := V2.box (p := ⟨g10, 0, none⟩) B10 (by simp <;> omega) (.slice D2 (nw g) d2)
              have O3' := O3.box (p := ⟨g10, 0, none⟩) B10 (by decide) (.slice D2 (nw g) d2)
              refine hK.out _ _ ⟨BP'.cell0, BQ'.cell0⟩ (fun hHeld2 => ?_)
              clear hK K fz cz
              (try simp only [Act.put, List.setIfInBounds_toArray, List.set_cons_zero, List.set_cons_succ])
              refine wpAnyH_name (fun W' => Blk W' (w.heap.size) 24 #[.slice A (nw a) c1] ∧ Blk W' (w.heap.size + 1) 24 #[.slice A2 (nw p) c2] ∧ Blk W' (w.heap.size + 1 + 1) 24 #[.slice A3 (nw b) c3] ∧ Blk W' (w.heap.size + 1 + 1 + 1) 24 #[.slice A4 (nw q) c4] ∧ Blk W' (w.heap.size + 1 + 1 + 1 + 1) 24 #[.slice none 0 0] ∧ Blk W' g10 24 #[.slice D2 (nw g) d2] ∧ Blk W' g11 24 #[.slice none 0 0] ∧ Below w.heap.size w W' ∧ Val w.heap.size W' D2 (nw g) d2 g ∧ Own W' w.heap.size D3 (nw x0) d3 x0 ∧ (fun w' => w'.cell? ⟨w.heap.size + 1, 0, none⟩ = some (.slice A2 (nw p) c2) ∧ w'.cell? ⟨w.heap.size + 1 + 1 + 1, 0, none⟩ = some (.slice A4 (nw q) c4)) W') (⟨BA', BP', BB', BQ', BR', B10', B11', WW', V2', O3', hHeld2⟩) ?_
              clear hHeld2 hHeld BA' BP' BB' BQ' BR' B10' B11' WW' V2' O3' BA BP BB BQ BR B10 B11 WW V2 O3
              rintro W14 ⟨BA, BP, BB, BQ, BR, B10, B11, WW, V2, O3, hHeld⟩
              refine wpAnyH_ready (rs := [11]) (by kernel_rfl) (by simp) ?_
              refine AllReadyH.cons (o := { dst := none, op := Op.store 24 (Operand.tmp 11) (Operand.tmp 58), type := 0, pos := "natmod.go:78", after := #[{ on := 9, ground := Ground.data }, { on := 7, ground := Ground.data }, { on := 10, ground := Ground.chain }, { on := 0, ground := Ground.phase }, { on := 1, ground := Ground.phase }, { on := 2, ground := Ground.phase }, { on := 3, ground := Ground.phase }, { on := 4, ground := Ground.phase }, { on := 5, ground := Ground.phase }, { on := 6, ground := Ground.phase }, { on := 7, ground := Ground.phase }, { on := 8, ground := Ground.phase }, { on := 9, ground := Ground.phase }, { on := 10, ground := Ground.phase }], guard := none }) rfl (fun K hK => ?_) AllReadyH.nil
              · have fz := B11.frozen 0
                have cz := B11.cell0
                go_simp
                have BA' := BA.far (p := ⟨g11, 0, none⟩) (by simp <;> omega) (.slice D3 (nw x0) d3)
                have BP' := BP.far (p := ⟨g11, 0, none⟩) (by simp <;> omega) (.slice D3 (nw x0) d3)
                have BB' := BB.far (p := ⟨g11, 0, none⟩) (by simp <;> omega) (.slice D3 (nw x0) d3)
                have BQ' := BQ.far (p := ⟨g11, 0, none⟩) (by simp <;> omega) (.slice D3 (nw x0) d3)
                have BR' := BR.far (p := ⟨g11, 0, none⟩) (by simp <;> omega) (.slice D3 (nw x0) d3)
                have B10' := B10.far (p := ⟨g11, 0, none⟩) (by simp <;> omega) (.slice D3 (nw x0) d3)
                have B11' := B11.set_ 0 (.slice D3 (nw x0) d3)
                have WW' := WW.setCell (p := ⟨g11, 0, none⟩) (by simp <;> omega) (.slice D3 (nw x0) d3)
                have V2' := V2.box (p := ⟨g11, 0, none⟩) B11 (by simp <;> omega) (.slice D3 (nw x0) d3)
                have O3' := O3.box (p := ⟨g11, 0, none⟩) B11 (by decide) (.slice D3 (nw x0) d3)
                refine hK.out _ _ ⟨BP'.cell0, BQ'.cell0⟩ (fun hHeld2 => ?_)
                clear hK K fz cz
                (try simp only [Act.put, List.setIfInBounds_toArray, List.set_cons_zero, List.set_cons_succ])
                refine wpAnyH_name (fun W' => Blk W' (w.heap.size) 24 #[.slice A (nw a) c1] ∧ Blk W' (w.heap.size + 1) 24 #[.slice A2 (nw p) c2] ∧ Blk W' (w.heap.size + 1 + 1) 24 #[.slice A3 (nw b) c3] ∧ Blk W' (w.heap.size + 1 + 1 + 1) 24 #[.slice A4 (nw q) c4] ∧ Blk W' (w.heap.size + 1 + 1 + 1 + 1) 24 #[.slice none 0 0] ∧ Blk W' g10 24 #[.slice D2 (nw g) d2] ∧ Blk W' g11 24 #[.slice D3 (nw x0) d3] ∧ Below w.heap.size w W' ∧ Val w.heap.size W' D2 (nw g) d2 g ∧ Own W' w.heap.size D3 (nw x0) d3 x0 ∧ (fun w' => w'.cell? ⟨w.heap.size + 1, 0, none⟩ = some (.slice A2 (nw p) c2) ∧ w'.cell? ⟨w.heap.size + 1 + 1 + 1, 0, none⟩ = some (.slice A4 (nw q) c4)) W') (⟨BA', BP', BB', BQ', BR', B10', B11', WW', V2', O3', hHeld2⟩) ?_
                clear hHeld2 hHeld BA' BP' BB' BQ' BR' B10' B11' WW' V2' O3' BA BP BB BQ BR B10 B11 WW V2 O3
                rintro W15 ⟨BA, BP, BB, BQ, BR, B10, B11, WW, V2, O3, hHeld⟩
                refine wpAnyH_done (by kernel_rfl) ?_ _
                clear hHeld
                refine NoPanic.normal ?_
                exact ⟨rfl, g10, g11, D1, d1, D2, d2, D3, d3, rfl, BA, BP, BB, BQ, BR, B10, B11, WW, V2, O3⟩
        refine AllReadyH.cons (o := { dst := some 11, op := Op.alloc 24, type := 0, pos := "natmod.go:78", after := #[], guard := none }) rfl (fun K hK => ?_) AllReadyH.nil
        · go_simp
          have ba := (Below.refl W11.heap.size W11).alloc (Nat.le_refl _) (.cells #[.slice none 0 0] 24)
          have BA' := BA.below ba BA.lt
          have BP' := BP.below ba BP.lt
          have BB' := BB.below ba BB.lt
          have BQ' := BQ.below ba BQ.lt
          have BR' := BR.below ba BR.lt
          have B10' := B10.below ba B10.lt
          have B11' := Blk.new W11 24 #[.slice none 0 0]
          have WW' := WW.trans (ba.mono WW.size)
          have O1' := O1.below ba (Nat.le_refl _)
          have sz := ba.size
          have sn : W11.heap.size < (W11.alloc (.cells #[.slice none 0 0] 24)).heap.size := B11'.lt
          refine hK.out _ _ ⟨BP'.cell0, BQ'.cell0⟩ (fun hHeld2 => ?_)
          clear hK K
          (try simp only [Act.put, List.setIfInBounds_toArray, List.set_cons_zero, List.set_cons_succ])
          refine wpAnyH_name (fun W' => Blk W' (w.heap.size) 24 #[.slice A (nw a) c1] ∧ Blk W' (w.heap.size + 1) 24 #[.slice A2 (nw p) c2] ∧ Blk W' (w.heap.size + 1 + 1) 24 #[.slice A3 (nw b) c3] ∧ Blk W' (w.heap.size + 1 + 1 + 1) 24 #[.slice A4 (nw q) c4] ∧ Blk W' (w.heap.size + 1 + 1 + 1 + 1) 24 #[.slice none 0 0] ∧ Blk W' (W1.heap.size) 24 #[.slice none 0 0] ∧ Blk W' (W11.heap.size) 24 #[.slice none 0 0] ∧ Below w.heap.size w W' ∧ Own W' w.heap.size D1 (nw t) d1 t ∧ W11.heap.size < W'.heap.size ∧ (fun w' => w'.cell? ⟨w.heap.size + 1, 0, none⟩ = some (.slice A2 (nw p) c2) ∧ w'.cell? ⟨w.heap.size + 1 + 1 + 1, 0, none⟩ = some (.slice A4 (nw q) c4)) W') (⟨BA', BP', BB', BQ', BR', B10', B11', WW', O1', sn, hHeld2⟩) ?_
          clear hHeld2 hHeld sz sn ba BA' BP' BB' BQ' BR' B10' B11' WW' O1' BA BP BB BQ BR B10 WW O1
          rintro W16 ⟨BA, BP, BB, BQ, BR, B10, B11, WW, O1, s16, hHeld⟩
          refine wpAnyH_ready (rs := [4]) (by kernel_rfl) (by simp) ?_
          refine AllReadyH.cons (o := { dst := some 56, op := Op.call { callee := Callee.value (Operand.func 66), args := #[Operand.tmp 54, Operand.tmp 55], argTypes := #[24, 24] }, type := 62, pos := "natmod.go:78", after := #[{ on := 2, ground := Ground.data }, { on := 3, ground := Ground.data }, { on := 2, ground := Ground.chain }], guard := none }) rfl (fun K hK => ?_) AllReadyH.nil
          · go_simp
            have va : Val w.heap.size W16 D1 (nw t) d1 t := .inr O1
            have vb : Val w.heap.size W16 A4 (nw q) c4 q := .inl (HQ.out.below WW)
            have hc := euclid_any D1 A4 d1 c4 t q W16 O1.num ((HQ.out.below WW).more WW.size) hq32 HTQ.out w.heap.size WW.size va vb
            refine hc.mono ?_
            clear hc va vb
            rintro e W17 ⟨D2, d2, u, x, rfl, V2, hu, hb, hxm, hxd⟩
            rw [← HG.out] at V2 hxd ⊢
            obtain ⟨D3, d3, rfl, ho⟩ := hu
            have O3 := ho.weak (b := w.heap.size) WW.size
            have hx := HX.out x hxm hxd
            rw [hx] at O3 ⊢
            clear ho hxm hxd hx
            replace O1 := O1.below hb (Nat.le_refl _)
            replace BA := BA.below hb BA.lt
            replace BP := BP.below hb BP.lt
            replace BB := BB.below hb BB.lt
            replace BQ := BQ.below hb BQ.lt
            replace BR := BR.below hb BR.lt
            replace B10 := B10.below hb B10.lt
            replace B11 := B11.below hb B11.lt
            have hsz := WW.size
            replace WW := WW.trans (hb.mono WW.size)
            have s17 := hb.size
            have c1 := BP.cell0
            have c2' := BQ.cell0
            clear hb hsz
            refine hK.out _ _ ⟨c1, c2'⟩ (fun hHeld2 => ?_)
            clear hK K hHeld c1 c2'
            have hHeld := hHeld2
            clear hHeld2
            (try simp only [Act.put, List.setIfInBounds_toArray, List.set_cons_zero, List.set_cons_succ])
            refine wpAnyH_take (i := 5) (oi := { dst := some 51, op := Op.move (Operand.tmp 56), type := 62, pos := "natmod.go:78", after := #[{ on := 4, ground := Ground.data }], guard := none }) (v := ?_) rfl (by kernel_rfl) (by kernel_rfl) (by kernel_rfl) (fun _ _ _ h => h) (Or.inl ⟨by rfl, ?_⟩) (by assumption) ?_
            rotate_left
            · (intro ws hSw; (try dsimp only at hSw); (try go_simp); (try with_reducible rfl))
            (try simp only [Act.put, List.setIfInBounds_toArray, List.set_cons_zero, List.set_cons_succ])
            refine wpAnyH_take (i := 6) (oi := { dst := some 57, op := Op.extract (Operand.tmp 51) 0, type := 24, pos := "natmod.go:78", after := #[{ on := 5, ground := Ground.data }], guard := none }) (v := ?_) rfl (by kernel_rfl) (by kernel_rfl) (by kernel_rfl) (fun _ _ _ h => h) (Or.inl ⟨by rfl, ?_⟩) (by assumption) ?_
            rotate_left
            · (intro ws hSw; (try dsimp only at hSw); (try go_simp); (try with_reducible rfl))
            (try simp only [Act.put, List.setIfInBounds_toArray, List.set_cons_zero, List.set_cons_succ])
            refine wpAnyH_take (i := 7) (oi := { dst := some 58, op := Op.extract (Operand.tmp 51) 1, type := 24, pos := "natmod.go:78", after := #[{ on := 5, ground := Ground.data }, { on := 10, ground := Ground.gcOnly Departure.lateStores }], guard := none }) (v := ?_) rfl (by kernel_rfl) (by kernel_rfl) (by kernel_rfl) (fun _ _ _ h => h) (Or.inl ⟨by rfl, ?_⟩) (by assumption) ?_
            rotate_left
            · (intro ws hSw; (try dsimp only at hSw); (try go_simp); (try with_reducible rfl))
            (try simp only [Act.put, List.setIfInBounds_toArray, List.set_cons_zero, List.set_cons_succ])
            obtain ⟨g10, hg10⟩ : ∃ g, g = W1.heap.size := ⟨_, rfl⟩
            obtain ⟨g11, hg11⟩ : ∃ g, g = W11.heap.size := ⟨_, rfl⟩
            have n1 : W1.heap.size ≠ W11.heap.size := by omega
            have n2 : w.heap.size + 5 ≤ W1.heap.size := by omega
            have n3 : w.heap.size + 5 ≤ W11.heap.size := by omega
            rw [← hg10] at B10 n1 n2 ⊢
            rw [← hg11] at B11 n1 n3 ⊢
            clear hg10 hg11
            refine wpAnyH_ready (rs := [10]) (by kernel_rfl) (by simp) ?_
            refine AllReadyH.cons (o := { dst := none, op := Op.store 24 (Operand.tmp 10) (Operand.tmp 57), type := 0, pos := "natmod.go:78", after := #[{ on := 8, ground := Ground.data }, { on := 6, ground := Ground.data }, { on := 4, ground := Ground.chain }, { on := 0, ground := Ground.phase }, { on := 1, ground := Ground.phase }, { on := 2, ground := Ground.phase }, { on := 3, ground := Ground.phase }, { on := 4, ground := Ground.phase }, { on := 5, ground := Ground.phase }, { on := 6, ground := Ground.phase }, { on := 7, ground := Ground.textOnly Departure.lateStores }, { on := 8, ground := Ground.phase }, { on := 9, ground := Ground.phase }], guard := none }) rfl (fun K hK => ?_) AllReadyH.nil
            · have fz := B10.frozen 0
              have cz := B10.cell0
              go_simp
              have BA' := BA.far (p := ⟨g10, 0, none⟩) (by simp <;> omega) (.slice D2 (nw g) d2)
              have BP' := BP.far (p := ⟨g10, 0, none⟩) (by simp <;> omega) (.slice D2 (nw g) d2)
              have BB' := BB.far (p := ⟨g10, 0, none⟩) (by simp <;> omega) (.slice D2 (nw g) d2)
              have BQ' := BQ.far (p := ⟨g10, 0, none⟩) (by simp <;> omega) (.slice D2 (nw g) d2)
              have BR' := BR.far (p := ⟨g10, 0, none⟩) (by simp <;> omega) (.slice D2 (nw g) d2)
              have B11' := B11.far (p := ⟨g10, 0, none⟩) (by simp <;> omega) (.slice D2 (nw g) d2)
              have B10' := B10.set_ 0 (.slice D2 (nw g) d2)
              have WW' := WW.setCell (p := ⟨g10, 0, none⟩) (by simp <;> omega) (.slice D2 (nw g) d2)
              have V2' := V2.box (p := ⟨g10, 0, none⟩) B10 (by simp <;> omega) (.slice D2 (nw g) d2)
              have O3' := O3.box (p := ⟨g10, 0, none⟩) B10 (by decide) (.slice D2 (nw g) d2)
              refine hK.out _ _ ⟨BP'.cell0, BQ'.cell0⟩ (fun hHeld2 => ?_)
              clear hK K fz cz
              (try simp only [Act.put, List.setIfInBounds_toArray, List.set_cons_zero, List.set_cons_succ])
              refine wpAnyH_name (fun W' => Blk W' (w.heap.size) 24 #[.slice A (nw a) c1] ∧ Blk W' (w.heap.size + 1) 24 #[.slice A2 (nw p) c2] ∧ Blk W' (w.heap.size + 1 + 1) 24 #[.slice A3 (nw b) c3] ∧ Blk W' (w.heap.size + 1 + 1 + 1) 24 #[.slice A4 (nw q) c4] ∧ Blk W' (w.heap.size + 1 + 1 + 1 + 1) 24 #[.slice none 0 0] ∧ Blk W' g10 24 #[.slice D2 (nw g) d2] ∧ Blk W' g11 24 #[.slice none 0 0] ∧ Below w.heap.size w W' ∧ Val w.heap.size W' D2 (nw g) d2 g ∧ Own W' w.heap.size D3 (nw x0) d3 x0 ∧ (fun w' => w'.cell? ⟨w.heap.size + 1, 0, none⟩ = some (.slice A2 (nw p) c2) ∧ w'.cell? ⟨w.heap.size + 1 + 1 + 1, 0, none⟩ = some (.slice A4 (nw q) c4)) W') (⟨BA', BP', BB', BQ', BR', B10', B11', WW', V2', O3', hHeld2⟩) ?_
              clear hHeld2 hHeld BA' BP' BB' BQ' BR' B10' B11' WW' V2' O3' BA BP BB BQ BR B10 B11 WW V2 O3
              rintro W18 ⟨BA, BP, BB, BQ, BR, B10, B11, WW, V2, O3, hHeld⟩
              refine wpAnyH_ready (rs := [11]) (by kernel_rfl) (by simp) ?_
              refine AllReadyH.cons (o := { dst := none, op := Op.store 24 (Operand.tmp 11) (Operand.tmp 58), type := 0, pos := "natmod.go:78", after := #[{ on := 9, ground := Ground.data }, { on := 7, ground := Ground.data }, { on := 10, ground := Ground.chain }, { on := 0, ground := Ground.phase }, { on := 1, ground := Ground.phase }, { on := 2, ground := Ground.phase }, { on := 3, ground := Ground.phase }, { on := 4, ground := Ground.phase }, { on := 5, ground := Ground.phase }, { on := 6, ground := Ground.phase }, { on := 7, ground := Ground.phase }, { on := 8, ground := Ground.phase }, { on := 9, ground := Ground.phase }, { on := 10, ground := Ground.phase }], guard := none }) rfl (fun K hK => ?_) AllReadyH.nil
              · have fz := B11.frozen 0
                have cz := B11.cell0
                go_simp
                have BA' := BA.far (p := ⟨g11, 0, none⟩) (by simp <;> omega) (.slice D3 (nw x0) d3)
                have BP' := BP.far (p := ⟨g11, 0, none⟩) (by simp <;> omega) (.slice D3 (nw x0) d3)
                have BB' := BB.far (p := ⟨g11, 0, none⟩) (by simp <;> omega) (.slice D3 (nw x0) d3)
                have BQ' := BQ.far (p := ⟨g11, 0, none⟩) (by simp <;> omega) (.slice D3 (nw x0) d3)
                have BR' := BR.far (p := ⟨g11, 0, none⟩) (by simp <;> omega) (.slice D3 (nw x0) d3)
                have B10' := B10.far (p := ⟨g11, 0, none⟩) (by simp <;> omega) (.slice D3 (nw x0) d3)
                have B11' := B11.set_ 0 (.slice D3 (nw x0) d3)
                have WW' := WW.setCell (p := ⟨g11, 0, none⟩) (by simp <;> omega) (.slice D3 (nw x0) d3)
                have V2' := V2.box (p := ⟨g11, 0, none⟩) B11 (by simp <;> omega) (.slice D3 (nw x0) d3)
                have O3' := O3.box (p := ⟨g11, 0, none⟩) B11 (by decide) (.slice D3 (nw x0) d3)
                refine hK.out _ _ ⟨BP'.cell0, BQ'.cell0⟩ (fun hHeld2 => ?_)
                clear hK K fz cz
                (try simp only [Act.put, List.setIfInBounds_toArray, List.set_cons_zero, List.set_cons_succ])
                refine wpAnyH_name (fun W' => Blk W' (w.heap.size) 24 #[.slice A (nw a) c1] ∧ Blk W' (w.heap.size + 1) 24 #[.slice A2 (nw p) c2] ∧ Blk W' (w.heap.size + 1 + 1) 24 #[.slice A3 (nw b) c3] ∧ Blk W' (w.heap.size + 1 + 1 + 1) 24 #[.slice A4 (nw q) c4] ∧ Blk W' (w.heap.size + 1 + 1 + 1 + 1) 24 #[.slice none 0 0] ∧ Blk W' g10 24 #[.slice D2 (nw g) d2] ∧ Blk W' g11 24 #[.slice D3 (nw x0) d3] ∧ Below w.heap.size w W' ∧ Val w.heap.size W' D2 (nw g) d2 g ∧ Own W' w.heap.size D3 (nw x0) d3 x0 ∧ (fun w' => w'.cell? ⟨w.heap.size + 1, 0, none⟩ = some (.slice A2 (nw p) c2) ∧ w'.cell? ⟨w.heap.size + 1 + 1 + 1, 0, none⟩ = some (.slice A4 (nw q) c4)) W') (⟨BA', BP', BB', BQ', BR', B10', B11', WW', V2', O3', hHeld2⟩) ?_
                clear hHeld2 hHeld BA' BP' BB' BQ' BR' B10' B11' WW' V2' O3' BA BP BB BQ BR B10 B11 WW V2 O3
                rintro W19 ⟨BA, BP, BB, BQ, BR, B10, B11, WW, V2, O3, hHeld⟩
                refine wpAnyH_done (by kernel_rfl) ?_ _
                clear hHeld
                refine NoPanic.normal ?_
                exact ⟨rfl, g10, g11, D1, d1, D2, d2, D3, d3, rfl, BA, BP, BB, BQ, BR, B10, B11, WW, V2, O3⟩
      refine AllReadyH.cons (o := { dst := some 11, op := Op.alloc 24, type := 0, pos := "natmod.go:78", after := #[], guard := none }) rfl (fun K hK => ?_) AllReadyH.nil
      · go_simp
        have ba := (Below.refl W1.heap.size W1).alloc (Nat.le_refl _) (.cells #[.slice none 0 0] 24)
        have BA' := BA.below ba BA.lt
        have BP' := BP.below ba BP.lt
        have BB' := BB.below ba BB.lt
        have BQ' := BQ.below ba BQ.lt
        have BR' := BR.below ba BR.lt
        have B11' := Blk.new W1 24 #[.slice none 0 0]
        have WW' := WW.trans (ba.mono WW.size)
        have O1' := O1.below ba (Nat.le_refl _)
        have sz := ba.size
        have sn : W1.heap.size < (W1.alloc (.cells #[.slice none 0 0] 24)).heap.size := B11'.lt
        refine hK.out _ _ ⟨BP'.cell0, BQ'.cell0⟩ (fun hHeld2 => ?_)
        clear hK K
        (try simp only [Act.put, List.setIfInBounds_toArray, List.set_cons_zero, List.set_cons_succ])
        refine wpAnyH_name (fun W' => Blk W' (w.heap.size) 24 #[.slice A (nw a) c1] ∧ Blk W' (w.heap.size + 1) 24 #[.slice A2 (nw p) c2] ∧ Blk W' (w.heap.size + 1 + 1) 24 #[.slice A3 (nw b) c3] ∧ Blk W' (w.heap.size + 1 + 1 + 1) 24 #[.slice A4 (nw q) c4] ∧ Blk W' (w.heap.size + 1 + 1 + 1 + 1) 24 #[.slice none 0 0] ∧ Blk W' (W1.heap.size) 24 #[.slice none 0 0] ∧ Below w.heap.size w W' ∧ Own W' w.heap.size D1 (nw t) d1 t ∧ W1.heap.size < W'.heap.size ∧ (fun w' => w'.cell? ⟨w.heap.size + 1, 0, none⟩ = some (.slice A2 (nw p) c2) ∧ w'.cell? ⟨w.heap.size + 1 + 1 + 1, 0, none⟩ = some (.slice A4 (nw q) c4)) W') (⟨BA', BP', BB', BQ', BR', B11', WW', O1', sn, hHeld2⟩) ?_
        clear hHeld2 hHeld sz sn ba BA' BP' BB' BQ' BR' B11' WW' O1' BA BP BB BQ BR WW O1
        rintro W20 ⟨BA, BP, BB, BQ, BR, B11, WW, O1, s20, hHeld⟩
        refine wpAnyH_ready (rs := [4, 8]) (by kernel_rfl) (by simp) ?_
        refine AllReadyH.cons (o := { dst := some 56, op := Op.call { callee := Callee.value (Operand.func 66), args := #[Operand.tmp 54, Operand.tmp 55], argTypes := #[24, 24] }, type := 62, pos := "natmod.go:78", after := #[{ on := 2, ground := Ground.data }, { on := 3, ground := Ground.data }, { on := 2, ground := Ground.chain }], guard := none }) rfl (fun K hK => ?_) ?_
        · go_simp
          have va : Val w.heap.size W20 D1 (nw t) d1 t := .inr O1
          have vb : Val w.heap.size W20 A4 (nw q) c4 q := .inl (HQ.out.below WW)
          have hc := euclid_any D1 A4 d1 c4 t q W20 O1.num ((HQ.out.below WW).more WW.size) hq32 HTQ.out w.heap.size WW.size va vb
          refine hc.mono ?_
          clear hc va vb
          rintro e W21 ⟨D2, d2, u, x, rfl, V2, hu, hb, hxm, hxd⟩
          rw [← HG.out] at V2 hxd ⊢
          obtain ⟨D3, d3, rfl, ho⟩ := hu
          have O3 := ho.weak (b := w.heap.size) WW.size
          have hx := HX.out x hxm hxd
          rw [hx] at O3 ⊢
          clear ho hxm hxd hx
          replace O1 := O1.below hb (Nat.le_refl _)
          replace BA := BA.below hb BA.lt
          replace BP := BP.below hb BP.lt
          replace BB := BB.below hb BB.lt
          replace BQ := BQ.below hb BQ.lt
          replace BR := BR.below hb BR.lt
          replace B11 := B11.below hb B11.lt
          have hsz := WW.size
          replace WW := WW.trans (hb.mono WW.size)
          have s21 := hb.size
          have c1 := BP.cell0
          have c2' := BQ.cell0
          clear hb hsz
          refine hK.out _ _ ⟨c1, c2'⟩ (fun hHeld2 => ?_)
          clear hK K hHeld c1 c2'
          have hHeld := hHeld2
          clear hHeld2
          (try simp only [Act.put, List.setIfInBounds_toArray, List.set_cons_zero, List.set_cons_succ])
          refine wpAnyH_take (i := 5) (oi := { dst := some 51, op := Op.move (Operand.tmp 56), type := 62, pos := "natmod.go:78", after := #[{ on := 4, ground := Ground.data }], guard := none }) (v := ?_) rfl (by kernel_rfl) (by kernel_rfl) (by kernel_rfl) (fun _ _ _ h => h) (Or.inl ⟨by rfl, ?_⟩) (by assumption) ?_
          rotate_left
          · (intro ws hSw; (try dsimp only at hSw); (try go_simp); (try with_reducible rfl))
          (try simp only [Act.put, List.setIfInBounds_toArray, List.set_cons_zero, List.set_cons_succ])
          refine wpAnyH_take (i := 6) (oi := { dst := some 57, op := Op.extract (Operand.tmp 51) 0, type := 24, pos := "natmod.go:78", after := #[{ on := 5, ground := Ground.data }], guard := none }) (v := ?_) rfl (by kernel_rfl) (by kernel_rfl) (by kernel_rfl) (fun _ _ _ h => h) (Or.inl ⟨by rfl, ?_⟩) (by assumption) ?_
          rotate_left
          · (intro ws hSw; (try dsimp only at hSw); (try go_simp); (try with_reducible rfl))
          (try simp only [Act.put, List.setIfInBounds_toArray, List.set_cons_zero, List.set_cons_succ])
          refine wpAnyH_take (i := 7) (oi := { dst := some 58, op := Op.extract (Operand.tmp 51) 1, type := 24, pos := "natmod.go:78", after := #[{ on := 5, ground := Ground.data }, { on := 10, ground := Ground.gcOnly Departure.lateStores }], guard := none }) (v := ?_) rfl (by kernel_rfl) (by kernel_rfl) (by kernel_rfl) (fun _ _ _ h => h) (Or.inl ⟨by rfl, ?_⟩) (by assumption) ?_
          rotate_left
          · (intro ws hSw; (try dsimp only at hSw); (try go_simp); (try with_reducible rfl))
          (try simp only [Act.put, List.setIfInBounds_toArray, List.set_cons_zero, List.set_cons_succ])
          refine wpAnyH_ready (rs := [8]) (by kernel_rfl) (by simp) ?_
          refine AllReadyH.cons (o := { dst := some 10, op := Op.alloc 24, type := 0, pos := "natmod.go:78", after := #[], guard := none }) rfl (fun K hK => ?_) AllReadyH.nil
          · go_simp
            have ba := (Below.refl W21.heap.size W21).alloc (Nat.le_refl _) (.cells #[.slice none 0 0] 24)
            have BA' := BA.below ba BA.lt
            have BP' := BP.below ba BP.lt
            have BB' := BB.below ba BB.lt
            have BQ' := BQ.below ba BQ.lt
            have BR' := BR.below ba BR.lt
            have B11' := B11.below ba B11.lt
            have B10' := Blk.new W21 24 #[.slice none 0 0]
            have WW' := WW.trans (ba.mono WW.size)
            have O1' := O1.below ba (Nat.le_refl _)
            have V2' := V2.below ba WW.size
            have O3' := O3.below ba (Nat.le_refl _)
            have sz := ba.size
            have sn : W21.heap.size < (W21.alloc (.cells #[.slice none 0 0] 24)).heap.size := B10'.lt
            refine hK.out _ _ ⟨BP'.cell0, BQ'.cell0⟩ (fun hHeld2 => ?_)
            clear hK K
            (try simp only [Act.put, List.setIfInBounds_toArray, List.set_cons_zero, List.set_cons_succ])
            refine wpAnyH_name (fun W' => Blk W' (w.heap.size) 24 #[.slice A (nw a) c1] ∧ Blk W' (w.heap.size + 1) 24 #[.slice A2 (nw p) c2] ∧ Blk W' (w.heap.size + 1 + 1) 24 #[.slice A3 (nw b) c3] ∧ Blk W' (w.heap.size + 1 + 1 + 1) 24 #[.slice A4 (nw q) c4] ∧ Blk W' (w.heap.size + 1 + 1 + 1 + 1) 24 #[.slice none 0 0] ∧ Blk W' (W21.heap.size) 24 #[.slice none 0 0] ∧ Blk W' (W1.heap.size) 24 #[.slice none 0 0] ∧ Below w.heap.size w W' ∧ Own W' w.heap.size D1 (nw t) d1 t ∧ Val w.heap.size W' D2 (nw g) d2 g ∧ Own W' w.heap.size D3 (nw x0) d3 x0 ∧ W21.heap.size < W'.heap.size ∧ (fun w' => w'.cell? ⟨w.heap.size + 1, 0, none⟩ = some (.slice A2 (nw p) c2) ∧ w'.cell? ⟨w.heap.size + 1 + 1 + 1, 0, none⟩ = some (.slice A4 (nw q) c4)) W') (⟨BA', BP', BB', BQ', BR', B10', B11', WW', O1', V2', O3', sn, hHeld2⟩) ?_
            clear hHeld2 hHeld sz sn ba BA' BP' BB' BQ' BR' B10' B11' WW' O1' V2' O3' BA BP BB BQ BR B11 WW O1 V2 O3
            rintro W22 ⟨BA, BP, BB, BQ, BR, B10, B11, WW, O1, V2, O3, s22, hHeld⟩
            obtain ⟨g10, hg10⟩ : ∃ g, g = W21.heap.size := ⟨_, rfl⟩
            obtain ⟨g11, hg11⟩ : ∃ g, g = W1.heap.size := ⟨_, rfl⟩
            have n1 : W21.heap.size ≠ W1.heap.size := by omega
            have n2 : w.heap.size + 5 ≤ W21.heap.size := by omega
            have n3 : w.heap.size + 5 ≤ W1.heap.size := by omega
            rw [← hg10] at B10 n1 n2 ⊢
            rw [← hg11] at B11 n1 n3 ⊢
            clear hg10 hg11
            refine wpAnyH_ready (rs := [10]) (by kernel_rfl) (by simp) ?_
            refine AllReadyH.cons (o := { dst := none, op := Op.store 24 (Operand.tmp 10) (Operand.tmp 57), type := 0, pos := "natmod.go:78", after := #[{ on := 8, ground := Ground.data }, { on := 6, ground := Ground.data }, { on := 4, ground := Ground.chain }, { on := 0, ground := Ground.phase }, { on := 1, ground := Ground.phase }, { on := 2, ground := Ground.phase }, { on := 3, ground := Ground.phase }, { on := 4, ground := Ground.phase }, { on := 5, ground := Ground.phase }, { on := 6, ground := Ground.phase }, { on := 7, ground := Ground.textOnly Departure.lateStores }, { on := 8, ground := Ground.phase }, { on := 9, ground := Ground.phase }], guard := none }) rfl (fun K hK => ?_) AllReadyH.nil
            · have fz := B10.frozen 0
              have cz := B10.cell0
              go_simp
              have BA' := BA.far (p := ⟨g10, 0, none⟩) (by simp <;> omega) (.slice D2 (nw g) d2)
              have BP' := BP.far (p := ⟨g10, 0, none⟩) (by simp <;> omega) (.slice D2 (nw g) d2)
              have BB' := BB.far (p := ⟨g10, 0, none⟩) (by simp <;> omega) (.slice D2 (nw g) d2)
              have BQ' := BQ.far (p := ⟨g10, 0, none⟩) (by simp <;> omega) (.slice D2 (nw g) d2)
              have BR' := BR.far (p := ⟨g10, 0, none⟩) (by simp <;> omega) (.slice D2 (nw g) d2)
              have B11' := B11.far (p := ⟨g10, 0, none⟩) (by simp <;> omega) (.slice D2 (nw g) d2)
              have B10' := B10.set_ 0 (.slice D2 (nw g) d2)
              have WW' := WW.setCell (p := ⟨g10, 0, none⟩) (by simp <;> omega) (.slice D2 (nw g) d2)
              have V2' := V2.box (p := ⟨g10, 0, none⟩) B10 (by simp <;> omega) (.slice D2 (nw g) d2)
              have O3' := O3.box (p := ⟨g10, 0, none⟩) B10 (by decide) (.slice D2 (nw g) d2)
              refine hK.out _ _ ⟨BP'.cell0, BQ'.cell0⟩ (fun hHeld2 => ?_)
              clear hK K fz cz
              (try simp only [Act.put, List.setIfInBounds_toArray, List.set_cons_zero, List.set_cons_succ])
              refine wpAnyH_name (fun W' => Blk W' (w.heap.size) 24 #[.slice A (nw a) c1] ∧ Blk W' (w.heap.size + 1) 24 #[.slice A2 (nw p) c2] ∧ Blk W' (w.heap.size + 1 + 1) 24 #[.slice A3 (nw b) c3] ∧ Blk W' (w.heap.size + 1 + 1 + 1) 24 #[.slice A4 (nw q) c4] ∧ Blk W' (w.heap.size + 1 + 1 + 1 + 1) 24 #[.slice none 0 0] ∧ Blk W' g10 24 #[.slice D2 (nw g) d2] ∧ Blk W' g11 24 #[.slice none 0 0] ∧ Below w.heap.size w W' ∧ Val w.heap.size W' D2 (nw g) d2 g ∧ Own W' w.heap.size D3 (nw x0) d3 x0 ∧ (fun w' => w'.cell? ⟨w.heap.size + 1, 0, none⟩ = some (.slice A2 (nw p) c2) ∧ w'.cell? ⟨w.heap.size + 1 + 1 + 1, 0, none⟩ = some (.slice A4 (nw q) c4)) W') (⟨BA', BP', BB', BQ', BR', B10', B11', WW', V2', O3', hHeld2⟩) ?_
              clear hHeld2 hHeld BA' BP' BB' BQ' BR' B10' B11' WW' V2' O3' BA BP BB BQ BR B10 B11 WW V2 O3
              rintro W23 ⟨BA, BP, BB, BQ, BR, B10, B11, WW, V2, O3, hHeld⟩
              refine wpAnyH_ready (rs := [11]) (by kernel_rfl) (by simp) ?_
              refine AllReadyH.cons (o := { dst := none, op := Op.store 24 (Operand.tmp 11) (Operand.tmp 58), type := 0, pos := "natmod.go:78", after := #[{ on := 9, ground := Ground.data }, { on := 7, ground := Ground.data }, { on := 10, ground := Ground.chain }, { on := 0, ground := Ground.phase }, { on := 1, ground := Ground.phase }, { on := 2, ground := Ground.phase }, { on := 3, ground := Ground.phase }, { on := 4, ground := Ground.phase }, { on := 5, ground := Ground.phase }, { on := 6, ground := Ground.phase }, { on := 7, ground := Ground.phase }, { on := 8, ground := Ground.phase }, { on := 9, ground := Ground.phase }, { on := 10, ground := Ground.phase }], guard := none }) rfl (fun K hK => ?_) AllReadyH.nil
              · have fz := B11.frozen 0
                have cz := B11.cell0
                go_simp
                have BA' := BA.far (p := ⟨g11, 0, none⟩) (by simp <;> omega) (.slice D3 (nw x0) d3)
                have BP' := BP.far (p := ⟨g11, 0, none⟩) (by simp <;> omega) (.slice D3 (nw x0) d3)
                have BB' := BB.far (p := ⟨g11, 0, none⟩) (by simp <;> omega) (.slice D3 (nw x0) d3)
                have BQ' := BQ.far (p := ⟨g11, 0, none⟩) (by simp <;> omega) (.slice D3 (nw x0) d3)
                have BR' := BR.far (p := ⟨g11, 0, none⟩) (by simp <;> omega) (.slice D3 (nw x0) d3)
                have B10' := B10.far (p := ⟨g11, 0, none⟩) (by simp <;> omega) (.slice D3 (nw x0) d3)
                have B11' := B11.set_ 0 (.slice D3 (nw x0) d3)
                have WW' := WW.setCell (p := ⟨g11, 0, none⟩) (by simp <;> omega) (.slice D3 (nw x0) d3)
                have V2' := V2.box (p := ⟨g11, 0, none⟩) B11 (by simp <;> omega) (.slice D3 (nw x0) d3)
                have O3' := O3.box (p := ⟨g11, 0, none⟩) B11 (by decide) (.slice D3 (nw x0) d3)
                refine hK.out _ _ ⟨BP'.cell0, BQ'.cell0⟩ (fun hHeld2 => ?_)
                clear hK K fz cz
                (try simp only [Act.put, List.setIfInBounds_toArray, List.set_cons_zero, List.set_cons_succ])
                refine wpAnyH_name (fun W' => Blk W' (w.heap.size) 24 #[.slice A (nw a) c1] ∧ Blk W' (w.heap.size + 1) 24 #[.slice A2 (nw p) c2] ∧ Blk W' (w.heap.size + 1 + 1) 24 #[.slice A3 (nw b) c3] ∧ Blk W' (w.heap.size + 1 + 1 + 1) 24 #[.slice A4 (nw q) c4] ∧ Blk W' (w.heap.size + 1 + 1 + 1 + 1) 24 #[.slice none 0 0] ∧ Blk W' g10 24 #[.slice D2 (nw g) d2] ∧ Blk W' g11 24 #[.slice D3 (nw x0) d3] ∧ Below w.heap.size w W' ∧ Val w.heap.size W' D2 (nw g) d2 g ∧ Own W' w.heap.size D3 (nw x0) d3 x0 ∧ (fun w' => w'.cell? ⟨w.heap.size + 1, 0, none⟩ = some (.slice A2 (nw p) c2) ∧ w'.cell? ⟨w.heap.size + 1 + 1 + 1, 0, none⟩ = some (.slice A4 (nw q) c4)) W') (⟨BA', BP', BB', BQ', BR', B10', B11', WW', V2', O3', hHeld2⟩) ?_
                clear hHeld2 hHeld BA' BP' BB' BQ' BR' B10' B11' WW' V2' O3' BA BP BB BQ BR B10 B11 WW V2 O3
                rintro W24 ⟨BA, BP, BB, BQ, BR, B10, B11, WW, V2, O3, hHeld⟩
                refine wpAnyH_done (by kernel_rfl) ?_ _
                clear hHeld
                refine NoPanic.normal ?_
                exact ⟨rfl, g10, g11, D1, d1, D2, d2, D3, d3, rfl, BA, BP, BB, BQ, BR, B10, B11, WW, V2, O3⟩
        refine AllReadyH.cons (o := { dst := some 10, op := Op.alloc 24, type := 0, pos := "natmod.go:78", after := #[], guard := none }) rfl (fun K hK => ?_) AllReadyH.nil
        · go_simp
          have ba := (Below.refl W20.heap.size W20).alloc (Nat.le_refl _) (.cells #[.slice none 0 0] 24)
          have BA' := BA.below ba BA.lt
          have BP' := BP.below ba BP.lt
          have BB' := BB.below ba BB.lt
          have BQ' := BQ.below ba BQ.lt
          have BR' := BR.below ba BR.lt
          have B11' := B11.below ba B11.lt
          have B10' := Blk.new W20 24 #[.slice none 0 0]
          have WW' := WW.trans (ba.mono WW.size)
          have O1' := O1.below ba (Nat.le_refl _)
          have sz := ba.size
          have sn : W20.heap.size < (W20.alloc (.cells #[.slice none 0 0] 24)).heap.size := B10'.lt
          refine hK.out _ _ ⟨BP'.cell0, BQ'.cell0⟩ (fun hHeld2 => ?_)
          clear hK K
          (try simp only [Act.put, List.setIfInBounds_toArray, List.set_cons_zero, List.set_cons_succ])
          refine wpAnyH_name (fun W' => Blk W' (w.heap.size) 24 #[.slice A (nw a) c1] ∧ Blk W' (w.heap.size + 1) 24 #[.slice A2 (nw p) c2] ∧ Blk W' (w.heap.size + 1 + 1) 24 #[.slice A3 (nw b) c3] ∧ Blk W' (w.heap.size + 1 + 1 + 1) 24 #[.slice A4 (nw q) c4] ∧ Blk W' (w.heap.size + 1 + 1 + 1 + 1) 24 #[.slice none 0 0] ∧ Blk W' (W20.heap.size) 24 #[.slice none 0 0] ∧ Blk W' (W1.heap.size) 24 #[.slice none 0 0] ∧ Below w.heap.size w W' ∧ Own W' w.heap.size D1 (nw t) d1 t ∧ W20.heap.size < W'.heap.size ∧ (fun w' => w'.cell? ⟨w.heap.size + 1, 0, none⟩ = some (.slice A2 (nw p) c2) ∧ w'.cell? ⟨w.heap.size + 1 + 1 + 1, 0, none⟩ = some (.slice A4 (nw q) c4)) W') (⟨BA', BP', BB', BQ', BR', B10', B11', WW', O1', sn, hHeld2⟩) ?_
          clear hHeld2 hHeld sz sn ba BA' BP' BB' BQ' BR' B10' B11' WW' O1' BA BP BB BQ BR B11 WW O1
          rintro W25 ⟨BA, BP, BB, BQ, BR, B10, B11, WW, O1, s25, hHeld⟩
          refine wpAnyH_ready (rs := [4]) (by kernel_rfl) (by simp) ?_
          refine AllReadyH.cons (o := { dst := some 56, op := Op.call { callee := Callee.value (Operand.func 66), args := #[Operand.tmp 54, Operand.tmp 55], argTypes := #[24, 24] }, type := 62, pos := "natmod.go:78", after := #[{ on := 2, ground := Ground.data }, { on := 3, ground := Ground.data }, { on := 2, ground := Ground.chain }], guard := none }) rfl (fun K hK => ?_) AllReadyH.nil
          · go_simp
            have va : Val w.heap.size W25 D1 (nw t) d1 t := .inr O1
            have vb : Val w.heap.size W25 A4 (nw q) c4 q := .inl (HQ.out.below WW)
            have hc := euclid_any D1 A4 d1 c4 t q W25 O1.num ((HQ.out.below WW).more WW.size) hq32 HTQ.out w.heap.size WW.size va vb
            refine hc.mono ?_
            clear hc va vb
            rintro e W26 ⟨D2, d2, u, x, rfl, V2, hu, hb, hxm, hxd⟩
            rw [← HG.out] at V2 hxd ⊢
            obtain ⟨D3, d3, rfl, ho⟩ := hu
            have O3 := ho.weak (b := w.heap.size) WW.size
            have hx := HX.out x hxm hxd
            rw [hx] at O3 ⊢
            clear ho hxm hxd hx
            replace O1 := O1.below hb (Nat.le_refl _)
            replace BA := BA.below hb BA.lt
            replace BP := BP.below hb BP.lt
            replace BB := BB.below hb BB.lt
            replace BQ := BQ.below hb BQ.lt
            replace BR := BR.below hb BR.lt
            replace B10 := B10.below hb B10.lt
            replace B11 := B11.below hb B11.lt
            have hsz := WW.size
            replace WW := WW.trans (hb.mono WW.size)
            have s26 := hb.size
            have c1 := BP.cell0
            have c2' := BQ.cell0
            clear hb hsz
            refine hK.out _ _ ⟨c1, c2'⟩ (fun hHeld2 => ?_)
            clear hK K hHeld c1 c2'
            have hHeld := hHeld2
            clear hHeld2
            (try simp only [Act.put, List.setIfInBounds_toArray, List.set_cons_zero, List.set_cons_succ])
            refine wpAnyH_take (i := 5) (oi := { dst := some 51, op := Op.move (Operand.tmp 56), type := 62, pos := "natmod.go:78", after := #[{ on := 4, ground := Ground.data }], guard := none }) (v := ?_) rfl (by kernel_rfl) (by kernel_rfl) (by kernel_rfl) (fun _ _ _ h => h) (Or.inl ⟨by rfl, ?_⟩) (by assumption) ?_
            rotate_left
            · (intro ws hSw; (try dsimp only at hSw); (try go_simp); (try with_reducible rfl))
            (try simp only [Act.put, List.setIfInBounds_toArray, List.set_cons_zero, List.set_cons_succ])
            refine wpAnyH_take (i := 6) (oi := { dst := some 57, op := Op.extract (Operand.tmp 51) 0, type := 24, pos := "natmod.go:78", after := #[{ on := 5, ground := Ground.data }], guard := none }) (v := ?_) rfl (by kernel_rfl) (by kernel_rfl) (by kernel_rfl) (fun _ _ _ h => h) (Or.inl ⟨by rfl, ?_⟩) (by assumption) ?_
            rotate_left
            · (intro ws hSw; (try dsimp only at hSw); (try go_simp); (try with_reducible rfl))
            (try simp only [Act.put, List.setIfInBounds_toArray, List.set_cons_zero, List.set_cons_succ])
            refine wpAnyH_take (i := 7) (oi := { dst := some 58, op := Op.extract (Operand.tmp 51) 1, type := 24, pos := "natmod.go:78", after := #[{ on := 5, ground := Ground.data }, { on := 10, ground := Ground.gcOnly Departure.lateStores }], guard := none }) (v := ?_) rfl (by kernel_rfl) (by kernel_rfl) (by kernel_rfl) (fun _ _ _ h => h) (Or.inl ⟨by rfl, ?_⟩) (by assumption) ?_
            rotate_left
            · (intro ws hSw; (try dsimp only at hSw); (try go_simp); (try with_reducible rfl))
            (try simp only [Act.put, List.setIfInBounds_toArray, List.set_cons_zero, List.set_cons_succ])
            obtain ⟨g10, hg10⟩ : ∃ g, g = W20.heap.size := ⟨_, rfl⟩
            obtain ⟨g11, hg11⟩ : ∃ g, g = W1.heap.size := ⟨_, rfl⟩
            have n1 : W20.heap.size ≠ W1.heap.size := by omega
            have n2 : w.heap.size + 5 ≤ W20.heap.size := by omega
            have n3 : w.heap.size + 5 ≤ W1.heap.size := by omega
            rw [← hg10] at B10 n1 n2 ⊢
            rw [← hg11] at B11 n1 n3 ⊢
            clear hg10 hg11
            refine wpAnyH_ready (rs := [10]) (by kernel_rfl) (by simp) ?_
            refine AllReadyH.cons (o := { dst := none, op := Op.store 24 (Operand.tmp 10) (Operand.tmp 57), type := 0, pos := "natmod.go:78", after := #[{ on := 8, ground := Ground.data }, { on := 6, ground := Ground.data }, { on := 4, ground := Ground.chain }, { on := 0, ground := Ground.phase }, { on := 1, ground := Ground.phase }, { on := 2, ground := Ground.phase }, { on := 3, ground := Ground.phase }, { on := 4, ground := Ground.phase }, { on := 5, ground := Ground.phase }, { on := 6, ground := Ground.phase }, { on := 7, ground := Ground.textOnly Departure.lateStores }, { on := 8, ground := Ground.phase }, { on := 9, ground := Ground.phase }], guard := none }) rfl (fun K hK => ?_) AllReadyH.nil
            · have fz := B10.frozen 0
              have cz := B10.cell0
              go_simp
              have BA' := BA.far (p := ⟨g10, 0, none⟩) (by simp <;> omega) (.slice D2 (nw g) d2)
              have BP' := BP.far (p := ⟨g10, 0, none⟩) (by simp <;> omega) (.slice D2 (nw g) d2)
              have BB' := BB.far (p := ⟨g10, 0, none⟩) (by simp <;> omega) (.slice D2 (nw g) d2)
              have BQ' := BQ.far (p := ⟨g10, 0, none⟩) (by simp <;> omega) (.slice D2 (nw g) d2)
              have BR' := BR.far (p := ⟨g10, 0, none⟩) (by simp <;> omega) (.slice D2 (nw g) d2)
              have B11' := B11.far (p := ⟨g10, 0, none⟩) (by simp <;> omega) (.slice D2 (nw g) d2)
              have B10' := B10.set_ 0 (.slice D2 (nw g) d2)
              have WW' := WW.setCell (p := ⟨g10, 0, none⟩) (by simp <;> omega) (.slice D2 (nw g) d2)
              have V2' := V2.box (p := ⟨g10, 0, none⟩) B10 (by simp <;> omega) (.slice D2 (nw g) d2)
              have O3' := O3.box (p := ⟨g10, 0, none⟩) B10 (by decide) (.slice D2 (nw g) d2)
              refine hK.out _ _ ⟨BP'.cell0, BQ'.cell0⟩ (fun hHeld2 => ?_)
              clear hK K fz cz
              (try simp only [Act.put, List.setIfInBounds_toArray, List.set_cons_zero, List.set_cons_succ])
              refine wpAnyH_name (fun W' => Blk W' (w.heap.size) 24 #[.slice A (nw a) c1] ∧ Blk W' (w.heap.size + 1) 24 #[.slice A2 (nw p) c2] ∧ Blk W' (w.heap.size + 1 + 1) 24 #[.slice A3 (nw b) c3] ∧ Blk W' (w.heap.size + 1 + 1 + 1) 24 #[.slice A4 (nw q) c4] ∧ Blk W' (w.heap.size + 1 + 1 + 1 + 1) 24 #[.slice none 0 0] ∧ Blk W' g10 24 #[.slice D2 (nw g) d2] ∧ Blk W' g11 24 #[.slice none 0 0] ∧ Below w.heap.size w W' ∧ Val w.heap.size W' D2 (nw g) d2 g ∧ Own W' w.heap.size D3 (nw x0) d3 x0 ∧ (fun w' => w'.cell? ⟨w.heap.size + 1, 0, none⟩ = some (.slice A2 (nw p) c2) ∧ w'.cell? ⟨w.heap.size + 1 + 1 + 1, 0, none⟩ = some (.slice A4 (nw q) c4)) W') (⟨BA', BP', BB', BQ', BR', B10', B11', WW', V2', O3', hHeld2⟩) ?_
              clear hHeld2 hHeld BA' BP' BB' BQ' BR' B10' B11' WW' V2' O3' BA BP BB BQ BR B10 B11 WW V2 O3
              rintro W27 ⟨BA, BP, BB, BQ, BR, B10, B11, WW, V2, O3, hHeld⟩
              refine wpAnyH_ready (rs := [11]) (by kernel_rfl) (by simp) ?_
              refine AllReadyH.cons (o := { dst := none, op := Op.store 24 (Operand.tmp 11) (Operand.tmp 58), type := 0, pos := "natmod.go:78", after := #[{ on := 9, ground := Ground.data }, { on := 7, ground := Ground.data }, { on := 10, ground := Ground.chain }, { on := 0, ground := Ground.phase }, { on := 1, ground := Ground.phase }, { on := 2, ground := Ground.phase }, { on := 3, ground := Ground.phase }, { on := 4, ground := Ground.phase }, { on := 5, ground := Ground.phase }, { on := 6, ground := Ground.phase }, { on := 7, ground := Ground.phase }, { on := 8, ground := Ground.phase }, { on := 9, ground := Ground.phase }, { on := 10, ground := Ground.phase }], guard := none }) rfl (fun K hK => ?_) AllReadyH.nil
              · have fz := B11.frozen 0
                have cz := B11.cell0
                go_simp
                have BA' := BA.far (p := ⟨g11, 0, none⟩) (by simp <;> omega) (.slice D3 (nw x0) d3)
                have BP' := BP.far (p := ⟨g11, 0, none⟩) (by simp <;> omega) (.slice D3 (nw x0) d3)
                have BB' := BB.far (p := ⟨g11, 0, none⟩) (by simp <;> omega) (.slice D3 (nw x0) d3)
                have BQ' := BQ.far (p := ⟨g11, 0, none⟩) (by simp <;> omega) (.slice D3 (nw x0) d3)
                have BR' := BR.far (p := ⟨g11, 0, none⟩) (by simp <;> omega) (.slice D3 (nw x0) d3)
                have B10' := B10.far (p := ⟨g11, 0, none⟩) (by simp <;> omega) (.slice D3 (nw x0) d3)
                have B11' := B11.set_ 0 (.slice D3 (nw x0) d3)
                have WW' := WW.setCell (p := ⟨g11, 0, none⟩) (by simp <;> omega) (.slice D3 (nw x0) d3)
                have V2' := V2.box (p := ⟨g11, 0, none⟩) B11 (by simp <;> omega) (.slice D3 (nw x0) d3)
                have O3' := O3.box (p := ⟨g11, 0, none⟩) B11 (by decide) (.slice D3 (nw x0) d3)
                refine hK.out _ _ ⟨BP'.cell0, BQ'.cell0⟩ (fun hHeld2 => ?_)
                clear hK K fz cz
                (try simp only [Act.put, List.setIfInBounds_toArray, List.set_cons_zero, List.set_cons_succ])
                refine wpAnyH_name (fun W' => Blk W' (w.heap.size) 24 #[.slice A (nw a) c1] ∧ Blk W' (w.heap.size + 1) 24 #[.slice A2 (nw p) c2] ∧ Blk W' (w.heap.size + 1 + 1) 24 #[.slice A3 (nw b) c3] ∧ Blk W' (w.heap.size + 1 + 1 + 1) 24 #[.slice A4 (nw q) c4] ∧ Blk W' (w.heap.size + 1 + 1 + 1 + 1) 24 #[.slice none 0 0] ∧ Blk W' g10 24 #[.slice D2 (nw g) d2] ∧ Blk W' g11 24 #[.slice D3 (nw x0) d3] ∧ Below w.heap.size w W' ∧ Val w.heap.size W' D2 (nw g) d2 g ∧ Own W' w.heap.size D3 (nw x0) d3 x0 ∧ (fun w' => w'.cell? ⟨w.heap.size + 1, 0, none⟩ = some (.slice A2 (nw p) c2) ∧ w'.cell? ⟨w.heap.size + 1 + 1 + 1, 0, none⟩ = some (.slice A4 (nw q) c4)) W') (⟨BA', BP', BB', BQ', BR', B10', B11', WW', V2', O3', hHeld2⟩) ?_
                clear hHeld2 hHeld BA' BP' BB' BQ' BR' B10' B11' WW' V2' O3' BA BP BB BQ BR B10 B11 WW V2 O3
                rintro W28 ⟨BA, BP, BB, BQ, BR, B10, B11, WW, V2, O3, hHeld⟩
                refine wpAnyH_done (by kernel_rfl) ?_ _
                clear hHeld
                refine NoPanic.normal ?_
                exact ⟨rfl, g10, g11, D1, d1, D2, d2, D3, d3, rfl, BA, BP, BB, BQ, BR, B10, B11, WW, V2, O3⟩
    refine AllReadyH.cons (o := { dst := some 10, op := Op.alloc 24, type := 0, pos := "natmod.go:78", after := #[], guard := none }) rfl (fun K hK => ?_) ?_
    · go_simp
      have ba := (Below.refl W0.heap.size W0).alloc (Nat.le_refl _) (.cells #[.slice none 0 0] 24)
      have BA' := BA.below ba BA.lt
      have BP' := BP.below ba BP.lt
      have BB' := BB.below ba BB.lt
      have BQ' := BQ.below ba BQ.lt
      have BR' := BR.below ba BR.lt
      have B10' := Blk.new W0 24 #[.slice none 0 0]
      have WW' := WW.trans (ba.mono WW.size)
      have sz := ba.size
      have sn : W0.heap.size < (W0.alloc (.cells #[.slice none 0 0] 24)).heap.size := B10'.lt
      refine hK.out _ _ ⟨BP'.cell0, BQ'.cell0⟩ (fun hHeld2 => ?_)
      clear hK K
      (try simp only [Act.put, List.setIfInBounds_toArray, List.set_cons_zero, List.set_cons_succ])
      refine wpAnyH_name (fun W' => Blk W' (w.heap.size) 24 #[.slice A (nw a) c1] ∧ Blk W' (w.heap.size + 1) 24 #[.slice A2 (nw p) c2] ∧ Blk W' (w.heap.size + 1 + 1) 24 #[.slice A3 (nw b) c3] ∧ Blk W' (w.heap.size + 1 + 1 + 1) 24 #[.slice A4 (nw q) c4] ∧ Blk W' (w.heap.size + 1 + 1 + 1 + 1) 24 #[.slice none 0 0] ∧ Blk W' (W0.heap.size) 24 #[.slice none 0 0] ∧ Below w.heap.size w W' ∧ W0.heap.size < W'.heap.size ∧ (fun w' => w'.cell? ⟨w.heap.size + 1, 0, none⟩ = some (.slice A2 (nw p) c2) ∧ w'.cell? ⟨w.heap.size + 1 + 1 + 1, 0, none⟩ = some (.slice A4 (nw q) c4)) W') (⟨BA', BP', BB', BQ', BR', B10', WW', sn, hHeld2⟩) ?_
      clear hHeld2 hHeld sz sn ba BA' BP' BB' BQ' BR' B10' WW' BA BP BB BQ BR WW
      rintro W29 ⟨BA, BP, BB, BQ, BR, B10, WW, s29, hHeld⟩
      refine wpAnyH_ready (rs := [2, 9]) (by kernel_rfl) (by simp) ?_
      refine AllReadyH.cons (o := { dst := some 54, op := Op.call { callee := Callee.value (Operand.func 58), args := #[Operand.tmp 52, Operand.tmp 53], argTypes := #[24, 24] }, type := 24, pos := "natmod.go:78", after := #[{ on := 0, ground := Ground.data }, { on := 1, ground := Ground.data }], guard := none }) rfl (fun K hK => ?_) ?_
      · go_simp
        have hc := remainder_any A2 A4 c2 c4 p q W29 ((HP.out.below WW).more WW.size) ((HQ.out.below WW).more WW.size) (by omega) (by omega) hq0
        rw [← HT.out] at hc
        refine hc.mono ?_
        clear hc
        rintro e W30 ⟨v, rfl, ⟨D1, d1, rfl, ho⟩, hb⟩
        have O1 := ho.weak (b := w.heap.size) WW.size
        clear ho
        replace BA := BA.below hb BA.lt
        replace BP := BP.below hb BP.lt
        replace BB := BB.below hb BB.lt
        replace BQ := BQ.below hb BQ.lt
        replace BR := BR.below hb BR.lt
        replace B10 := B10.below hb B10.lt
        have hsz := WW.size
        replace WW := WW.trans (hb.mono WW.size)
        have s30 := hb.size
        have c1 := BP.cell0
        have c2' := BQ.cell0
        clear hb hsz
        refine hK.out _ _ ⟨c1, c2'⟩ (fun hHeld2 => ?_)
        clear hK K hHeld c1 c2'
        have hHeld := hHeld2
        clear hHeld2
        (try simp only [Act.put, List.setIfInBounds_toArray, List.set_cons_zero, List.set_cons_succ])
        refine wpAnyH_ready (rs := [4, 9]) (by kernel_rfl) (by simp) ?_
        refine AllReadyH.cons (o := { dst := some 56, op := Op.call { callee := Callee.value (Operand.func 66), args := #[Operand.tmp 54, Operand.tmp 55], argTypes := #[24, 24] }, type := 62, pos := "natmod.go:78", after := #[{ on := 2, ground := Ground.data }, { on := 3, ground := Ground.data }, { on := 2, ground := Ground.chain }], guard := none }) rfl (fun K hK => ?_) ?_
        · go_simp
          have va : Val w.heap.size W30 D1 (nw t) d1 t := .inr O1
          have vb : Val w.heap.size W30 A4 (nw q) c4 q := .inl (HQ.out.below WW)
          have hc := euclid_any D1 A4 d1 c4 t q W30 O1.num ((HQ.out.below WW).more WW.size) hq32 HTQ.out w.heap.size WW.size va vb
          refine hc.mono ?_
          clear hc va vb
          rintro e W31 ⟨D2, d2, u, x, rfl, V2, hu, hb, hxm, hxd⟩
          rw [← HG.out] at V2 hxd ⊢
          obtain ⟨D3, d3, rfl, ho⟩ := hu
          have O3 := ho.weak (b := w.heap.size) WW.size
          have hx := HX.out x hxm hxd
          rw [hx] at O3 ⊢
          clear ho hxm hxd hx
          replace O1 := O1.below hb (Nat.le_refl _)
          replace BA := BA.below hb BA.lt
          replace BP := BP.below hb BP.lt
          replace BB := BB.below hb BB.lt
          replace BQ := BQ.below hb BQ.lt
          replace BR := BR.below hb BR.lt
          replace B10 := B10.below hb B10.lt
          have hsz := WW.size
          replace WW := WW.trans (hb.mono WW.size)
          have s31 := hb.size
          have c1 := BP.cell0
          have c2' := BQ.cell0
          clear hb hsz
          refine hK.out _ _ ⟨c1, c2'⟩ (fun hHeld2 => ?_)
          clear hK K hHeld c1 c2'
          have hHeld := hHeld2
          clear hHeld2
          (try simp only [Act.put, List.setIfInBounds_toArray, List.set_cons_zero, List.set_cons_succ])
          refine wpAnyH_take (i := 5) (oi := { dst := some 51, op := Op.move (Operand.tmp 56), type := 62, pos := "natmod.go:78", after := #[{ on := 4, ground := Ground.data }], guard := none }) (v := ?_) rfl (by kernel_rfl) (by kernel_rfl) (by kernel_rfl) (fun _ _ _ h => h) (Or.inl ⟨by rfl, ?_⟩) (by assumption) ?_
          rotate_left
          · (intro ws hSw; (try dsimp only at hSw); (try go_simp); (try with_reducible rfl))
          (try simp only [Act.put, List.setIfInBounds_toArray, List.set_cons_zero, List.set_cons_succ])
          refine wpAnyH_take (i := 6) (oi := { dst := some 57, op := Op.extract (Operand.tmp 51) 0, type := 24, pos := "natmod.go:78", after := #[{ on := 5, ground := Ground.data }], guard := none }) (v := ?_) rfl (by kernel_rfl) (by kernel_rfl) (by kernel_rfl) (fun _ _ _ h => h) (Or.inl ⟨by rfl, ?_⟩) (by assumption) ?_
          rotate_left
          · (intro ws hSw; (try dsimp only at hSw); (try go_simp); (try with_reducible rfl))
          (try simp only [Act.put, List.setIfInBounds_toArray, List.set_cons_zero, List.set_cons_succ])
          refine wpAnyH_take (i := 7) (oi := { dst := some 58, op := Op.extract (Operand.tmp 51) 1, type := 24, pos := "natmod.go:78", after := #[{ on := 5, ground := Ground.data }, { on := 10, ground := Ground.gcOnly Departure.lateStores }], guard := none }) (v := ?_) rfl (by kernel_rfl) (by kernel_rfl) (by kernel_rfl) (fun _ _ _ h => h) (Or.inl ⟨by rfl, ?_⟩) (by assumption) ?_
          rotate_left
          · (intro ws hSw; (try dsimp only at hSw); (try go_simp); (try with_reducible rfl))
          (try simp only [Act.put, List.setIfInBounds_toArray, List.set_cons_zero, List.set_cons_succ])
          refine wpAnyH_ready (rs := [9]) (by kernel_rfl) (by simp) ?_
          refine AllReadyH.cons (o := { dst := some 11, op := Op.alloc 24, type := 0, pos := "natmod.go:78", after := #[], guard := none }) rfl (fun K hK => ?_) AllReadyH.nil
          · go_simp
            have ba := (Below.refl W31.heap.size W31).alloc (Nat.le_refl _) (.cells #[.slice none 0 0] 24)
            have BA' := BA.below ba BA.lt
            have BP' := BP.below ba BP.lt
            have BB' := BB.below ba BB.lt
            have BQ' := BQ.below ba BQ.lt
            have BR' := BR.below ba BR.lt
            have B10' := B10.below ba B10.lt
            have B11' := Blk.new W31 24 #[.slice none 0 0]
            have WW' := WW.trans (ba.mono WW.size)
            have O1' := O1.below ba (Nat.le_refl _)
            have V2' := V2.below ba WW.size
            have O3' := O3.below ba (Nat.le_refl _)
            have sz := ba.size
            have sn : W31.heap.size < (W31.alloc (.cells #[.slice none 0 0] 24)).heap.size := B11'.lt
            refine hK.out _ _ ⟨BP'.cell0, BQ'.cell0⟩ (fun hHeld2 => ?_)
            clear hK K
            (try simp only [Act.put, List.setIfInBounds_toArray, List.set_cons_zero, List.set_cons_succ])
            refine wpAnyH_name (fun W' => Blk W' (w.heap.size) 24 #[.slice A (nw a) c1] ∧ Blk W' (w.heap.size + 1) 24 #[.slice A2 (nw p) c2] ∧ Blk W' (w.heap.size + 1 + 1) 24 #[.slice A3 (nw b) c3] ∧ Blk W' (w.heap.size + 1 + 1 + 1) 24 #[.slice A4 (nw q) c4] ∧ Blk W' (w.heap.size + 1 + 1 + 1 + 1) 24 #[.slice none 0 0] ∧ Blk W' (W0.heap.size) 24 #[.slice none 0 0] ∧ Blk W' (W31.heap.size) 24 #[.slice none 0 0] ∧ Below w.heap.size w W' ∧ Own W' w.heap.size D1 (nw t) d1 t ∧ Val w.heap.size W' D2 (nw g) d2 g ∧ Own W' w.heap.size D3 (nw x0) d3 x0 ∧ W31.heap.size < W'.heap.size ∧ (fun w' => w'.cell? ⟨w.heap.size + 1, 0, none⟩ = some (.slice A2 (nw p) c2) ∧ w'.cell? ⟨w.heap.size + 1 + 1 + 1, 0, none⟩ = some (.slice A4 (nw q) c4)) W') (⟨BA', BP', BB', BQ', BR', B10', B11', WW', O1', V2', O3', sn, hHeld2⟩) ?_
            clear hHeld2 hHeld sz sn ba BA' BP' BB' BQ' BR' B10' B11' WW' O1' V2' O3' BA BP BB BQ BR B10 WW O1 V2 O3
            rintro W32 ⟨BA, BP, BB, BQ, BR, B10, B11, WW, O1, V2, O3, s32, hHeld⟩
            obtain ⟨g10, hg10⟩ : ∃ g, g = W0.heap.size := ⟨_, rfl⟩
            obtain ⟨g11, hg11⟩ : ∃ g, g = W31.heap.size := ⟨_, rfl⟩
            have n1 : W0.heap.size ≠ W31.heap.size := by omega
            have n2 : w.heap.size + 5 ≤ W0.heap.size := by omega
            have n3 : w.heap.size + 5 ≤ W31.heap.size := by omega
            rw [← hg10] at B10 n1 n2 ⊢
            rw [← hg11] at B11 n1 n3 ⊢
            clear hg10 hg11
            refine wpAnyH_ready (rs := [10]) (by kernel_rfl) (by simp) ?_
            refine AllReadyH.cons (o := { dst := none, op := Op.store 24 (Operand.tmp 10) (Operand.tmp 57), type := 0, pos := "natmod.go:78", after := #[{ on := 8, ground := Ground.data }, { on := 6, ground := Ground.data }, { on := 4, ground := Ground.chain }, { on := 0, ground := Ground.phase }, { on := 1, ground := Ground.phase }, { on := 2, ground := Ground.phase }, { on := 3, ground := Ground.phase }, { on := 4, ground := Ground.phase }, { on := 5, ground := Ground.phase }, { on := 6, ground := Ground.phase }, { on := 7, ground := Ground.textOnly Departure.lateStores }, { on := 8, ground := Ground.phase }, { on := 9, ground := Ground.phase }], guard := none }) rfl (fun K hK => ?_) AllReadyH.nil
            · have fz := B10.frozen 0
              have cz := B10.cell0
              go_simp
              have BA' := BA.far (p := ⟨g10, 0, none⟩) (by simp <;> omega) (.slice D2 (nw g) d2)
              have BP' := BP.far (p := ⟨g10, 0, none⟩) (by simp <;> omega) (.slice D2 (nw g) d2)
              have BB' := BB.far (p := ⟨g10, 0, none⟩) (by simp <;> omega) (.slice D2 (nw g) d2)
              have BQ' := BQ.far (p := ⟨g10, 0, none⟩) (by simp <;> omega) (.slice D2 (nw g) d2)
              have BR' := BR.far (p := ⟨g10, 0, none⟩) (by simp <;> omega) (.slice D2 (nw g) d2)
              have B11' := B11.far (p := ⟨g10, 0, none⟩) (by simp <;> omega) (.slice D2 (nw g) d2)
              have B10' := B10.set_ 0 (.slice D2 (nw g) d2)
              have WW' := WW.setCell (p := ⟨g10, 0, none⟩) (by simp <;> omega) (.slice D2 (nw g) d2)
              have V2' := V2.box (p := ⟨g10, 0, none⟩) B10 (by simp <;> omega) (.slice D2 (nw g) d2)
              have O3' := O3.box (p := ⟨g10, 0, none⟩) B10 (by decide) (.slice D2 (nw g) d2)
              refine hK.out _ _ ⟨BP'.cell0, BQ'.cell0⟩ (fun hHeld2 => ?_)
              clear hK K fz cz
              (try simp only [Act.put, List.setIfInBounds_toArray, List.set_cons_zero, List.set_cons_succ])
              refine wpAnyH_name (fun W' => Blk W' (w.heap.size) 24 #[.slice A (nw a) c1] ∧ Blk W' (w.heap.size + 1) 24 #[.slice A2 (nw p) c2] ∧ Blk W' (w.heap.size + 1 + 1) 24 #[.slice A3 (nw b) c3] ∧ Blk W' (w.heap.size + 1 + 1 + 1) 24 #[.slice A4 (nw q) c4] ∧ Blk W' (w.heap.size + 1 + 1 + 1 + 1) 24 #[.slice none 0 0] ∧ Blk W' g10 24 #[.slice D2 (nw g) d2] ∧ Blk W' g11 24 #[.slice none 0 0] ∧ Below w.heap.size w W' ∧ Val w.heap.size W' D2 (nw g) d2 g ∧ Own W' w.heap.size D3 (nw x0) d3 x0 ∧ (fun w' => w'.cell? ⟨w.heap.size + 1, 0, none⟩ = some (.slice A2 (nw p) c2) ∧ w'.cell? ⟨w.heap.size + 1 + 1 + 1, 0, none⟩ = some (.slice A4 (nw q) c4)) W') (⟨BA', BP', BB', BQ', BR', B10', B11', WW', V2', O3', hHeld2⟩) ?_
              clear hHeld2 hHeld BA' BP' BB' BQ' BR' B10' B11' WW' V2' O3' BA BP BB BQ BR B10 B11 WW V2 O3
              rintro W33 ⟨BA, BP, BB, BQ, BR, B10, B11, WW, V2, O3, hHeld⟩
              refine wpAnyH_ready (rs := [11]) (by kernel_rfl) (by simp) ?_
              refine AllReadyH.cons (o := { dst := none, op := Op.store 24 (Operand.tmp 11) (Operand.tmp 58), type := 0, pos := "natmod.go:78", after := #[{ on := 9, ground := Ground.data }, { on := 7, ground := Ground.data }, { on := 10, ground := Ground.chain }, { on := 0, ground := Ground.phase }, { on := 1, ground := Ground.phase }, { on := 2, ground := Ground.phase }, { on := 3, ground := Ground.phase }, { on := 4, ground := Ground.phase }, { on := 5, ground := Ground.phase }, { on := 6, ground := Ground.phase }, { on := 7, ground := Ground.phase }, { on := 8, ground := Ground.phase }, { on := 9, ground := Ground.phase }, { on := 10, ground := Ground.phase }], guard := none }) rfl (fun K hK => ?_) AllReadyH.nil
              · have fz := B11.frozen 0
                have cz := B11.cell0
                go_simp
                have BA' := BA.far (p := ⟨g11, 0, none⟩) (by simp <;> omega) (.slice D3 (nw x0) d3)
                have BP' := BP.far (p := ⟨g11, 0, none⟩) (by simp <;> omega) (.slice D3 (nw x0) d3)
                have BB' := BB.far (p := ⟨g11, 0, none⟩) (by simp <;> omega) (.slice D3 (nw x0) d3)
                have BQ' := BQ.far (p := ⟨g11, 0, none⟩) (by simp <;> omega) (.slice D3 (nw x0) d3)
                have BR' := BR.far (p := ⟨g11, 0, none⟩) (by simp <;> omega) (.slice D3 (nw x0) d3)
                have B10' := B10.far (p := ⟨g11, 0, none⟩) (by simp <;> omega) (.slice D3 (nw x0) d3)
                have B11' := B11.set_ 0 (.slice D3 (nw x0) d3)
                have WW' := WW.setCell (p := ⟨g11, 0, none⟩) (by simp <;> omega) (.slice D3 (nw x0) d3)
                have V2' := V2.box (p := ⟨g11, 0, none⟩) B11 (by simp <;> omega) (.slice D3 (nw x0) d3)
                have O3' := O3.box (p := ⟨g11, 0, none⟩) B11 (by decide) (.slice D3 (nw x0) d3)
                refine hK.out _ _ ⟨BP'.cell0, BQ'.cell0⟩ (fun hHeld2 => ?_)
                clear hK K fz cz
                (try simp only [Act.put, List.setIfInBounds_toArray, List.set_cons_zero, List.set_cons_succ])
                refine wpAnyH_name (fun W' => Blk W' (w.heap.size) 24 #[.slice A (nw a) c1] ∧ Blk W' (w.heap.size + 1) 24 #[.slice A2 (nw p) c2] ∧ Blk W' (w.heap.size + 1 + 1) 24 #[.slice A3 (nw b) c3] ∧ Blk W' (w.heap.size + 1 + 1 + 1) 24 #[.slice A4 (nw q) c4] ∧ Blk W' (w.heap.size + 1 + 1 + 1 + 1) 24 #[.slice none 0 0] ∧ Blk W' g10 24 #[.slice D2 (nw g) d2] ∧ Blk W' g11 24 #[.slice D3 (nw x0) d3] ∧ Below w.heap.size w W' ∧ Val w.heap.size W' D2 (nw g) d2 g ∧ Own W' w.heap.size D3 (nw x0) d3 x0 ∧ (fun w' => w'.cell? ⟨w.heap.size + 1, 0, none⟩ = some (.slice A2 (nw p) c2) ∧ w'.cell? ⟨w.heap.size + 1 + 1 + 1, 0, none⟩ = some (.slice A4 (nw q) c4)) W') (⟨BA', BP', BB', BQ', BR', B10', B11', WW', V2', O3', hHeld2⟩) ?_
                clear hHeld2 hHeld BA' BP' BB' BQ' BR' B10' B11' WW' V2' O3' BA BP BB BQ BR B10 B11 WW V2 O3
                rintro W34 ⟨BA, BP, BB, BQ, BR, B10, B11, WW, V2, O3, hHeld⟩
                refine wpAnyH_done (by kernel_rfl) ?_ _
                clear hHeld
                refine NoPanic.normal ?_
                exact ⟨rfl, g10, g11, D1, d1, D2, d2, D3, d3, rfl, BA, BP, BB, BQ, BR, B10, B11, WW, V2, O3⟩
        refine AllReadyH.cons (o := { dst := some 11, op := Op.alloc 24, type := 0, pos := "natmod.go:78", after := #[], guard := none }) rfl (fun K hK => ?_) AllReadyH.nil
        · go_simp
          have ba := (Below.refl W30.heap.size W30).alloc (Nat.le_refl _) (.cells #[.slice none 0 0] 24)
          have BA' := BA.below ba BA.lt
          have BP' := BP.below ba BP.lt
          have BB' := BB.below ba BB.lt
          have BQ' := BQ.below ba BQ.lt
          have BR' := BR.below ba BR.lt
          have B10' := B10.below ba B10.lt
          have B11' := Blk.new W30 24 #[.slice none 0 0]
          have WW' := WW.trans (ba.mono WW.size)
          have O1' := O1.below ba (Nat.le_refl _)
          have sz := ba.size
          have sn : W30.heap.size < (W30.alloc (.cells #[.slice none 0 0] 24)).heap.size := B11'.lt
          refine hK.out _ _ ⟨BP'.cell0, BQ'.cell0⟩ (fun hHeld2 => ?_)
          clear hK K
          (try simp only [Act.put, List.setIfInBounds_toArray, List.set_cons_zero, List.set_cons_succ])
          refine wpAnyH_name (fun W' => Blk W' (w.heap.size) 24 #[.slice A (nw a) c1] ∧ Blk W' (w.heap.size + 1) 24 #[.slice A2 (nw p) c2] ∧ Blk W' (w.heap.size + 1 + 1) 24 #[.slice A3 (nw b) c3] ∧ Blk W' (w.heap.size + 1 + 1 + 1) 24 #[.slice A4 (nw q) c4] ∧ Blk W' (w.heap.size + 1 + 1 + 1 + 1) 24 #[.slice none 0 0] ∧ Blk W' (W0.heap.size) 24 #[.slice none 0 0] ∧ Blk W' (W30.heap.size) 24 #[.slice none 0 0] ∧ Below w.heap.size w W' ∧ Own W' w.heap.size D1 (nw t) d1 t ∧ W30.heap.size < W'.heap.size ∧ (fun w' => w'.cell? ⟨w.heap.size + 1, 0, none⟩ = some (.slice A2 (nw p) c2) ∧ w'.cell? ⟨w.heap.size + 1 + 1 + 1, 0, none⟩ = some (.slice A4 (nw q) c4)) W') (⟨BA', BP', BB', BQ', BR', B10', B11', WW', O1', sn, hHeld2⟩) ?_
          clear hHeld2 hHeld sz sn ba BA' BP' BB' BQ' BR' B10' B11' WW' O1' BA BP BB BQ BR B10 WW O1
          rintro W35 ⟨BA, BP, BB, BQ, BR, B10, B11, WW, O1, s35, hHeld⟩
          refine wpAnyH_ready (rs := [4]) (by kernel_rfl) (by simp) ?_
          refine AllReadyH.cons (o := { dst := some 56, op := Op.call { callee := Callee.value (Operand.func 66), args := #[Operand.tmp 54, Operand.tmp 55], argTypes := #[24, 24] }, type := 62, pos := "natmod.go:78", after := #[{ on := 2, ground := Ground.data }, { on := 3, ground := Ground.data }, { on := 2, ground := Ground.chain }], guard := none }) rfl (fun K hK => ?_) AllReadyH.nil
          · go_simp
            have va : Val w.heap.size W35 D1 (nw t) d1 t := .inr O1
            have vb : Val w.heap.size W35 A4 (nw q) c4 q := .inl (HQ.out.below WW)
            have hc := euclid_any D1 A4 d1 c4 t q W35 O1.num ((HQ.out.below WW).more WW.size) hq32 HTQ.out w.heap.size WW.size va vb
            refine hc.mono ?_
            clear hc va vb
            rintro e W36 ⟨D2, d2, u, x, rfl, V2, hu, hb, hxm, hxd⟩
            rw [← HG.out] at V2 hxd ⊢
            obtain ⟨D3, d3, rfl, ho⟩ := hu
            have O3 := ho.weak (b := w.heap.size) WW.size
            have hx := HX.out x hxm hxd
            rw [hx] at O3 ⊢
            clear ho hxm hxd hx
            replace O1 := O1.below hb (Nat.le_refl _)
            replace BA := BA.below hb BA.lt
            replace BP := BP.below hb BP.lt
            replace BB := BB.below hb BB.lt
            replace BQ := BQ.below hb BQ.lt
            replace BR := BR.below hb BR.lt
            replace B10 := B10.below hb B10.lt
            replace B11 := B11.below hb B11.lt
            have hsz := WW.size
            replace WW := WW.trans (hb.mono WW.size)
            have s36 := hb.size
            have c1 := BP.cell0
            have c2' := BQ.cell0
            clear hb hsz
            refine hK.out _ _ ⟨c1, c2'⟩ (fun hHeld2 => ?_)
            clear hK K hHeld c1 c2'
            have hHeld := hHeld2
            clear hHeld2
            (try simp only [Act.put, List.setIfInBounds_toArray, List.set_cons_zero, List.set_cons_succ])
            refine wpAnyH_take (i := 5) (oi := { dst := some 51, op := Op.move (Operand.tmp 56), type := 62, pos := "natmod.go:78", after := #[{ on := 4, ground := Ground.data }], guard := none }) (v := ?_) rfl (by kernel_rfl) (by kernel_rfl) (by kernel_rfl) (fun _ _ _ h => h) (Or.inl ⟨by rfl, ?_⟩) (by assumption) ?_
            rotate_left
            · (intro ws hSw; (try dsimp only at hSw); (try go_simp); (try with_reducible rfl))
            (try simp only [Act.put, List.setIfInBounds_toArray, List.set_cons_zero, List.set_cons_succ])
            refine wpAnyH_take (i := 6) (oi := { dst := some 57, op := Op.extract (Operand.tmp 51) 0, type := 24, pos := "natmod.go:78", after := #[{ on := 5, ground := Ground.data }], guard := none }) (v := ?_) rfl (by kernel_rfl) (by kernel_rfl) (by kernel_rfl) (fun _ _ _ h => h) (Or.inl ⟨by rfl, ?_⟩) (by assumption) ?_
            rotate_left
            · (intro ws hSw; (try dsimp only at hSw); (try go_simp); (try with_reducible rfl))
            (try simp only [Act.put, List.setIfInBounds_toArray, List.set_cons_zero, List.set_cons_succ])
            refine wpAnyH_take (i := 7) (oi := { dst := some 58, op := Op.extract (Operand.tmp 51) 1, type := 24, pos := "natmod.go:78", after := #[{ on := 5, ground := Ground.data }, { on := 10, ground := Ground.gcOnly Departure.lateStores }], guard := none }) (v := ?_) rfl (by kernel_rfl) (by kernel_rfl) (by kernel_rfl) (fun _ _ _ h => h) (Or.inl ⟨by rfl, ?_⟩) (by assumption) ?_
            rotate_left
            · (intro ws hSw; (try dsimp only at hSw); (try go_simp); (try with_reducible rfl))
            (try simp only [Act.put, List.setIfInBounds_toArray, List.set_cons_zero, List.set_cons_succ])
            obtain ⟨g10, hg10⟩ : ∃ g, g = W0.heap.size := ⟨_, rfl⟩
            obtain ⟨g11, hg11⟩ : ∃ g, g = W30.heap.size := ⟨_, rfl⟩
            have n1 : W0.heap.size ≠ W30.heap.size := by omega
            have n2 : w.heap.size + 5 ≤ W0.heap.size := by omega
            have n3 : w.heap.size + 5 ≤ W30.heap.size := by omega
            rw [← hg10] at B10 n1 n2 ⊢
            rw [← hg11] at B11 n1 n3 ⊢
            clear hg10 hg11
            refine wpAnyH_ready (rs := [10]) (by kernel_rfl) (by simp) ?_
            refine AllReadyH.cons (o := { dst := none, op := Op.store 24 (Operand.tmp 10) (Operand.tmp 57), type := 0, pos := "natmod.go:78", after := #[{ on := 8, ground := Ground.data }, { on := 6, ground := Ground.data }, { on := 4, ground := Ground.chain }, { on := 0, ground := Ground.phase }, { on := 1, ground := Ground.phase }, { on := 2, ground := Ground.phase }, { on := 3, ground := Ground.phase }, { on := 4, ground := Ground.phase }, { on := 5, ground := Ground.phase }, { on := 6, ground := Ground.phase }, { on := 7, ground := Ground.textOnly Departure.lateStores }, { on := 8, ground := Ground.phase }, { on := 9, ground := Ground.phase }], guard := none }) rfl (fun K hK => ?_) AllReadyH.nil
            · have fz := B10.frozen 0
              have cz := B10.cell0
              go_simp
              have BA' := BA.far (p := ⟨g10, 0, none⟩) (by simp <;> omega) (.slice D2 (nw g) d2)
              have BP' := BP.far (p := ⟨g10, 0, none⟩) (by simp <;> omega) (.slice D2 (nw g) d2)
              have BB' := BB.far (p := ⟨g10, 0, none⟩) (by simp <;> omega) (.slice D2 (nw g) d2)
              have BQ' := BQ.far (p := ⟨g10, 0, none⟩) (by simp <;> omega) (.slice D2 (nw g) d2)
              have BR' := BR.far (p := ⟨g10, 0, none⟩) (by simp <;> omega) (.slice D2 (nw g) d2)
              have B11' := B11.far (p := ⟨g10, 0, none⟩) (by simp <;> omega) (.slice D2 (nw g) d2)
              have B10' := B10.set_ 0 (.slice D2 (nw g) d2)
              have WW' := WW.setCell (p := ⟨g10, 0, none⟩) (by simp <;> omega) (.slice D2 (nw g) d2)
              have V2' := V2.box (p := ⟨g10, 0, none⟩) B10 (by simp <;> omega) (.slice D2 (nw g) d2)
              have O3' := O3.box (p := ⟨g10, 0, none⟩) B10 (by decide) (.slice D2 (nw g) d2)
              refine hK.out _ _ ⟨BP'.cell0, BQ'.cell0⟩ (fun hHeld2 => ?_)
              clear hK K fz cz
              (try simp only [Act.put, List.setIfInBounds_toArray, List.set_cons_zero, List.set_cons_succ])
              refine wpAnyH_name (fun W' => Blk W' (w.heap.size) 24 #[.slice A (nw a) c1] ∧ Blk W' (w.heap.size + 1) 24 #[.slice A2 (nw p) c2] ∧ Blk W' (w.heap.size + 1 + 1) 24 #[.slice A3 (nw b) c3] ∧ Blk W' (w.heap.size + 1 + 1 + 1) 24 #[.slice A4 (nw q) c4] ∧ Blk W' (w.heap.size + 1 + 1 + 1 + 1) 24 #[.slice none 0 0] ∧ Blk W' g10 24 #[.slice D2 (nw g) d2] ∧ Blk W' g11 24 #[.slice none 0 0] ∧ Below w.heap.size w W' ∧ Val w.heap.size W' D2 (nw g) d2 g ∧ Own W' w.heap.size D3 (nw x0) d3 x0 ∧ (fun w' => w'.cell? ⟨w.heap.size + 1, 0, none⟩ = some (.slice A2 (nw p) c2) ∧ w'.cell? ⟨w.heap.size + 1 + 1 + 1, 0, none⟩ = some (.slice A4 (nw q) c4)) W') (⟨BA', BP', BB', BQ', BR', B10', B11', WW', V2', O3', hHeld2⟩) ?_
              clear hHeld2 hHeld BA' BP' BB' BQ' BR' B10' B11' WW' V2' O3' BA BP BB BQ BR B10 B11 WW V2 O3
              rintro W37 ⟨BA, BP, BB, BQ, BR, B10, B11, WW, V2, O3, hHeld⟩
              refine wpAnyH_ready (rs := [11]) (by kernel_rfl) (by simp) ?_
              refine AllReadyH.cons (o := { dst := none, op := Op.store 24 (Operand.tmp 11) (Operand.tmp 58), type := 0, pos := "natmod.go:78", after := #[{ on := 9, ground := Ground.data }, { on := 7, ground := Ground.data }, { on := 10, ground := Ground.chain }, { on := 0, ground := Ground.phase }, { on := 1, ground := Ground.phase }, { on := 2, ground := Ground.phase }, { on := 3, ground := Ground.phase }, { on := 4, ground := Ground.phase }, { on := 5, ground := Ground.phase }, { on := 6, ground := Ground.phase }, { on := 7, ground := Ground.phase }, { on := 8, ground := Ground.phase }, { on := 9, ground := Ground.phase }, { on := 10, ground := Ground.phase }], guard := none }) rfl (fun K hK => ?_) AllReadyH.nil
              · have fz := B11.frozen 0
                have cz := B11.cell0
                go_simp
                have BA' := BA.far (p := ⟨g11, 0, none⟩) (by simp <;> omega) (.slice D3 (nw x0) d3)
                have BP' := BP.far (p := ⟨g11, 0, none⟩) (by simp <;> omega) (.slice D3 (nw x0) d3)
                have BB' := BB.far (p := ⟨g11, 0, none⟩) (by simp <;> omega) (.slice D3 (nw x0) d3)
                have BQ' := BQ.far (p := ⟨g11, 0, none⟩) (by simp <;> omega) (.slice D3 (nw x0) d3)
                have BR' := BR.far (p := ⟨g11, 0, none⟩) (by simp <;> omega) (.slice D3 (nw x0) d3)
                have B10' := B10.far (p := ⟨g11, 0, none⟩) (by simp <;> omega) (.slice D3 (nw x0) d3)
                have B11' := B11.set_ 0 (.slice D3 (nw x0) d3)
                have WW' := WW.setCell (p := ⟨g11, 0, none⟩) (by simp <;> omega) (.slice D3 (nw x0) d3)
                have V2' := V2.box (p := ⟨g11, 0, none⟩) B11 (by simp <;> omega) (.slice D3 (nw x0) d3)
                have O3' := O3.box (p := ⟨g11, 0, none⟩) B11 (by decide) (.slice D3 (nw x0) d3)
                refine hK.out _ _ ⟨BP'.cell0, BQ'.cell0⟩ (fun hHeld2 => ?_)
                clear hK K fz cz
                (try simp only [Act.put, List.setIfInBounds_toArray, List.set_cons_zero, List.set_cons_succ])
                refine wpAnyH_name (fun W' => Blk W' (w.heap.size) 24 #[.slice A (nw a) c1] ∧ Blk W' (w.heap.size + 1) 24 #[.slice A2 (nw p) c2] ∧ Blk W' (w.heap.size + 1 + 1) 24 #[.slice A3 (nw b) c3] ∧ Blk W' (w.heap.size + 1 + 1 + 1) 24 #[.slice A4 (nw q) c4] ∧ Blk W' (w.heap.size + 1 + 1 + 1 + 1) 24 #[.slice none 0 0] ∧ Blk W' g10 24 #[.slice D2 (nw g) d2] ∧ Blk W' g11 24 #[.slice D3 (nw x0) d3] ∧ Below w.heap.size w W' ∧ Val w.heap.size W' D2 (nw g) d2 g ∧ Own W' w.heap.size D3 (nw x0) d3 x0 ∧ (fun w' => w'.cell? ⟨w.heap.size + 1, 0, none⟩ = some (.slice A2 (nw p) c2) ∧ w'.cell? ⟨w.heap.size + 1 + 1 + 1, 0, none⟩ = some (.slice A4 (nw q) c4)) W') (⟨BA', BP', BB', BQ', BR', B10', B11', WW', V2', O3', hHeld2⟩) ?_
                clear hHeld2 hHeld BA' BP' BB' BQ' BR' B10' B11' WW' V2' O3' BA BP BB BQ BR B10 B11 WW V2 O3
                rintro W38 ⟨BA, BP, BB, BQ, BR, B10, B11, WW, V2, O3, hHeld⟩
                refine wpAnyH_done (by kernel_rfl) ?_ _
                clear hHeld
                refine NoPanic.normal ?_
                exact ⟨rfl, g10, g11, D1, d1, D2, d2, D3, d3, rfl, BA, BP, BB, BQ, BR, B10, B11, WW, V2, O3⟩
      refine AllReadyH.cons (o := { dst := some 11, op := Op.alloc 24, type := 0, pos := "natmod.go:78", after := #[], guard := none }) rfl (fun K hK => ?_) AllReadyH.nil
      · go_simp
        have ba := (Below.refl W29.heap.size W29).alloc (Nat.le_refl _) (.cells #[.slice none 0 0] 24)
        have BA' := BA.below ba BA.lt
        have BP' := BP.below ba BP.lt
        have BB' := BB.below ba BB.lt
        have BQ' := BQ.below ba BQ.lt
        have BR' := BR.below ba BR.lt
        have B10' := B10.below ba B10.lt
        have B11' := Blk.new W29 24 #[.slice none 0 0]
        have WW' := WW.trans (ba.mono WW.size)
        have sz := ba.size
        have sn : W29.heap.size < (W29.alloc (.cells #[.slice none 0 0] 24)).heap.size := B11'.lt
        refine hK.out _ _ ⟨BP'.cell0, BQ'.cell0⟩ (fun hHeld2 => ?_)
        clear hK K
        (try simp only [Act.put, List.setIfInBounds_toArray, List.set_cons_zero, List.set_cons_succ])
        refine wpAnyH_name (fun W' => Blk W' (w.heap.size) 24 #[.slice A (nw a) c1] ∧ Blk W' (w.heap.size + 1) 24 #[.slice A2 (nw p) c2] ∧ Blk W' (w.heap.size + 1 + 1) 24 #[.slice A3 (nw b) c3] ∧ Blk W' (w.heap.size + 1 + 1 + 1) 24 #[.slice A4 (nw q) c4] ∧ Blk W' (w.heap.size + 1 + 1 + 1 + 1) 24 #[.slice none 0 0] ∧ Blk W' (W0.heap.size) 24 #[.slice none 0 0] ∧ Blk W' (W29.heap.size) 24 #[.slice none 0 0] ∧ Below w.heap.size w W' ∧ W29.heap.size < W'.heap.size ∧ (fun w' => w'.cell? ⟨w.heap.size + 1, 0, none⟩ = some (.slice A2 (nw p) c2) ∧ w'.cell? ⟨w.heap.size + 1 + 1 + 1, 0, none⟩ = some (.slice A4 (nw q) c4)) W') (⟨BA', BP', BB', BQ', BR', B10', B11', WW', sn, hHeld2⟩) ?_
        clear hHeld2 hHeld sz sn ba BA' BP' BB' BQ' BR' B10' B11' WW' BA BP BB BQ BR B10 WW
        rintro W39 ⟨BA, BP, BB, BQ, BR, B10, B11, WW, s39, hHeld⟩
        refine wpAnyH_ready (rs := [2]) (by kernel_rfl) (by simp) ?_
        refine AllReadyH.cons (o := { dst := some 54, op := Op.call { callee := Callee.value (Operand.func 58), args := #[Operand.tmp 52, Operand.tmp 53], argTypes := #[24, 24] }, type := 24, pos := "natmod.go:78", after := #[{ on := 0, ground := Ground.data }, { on := 1, ground := Ground.data }], guard := none }) rfl (fun K hK => ?_) AllReadyH.nil
        · go_simp
          have hc := remainder_any A2 A4 c2 c4 p q W39 ((HP.out.below WW).more WW.size) ((HQ.out.below WW).more WW.size) (by omega) (by omega) hq0
          rw [← HT.out] at hc
          refine hc.mono ?_
          clear hc
          rintro e W40 ⟨v, rfl, ⟨D1, d1, rfl, ho⟩, hb⟩
          have O1 := ho.weak (b := w.heap.size) WW.size
          clear ho
          replace BA := BA.below hb BA.lt
          replace BP := BP.below hb BP.lt
          replace BB := BB.below hb BB.lt
          replace BQ := BQ.below hb BQ.lt
          replace BR := BR.below hb BR.lt
          replace B10 := B10.below hb B10.lt
          replace B11 := B11.below hb B11.lt
          have hsz := WW.size
          replace WW := WW.trans (hb.mono WW.size)
          have s40 := hb.size
          have c1 := BP.cell0
          have c2' := BQ.cell0
          clear hb hsz
          refine hK.out _ _ ⟨c1, c2'⟩ (fun hHeld2 => ?_)
          clear hK K hHeld c1 c2'
          have hHeld := hHeld2
          clear hHeld2
          (try simp only [Act.put, List.setIfInBounds_toArray, List.set_cons_zero, List.set_cons_succ])
          refine wpAnyH_ready (rs := [4]) (by kernel_rfl) (by simp) ?_
          refine AllReadyH.cons (o := { dst := some 56, op := Op.call { callee := Callee.value (Operand.func 66), args := #[Operand.tmp 54, Operand.tmp 55], argTypes := #[24, 24] }, type := 62, pos := "natmod.go:78", after := #[{ on := 2, ground := Ground.data }, { on := 3, ground := Ground.data }, { on := 2, ground := Ground.chain }], guard := none }) rfl (fun K hK => ?_) AllReadyH.nil
          · go_simp
            have va : Val w.heap.size W40 D1 (nw t) d1 t := .inr O1
            have vb : Val w.heap.size W40 A4 (nw q) c4 q := .inl (HQ.out.below WW)
            have hc := euclid_any D1 A4 d1 c4 t q W40 O1.num ((HQ.out.below WW).more WW.size) hq32 HTQ.out w.heap.size WW.size va vb
            refine hc.mono ?_
            clear hc va vb
            rintro e W41 ⟨D2, d2, u, x, rfl, V2, hu, hb, hxm, hxd⟩
            rw [← HG.out] at V2 hxd ⊢
            obtain ⟨D3, d3, rfl, ho⟩ := hu
            have O3 := ho.weak (b := w.heap.size) WW.size
            have hx := HX.out x hxm hxd
            rw [hx] at O3 ⊢
            clear ho hxm hxd hx
            replace O1 := O1.below hb (Nat.le_refl _)
            replace BA := BA.below hb BA.lt
            replace BP := BP.below hb BP.lt
            replace BB := BB.below hb BB.lt
            replace BQ := BQ.below hb BQ.lt
            replace BR := BR.below hb BR.lt
            replace B10 := B10.below hb B10.lt
            replace B11 := B11.below hb B11.lt
            have hsz := WW.size
            replace WW := WW.trans (hb.mono WW.size)
            have s41 := hb.size
            have c1 := BP.cell0
            have c2' := BQ.cell0
            clear hb hsz
            refine hK.out _ _ ⟨c1, c2'⟩ (fun hHeld2 => ?_)
            clear hK K hHeld c1 c2'
            have hHeld := hHeld2
            clear hHeld2
            (try simp only [Act.put, List.setIfInBounds_toArray, List.set_cons_zero, List.set_cons_succ])
            refine wpAnyH_take (i := 5) (oi := { dst := some 51, op := Op.move (Operand.tmp 56), type := 62, pos := "natmod.go:78", after := #[{ on := 4, ground := Ground.data }], guard := none }) (v := ?_) rfl (by kernel_rfl) (by kernel_rfl) (by kernel_rfl) (fun _ _ _ h => h) (Or.inl ⟨by rfl, ?_⟩) (by assumption) ?_
            rotate_left
            · (intro ws hSw; (try dsimp only at hSw); (try go_simp); (try with_reducible rfl))
            (try simp only [Act.put, List.setIfInBounds_toArray, List.set_cons_zero, List.set_cons_succ])
            refine wpAnyH_take (i := 6) (oi := { dst := some 57, op := Op.extract (Operand.tmp 51) 0, type := 24, pos := "natmod.go:78", after := #[{ on := 5, ground := Ground.data }], guard := none }) (v := ?_) rfl (by kernel_rfl) (by kernel_rfl) (by kernel_rfl) (fun _ _ _ h => h) (Or.inl ⟨by rfl, ?_⟩) (by assumption) ?_
            rotate_left
            · (intro ws hSw; (try dsimp only at hSw); (try go_simp); (try with_reducible rfl))
            (try simp only [Act.put, List.setIfInBounds_toArray, List.set_cons_zero, List.set_cons_succ])
            refine wpAnyH_take (i := 7) (oi := { dst := some 58, op := Op.extract (Operand.tmp 51) 1, type := 24, pos := "natmod.go:78", after := #[{ on := 5, ground := Ground.data }, { on := 10, ground := Ground.gcOnly Departure.lateStores }], guard := none }) (v := ?_) rfl (by kernel_rfl) (by kernel_rfl) (by kernel_rfl) (fun _ _ _ h => h) (Or.inl ⟨by rfl, ?_⟩) (by assumption) ?_
            rotate_left
            · (intro ws hSw; (try dsimp only at hSw); (try go_simp); (try with_reducible rfl))
            (try simp only [Act.put, List.setIfInBounds_toArray, List.set_cons_zero, List.set_cons_succ])
            obtain ⟨g10, hg10⟩ : ∃ g, g = W0.heap.size := ⟨_, rfl⟩
            obtain ⟨g11, hg11⟩ : ∃ g, g = W29.heap.size := ⟨_, rfl⟩
            have n1 : W0.heap.size ≠ W29.heap.size := by omega
            have n2 : w.heap.size + 5 ≤ W0.heap.size := by omega
            have n3 : w.heap.size + 5 ≤ W29.heap.size := by omega
            rw [← hg10] at B10 n1 n2 ⊢
            rw [← hg11] at B11 n1 n3 ⊢
            clear hg10 hg11
            refine wpAnyH_ready (rs := [10]) (by kernel_rfl) (by simp) ?_
            refine AllReadyH.cons (o := { dst := none, op := Op.store 24 (Operand.tmp 10) (Operand.tmp 57), type := 0, pos := "natmod.go:78", after := #[{ on := 8, ground := Ground.data }, { on := 6, ground := Ground.data }, { on := 4, ground := Ground.chain }, { on := 0, ground := Ground.phase }, { on := 1, ground := Ground.phase }, { on := 2, ground := Ground.phase }, { on := 3, ground := Ground.phase }, { on := 4, ground := Ground.phase }, { on := 5, ground := Ground.phase }, { on := 6, ground := Ground.phase }, { on := 7, ground := Ground.textOnly Departure.lateStores }, { on := 8, ground := Ground.phase }, { on := 9, ground := Ground.phase }], guard := none }) rfl (fun K hK => ?_) AllReadyH.nil
            · have fz := B10.frozen 0
              have cz := B10.cell0
              go_simp
              have BA' := BA.far (p := ⟨g10, 0, none⟩) (by simp <;> omega) (.slice D2 (nw g) d2)
              have BP' := BP.far (p := ⟨g10, 0, none⟩) (by simp <;> omega) (.slice D2 (nw g) d2)
              have BB' := BB.far (p := ⟨g10, 0, none⟩) (by simp <;> omega) (.slice D2 (nw g) d2)
              have BQ' := BQ.far (p := ⟨g10, 0, none⟩) (by simp <;> omega) (.slice D2 (nw g) d2)
              have BR' := BR.far (p := ⟨g10, 0, none⟩) (by simp <;> omega) (.slice D2 (nw g) d2)
              have B11' := B11.far (p := ⟨g10, 0, none⟩) (by simp <;> omega) (.slice D2 (nw g) d2)
              have B10' := B10.set_ 0 (.slice D2 (nw g) d2)
              have WW' := WW.setCell (p := ⟨g10, 0, none⟩) (by simp <;> omega) (.slice D2 (nw g) d2)
              have V2' := V2.box (p := ⟨g10, 0, none⟩) B10 (by simp <;> omega) (.slice D2 (nw g) d2)
              have O3' := O3.box (p := ⟨g10, 0, none⟩) B10 (by decide) (.slice D2 (nw g) d2)
              refine hK.out _ _ ⟨BP'.cell0, BQ'.cell0⟩ (fun hHeld2 => ?_)
              clear hK K fz cz
              (try simp only [Act.put, List.setIfInBounds_toArray, List.set_cons_zero, List.set_cons_succ])
              refine wpAnyH_name (fun W' => Blk W' (w.heap.size) 24 #[.slice A (nw a) c1] ∧ Blk W' (w.heap.size + 1) 24 #[.slice A2 (nw p) c2] ∧ Blk W' (w.heap.size + 1 + 1) 24 #[.slice A3 (nw b) c3] ∧ Blk W' (w.heap.size + 1 + 1 + 1) 24 #[.slice A4 (nw q) c4] ∧ Blk W' (w.heap.size + 1 + 1 + 1 + 1) 24 #[.slice none 0 0] ∧ Blk W' g10 24 #[.slice D2 (nw g) d2] ∧ Blk W' g11 24 #[.slice none 0 0] ∧ Below w.heap.size w W' ∧ Val w.heap.size W' D2 (nw g) d2 g ∧ Own W' w.heap.size D3 (nw x0) d3 x0 ∧ (fun w' => w'.cell? ⟨w.heap.size + 1, 0, none⟩ = some (.slice A2 (nw p) c2) ∧ w'.cell? ⟨w.heap.size + 1 + 1 + 1, 0, none⟩ = some (.slice A4 (nw q) c4)) W') (⟨BA', BP', BB', BQ', BR', B10', B11', WW', V2', O3', hHeld2⟩) ?_
              clear hHeld2 hHeld BA' BP' BB' BQ' BR' B10' B11' WW' V2' O3' BA BP BB BQ BR B10 B11 WW V2 O3
              rintro W42 ⟨BA, BP, BB, BQ, BR, B10, B11, WW, V2, O3, hHeld⟩
              refine wpAnyH_ready (rs := [11]) (by kernel_rfl) (by simp) ?_
              refine AllReadyH.cons (o := { dst := none, op := Op.store 24 (Operand.tmp 11) (Operand.tmp 58), type := 0, pos := "natmod.go:78", after := #[{ on := 9, ground := Ground.data }, { on := 7, ground := Ground.data }, { on := 10, ground := Ground.chain }, { on := 0, ground := Ground.phase }, { on := 1, ground := Ground.phase }, { on := 2, ground := Ground.phase }, { on := 3, ground := Ground.phase }, { on := 4, ground := Ground.phase }, { on := 5, ground := Ground.phase }, { on := 6, ground := Ground.phase }, { on := 7, ground := Ground.phase }, { on := 8, ground := Ground.phase }, { on := 9, ground := Ground.phase }, { on := 10, ground := Ground.phase }], guard := none }) rfl (fun K hK => ?_) AllReadyH.nil
              · have fz := B11.frozen 0
                have cz := B11.cell0
                go_simp
                have BA' := BA.far (p := ⟨g11, 0, none⟩) (by simp <;> omega) (.slice D3 (nw x0) d3)
                have BP' := BP.far (p := ⟨g11, 0, none⟩) (by simp <;> omega) (.slice D3 (nw x0) d3)
                have BB' := BB.far (p := ⟨g11, 0, none⟩) (by simp <;> omega) (.slice D3 (nw x0) d3)
                have BQ' := BQ.far (p := ⟨g11, 0, none⟩) (by simp <;> omega) (.slice D3 (nw x0) d3)
                have BR' := BR.far (p := ⟨g11, 0, none⟩) (by simp <;> omega) (.slice D3 (nw x0) d3)
                have B10' := B10.far (p := ⟨g11, 0, none⟩) (by simp <;> omega) (.slice D3 (nw x0) d3)
                have B11' := B11.set_ 0 (.slice D3 (nw x0) d3)
                have WW' := WW.setCell (p := ⟨g11, 0, none⟩) (by simp <;> omega) (.slice D3 (nw x0) d3)
                have V2' := V2.box (p := ⟨g11, 0, none⟩) B11 (by simp <;> omega) (.slice D3 (nw x0) d3)
                have O3' := O3.box (p := ⟨g11, 0, none⟩) B11 (by decide) (.slice D3 (nw x0) d3)
                refine hK.out _ _ ⟨BP'.cell0, BQ'.cell0⟩ (fun hHeld2 => ?_)
                clear hK K fz cz
                (try simp only [Act.put, List.setIfInBounds_toArray, List.set_cons_zero, List.set_cons_succ])
                refine wpAnyH_name (fun W' => Blk W' (w.heap.size) 24 #[.slice A (nw a) c1] ∧ Blk W' (w.heap.size + 1) 24 #[.slice A2 (nw p) c2] ∧ Blk W' (w.heap.size + 1 + 1) 24 #[.slice A3 (nw b) c3] ∧ Blk W' (w.heap.size + 1 + 1 + 1) 24 #[.slice A4 (nw q) c4] ∧ Blk W' (w.heap.size + 1 + 1 + 1 + 1) 24 #[.slice none 0 0] ∧ Blk W' g10 24 #[.slice D2 (nw g) d2] ∧ Blk W' g11 24 #[.slice D3 (nw x0) d3] ∧ Below w.heap.size w W' ∧ Val w.heap.size W' D2 (nw g) d2 g ∧ Own W' w.heap.size D3 (nw x0) d3 x0 ∧ (fun w' => w'.cell? ⟨w.heap.size + 1, 0, none⟩ = some (.slice A2 (nw p) c2) ∧ w'.cell? ⟨w.heap.size + 1 + 1 + 1, 0, none⟩ = some (.slice A4 (nw q) c4)) W') (⟨BA', BP', BB', BQ', BR', B10', B11', WW', V2', O3', hHeld2⟩) ?_
                clear hHeld2 hHeld BA' BP' BB' BQ' BR' B10' B11' WW' V2' O3' BA BP BB BQ BR B10 B11 WW V2 O3
                rintro W43 ⟨BA, BP, BB, BQ, BR, B10, B11, WW, V2, O3, hHeld⟩
                refine wpAnyH_done (by kernel_rfl) ?_ _
                clear hHeld
                refine NoPanic.normal ?_
                exact ⟨rfl, g10, g11, D1, d1, D2, d2, D3, d3, rfl, BA, BP, BB, BQ, BR, B10, B11, WW, V2, O3⟩
    refine AllReadyH.cons (o := { dst := some 11, op := Op.alloc 24, type := 0, pos := "natmod.go:78", after := #[], guard := none }) rfl (fun K hK => ?_) AllReadyH.nil
    · go_simp
      have ba := (Below.refl W0.heap.size W0).alloc (Nat.le_refl _) (.cells #[.slice none 0 0] 24)
      have BA' := BA.below ba BA.lt
      have BP' := BP.below ba BP.lt
      have BB' := BB.below ba BB.lt
      have BQ' := BQ.below ba BQ.lt
      have BR' := BR.below ba BR.lt
      have B11' := Blk.new W0 24 #[.slice none 0 0]
      have WW' := WW.trans (ba.mono WW.size)
      have sz := ba.size
      have sn : W0.heap.size < (W0.alloc (.cells #[.slice none 0 0] 24)).heap.size := B11'.lt
      refine hK.out _ _ ⟨BP'.cell0, BQ'.cell0⟩ (fun hHeld2 => ?_)
      clear hK K
      (try simp only [Act.put, List.setIfInBounds_toArray, List.set_cons_zero, List.set_cons_succ])
      refine wpAnyH_name (fun W' => Blk W' (w.heap.size) 24 #[.slice A (nw a) c1] ∧ Blk W' (w.heap.size + 1) 24 #[.slice A2 (nw p) c2] ∧ Blk W' (w.heap.size + 1 + 1) 24 #[.slice A3 (nw b) c3] ∧ Blk W' (w.heap.size + 1 + 1 + 1) 24 #[.slice A4 (nw q) c4] ∧ Blk W' (w.heap.size + 1 + 1 + 1 + 1) 24 #[.slice none 0 0] ∧ Blk W' (W0.heap.size) 24 #[.slice none 0 0] ∧ Below w.heap.size w W' ∧ W0.heap.size < W'.heap.size ∧ (fun w' => w'.cell? ⟨w.heap.size + 1, 0, none⟩ = some (.slice A2 (nw p) c2) ∧ w'.cell? ⟨w.heap.size + 1 + 1 + 1, 0, none⟩ = some (.slice A4 (nw q) c4)) W') (⟨BA', BP', BB', BQ', BR', B11', WW', sn, hHeld2⟩) ?_
      clear hHeld2 hHeld sz sn ba BA' BP' BB' BQ' BR' B11' WW' BA BP BB BQ BR WW
      rintro W44 ⟨BA, BP, BB, BQ, BR, B11, WW, s44, hHeld⟩
      refine wpAnyH_ready (rs := [2, 8]) (by kernel_rfl) (by simp) ?_
      refine AllReadyH.cons (o := { dst := some 54, op := Op.call { callee := Callee.value (Operand.func 58), args := #[Operand.tmp 52, Operand.tmp 53], argTypes := #[24, 24] }, type := 24, pos := "natmod.go:78", after := #[{ on := 0, ground := Ground.data }, { on := 1, ground := Ground.data }], guard := none }) rfl (fun K hK => ?_) ?_
      · go_simp
        have hc := remainder_any A2 A4 c2 c4 p q W44 ((HP.out.below WW).more WW.size) ((HQ.out.below WW).more WW.size) (by omega) (by omega) hq0
        rw [← HT.out] at hc
        refine hc.mono ?_
        clear hc
        rintro e W45 ⟨v, rfl, ⟨D1, d1, rfl, ho⟩, hb⟩
        have O1 := ho.weak (b := w.heap.size) WW.size
        clear ho
        replace BA := BA.below hb BA.lt
        replace BP := BP.below hb BP.lt
        replace BB := BB.below hb BB.lt
        replace BQ := BQ.below hb BQ.lt
        replace BR := BR.below hb BR.lt
        replace B11 := B11.below hb B11.lt
        have hsz := WW.size
        replace WW := WW.trans (hb.mono WW.size)
        have s45 := hb.size
        have c1 := BP.cell0
        have c2' := BQ.cell0
        clear hb hsz
        refine hK.out _ _ ⟨c1, c2'⟩ (fun hHeld2 => ?_)
        clear hK K hHeld c1 c2'
        have hHeld := hHeld2
        clear hHeld2
        (try simp only [Act.put, List.setIfInBounds_toArray, List.set_cons_zero, List.set_cons_succ])
        refine wpAnyH_ready (rs := [4, 8]) (by kernel_rfl) (by simp) ?_
        refine AllReadyH.cons (o := { dst := some 56, op := Op.call { callee := Callee.value (Operand.func 66), args := #[Operand.tmp 54, Operand.tmp 55], argTypes := #[24, 24] }, type := 62, pos := "natmod.go:78", after := #[{ on := 2, ground := Ground.data }, { on := 3, ground := Ground.data }, { on := 2, ground := Ground.chain }], guard := none }) rfl (fun K hK => ?_) ?_
        · go_simp
          have va : Val w.heap.size W45 D1 (nw t) d1 t := .inr O1
          have vb : Val w.heap.size W45 A4 (nw q) c4 q := .inl (HQ.out.below WW)
          have hc := euclid_any D1 A4 d1 c4 t q W45 O1.num ((HQ.out.below WW).more WW.size) hq32 HTQ.out w.heap.size WW.size va vb
          refine hc.mono ?_
          clear hc va vb
          rintro e W46 ⟨D2, d2, u, x, rfl, V2, hu, hb, hxm, hxd⟩
          rw [← HG.out] at V2 hxd ⊢
          obtain ⟨D3, d3, rfl, ho⟩ := hu
          have O3 := ho.weak (b := w.heap.size) WW.size
          have hx := HX.out x hxm hxd
          rw [hx] at O3 ⊢
          clear ho hxm hxd hx
          replace O1 := O1.below hb (Nat.le_refl _)
          replace BA := BA.below hb BA.lt
          replace BP := BP.below hb BP.lt
          replace BB := BB.below hb BB.lt
          replace BQ := BQ.below hb BQ.lt
          replace BR := BR.below hb BR.lt
          replace B11 := B11.below hb B11.lt
          have hsz := WW.size
          replace WW := WW.trans (hb.mono WW.size)
          have s46 := hb.size
          have c1 := BP.cell0
          have c2' := BQ.cell0
          clear hb hsz
          refine hK.out _ _ ⟨c1, c2'⟩ (fun hHeld2 => ?_)
          clear hK K hHeld c1 c2'
          have hHeld := hHeld2
          clear hHeld2
          (try simp only [Act.put, List.setIfInBounds_toArray, List.set_cons_zero, List.set_cons_succ])
          refine wpAnyH_take (i := 5) (oi := { dst := some 51, op := Op.move (Operand.tmp 56), type := 62, pos := "natmod.go:78", after := #[{ on := 4, ground := Ground.data }], guard := none }) (v := ?_) rfl (by kernel_rfl) (by kernel_rfl) (by kernel_rfl) (fun _ _ _ h => h) (Or.inl ⟨by rfl, ?_⟩) (by assumption) ?_
          rotate_left
          · (intro ws hSw; (try dsimp only at hSw); (try go_simp); (try with_reducible rfl))
          (try simp only [Act.put, List.setIfInBounds_toArray, List.set_cons_zero, List.set_cons_succ])
          refine wpAnyH_take (i := 6) (oi := { dst := some 57, op := Op.extract (Operand.tmp 51) 0, type := 24, pos := "natmod.go:78", after := #[{ on := 5, ground := Ground.data }], guard := none }) (v := ?_) rfl (by kernel_rfl) (by kernel_rfl) (by kernel_rfl) (fun _ _ _ h => h) (Or.inl ⟨by rfl, ?_⟩) (by assumption) ?_
          rotate_left
          · (intro ws hSw; (try dsimp only at hSw); (try go_simp); (try with_reducible rfl))
          (try simp only [Act.put, List.setIfInBounds_toArray, List.set_cons_zero, List.set_cons_succ])
          refine wpAnyH_take (i := 7) (oi := { dst := some 58, op := Op.extract (Operand.tmp 51) 1, type := 24, pos := "natmod.go:78", after := #[{ on := 5, ground := Ground.data }, { on := 10, ground := Ground.gcOnly Departure.lateStores }], guard := none }) (v := ?_) rfl (by kernel_rfl) (by kernel_rfl) (by kernel_rfl) (fun _ _ _ h => h) (Or.inl ⟨by rfl, ?_⟩) (by assumption) ?_
          rotate_left
          · (intro ws hSw; (try dsimp only at hSw); (try go_simp); (try with_reducible rfl))
          (try simp only [Act.put, List.setIfInBounds_toArray, List.set_cons_zero, List.set_cons_succ])
          refine wpAnyH_ready (rs := [8]) (by kernel_rfl) (by simp) ?_
          refine AllReadyH.cons (o := { dst := some 10, op := Op.alloc 24, type := 0, pos := "natmod.go:78", after := #[], guard := none }) rfl (fun K hK => ?_) AllReadyH.nil
          · go_simp
            have ba := (Below.refl W46.heap.size W46).alloc (Nat.le_refl _) (.cells #[.slice none 0 0] 24)
            have BA' := BA.below ba BA.lt
            have BP' := BP.below ba BP.lt
            have BB' := BB.below ba BB.lt
            have BQ' := BQ.below ba BQ.lt
            have BR' := BR.below ba BR.lt
            have B11' := B11.below ba B11.lt
            have B10' := Blk.new W46 24 #[.slice none 0 0]
            have WW' := WW.trans (ba.mono WW.size)
            have O1' := O1.below ba (Nat.le_refl _)
            have V2' := V2.below ba WW.size
            have O3' := O3.below ba (Nat.le_refl _)
            have sz := ba.size
            have sn : W46.heap.size < (W46.alloc (.cells #[.slice none 0 0] 24)).heap.size := B10'.lt
            refine hK.out _ _ ⟨BP'.cell0, BQ'.cell0⟩ (fun hHeld2 => ?_)
            clear hK K
            (try simp only [Act.put, List.setIfInBounds_toArray, List.set_cons_zero, List.set_cons_succ])
            refine wpAnyH_name (fun W' => Blk W' (w.heap.size) 24 #[.slice A (nw a) c1] ∧ Blk W' (w.heap.size + 1) 24 #[.slice A2 (nw p) c2] ∧ Blk W' (w.heap.size + 1 + 1) 24 #[.slice A3 (nw b) c3] ∧ Blk W' (w.heap.size + 1 + 1 + 1) 24 #[.slice A4 (nw q) c4] ∧ Blk W' (w.heap.size + 1 + 1 + 1 + 1) 24 #[.slice none 0 0] ∧ Blk W' (W46.heap.size) 24 #[.slice none 0 0] ∧ Blk W' (W0.heap.size) 24 #[.slice none 0 0] ∧ Below w.heap.size w W' ∧ Own W' w.heap.size D1 (nw t) d1 t ∧ Val w.heap.size W' D2 (nw g) d2 g ∧ Own W' w.heap.size D3 (nw x0) d3 x0 ∧ W46.heap.size < W'.heap.size ∧ (fun w' => w'.cell? ⟨w.heap.size + 1, 0, none⟩ = some (.slice A2 (nw p) c2) ∧ w'.cell? ⟨w.heap.size + 1 + 1 + 1, 0, none⟩ = some (.slice A4 (nw q) c4)) W') (⟨BA', BP', BB', BQ', BR', B10', B11', WW', O1', V2', O3', sn, hHeld2⟩) ?_
            clear hHeld2 hHeld sz sn ba BA' BP' BB' BQ' BR' B10' B11' WW' O1' V2' O3' BA BP BB BQ BR B11 WW O1 V2 O3
            rintro W47 ⟨BA, BP, BB, BQ, BR, B10, B11, WW, O1, V2, O3, s47, hHeld⟩
            obtain ⟨g10, hg10⟩ : ∃ g, g = W46.heap.size := ⟨_, rfl⟩
            obtain ⟨g11, hg11⟩ : ∃ g, g = W0.heap.size := ⟨_, rfl⟩
            have n1 : W46.heap.size ≠ W0.heap.size := by omega
            have n2 : w.heap.size + 5 ≤ W46.heap.size := by omega
            have n3 : w.heap.size + 5 ≤ W0.heap.size := by omega
            rw [← hg10] at B10 n1 n2 ⊢
            rw [← hg11] at B11 n1 n3 ⊢
            clear hg10 hg11
            refine wpAnyH_ready (rs := [10]) (by kernel_rfl) (by simp) ?_
            refine AllReadyH.cons (o := { dst := none, op := Op.store 24 (Operand.tmp 10) (Operand.tmp 57), type := 0, pos := "natmod.go:78", after := #[{ on := 8, ground := Ground.data }, { on := 6, ground := Ground.data }, { on := 4, ground := Ground.chain }, { on := 0, ground := Ground.phase }, { on := 1, ground := Ground.phase }, { on := 2, ground := Ground.phase }, { on := 3, ground := Ground.phase }, { on := 4, ground := Ground.phase }, { on := 5, ground := Ground.phase }, { on := 6, ground := Ground.phase }, { on := 7, ground := Ground.textOnly Departure.lateStores }, { on := 8, ground := Ground.phase }, { on := 9, ground := Ground.phase }], guard := none }) rfl (fun K hK => ?_) AllReadyH.nil
            · have fz := B10.frozen 0
              have cz := B10.cell0
              go_simp
              have BA' := BA.far (p := ⟨g10, 0, none⟩) (by simp <;> omega) (.slice D2 (nw g) d2)
              have BP' := BP.far (p := ⟨g10, 0, none⟩) (by simp <;> omega) (.slice D2 (nw g) d2)
              have BB' := BB.far (p := ⟨g10, 0, none⟩) (by simp <;> omega) (.slice D2 (nw g) d2)
              have BQ' := BQ.far (p := ⟨g10, 0, none⟩) (by simp <;> omega) (.slice D2 (nw g) d2)
              have BR' := BR.far (p := ⟨g10, 0, none⟩) (by simp <;> omega) (.slice D2 (nw g) d2)
              have B11' := B11.far (p := ⟨g10, 0, none⟩) (by simp <;> omega) (.slice D2 (nw g) d2)
              have B10' := B10.set_ 0 (.slice D2 (nw g) d2)
              have WW' := WW.setCell (p := ⟨g10, 0, none⟩) (by simp <;> omega) (.slice D2 (nw g) d2)
              have V2' := V2.box (p := ⟨g10, 0, none⟩) B10 (by simp <;> omega) (.slice D2 (nw g) d2)
              have O3' := O3.box (p := ⟨g10, 0, none⟩) B10 (by decide) (.slice D2 (nw g) d2)
              refine hK.out _ _ ⟨BP'.cell0, BQ'.cell0⟩ (fun hHeld2 => ?_)
              clear hK K fz cz
              (try simp only [Act.put, List.setIfInBounds_toArray, List.set_cons_zero, List.set_cons_succ])
              refine wpAnyH_name (fun W' => Blk W' (w.heap.size) 24 #[.slice A (nw a) c1] ∧ Blk W' (w.heap.size + 1) 24 #[.slice A2 (nw p) c2] ∧ Blk W' (w.heap.size + 1 + 1) 24 #[.slice A3 (nw b) c3] ∧ Blk W' (w.heap.size + 1 + 1 + 1) 24 #[.slice A4 (nw q) c4] ∧ Blk W' (w.heap.size + 1 + 1 + 1 + 1) 24 #[.slice none 0 0] ∧ Blk W' g10 24 #[.slice D2 (nw g) d2] ∧ Blk W' g11 24 #[.slice none 0 0] ∧ Below w.heap.size w W' ∧ Val w.heap.size W' D2 (nw g) d2 g ∧ Own W' w.heap.size D3 (nw x0) d3 x0 ∧ (fun w' => w'.cell? ⟨w.heap.size + 1, 0, none⟩ = some (.slice A2 (nw p) c2) ∧ w'.cell? ⟨w.heap.size + 1 + 1 + 1, 0, none⟩ = some (.slice A4 (nw q) c4)) W') (⟨BA', BP', BB', BQ', BR', B10', B11', WW', V2', O3', hHeld2⟩) ?_
              clear hHeld2 hHeld BA' BP' BB' BQ' BR' B10' B11' WW' V2' O3' BA BP BB BQ BR B10 B11 WW V2 O3
              rintro W48 ⟨BA, BP, BB, BQ, BR, B10, B11, WW, V2, O3, hHeld⟩
              refine wpAnyH_ready (rs := [11]) (by kernel_rfl) (by simp) ?_
              refine AllReadyH.cons (o := { dst := none, op := Op.store 24 (Operand.tmp 11) (Operand.tmp 58), type := 0, pos := "natmod.go:78", after := #[{ on := 9, ground := Ground.data }, { on := 7, ground := Ground.data }, { on := 10, ground := Ground.chain }, { on := 0, ground := Ground.phase }, { on := 1, ground := Ground.phase }, { on := 2, ground := Ground.phase }, { on := 3, ground := Ground.phase }, { on := 4, ground := Ground.phase }, { on := 5, ground := Ground.phase }, { on := 6, ground := Ground.phase }, { on := 7, ground := Ground.phase }, { on := 8, ground := Ground.phase }, { on := 9, ground := Ground.phase }, { on := 10, ground := Ground.phase }], guard := none }) rfl (fun K hK => ?_) AllReadyH.nil
              · have fz := B11.frozen 0
                have cz := B11.cell0
                go_simp
                have BA' := BA.far (p := ⟨g11, 0, none⟩) (by simp <;> omega) (.slice D3 (nw x0) d3)
                have BP' := BP.far (p := ⟨g11, 0, none⟩) (by simp <;> omega) (.slice D3 (nw x0) d3)
                have BB' := BB.far (p := ⟨g11, 0, none⟩) (by simp <;> omega) (.slice D3 (nw x0) d3)
                have BQ' := BQ.far (p := ⟨g11, 0, none⟩) (by simp <;> omega) (.slice D3 (nw x0) d3)
                have BR' := BR.far (p := ⟨g11, 0, none⟩) (by simp <;> omega) (.slice D3 (nw x0) d3)
                have B10' := B10.far (p := ⟨g11, 0, none⟩) (by simp <;> omega) (.slice D3 (nw x0) d3)
                have B11' := B11.set_ 0 (.slice D3 (nw x0) d3)
                have WW' := WW.setCell (p := ⟨g11, 0, none⟩) (by simp <;> omega) (.slice D3 (nw x0) d3)
                have V2' := V2.box (p := ⟨g11, 0, none⟩) B11 (by simp <;> omega) (.slice D3 (nw x0) d3)
                have O3' := O3.box (p := ⟨g11, 0, none⟩) B11 (by decide) (.slice D3 (nw x0) d3)
                refine hK.out _ _ ⟨BP'.cell0, BQ'.cell0⟩ (fun hHeld2 => ?_)
                clear hK K fz cz
                (try simp only [Act.put, List.setIfInBounds_toArray, List.set_cons_zero, List.set_cons_succ])
                refine wpAnyH_name (fun W' => Blk W' (w.heap.size) 24 #[.slice A (nw a) c1] ∧ Blk W' (w.heap.size + 1) 24 #[.slice A2 (nw p) c2] ∧ Blk W' (w.heap.size + 1 + 1) 24 #[.slice A3 (nw b) c3] ∧ Blk W' (w.heap.size + 1 + 1 + 1) 24 #[.slice A4 (nw q) c4] ∧ Blk W' (w.heap.size + 1 + 1 + 1 + 1) 24 #[.slice none 0 0] ∧ Blk W' g10 24 #[.slice D2 (nw g) d2] ∧ Blk W' g11 24 #[.slice D3 (nw x0) d3] ∧ Below w.heap.size w W' ∧ Val w.heap.size W' D2 (nw g) d2 g ∧ Own W' w.heap.size D3 (nw x0) d3 x0 ∧ (fun w' => w'.cell? ⟨w.heap.size + 1, 0, none⟩ = some (.slice A2 (nw p) c2) ∧ w'.cell? ⟨w.heap.size + 1 + 1 + 1, 0, none⟩ = some (.slice A4 (nw q) c4)) W') (⟨BA', BP', BB', BQ', BR', B10', B11', WW', V2', O3', hHeld2⟩) ?_
                clear hHeld2 hHeld BA' BP' BB' BQ' BR' B10' B11' WW' V2' O3' BA BP BB BQ BR B10 B11 WW V2 O3
                rintro W49 ⟨BA, BP, BB, BQ, BR, B10, B11, WW, V2, O3, hHeld⟩
                refine wpAnyH_done (by kernel_rfl) ?_ _
                clear hHeld
                refine NoPanic.normal ?_
                exact ⟨rfl, g10, g11, D1, d1, D2, d2, D3, d3, rfl, BA, BP, BB, BQ, BR, B10, B11, WW, V2, O3⟩
        refine AllReadyH.cons (o := { dst := some 10, op := Op.alloc 24, type := 0, pos := "natmod.go:78", after := #[], guard := none }) rfl (fun K hK => ?_) AllReadyH.nil
        · go_simp
          have ba := (Below.refl W45.heap.size W45).alloc (Nat.le_refl _) (.cells #[.slice none 0 0] 24)
          have BA' := BA.below ba BA.lt
          have BP' := BP.below ba BP.lt
          have BB' := BB.below ba BB.lt
          have BQ' := BQ.below ba BQ.lt
          have BR' := BR.below ba BR.lt
          have B11' := B11.below ba B11.lt
          have B10' := Blk.new W45 24 #[.slice none 0 0]
          have WW' := WW.trans (ba.mono WW.size)
          have O1' := O1.below ba (Nat.le_refl _)
          have sz := ba.size
          have sn : W45.heap.size < (W45.alloc (.cells #[.slice none 0 0] 24)).heap.size := B10'.lt
          refine hK.out _ _ ⟨BP'.cell0, BQ'.cell0⟩ (fun hHeld2 => ?_)
          clear hK K
          (try simp only [Act.put, List.setIfInBounds_toArray, List.set_cons_zero, List.set_cons_succ])
          refine wpAnyH_name (fun W' => Blk W' (w.heap.size) 24 #[.slice A (nw a) c1] ∧ Blk W' (w.heap.size + 1) 24 #[.slice A2 (nw p) c2] ∧ Blk W' (w.heap.size + 1 + 1) 24 #[.slice A3 (nw b) c3] ∧ Blk W' (w.heap.size + 1 + 1 + 1) 24 #[.slice A4 (nw q) c4] ∧ Blk W' (w.heap.size + 1 + 1 + 1 + 1) 24 #[.slice none 0 0] ∧ Blk W' (W45.heap.size) 24 #[.slice none 0 0] ∧ Blk W' (W0.heap.size) 24 #[.slice none 0 0] ∧ Below w.heap.size w W' ∧ Own W' w.heap.size D1 (nw t) d1 t ∧ W45.heap.size < W'.heap.size ∧ (fun w' => w'.cell? ⟨w.heap.size + 1, 0, none⟩ = some (.slice A2 (nw p) c2) ∧ w'.cell? ⟨w.heap.size + 1 + 1 + 1, 0, none⟩ = some (.slice A4 (nw q) c4)) W') (⟨BA', BP', BB', BQ', BR', B10', B11', WW', O1', sn, hHeld2⟩) ?_
          clear hHeld2 hHeld sz sn ba BA' BP' BB' BQ' BR' B10' B11' WW' O1' BA BP BB BQ BR B11 WW O1
          rintro W50 ⟨BA, BP, BB, BQ, BR, B10, B11, WW, O1, s50, hHeld⟩
          refine wpAnyH_ready (rs := [4]) (by kernel_rfl) (by simp) ?_
          refine AllReadyH.cons (o := { dst := some 56, op := Op.call { callee := Callee.value (Operand.func 66), args := #[Operand.tmp 54, Operand.tmp 55], argTypes := #[24, 24] }, type := 62, pos := "natmod.go:78", after := #[{ on := 2, ground := Ground.data }, { on := 3, ground := Ground.data }, { on := 2, ground := Ground.chain }], guard := none }) rfl (fun K hK => ?_) AllReadyH.nil
          · go_simp
            have va : Val w.heap.size W50 D1 (nw t) d1 t := .inr O1
            have vb : Val w.heap.size W50 A4 (nw q) c4 q := .inl (HQ.out.below WW)
            have hc := euclid_any D1 A4 d1 c4 t q W50 O1.num ((HQ.out.below WW).more WW.size) hq32 HTQ.out w.heap.size WW.size va vb
            refine hc.mono ?_
            clear hc va vb
            rintro e W51 ⟨D2, d2, u, x, rfl, V2, hu, hb, hxm, hxd⟩
            rw [← HG.out] at V2 hxd ⊢
            obtain ⟨D3, d3, rfl, ho⟩ := hu
            have O3 := ho.weak (b := w.heap.size) WW.size
            have hx := HX.out x hxm hxd
            rw [hx] at O3 ⊢
            clear ho hxm hxd hx
            replace O1 := O1.below hb (Nat.le_refl _)
            replace BA := BA.below hb BA.lt
            replace BP := BP.below hb BP.lt
            replace BB := BB.below hb BB.lt
            replace BQ := BQ.below hb BQ.lt
            replace BR := BR.below hb BR.lt
            replace B10 := B10.below hb B10.lt
            replace B11 := B11.below hb B11.lt
            have hsz := WW.size
            replace WW := WW.trans (hb.mono WW.size)
            have s51 := hb.size
            have c1 := BP.cell0
            have c2' := BQ.cell0
            clear hb hsz
            refine hK.out _ _ ⟨c1, c2'⟩ (fun hHeld2 => ?_)
            clear hK K hHeld c1 c2'
            have hHeld := hHeld2
            clear hHeld2
            (try simp only [Act.put, List.setIfInBounds_toArray, List.set_cons_zero, List.set_cons_succ])
            refine wpAnyH_take (i := 5) (oi := { dst := some 51, op := Op.move (Operand.tmp 56), type := 62, pos := "natmod.go:78", after := #[{ on := 4, ground := Ground.data }], guard := none }) (v := ?_) rfl (by kernel_rfl) (by kernel_rfl) (by kernel_rfl) (fun _ _ _ h => h) (Or.inl ⟨by rfl, ?_⟩) (by assumption) ?_
            rotate_left
            · (intro ws hSw; (try dsimp only at hSw); (try go_simp); (try with_reducible rfl))
            (try simp only [Act.put, List.setIfInBounds_toArray, List.set_cons_zero, List.set_cons_succ])
            refine wpAnyH_take (i := 6) (oi := { dst := some 57, op := Op.extract (Operand.tmp 51) 0, type := 24, pos := "natmod.go:78", after := #[{ on := 5, ground := Ground.data }], guard := none }) (v := ?_) rfl (by kernel_rfl) (by kernel_rfl) (by kernel_rfl) (fun _ _ _ h => h) (Or.inl ⟨by rfl, ?_⟩) (by assumption) ?_
            rotate_left
            · (intro ws hSw; (try dsimp only at hSw); (try go_simp); (try with_reducible rfl))
            (try simp only [Act.put, List.setIfInBounds_toArray, List.set_cons_zero, List.set_cons_succ])
            refine wpAnyH_take (i := 7) (oi := { dst := some 58, op := Op.extract (Operand.tmp 51) 1, type := 24, pos := "natmod.go:78", after := #[{ on := 5, ground := Ground.data }, { on := 10, ground := Ground.gcOnly Departure.lateStores }], guard := none }) (v := ?_) rfl (by kernel_rfl) (by kernel_rfl) (by kernel_rfl) (fun _ _ _ h => h) (Or.inl ⟨by rfl, ?_⟩) (by assumption) ?_
            rotate_left
            · (intro ws hSw; (try dsimp only at hSw); (try go_simp); (try with_reducible rfl))
            (try simp only [Act.put, List.setIfInBounds_toArray, List.set_cons_zero, List.set_cons_succ])
            obtain ⟨g10, hg10⟩ : ∃ g, g = W45.heap.size := ⟨_, rfl⟩
            obtain ⟨g11, hg11⟩ : ∃ g, g = W0.heap.size := ⟨_, rfl⟩
            have n1 : W45.heap.size ≠ W0.heap.size := by omega
            have n2 : w.heap.size + 5 ≤ W45.heap.size := by omega
            have n3 : w.heap.size + 5 ≤ W0.heap.size := by omega
            rw [← hg10] at B10 n1 n2 ⊢
            rw [← hg11] at B11 n1 n3 ⊢
            clear hg10 hg11
            refine wpAnyH_ready (rs := [10]) (by kernel_rfl) (by simp) ?_
            refine AllReadyH.cons (o := { dst := none, op := Op.store 24 (Operand.tmp 10) (Operand.tmp 57), type := 0, pos := "natmod.go:78", after := #[{ on := 8, ground := Ground.data }, { on := 6, ground := Ground.data }, { on := 4, ground := Ground.chain }, { on := 0, ground := Ground.phase }, { on := 1, ground := Ground.phase }, { on := 2, ground := Ground.phase }, { on := 3, ground := Ground.phase }, { on := 4, ground := Ground.phase }, { on := 5, ground := Ground.phase }, { on := 6, ground := Ground.phase }, { on := 7, ground := Ground.textOnly Departure.lateStores }, { on := 8, ground := Ground.phase }, { on := 9, ground := Ground.phase }], guard := none }) rfl (fun K hK => ?_) AllReadyH.nil
            · have fz := B10.frozen 0
              have cz := B10.cell0
              go_simp
              have BA' := BA.far (p := ⟨g10, 0, none⟩) (by simp <;> omega) (.slice D2 (nw g) d2)
              have BP' := BP.far (p := ⟨g10, 0, none⟩) (by simp <;> omega) (.slice D2 (nw g) d2)
              have BB' := BB.far (p := ⟨g10, 0, none⟩) (by simp <;> omega) (.slice D2 (nw g) d2)
              have BQ' := BQ.far (p := ⟨g10, 0, none⟩) (by simp <;> omega) (.slice D2 (nw g) d2)
              have BR' := BR.far (p := ⟨g10, 0, none⟩) (by simp <;> omega) (.slice D2 (nw g) d2)
              have B11' := B11.far (p := ⟨g10, 0, none⟩) (by simp <;> omega) (.slice D2 (nw g) d2)
              have B10' := B10.set_ 0 (.slice D2 (nw g) d2)
              have WW' := WW.setCell (p := ⟨g10, 0, none⟩) (by simp <;> omega) (.slice D2 (nw g) d2)
              have V2' := V2.box (p := ⟨g10, 0, none⟩) B10 (by simp <;> omega) (.slice D2 (nw g) d2)
              have O3' := O3.box (p := ⟨g10, 0, none⟩) B10 (by decide) (.slice D2 (nw g) d2)
              refine hK.out _ _ ⟨BP'.cell0, BQ'.cell0⟩ (fun hHeld2 => ?_)
              clear hK K fz cz
              (try simp only [Act.put, List.setIfInBounds_toArray, List.set_cons_zero, List.set_cons_succ])
              refine wpAnyH_name (fun W' => Blk W' (w.heap.size) 24 #[.slice A (nw a) c1] ∧ Blk W' (w.heap.size + 1) 24 #[.slice A2 (nw p) c2] ∧ Blk W' (w.heap.size + 1 + 1) 24 #[.slice A3 (nw b) c3] ∧ Blk W' (w.heap.size + 1 + 1 + 1) 24 #[.slice A4 (nw q) c4] ∧ Blk W' (w.heap.size + 1 + 1 + 1 + 1) 24 #[.slice none 0 0] ∧ Blk W' g10 24 #[.slice D2 (nw g) d2] ∧ Blk W' g11 24 #[.slice none 0 0] ∧ Below w.heap.size w W' ∧ Val w.heap.size W' D2 (nw g) d2 g ∧ Own W' w.heap.size D3 (nw x0) d3 x0 ∧ (fun w' => w'.cell? ⟨w.heap.size + 1, 0, none⟩ = some (.slice A2 (nw p) c2) ∧ w'.cell? ⟨w.heap.size + 1 + 1 + 1, 0, none⟩ = some (.slice A4 (nw q) c4)) W') (⟨BA', BP', BB', BQ', BR', B10', B11', WW', V2', O3', hHeld2⟩) ?_
              clear hHeld2 hHeld BA' BP' BB' BQ' BR' B10' B11' WW' V2' O3' BA BP BB BQ BR B10 B11 WW V2 O3
              rintro W52 ⟨BA, BP, BB, BQ, BR, B10, B11, WW, V2, O3, hHeld⟩
              refine wpAnyH_ready (rs := [11]) (by kernel_rfl) (by simp) ?_
              refine AllReadyH.cons (o := { dst := none, op := Op.store 24 (Operand.tmp 11) (Operand.tmp 58), type := 0, pos := "natmod.go:78", after := #[{ on := 9, ground := Ground.data }, { on := 7, ground := Ground.data }, { on := 10, ground := Ground.chain }, { on := 0, ground := Ground.phase }, { on := 1, ground := Ground.phase }, { on := 2, ground := Ground.phase }, { on := 3, ground := Ground.phase }, { on := 4, ground := Ground.phase }, { on := 5, ground := Ground.phase }, { on := 6, ground := Ground.phase }, { on := 7, ground := Ground.phase }, { on := 8, ground := Ground.phase }, { on := 9, ground := Ground.phase }, { on := 10, ground := Ground.phase }], guard := none }) rfl (fun K hK => ?_) AllReadyH.nil
              · have fz := B11.frozen 0
                have cz := B11.cell0
                go_simp
                have BA' := BA.far (p := ⟨g11, 0, none⟩) (by simp <;> omega) (.slice D3 (nw x0) d3)
                have BP' := BP.far (p := ⟨g11, 0, none⟩) (by simp <;> omega) (.slice D3 (nw x0) d3)
                have BB' := BB.far (p := ⟨g11, 0, none⟩) (by simp <;> omega) (.slice D3 (nw x0) d3)
                have BQ' := BQ.far (p := ⟨g11, 0, none⟩) (by simp <;> omega) (.slice D3 (nw x0) d3)
                have BR' := BR.far (p := ⟨g11, 0, none⟩) (by simp <;> omega) (.slice D3 (nw x0) d3)
                have B10' := B10.far (p := ⟨g11, 0, none⟩) (by simp <;> omega) (.slice D3 (nw x0) d3)
                have B11' := B11.set_ 0 (.slice D3 (nw x0) d3)
                have WW' := WW.setCell (p := ⟨g11, 0, none⟩) (by simp <;> omega) (.slice D3 (nw x0) d3)
                have V2' := V2.box (p := ⟨g11, 0, none⟩) B11 (by simp <;> omega) (.slice D3 (nw x0) d3)
                have O3' := O3.box (p := ⟨g11, 0, none⟩) B11 (by decide) (.slice D3 (nw x0) d3)
                refine hK.out _ _ ⟨BP'.cell0, BQ'.cell0⟩ (fun hHeld2 => ?_)
                clear hK K fz cz
                (try simp only [Act.put, List.setIfInBounds_toArray, List.set_cons_zero, List.set_cons_succ])
                refine wpAnyH_name (fun W' => Blk W' (w.heap.size) 24 #[.slice A (nw a) c1] ∧ Blk W' (w.heap.size + 1) 24 #[.slice A2 (nw p) c2] ∧ Blk W' (w.heap.size + 1 + 1) 24 #[.slice A3 (nw b) c3] ∧ Blk W' (w.heap.size + 1 + 1 + 1) 24 #[.slice A4 (nw q) c4] ∧ Blk W' (w.heap.size + 1 + 1 + 1 + 1) 24 #[.slice none 0 0] ∧ Blk W' g10 24 #[.slice D2 (nw g) d2] ∧ Blk W' g11 24 #[.slice D3 (nw x0) d3] ∧ Below w.heap.size w W' ∧ Val w.heap.size W' D2 (nw g) d2 g ∧ Own W' w.heap.size D3 (nw x0) d3 x0 ∧ (fun w' => w'.cell? ⟨w.heap.size + 1, 0, none⟩ = some (.slice A2 (nw p) c2) ∧ w'.cell? ⟨w.heap.size + 1 + 1 + 1, 0, none⟩ = some (.slice A4 (nw q) c4)) W') (⟨BA', BP', BB', BQ', BR', B10', B11', WW', V2', O3', hHeld2⟩) ?_
                clear hHeld2 hHeld BA' BP' BB' BQ' BR' B10' B11' WW' V2' O3' BA BP BB BQ BR B10 B11 WW V2 O3
                rintro W53 ⟨BA, BP, BB, BQ, BR, B10, B11, WW, V2, O3, hHeld⟩
                refine wpAnyH_done (by kernel_rfl) ?_ _
                clear hHeld
                refine NoPanic.normal ?_
                exact ⟨rfl, g10, g11, D1, d1, D2, d2, D3, d3, rfl, BA, BP, BB, BQ, BR, B10, B11, WW, V2, O3⟩
      refine AllReadyH.cons (o := { dst := some 10, op := Op.alloc 24, type := 0, pos := "natmod.go:78", after := #[], guard := none }) rfl (fun K hK => ?_) AllReadyH.nil
      · go_simp
        have ba := (Below.refl W44.heap.size W44).alloc (Nat.le_refl _) (.cells #[.slice none 0 0] 24)
        have BA' := BA.below ba BA.lt
        have BP' := BP.below ba BP.lt
        have BB' := BB.below ba BB.lt
        have BQ' := BQ.below ba BQ.lt
        have BR' := BR.below ba BR.lt
        have B11' := B11.below ba B11.lt
        have B10' := Blk.new W44 24 #[.slice none 0 0]
        have WW' := WW.trans (ba.mono WW.size)
        have sz := ba.size
        have sn : W44.heap.size < (W44.alloc (.cells #[.slice none 0 0] 24)).heap.size := B10'.lt
        refine hK.out _ _ ⟨BP'.cell0, BQ'.cell0⟩ (fun hHeld2 => ?_)
        clear hK K
        (try simp only [Act.put, List.setIfInBounds_toArray, List.set_cons_zero, List.set_cons_succ])
        refine wpAnyH_name (fun W' => Blk W' (w.heap.size) 24 #[.slice A (nw a) c1] ∧ Blk W' (w.heap.size + 1) 24 #[.slice A2 (nw p) c2] ∧ Blk W' (w.heap.size + 1 + 1) 24 #[.slice A3 (nw b) c3] ∧ Blk W' (w.heap.size + 1 + 1 + 1) 24 #[.slice A4 (nw q) c4] ∧ Blk W' (w.heap.size + 1 + 1 + 1 + 1) 24 #[.slice none 0 0] ∧ Blk W' (W44.heap.size) 24 #[.slice none 0 0] ∧ Blk W' (W0.heap.size) 24 #[.slice none 0 0] ∧ Below w.heap.size w W' ∧ W44.heap.size < W'.heap.size ∧ (fun w' => w'.cell? ⟨w.heap.size + 1, 0, none⟩ = some (.slice A2 (nw p) c2) ∧ w'.cell? ⟨w.heap.size + 1 + 1 + 1, 0, none⟩ = some (.slice A4 (nw q) c4)) W') (⟨BA', BP', BB', BQ', BR', B10', B11', WW', sn, hHeld2⟩) ?_
        clear hHeld2 hHeld sz sn ba BA' BP' BB' BQ' BR' B10' B11' WW' BA BP BB BQ BR B11 WW
        rintro W54 ⟨BA, BP, BB, BQ, BR, B10, B11, WW, s54, hHeld⟩
        refine wpAnyH_ready (rs := [2]) (by kernel_rfl) (by simp) ?_
        refine AllReadyH.cons (o := { dst := some 54, op := Op.call { callee := Callee.value (Operand.func 58), args := #[Operand.tmp 52, Operand.tmp 53], argTypes := #[24, 24] }, type := 24, pos := "natmod.go:78", after := #[{ on := 0, ground := Ground.data }, { on := 1, ground := Ground.data }], guard := none }) rfl (fun K hK => ?_) AllReadyH.nil
        · go_simp
          have hc := remainder_any A2 A4 c2 c4 p q W54 ((HP.out.below WW).more WW.size) ((HQ.out.below WW).more WW.size) (by omega) (by omega) hq0
          rw [← HT.out] at hc
          refine hc.mono ?_
          clear hc
          rintro e W55 ⟨v, rfl, ⟨D1, d1, rfl, ho⟩, hb⟩
          have O1 := ho.weak (b := w.heap.size) WW.size
          clear ho
          replace BA := BA.below hb BA.lt
          replace BP := BP.below hb BP.lt
          replace BB := BB.below hb BB.lt
          replace BQ := BQ.below hb BQ.lt
          replace BR := BR.below hb BR.lt
          replace B10 := B10.below hb B10.lt
          replace B11 := B11.below hb B11.lt
          have hsz := WW.size
          replace WW := WW.trans (hb.mono WW.size)
          have s55 := hb.size
          have c1 := BP.cell0
          have c2' := BQ.cell0
          clear hb hsz
          refine hK.out _ _ ⟨c1, c2'⟩ (fun hHeld2 => ?_)
          clear hK K hHeld c1 c2'
          have hHeld := hHeld2
          clear hHeld2
          (try simp only [Act.put, List.setIfInBounds_toArray, List.set_cons_zero, List.set_cons_succ])
          refine wpAnyH_ready (rs := [4]) (by kernel_rfl) (by simp) ?_
          refine AllReadyH.cons (o := { dst := some 56, op := Op.call { callee := Callee.value (Operand.func 66), args := #[Operand.tmp 54, Operand.tmp 55], argTypes := #[24, 24] }, type := 62, pos := "natmod.go:78", after := #[{ on := 2, ground := Ground.data }, { on := 3, ground := Ground.data }, { on := 2, ground := Ground.chain }], guard := none }) rfl (fun K hK => ?_) AllReadyH.nil
          · go_simp
            have va : Val w.heap.size W55 D1 (nw t) d1 t := .inr O1
            have vb : Val w.heap.size W55 A4 (nw q) c4 q := .inl (HQ.out.below WW)
            have hc := euclid_any D1 A4 d1 c4 t q W55 O1.num ((HQ.out.below WW).more WW.size) hq32 HTQ.out w.heap.size WW.size va vb
            refine hc.mono ?_
            clear hc va vb
            rintro e W56 ⟨D2, d2, u, x, rfl, V2, hu, hb, hxm, hxd⟩
            rw [← HG.out] at V2 hxd ⊢
            obtain ⟨D3, d3, rfl, ho⟩ := hu
            have O3 := ho.weak (b := w.heap.size) WW.size
            have hx := HX.out x hxm hxd
            rw [hx] at O3 ⊢
            clear ho hxm hxd hx
            replace O1 := O1.below hb (Nat.le_refl _)
            replace BA := BA.below hb BA.lt
            replace BP := BP.below hb BP.lt
            replace BB := BB.below hb BB.lt
            replace BQ := BQ.below hb BQ.lt
            replace BR := BR.below hb BR.lt
            replace B10 := B10.below hb B10.lt
            replace B11 := B11.below hb B11.lt
            have hsz := WW.size
            replace WW := WW.trans (hb.mono WW.size)
            have s56 := hb.size
            have c1 := BP.cell0
            have c2' := BQ.cell0
            clear hb hsz
            refine hK.out _ _ ⟨c1, c2'⟩ (fun hHeld2 => ?_)
            clear hK K hHeld c1 c2'
            have hHeld := hHeld2
            clear hHeld2
            (try simp only [Act.put, List.setIfInBounds_toArray, List.set_cons_zero, List.set_cons_succ])
            refine wpAnyH_take (i := 5) (oi := { dst := some 51, op := Op.move (Operand.tmp 56), type := 62, pos := "natmod.go:78", after := #[{ on := 4, ground := Ground.data }], guard := none }) (v := ?_) rfl (by kernel_rfl) (by kernel_rfl) (by kernel_rfl) (fun _ _ _ h => h) (Or.inl ⟨by rfl, ?_⟩) (by assumption) ?_
            rotate_left
            · (intro ws hSw; (try dsimp only at hSw); (try go_simp); (try with_reducible rfl))
            (try simp only [Act.put, List.setIfInBounds_toArray, List.set_cons_zero, List.set_cons_succ])
            refine wpAnyH_take (i := 6) (oi := { dst := some 57, op := Op.extract (Operand.tmp 51) 0, type := 24, pos := "natmod.go:78", after := #[{ on := 5, ground := Ground.data }], guard := none }) (v := ?_) rfl (by kernel_rfl) (by kernel_rfl) (by kernel_rfl) (fun _ _ _ h => h) (Or.inl ⟨by rfl, ?_⟩) (by assumption) ?_
            rotate_left
            · (intro ws hSw; (try dsimp only at hSw); (try go_simp); (try with_reducible rfl))
            (try simp only [Act.put, List.setIfInBounds_toArray, List.set_cons_zero, List.set_cons_succ])
            refine wpAnyH_take (i := 7) (oi := { dst := some 58, op := Op.extract (Operand.tmp 51) 1, type := 24, pos := "natmod.go:78", after := #[{ on := 5, ground := Ground.data }, { on := 10, ground := Ground.gcOnly Departure.lateStores }], guard := none }) (v := ?_) rfl (by kernel_rfl) (by kernel_rfl) (by kernel_rfl) (fun _ _ _ h => h) (Or.inl ⟨by rfl, ?_⟩) (by assumption) ?_
            rotate_left
            · (intro ws hSw; (try dsimp only at hSw); (try go_simp); (try with_reducible rfl))
            (try simp only [Act.put, List.setIfInBounds_toArray, List.set_cons_zero, List.set_cons_succ])
            obtain ⟨g10, hg10⟩ : ∃ g, g = W44.heap.size := ⟨_, rfl⟩
            obtain ⟨g11, hg11⟩ : ∃ g, g = W0.heap.size := ⟨_, rfl⟩
            have n1 : W44.heap.size ≠ W0.heap.size := by omega
            have n2 : w.heap.size + 5 ≤ W44.heap.size := by omega
            have n3 : w.heap.size + 5 ≤ W0.heap.size := by omega
            rw [← hg10] at B10 n1 n2 ⊢
            rw [← hg11] at B11 n1 n3 ⊢
            clear hg10 hg11
            refine wpAnyH_ready (rs := [10]) (by kernel_rfl) (by simp) ?_
            refine AllReadyH.cons (o := { dst := none, op := Op.store 24 (Operand.tmp 10) (Operand.tmp 57), type := 0, pos := "natmod.go:78", after := #[{ on := 8, ground := Ground.data }, { on := 6, ground := Ground.data }, { on := 4, ground := Ground.chain }, { on := 0, ground := Ground.phase }, { on := 1, ground := Ground.phase }, { on := 2, ground := Ground.phase }, { on := 3, ground := Ground.phase }, { on := 4, ground := Ground.phase }, { on := 5, ground := Ground.phase }, { on := 6, ground := Ground.phase }, { on := 7, ground := Ground.textOnly Departure.lateStores }, { on := 8, ground := Ground.phase }, { on := 9, ground := Ground.phase }], guard := none }) rfl (fun K hK => ?_) AllReadyH.nil
            · have fz := B10.frozen 0
              have cz := B10.cell0
              go_simp
              have BA' := BA.far (p := ⟨g10, 0, none⟩) (by simp <;> omega) (.slice D2 (nw g) d2)
              have BP' := BP.far (p := ⟨g10, 0, none⟩) (by simp <;> omega) (.slice D2 (nw g) d2)
              have BB' := BB.far (p := ⟨g10, 0, none⟩) (by simp <;> omega) (.slice D2 (nw g) d2)
              have BQ' := BQ.far (p := ⟨g10, 0, none⟩) (by simp <;> omega) (.slice D2 (nw g) d2)
              have BR' := BR.far (p := ⟨g10, 0, none⟩) (by simp <;> omega) (.slice D2 (nw g) d2)
              have B11' := B11.far (p := ⟨g10, 0, none⟩) (by simp <;> omega) (.slice D2 (nw g) d2)
              have B10' := B10.set_ 0 (.slice D2 (nw g) d2)
              have WW' := WW.setCell (p := ⟨g10, 0, none⟩) (by simp <;> omega) (.slice D2 (nw g) d2)
              have V2' := V2.box (p := ⟨g10, 0, none⟩) B10 (by simp <;> omega) (.slice D2 (nw g) d2)
              have O3' := O3.box (p := ⟨g10, 0, none⟩) B10 (by decide) (.slice D2 (nw g) d2)
              refine hK.out _ _ ⟨BP'.cell0, BQ'.cell0⟩ (fun hHeld2 => ?_)
              clear hK K fz cz
              (try simp only [Act.put, List.setIfInBounds_toArray, List.set_cons_zero, List.set_cons_succ])
              refine wpAnyH_name (fun W' => Blk W' (w.heap.size) 24 #[.slice A (nw a) c1] ∧ Blk W' (w.heap.size + 1) 24 #[.slice A2 (nw p) c2] ∧ Blk W' (w.heap.size + 1 + 1) 24 #[.slice A3 (nw b) c3] ∧ Blk W' (w.heap.size + 1 + 1 + 1) 24 #[.slice A4 (nw q) c4] ∧ Blk W' (w.heap.size + 1 + 1 + 1 + 1) 24 #[.slice none 0 0] ∧ Blk W' g10 24 #[.slice D2 (nw g) d2] ∧ Blk W' g11 24 #[.slice none 0 0] ∧ Below w.heap.size w W' ∧ Val w.heap.size W' D2 (nw g) d2 g ∧ Own W' w.heap.size D3 (nw x0) d3 x0 ∧ (fun w' => w'.cell? ⟨w.heap.size + 1, 0, none⟩ = some (.slice A2 (nw p) c2) ∧ w'.cell? ⟨w.heap.size + 1 + 1 + 1, 0, none⟩ = some (.slice A4 (nw q) c4)) W') (⟨BA', BP', BB', BQ', BR', B10', B11', WW', V2', O3', hHeld2⟩) ?_
              clear hHeld2 hHeld BA' BP' BB' BQ' BR' B10' B11' WW' V2' O3' BA BP BB BQ BR B10 B11 WW V2 O3
              rintro W57 ⟨BA, BP, BB, BQ, BR, B10, B11, WW, V2, O3, hHeld⟩
              refine wpAnyH_ready (rs := [11]) (by kernel_rfl) (by simp) ?_
              refine AllReadyH.cons (o := { dst := none, op := Op.store 24 (Operand.tmp 11) (Operand.tmp 58), type := 0, pos := "natmod.go:78", after := #[{ on := 9, ground := Ground.data }, { on := 7, ground := Ground.data }, { on := 10, ground := Ground.chain }, { on := 0, ground := Ground.phase }, { on := 1, ground := Ground.phase }, { on := 2, ground := Ground.phase }, { on := 3, ground := Ground.phase }, { on := 4, ground := Ground.phase }, { on := 5, ground := Ground.phase }, { on := 6, ground := Ground.phase }, { on := 7, ground := Ground.phase }, { on := 8, ground := Ground.phase }, { on := 9, ground := Ground.phase }, { on := 10, ground := Ground.phase }], guard := none }) rfl (fun K hK => ?_) AllReadyH.nil
              · have fz := B11.frozen 0
                have cz := B11.cell0
                go_simp
                have BA' := BA.far (p := ⟨g11, 0, none⟩) (by simp <;> omega) (.slice D3 (nw x0) d3)
                have BP' := BP.far (p := ⟨g11, 0, none⟩) (by simp <;> omega) (.slice D3 (nw x0) d3)
                have BB' := BB.far (p := ⟨g11, 0, none⟩) (by simp <;> omega) (.slice D3 (nw x0) d3)
                have BQ' := BQ.far (p := ⟨g11, 0, none⟩) (by simp <;> omega) (.slice D3 (nw x0) d3)
                have BR' := BR.far (p := ⟨g11, 0, none⟩) (by simp <;> omega) (.slice D3 (nw x0) d3)
                have B10' := B10.far (p := ⟨g11, 0, none⟩) (by simp <;> omega) (.slice D3 (nw x0) d3)
                have B11' := B11.set_ 0 (.slice D3 (nw x0) d3)
                have WW' := WW.setCell (p := ⟨g11, 0, none⟩) (by simp <;> omega) (.slice D3 (nw x0) d3)
                have V2' := V2.box (p := ⟨g11, 0, none⟩) B11 (by simp <;> omega) (.slice D3 (nw x0) d3)
                have O3' := O3.box (p := ⟨g11, 0, none⟩) B11 (by decide) (.slice D3 (nw x0) d3)
                refine hK.out _ _ ⟨BP'.cell0, BQ'.cell0⟩ (fun hHeld2 => ?_)
                clear hK K fz cz
                (try simp only [Act.put, List.setIfInBounds_toArray, List.set_cons_zero, List.set_cons_succ])
                refine wpAnyH_name (fun W' => Blk W' (w.heap.size) 24 #[.slice A (nw a) c1] ∧ Blk W' (w.heap.size + 1) 24 #[.slice A2 (nw p) c2] ∧ Blk W' (w.heap.size + 1 + 1) 24 #[.slice A3 (nw b) c3] ∧ Blk W' (w.heap.size + 1 + 1 + 1) 24 #[.slice A4 (nw q) c4] ∧ Blk W' (w.heap.size + 1 + 1 + 1 + 1) 24 #[.slice none 0 0] ∧ Blk W' g10 24 #[.slice D2 (nw g) d2] ∧ Blk W' g11 24 #[.slice D3 (nw x0) d3] ∧ Below w.heap.size w W' ∧ Val w.heap.size W' D2 (nw g) d2 g ∧ Own W' w.heap.size D3 (nw x0) d3 x0 ∧ (fun w' => w'.cell? ⟨w.heap.size + 1, 0, none⟩ = some (.slice A2 (nw p) c2) ∧ w'.cell? ⟨w.heap.size + 1 + 1 + 1, 0, none⟩ = some (.slice A4 (nw q) c4)) W') (⟨BA', BP', BB', BQ', BR', B10', B11', WW', V2', O3', hHeld2⟩) ?_
                clear hHeld2 hHeld BA' BP' BB' BQ' BR' B10' B11' WW' V2' O3' BA BP BB BQ BR B10 B11 WW V2 O3
                rintro W58 ⟨BA, BP, BB, BQ, BR, B10, B11, WW, V2, O3, hHeld⟩
                refine wpAnyH_done (by kernel_rfl) ?_ _
                clear hHeld
                refine NoPanic.normal ?_
                exact ⟨rfl, g10, g11, D1, d1, D2, d2, D3, d3, rfl, BA, BP, BB, BQ, BR, B10, B11, WW, V2, O3⟩
  rintro g10 g11 D1 d1 D2 d2 D3 d3 W ⟨BA, BP, BB, BQ, BR, B10, B11, WW, V2, O3⟩
  have XA : Box W w.heap.size A (nw a) c1 a := ⟨BA, (HA.out.below WW).more WW.size⟩
  have XP : Box W (w.heap.size + 1) A2 (nw p) c2 p := ⟨BP, (HP.out.below WW).more WW.size⟩
  have XB : Box W (w.heap.size + 1 + 1) A3 (nw b) c3 b := ⟨BB, (HB.out.below WW).more WW.size⟩
  have XQ : Box W (w.heap.size + 1 + 1 + 1) A4 (nw q) c4 q := ⟨BQ, (HQ.out.below WW).more WW.size⟩
  have XR : Box W (w.heap.size + 1 + 1 + 1 + 1) none 0 0 0 := ⟨BR, Num.nil _ _ _⟩
  have X10 : Box W g10 D2 (nw g) d2 g := ⟨B10, V2.num WW.size⟩
  have X11 : Box W g11 D3 (nw x0) d3 x0 := ⟨B11, O3.num⟩
  clear BA BP BB BQ BR B10 B11 V2
  have K1 : Hid (okB (nw g) g = true) := (show okB (nw g) g = true by rw [HG1.out]; exact okB_nw (a := 1) (by decide))
  have K2 : Hid (okB (nw 1) 1 = true) := okB_nw (a := 1) (by decide)
  have K3 := hid (okB_nw (Nat.le_trans hp32 (show 32 ≤ 64 by omega)))
  have K4 := hid (okB_nw (Nat.le_trans hq32 (show 32 ≤ 64 by omega)))
  have OD : Hid (ordN g 1 = 0) := ordN_zero.2 HG1.out
  have gn : nw g ≤ 64 := by rw [HG1.out]; decide
  obtain ⟨pq, hpq'⟩ : ∃ z, z = p * q := ⟨_, rfl⟩
  have HPQ := hid hpq'
  rw [← hpq'] at hpq
  have LPQ := hid (limS_ok (Nat.le_trans hpq (show 32 ≤ 64 by omega)))
  have hpq0 : 0 < pq := by rw [hpq']; exact Nat.mul_pos hp0 (by omega)
  have M3 : Hid (modB (nw pq) pq = true) := (show modB (nw pq) pq = true by unfold modB; rw [okB_nw (Nat.le_trans hpq (show 32 ≤ 64 by omega)), decide_eq_true ⟨nw_pos (by omega), hpq⟩]; rfl)
  obtain ⟨r1, hr1⟩ : ∃ z, z = a % q := ⟨_, rfl⟩
  have HR1 := hid hr1
  have r1q : r1 ≤ q := by rw [hr1]; exact Nat.le_of_lt (Nat.mod_lt _ (by omega))
  have r1n : nw r1 ≤ 32 := Nat.le_trans (nw_mono r1q) hq32
  obtain ⟨s1, hs1⟩ : ∃ z, z = (b + (q - r1)) % q := ⟨_, rfl⟩
  have HS1 := hid hs1
  have s1q : s1 ≤ q := by rw [hs1]; exact Nat.le_of_lt (Nat.mod_lt _ (by omega))
  have s1n : nw s1 ≤ 32 := Nat.le_trans (nw_mono s1q) hq32
  have hbs1 : nw (b + (q - r1)) ≤ 64 := Nat.le_trans (nw_sum (k := 32) hb32 (Nat.le_trans (nw_mono (Nat.sub_le _ _)) hq32)) (by omega)
  have x0n : nw x0 ≤ 32 := Nat.le_trans (nw_mono (show x0 ≤ q from Nat.le_of_lt (by rw [HX0.out]; exact invN_lt (by omega)))) hq32
  have hsx : nw (s1 * x0) ≤ 64 := Nat.le_trans (nw_prod (j := 32) (k := 32) s1n x0n) (by omega)
  obtain ⟨k1, hk1⟩ : ∃ z, z = (s1 * x0) % q := ⟨_, rfl⟩
  have HK1 := hid hk1
  have k1q : k1 < q := by rw [hk1]; exact Nat.mod_lt _ (by omega)
  have k1n : nw k1 ≤ 32 := Nat.le_trans (nw_mono (Nat.le_of_lt k1q)) hq32
  obtain ⟨u1, hu1⟩ : ∃ z, z = p * k1 := ⟨_, rfl⟩
  have HU1 := hid hu1
  have u1n : nw u1 ≤ 32 := Nat.le_trans (nw_mono (by rw [hu1, hpq']; exact Nat.mul_le_mul_left p (Nat.le_of_lt k1q))) hpq
  have LU1 := hid (limS_ok (Nat.le_trans u1n (show 32 ≤ 64 by omega)))
  obtain ⟨v1, hv1⟩ : ∃ z, z = a + u1 := ⟨_, rfl⟩
  have HV1 := hid hv1
  have v1n : nw v1 ≤ 64 := by rw [hv1]; exact Nat.le_trans (nw_sum (k := 32) ha32 u1n) (by omega)
  have LV1 := hid (limS_ok v1n)
  have HRES : Hid (crtN a p b q = v1) := (show crtN a p b q = v1 by unfold crtN; rw [hv1, hu1, hk1, hs1, hr1, HX0.out, HT.out])
  have K5 := hid (okB_nw (Nat.le_trans k1n (show 32 ≤ 64 by omega)))
  have K6 := hid (okB_nw (Nat.le_trans u1n (show 32 ≤ 64 by omega)))
  clear hpq' hr1 hs1 hk1 hu1 hv1
  have kXA := XA.cell
  have zXA := XA.lt
  have kXP := XP.cell
  have zXP := XP.lt
  have kXB := XB.cell
  have zXB := XB.lt
  have kXQ := XQ.cell
  have zXQ := XQ.lt
  have kXR := XR.cell
  have zXR := XR.lt
  have kX10 := X10.cell
  have zX10 := X10.lt
  have kX11 := X11.cell
  have zX11 := X11.lt
  go_wp2_with fail
  have hbs : w.heap.size ≤ W.heap.size := WW.size
  have hc := mul_any A2 A4 _ _ c2 c4 p q W XP.num XQ.num (by omega) (by omega)
  rw [bothS_yes K3.out K4.out] at hc
  rw [← HPQ.out] at hc
  rw [LPQ.out] at hc
  refine hc.mono ?_
  clear hc
  rintro e V21 ⟨v, rfl, hv, hb⟩
  clear kXA zXA kXP zXP kXB zXB kXQ zXQ kXR zXR kX10 zX10 kX11 zX11
  replace XA := XA.below hb
  replace XP := XP.below hb
  replace XB := XB.below hb
  replace XQ := XQ.below hb
  replace XR := XR.below hb
  replace X10 := X10.below hb
  replace X11 := X11.below hb
  replace O3 := O3.below hb (Nat.le_refl _)
  replace WW := WW.trans (hb.mono WW.size)
  obtain ⟨D12, d12, rfl, ho⟩ := hv
  have O12 := ho.weak (b := w.heap.size) hbs
  have hv' := O12.num
  clear ho
  have kXA := XA.cell
  have zXA := XA.lt
  have kXP := XP.cell
  have zXP := XP.lt
  have kXB := XB.cell
  have zXB := XB.lt
  have kXQ := XQ.cell
  have zXQ := XQ.lt
  have kXR := XR.cell
  have zXR := XR.lt
  have kX10 := X10.cell
  have zX10 := X10.lt
  have kX11 := X11.cell
  have zX11 := X11.lt
  clear hb hbs
  go_wp2_with fail
  obtain ⟨b0, bw⟩ := boxes1 V21 (.slice D12 (nw pq) d12)
  clear kXA zXA kXP zXP kXB zXB kXQ zXQ kXR zXR kX10 zX10 kX11 zX11
  replace XA := XA.below bw
  replace XP := XP.below bw
  replace XB := XB.below bw
  replace XQ := XQ.below bw
  replace XR := XR.below bw
  replace X10 := X10.below bw
  replace X11 := X11.below bw
  have X12 := Box.mk b0 hv' bw
  replace O3 := O3.below bw (Nat.le_refl _)
  replace O12 := O12.below bw (Nat.le_refl _)
  replace WW := WW.trans (bw.mono WW.size)
  clear bw b0 hv'
  generalize hV : (V21.alloc (.cells #[.slice D12 (nw pq) d12] 24)) = V22 at XA XP XB XQ XR X10 X11 X12 O3 O12 WW ⊢
  clear hV
  have kXA := XA.cell
  have zXA := XA.lt
  have kXP := XP.cell
  have zXP := XP.lt
  have kXB := XB.cell
  have zXB := XB.lt
  have kXQ := XQ.cell
  have zXQ := XQ.lt
  have kXR := XR.cell
  have zXR := XR.lt
  have kX10 := X10.cell
  have zX10 := X10.lt
  have kX11 := X11.cell
  have zX11 := X11.lt
  have kX12 := X12.cell
  have zX12 := X12.lt
  have WWd := WW.drew
  have XAd := XA.drew
  have XPd := XP.drew
  have XBd := XB.drew
  have XQd := XQ.drew
  have XRd := XR.drew
  have X10d := X10.drew
  have X11d := X11.drew
  have X12d := X12.drew
  have O3d := O3.drew
  have O12d := O12.drew
  have hst : (fun w' => w'.cell? ⟨g10, 0, none⟩ = some (.slice D2 (nw g) d2)) V22.drew := kX10
  clear WW kXA zXA kXP zXP kXB zXB kXQ zXQ kXR zXR kX10 zX10 kX11 zX11 kX12 zX12 XA XP XB XQ XR X10 X11 X12 O3 O12
  have WW := WWd
  have XA := XAd
  have XP := XPd
  have XB := XBd
  have XQ := XQd
  have XR := XRd
  have X10 := X10d
  have X11 := X11d
  have X12 := X12d
  have O3 := O3d
  have O12 := O12d
  clear WWd XAd XPd XBd XQd XRd X10d X11d X12d O3d O12d
  refine wp_region_held_drew (S := (fun w' => w'.cell? ⟨g10, 0, none⟩ = some (.slice D2 (nw g) d2))) (by kernel_rfl) (hst) (fun hHeld => ?_)
  refine wpAnyH_take (i := 0) (oi := { dst := some 66, op := Op.load 24 (Operand.tmp 10), type := 24, pos := "natmod.go:81", after := #[], guard := none }) (v := ?_) rfl (by kernel_rfl) (by kernel_rfl) (by kernel_rfl) (fun _ _ _ h => h) (Or.inl ⟨by rfl, ?_⟩) (by assumption) ?_
  rotate_left
  · (intro ws hSw; (try dsimp only at hSw); (try go_simp); (try with_reducible rfl))
  (try simp only [Act.put, List.setIfInBounds_toArray, List.set_cons_zero, List.set_cons_succ])
  refine wpAnyH_ready (rs := [1]) (by kernel_rfl) (by simp) ?_
  refine AllReadyH.cons (o := { dst := some 67, op := Op.call { callee := Callee.value (Operand.func 59), args := #[], argTypes := #[] }, type := 24, pos := "natmod.go:81", after := #[], guard := none }) rfl (fun K hK => ?_) AllReadyH.nil
  go_simp
  have hbs : w.heap.size ≤ (V22.drew).heap.size := WW.size
  have hc := one_any (V22.drew)
  refine hc.mono ?_
  clear hc
  rintro e V23 ⟨v, rfl, hv, hb⟩
  replace XA := XA.below hb
  replace XP := XP.below hb
  replace XB := XB.below hb
  replace XQ := XQ.below hb
  replace XR := XR.below hb
  replace X10 := X10.below hb
  replace X11 := X11.below hb
  replace X12 := X12.below hb
  replace O3 := O3.below hb (Nat.le_refl _)
  replace O12 := O12.below hb (Nat.le_refl _)
  replace WW := WW.trans (hb.mono WW.size)
  obtain ⟨D13, d13, rfl, ho⟩ := hv
  have O13 := ho.weak (b := w.heap.size) hbs
  clear ho
  have kX10 := X10.cell
  clear hb hbs
  refine hK.out _ _ (kX10) (fun hHeld1 => ?_)
  clear hK K hHeld
  have hHeld := hHeld1
  clear hHeld1
  (try simp only [Act.put, List.setIfInBounds_toArray, List.set_cons_zero, List.set_cons_succ])
  refine wpAnyH_ready (rs := [2]) (by kernel_rfl) (by simp) ?_
  refine AllReadyH.cons (o := { dst := some 68, op := Op.call { callee := Callee.value (Operand.func 67), args := #[Operand.tmp 66, Operand.tmp 67], argTypes := #[24, 24] }, type := 3, pos := "natmod.go:81", after := #[{ on := 0, ground := Ground.data }, { on := 1, ground := Ground.data }, { on := 1, ground := Ground.chain }], guard := none }) rfl (fun K hK => ?_) AllReadyH.nil
  go_simp
  have hbs : w.heap.size ≤ (V23).heap.size := WW.size
  have hc := cmp_any D2 D13 _ _ d2 d13 g 1 (V23) X10.num O13.num (by omega) (by decide)
  rw [bothC_yes K1.out K2.out] at hc
  rw [OD.out] at hc
  refine hc.mono ?_
  clear hc
  rintro e V24 ⟨rfl, hb⟩
  clear kX10
  replace XA := XA.below hb
  replace XP := XP.below hb
  replace XB := XB.below hb
  replace XQ := XQ.below hb
  replace XR := XR.below hb
  replace X10 := X10.below hb
  replace X11 := X11.below hb
  replace X12 := X12.below hb
  replace O3 := O3.below hb (Nat.le_refl _)
  replace O12 := O12.below hb (Nat.le_refl _)
  replace O13 := O13.below hb (Nat.le_refl _)
  replace WW := WW.trans (hb.mono WW.size)
  have kX10 := X10.cell
  clear hb hbs
  refine hK.out _ _ (kX10) (fun hHeld2 => ?_)
  clear hK K hHeld
  have hHeld := hHeld2
  clear hHeld2
  (try simp only [Act.put, List.setIfInBounds_toArray, List.set_cons_zero, List.set_cons_succ])
  refine wpAnyH_take (i := 3) (oi := { dst := some 69, op := Op.binOp BinOp.neq 3 (Operand.tmp 68) (Operand.const (Value.int IntKind.i64 0)) 3, type := 4, pos := "natmod.go:81", after := #[{ on := 2, ground := Ground.data }], guard := none }) (v := ?_) rfl (by kernel_rfl) (by kernel_rfl) (by kernel_rfl) (fun _ _ _ h => h) (Or.inl ⟨by rfl, ?_⟩) (by assumption) ?_
  rotate_left
  · (intro ws hSw; (try dsimp only at hSw); (try go_simp); (try with_reducible rfl))
  (try simp only [Act.put, List.setIfInBounds_toArray, List.set_cons_zero, List.set_cons_succ])
  refine wpAnyH_take (i := 4) (oi := { dst := some 65, op := Op.assign (Operand.tmp 69), type := 4, pos := "natmod.go:81", after := #[{ on := 3, ground := Ground.data }, { on := 2, ground := Ground.chain }], guard := none }) (v := ?_) rfl (by kernel_rfl) (by kernel_rfl) (by kernel_rfl) (fun _ _ _ h => h) (Or.inl ⟨by rfl, ?_⟩) (by assumption) ?_
  rotate_left
  · (intro ws hSw; (try dsimp only at hSw); (try go_simp); (try with_reducible rfl))
  (try simp only [Act.put, List.setIfInBounds_toArray, List.set_cons_zero, List.set_cons_succ])
  refine wpAnyH_done (by kernel_rfl) ?_ _
  clear hHeld
  clear hst kX10
  have kXA := XA.cell
  have zXA := XA.lt
  have kXP := XP.cell
  have zXP := XP.lt
  have kXB := XB.cell
  have zXB := XB.lt
  have kXQ := XQ.cell
  have zXQ := XQ.lt
  have kXR := XR.cell
  have zXR := XR.lt
  have kX10 := X10.cell
  have zX10 := X10.lt
  have kX11 := X11.cell
  have zX11 := X11.lt
  have kX12 := X12.cell
  have zX12 := X12.lt
  go_wp2_with fail
  have hbs : w.heap.size ≤ V24.heap.size := WW.size
  have hc := modulus_any D12 _ d12 pq V24 X12.num (by omega)
  rw [M3.out] at hc
  refine hc.mono ?_
  clear hc
  rintro e V25 ⟨rfl, hb⟩
  clear kXA zXA kXP zXP kXB zXB kXQ zXQ kXR zXR kX10 zX10 kX11 zX11 kX12 zX12
  replace XA := XA.below hb
  replace XP := XP.below hb
  replace XB := XB.below hb
  replace XQ := XQ.below hb
  replace XR := XR.below hb
  replace X10 := X10.below hb
  replace X11 := X11.below hb
  replace X12 := X12.below hb
  replace O3 := O3.below hb (Nat.le_refl _)
  replace O12 := O12.below hb (Nat.le_refl _)
  replace O13 := O13.below hb (Nat.le_refl _)
  replace WW := WW.trans (hb.mono WW.size)
  have kXA := XA.cell
  have zXA := XA.lt
  have kXP := XP.cell
  have zXP := XP.lt
  have kXB := XB.cell
  have zXB := XB.lt
  have kXQ := XQ.cell
  have zXQ := XQ.lt
  have kXR := XR.cell
  have zXR := XR.lt
  have kX10 := X10.cell
  have zX10 := X10.lt
  have kX11 := X11.cell
  have zX11 := X11.lt
  have kX12 := X12.cell
  have zX12 := X12.lt
  clear hb hbs
  go_wp2_with fail
  have BA := XA.1
  have BP := XP.1
  have BBb := XB.1
  have BQ := XQ.1
  have BR := XR.1
  have B11 := X11.1
  have n11 := X11.lt
  clear kXA zXA kXP zXP kXB zXB kXQ zXQ kXR zXR kX10 zX10 kX11 zX11 kX12 zX12 XA XP XB XQ XR X10 X11 X12 O12 O13
  apply wp_landF (R := fun g14 D7 d7 w1 => Blk w1 (w.heap.size) 24 #[.slice A (nw a) c1] ∧ Blk w1 (w.heap.size + 1) 24 #[.slice A2 (nw p) c2] ∧ Blk w1 (w.heap.size + 1 + 1) 24 #[.slice A3 (nw b) c3] ∧ Blk w1 (w.heap.size + 1 + 1 + 1) 24 #[.slice A4 (nw q) c4] ∧ Blk w1 (w.heap.size + 1 + 1 + 1 + 1) 24 #[.slice none 0 0] ∧ Blk w1 (g11) 24 #[.slice D3 (nw x0) d3] ∧ Blk w1 g14 24 #[.slice D7 (nw k1) d7] ∧ Below w.heap.size w w1 ∧ Own w1 w.heap.size D7 (nw k1) d7 k1)
  case hreg =>
    have z5 : w.heap.size + 5 ≤ V25.heap.size := by have := BR.lt; omega
    refine wp_region_noPanic ?_
    refine wp_region_held_drew (S := (fun w' => w'.cell? ⟨w.heap.size, 0, none⟩ = some (.slice A (nw a) c1) ∧ w'.cell? ⟨w.heap.size + 1 + 1, 0, none⟩ = some (.slice A3 (nw b) c3) ∧ w'.cell? ⟨w.heap.size + 1 + 1 + 1, 0, none⟩ = some (.slice A4 (nw q) c4) ∧ w'.cell? ⟨g11, 0, none⟩ = some (.slice D3 (nw x0) d3))) (by kernel_rfl) (⟨BA.cell0, BBb.cell0, BQ.cell0, B11.cell0⟩) (fun hHeld => ?_)
    refine wpAnyH_name (fun W' => Blk W' (w.heap.size) 24 #[.slice A (nw a) c1] ∧ Blk W' (w.heap.size + 1) 24 #[.slice A2 (nw p) c2] ∧ Blk W' (w.heap.size + 1 + 1) 24 #[.slice A3 (nw b) c3] ∧ Blk W' (w.heap.size + 1 + 1 + 1) 24 #[.slice A4 (nw q) c4] ∧ Blk W' (w.heap.size + 1 + 1 + 1 + 1) 24 #[.slice none 0 0] ∧ Blk W' (g11) 24 #[.slice D3 (nw x0) d3] ∧ Below w.heap.size w W' ∧ Own W' w.heap.size D3 (nw x0) d3 x0 ∧ V25.heap.size ≤ W'.heap.size ∧ (fun w' => w'.cell? ⟨w.heap.size, 0, none⟩ = some (.slice A (nw a) c1) ∧ w'.cell? ⟨w.heap.size + 1 + 1, 0, none⟩ = some (.slice A3 (nw b) c3) ∧ w'.cell? ⟨w.heap.size + 1 + 1 + 1, 0, none⟩ = some (.slice A4 (nw q) c4) ∧ w'.cell? ⟨g11, 0, none⟩ = some (.slice D3 (nw x0) d3)) W') (⟨BA, BP, BBb, BQ, BR, B11, WW.drew, O3.drew, Nat.le_refl _, hHeld⟩) ?_
    clear hHeld
    rintro W100 ⟨BA, BP, BBb, BQ, BR, B11, WW, O3, s100, hHeld⟩
    refine wpAnyH_take (i := 0) (oi := { dst := some 76, op := Op.load 24 (Operand.tmp 6), type := 24, pos := "natmod.go:87", after := #[], guard := none }) (v := ?_) rfl (by kernel_rfl) (by kernel_rfl) (by kernel_rfl) (fun _ _ _ h => h) (Or.inl ⟨by rfl, ?_⟩) (by assumption) ?_
    rotate_left
    · (intro ws hSw; (try dsimp only at hSw); (try go_simp); (try with_reducible rfl))
    (try simp only [Act.put, List.setIfInBounds_toArray, List.set_cons_zero, List.set_cons_succ])
    refine wpAnyH_take (i := 1) (oi := { dst := some 77, op := Op.load 24 (Operand.tmp 4), type := 24, pos := "natmod.go:87", after := #[], guard := none }) (v := ?_) rfl (by kernel_rfl) (by kernel_rfl) (by kernel_rfl) (fun _ _ _ h => h) (Or.inl ⟨by rfl, ?_⟩) (by assumption) ?_
    rotate_left
    · (intro ws hSw; (try dsimp only at hSw); (try go_simp); (try with_reducible rfl))
    (try simp only [Act.put, List.setIfInBounds_toArray, List.set_cons_zero, List.set_cons_succ])
    refine wpAnyH_take (i := 2) (oi := { dst := some 78, op := Op.load 24 (Operand.tmp 7), type := 24, pos := "natmod.go:87", after := #[], guard := none }) (v := ?_) rfl (by kernel_rfl) (by kernel_rfl) (by kernel_rfl) (fun _ _ _ h => h) (Or.inl ⟨by rfl, ?_⟩) (by assumption) ?_
    rotate_left
    · (intro ws hSw; (try dsimp only at hSw); (try go_simp); (try with_reducible rfl))
    (try simp only [Act.put, List.setIfInBounds_toArray, List.set_cons_zero, List.set_cons_succ])
    refine wpAnyH_take (i := 4) (oi := { dst := some 80, op := Op.load 24 (Operand.tmp 7), type := 24, pos := "natmod.go:87", after := #[], guard := none }) (v := ?_) rfl (by kernel_rfl) (by kernel_rfl) (by kernel_rfl) (fun _ _ _ h => h) (Or.inl ⟨by rfl, ?_⟩) (by assumption) ?_
    rotate_left
    · (intro ws hSw; (try dsimp only at hSw); (try go_simp); (try with_reducible rfl))
    (try simp only [Act.put, List.setIfInBounds_toArray, List.set_cons_zero, List.set_cons_succ])
    refine wpAnyH_take (i := 6) (oi := { dst := some 82, op := Op.load 24 (Operand.tmp 11), type := 24, pos := "natmod.go:87", after := #[], guard := none }) (v := ?_) rfl (by kernel_rfl) (by kernel_rfl) (by kernel_rfl) (fun _ _ _ h => h) (Or.inl ⟨by rfl, ?_⟩) (by assumption) ?_
    rotate_left
    · (intro ws hSw; (try dsimp only at hSw); (try go_simp); (try with_reducible rfl))
    (try simp only [Act.put, List.setIfInBounds_toArray, List.set_cons_zero, List.set_cons_succ])
    refine wpAnyH_take (i := 7) (oi := { dst := some 83, op := Op.load 24 (Operand.tmp 7), type := 24, pos := "natmod.go:87", after := #[], guard := none }) (v := ?_) rfl (by kernel_rfl) (by kernel_rfl) (by kernel_rfl) (fun _ _ _ h => h) (Or.inl ⟨by rfl, ?_⟩) (by assumption) ?_
    rotate_left
    · (intro ws hSw; (try dsimp only at hSw); (try go_simp); (try with_reducible rfl))
    (try simp only [Act.put, List.setIfInBounds_toArray, List.set_cons_zero, List.set_cons_succ])
    refine wpAnyH_ready (rs := [3, 9]) (by kernel_rfl) (by simp) ?_
    refine AllReadyH.cons (o := { dst := some 79, op := Op.call { callee := Callee.value (Operand.func 58), args := #[Operand.tmp 77, Operand.tmp 78], argTypes := #[24, 24] }, type := 24, pos := "natmod.go:87", after := #[{ on := 1, ground := Ground.data }, { on := 2, ground := Ground.data }], guard := none }) rfl (fun K hK => ?_) ?_
    · go_simp
      have hc := remainder_any A A4 c1 c4 a q W100 ((HA.out.below WW).more WW.size) ((HQ.out.below WW).more WW.size) (by omega) (by omega) hq0
      rw [← HR1.out] at hc
      refine hc.mono ?_
      clear hc
      rintro e W101 ⟨v, rfl, ⟨D5, d5, rfl, ho⟩, hb⟩
      have O5 := ho.weak (b := w.heap.size) WW.size
      clear ho
      replace BA := BA.below hb BA.lt
      replace BP := BP.below hb BP.lt
      replace BBb := BBb.below hb BBb.lt
      replace BQ := BQ.below hb BQ.lt
      replace BR := BR.below hb BR.lt
      replace B11 := B11.below hb B11.lt
      replace O3 := O3.below hb (Nat.le_refl _)
      have hsz := WW.size
      replace WW := WW.trans (hb.mono WW.size)
      have s101 := hb.size
      have BA' := BA
      have BBb' := BBb
      have BQ' := BQ
      have B11' := B11
      clear hb hsz
      refine hK.out _ _ ⟨BA'.cell0, BBb'.cell0, BQ'.cell0, B11'.cell0⟩ (fun hHeld2 => ?_)
      clear hK K hHeld BA' BBb' BQ' B11'
      have hHeld := hHeld2
      clear hHeld2
      (try simp only [Act.put, List.setIfInBounds_toArray, List.set_cons_zero, List.set_cons_succ])
      refine wpAnyH_ready (rs := [5, 9]) (by kernel_rfl) (by simp) ?_
      refine AllReadyH.cons (o := { dst := some 81, op := Op.call { callee := Callee.value (Operand.func 51), args := #[Operand.tmp 76, Operand.tmp 79, Operand.tmp 80], argTypes := #[24, 24, 24] }, type := 24, pos := "natmod.go:87", after := #[{ on := 0, ground := Ground.data }, { on := 3, ground := Ground.data }, { on := 4, ground := Ground.data }, { on := 3, ground := Ground.chain }], guard := none }) rfl (fun K hK => ?_) ?_
      · go_simp
        have hc := difference2_any A3 D5 A4 c3 d5 c4 b r1 q W101 ((HB.out.below WW).more WW.size) O5.num ((HQ.out.below WW).more WW.size) (by omega) (by omega) (by omega) hq0 r1q hbs1
        rw [← HS1.out] at hc
        refine hc.mono ?_
        clear hc
        rintro e W102 ⟨v, rfl, ⟨D6, d6, rfl, ho⟩, hb⟩
        have O6 := ho.weak (b := w.heap.size) WW.size
        clear ho
        replace BA := BA.below hb BA.lt
        replace BP := BP.below hb BP.lt
        replace BBb := BBb.below hb BBb.lt
        replace BQ := BQ.below hb BQ.lt
        replace BR := BR.below hb BR.lt
        replace B11 := B11.below hb B11.lt
        replace O3 := O3.below hb (Nat.le_refl _)
        replace O5 := O5.below hb (Nat.le_refl _)
        have hsz := WW.size
        replace WW := WW.trans (hb.mono WW.size)
        have s102 := hb.size
        have BA' := BA
        have BBb' := BBb
        have BQ' := BQ
        have B11' := B11
        clear hb hsz
        refine hK.out _ _ ⟨BA'.cell0, BBb'.cell0, BQ'.cell0, B11'.cell0⟩ (fun hHeld2 => ?_)
        clear hK K hHeld BA' BBb' BQ' B11'
        have hHeld := hHeld2
        clear hHeld2
        (try simp only [Act.put, List.setIfInBounds_toArray, List.set_cons_zero, List.set_cons_succ])
        refine wpAnyH_ready (rs := [8, 9]) (by kernel_rfl) (by simp) ?_
        refine AllReadyH.cons (o := { dst := some 84, op := Op.call { callee := Callee.value (Operand.func 56), args := #[Operand.tmp 81, Operand.tmp 82, Operand.tmp 83], argTypes := #[24, 24, 24] }, type := 24, pos := "natmod.go:87", after := #[{ on := 5, ground := Ground.data }, { on := 6, ground := Ground.data }, { on := 7, ground := Ground.data }, { on := 5, ground := Ground.chain }], guard := none }) rfl (fun K hK => ?_) ?_
        · go_simp
          have hc := product2_any D6 D3 A4 d6 d3 c4 s1 x0 q W102 O6.num O3.num ((HQ.out.below WW).more WW.size) (by omega) (by omega) (by omega) hq0 hsx
          rw [← HK1.out] at hc
          refine hc.mono ?_
          clear hc
          rintro e W103 ⟨v, rfl, ⟨D7, d7, rfl, ho⟩, hb⟩
          have O7 := ho.weak (b := w.heap.size) WW.size
          clear ho
          replace BA := BA.below hb BA.lt
          replace BP := BP.below hb BP.lt
          replace BBb := BBb.below hb BBb.lt
          replace BQ := BQ.below hb BQ.lt
          replace BR := BR.below hb BR.lt
          replace B11 := B11.below hb B11.lt
          replace O3 := O3.below hb (Nat.le_refl _)
          replace O5 := O5.below hb (Nat.le_refl _)
          replace O6 := O6.below hb (Nat.le_refl _)
          have hsz := WW.size
          replace WW := WW.trans (hb.mono WW.size)
          have s103 := hb.size
          have BA' := BA
          have BBb' := BBb
          have BQ' := BQ
          have B11' := B11
          clear hb hsz
          refine hK.out _ _ ⟨BA'.cell0, BBb'.cell0, BQ'.cell0, B11'.cell0⟩ (fun hHeld2 => ?_)
          clear hK K hHeld BA' BBb' BQ' B11'
          have hHeld := hHeld2
          clear hHeld2
          (try simp only [Act.put, List.setIfInBounds_toArray, List.set_cons_zero, List.set_cons_succ])
          refine wpAnyH_ready (rs := [9]) (by kernel_rfl) (by simp) ?_
          refine AllReadyH.cons (o := { dst := some 14, op := Op.alloc 24, type := 0, pos := "natmod.go:87", after := #[], guard := none }) rfl (fun K hK => ?_) AllReadyH.nil
          · go_simp
            have ba := (Below.refl W103.heap.size W103).alloc (Nat.le_refl _) (.cells #[.slice none 0 0] 24)
            have BA' := BA.below ba BA.lt
            have BP' := BP.below ba BP.lt
            have BBb' := BBb.below ba BBb.lt
            have BQ' := BQ.below ba BQ.lt
            have BR' := BR.below ba BR.lt
            have B11' := B11.below ba B11.lt
            have B14' := Blk.new W103 24 #[.slice none 0 0]
            have WW' := WW.trans (ba.mono WW.size)
            have O3' := O3.below ba (Nat.le_refl _)
            have O5' := O5.below ba (Nat.le_refl _)
            have O6' := O6.below ba (Nat.le_refl _)
            have O7' := O7.below ba (Nat.le_refl _)
            have sn : W103.heap.size < (W103.alloc (.cells #[.slice none 0 0] 24)).heap.size := B14'.lt
            refine hK.out _ _ ⟨BA'.cell0, BBb'.cell0, BQ'.cell0, B11'.cell0⟩ (fun hHeld2 => ?_)
            clear hK K
            (try simp only [Act.put, List.setIfInBounds_toArray, List.set_cons_zero, List.set_cons_succ])
            refine wpAnyH_name (fun W' => Blk W' (W103.heap.size) 24 #[.slice none 0 0] ∧ Blk W' (w.heap.size) 24 #[.slice A (nw a) c1] ∧ Blk W' (w.heap.size + 1) 24 #[.slice A2 (nw p) c2] ∧ Blk W' (w.heap.size + 1 + 1) 24 #[.slice A3 (nw b) c3] ∧ Blk W' (w.heap.size + 1 + 1 + 1) 24 #[.slice A4 (nw q) c4] ∧ Blk W' (w.heap.size + 1 + 1 + 1 + 1) 24 #[.slice none 0 0] ∧ Blk W' (g11) 24 #[.slice D3 (nw x0) d3] ∧ Below w.heap.size w W' ∧ Own W' w.heap.size D3 (nw x0) d3 x0 ∧ Own W' w.heap.size D5 (nw r1) d5 r1 ∧ Own W' w.heap.size D6 (nw s1) d6 s1 ∧ Own W' w.heap.size D7 (nw k1) d7 k1 ∧ W103.heap.size < W'.heap.size ∧ (fun w' => w'.cell? ⟨w.heap.size, 0, none⟩ = some (.slice A (nw a) c1) ∧ w'.cell? ⟨w.heap.size + 1 + 1, 0, none⟩ = some (.slice A3 (nw b) c3) ∧ w'.cell? ⟨w.heap.size + 1 + 1 + 1, 0, none⟩ = some (.slice A4 (nw q) c4) ∧ w'.cell? ⟨g11, 0, none⟩ = some (.slice D3 (nw x0) d3)) W') (⟨B14', BA', BP', BBb', BQ', BR', B11', WW', O3', O5', O6', O7', sn, hHeld2⟩) ?_
            clear hHeld2 hHeld sn ba B14' BA' BP' BBb' BQ' BR' B11' WW' O3' O5' O6' O7' BA BP BBb BQ BR B11 WW O3 O5 O6 O7
            rintro W104 ⟨B14, BA, BP, BBb, BQ, BR, B11, WW, O3, O5, O6, O7, s104, hHeld⟩
            refine wpAnyH_ready (rs := [10]) (by kernel_rfl) (by simp) ?_
            refine AllReadyH.cons (o := { dst := none, op := Op.store 24 (Operand.tmp 14) (Operand.tmp 84), type := 0, pos := "natmod.go:87", after := #[{ on := 9, ground := Ground.data }, { on := 8, ground := Ground.data }, { on := 8, ground := Ground.chain }, { on := 0, ground := Ground.phase }, { on := 1, ground := Ground.phase }, { on := 2, ground := Ground.phase }, { on := 3, ground := Ground.phase }, { on := 4, ground := Ground.phase }, { on := 5, ground := Ground.phase }, { on := 6, ground := Ground.phase }, { on := 7, ground := Ground.phase }, { on := 8, ground := Ground.phase }, { on := 9, ground := Ground.phase }], guard := none }) rfl (fun K hK => ?_) AllReadyH.nil
            · obtain ⟨ga, hga⟩ : ∃ g, g = W103.heap.size := ⟨_, rfl⟩
              have n2 : w.heap.size + 5 ≤ W103.heap.size := by omega
              have m5 : g11 ≠ W103.heap.size := by have := n11; omega
              rw [← hga] at B14 n2 m5 ⊢
              clear hga
              have fz := B14.frozen 0
              have cz := B14.cell0
              go_simp
              have BA' := BA.far (p := ⟨ga, 0, none⟩) (by simp <;> omega) (.slice D7 (nw k1) d7)
              have BP' := BP.far (p := ⟨ga, 0, none⟩) (by simp <;> omega) (.slice D7 (nw k1) d7)
              have BBb' := BBb.far (p := ⟨ga, 0, none⟩) (by simp <;> omega) (.slice D7 (nw k1) d7)
              have BQ' := BQ.far (p := ⟨ga, 0, none⟩) (by simp <;> omega) (.slice D7 (nw k1) d7)
              have BR' := BR.far (p := ⟨ga, 0, none⟩) (by simp <;> omega) (.slice D7 (nw k1) d7)
              have B11' := B11.far (p := ⟨ga, 0, none⟩) (by simp <;> omega) (.slice D7 (nw k1) d7)
              have B14' := B14.set_ 0 (.slice D7 (nw k1) d7)
              have WW' := WW.setCell (p := ⟨ga, 0, none⟩) (by simp <;> omega) (.slice D7 (nw k1) d7)
              have O3' := O3.box (p := ⟨ga, 0, none⟩) B14 (by decide) (.slice D7 (nw k1) d7)
              have O5' := O5.box (p := ⟨ga, 0, none⟩) B14 (by decide) (.slice D7 (nw k1) d7)
              have O6' := O6.box (p := ⟨ga, 0, none⟩) B14 (by decide) (.slice D7 (nw k1) d7)
              have O7' := O7.box (p := ⟨ga, 0, none⟩) B14 (by decide) (.slice D7 (nw k1) d7)
              refine hK.out _ _ ⟨BA'.cell0, BBb'.cell0, BQ'.cell0, B11'.cell0⟩ (fun hHeld2 => ?_)
              clear hK K fz cz
              (try simp only [Act.put, List.setIfInBounds_toArray, List.set_cons_zero, List.set_cons_succ])
              refine wpAnyH_name (fun W' => Blk W' (ga) 24 #[.slice D7 (nw k1) d7] ∧ Blk W' (w.heap.size) 24 #[.slice A (nw a) c1] ∧ Blk W' (w.heap.size + 1) 24 #[.slice A2 (nw p) c2] ∧ Blk W' (w.heap.size + 1 + 1) 24 #[.slice A3 (nw b) c3] ∧ Blk W' (w.heap.size + 1 + 1 + 1) 24 #[.slice A4 (nw q) c4] ∧ Blk W' (w.heap.size + 1 + 1 + 1 + 1) 24 #[.slice none 0 0] ∧ Blk W' (g11) 24 #[.slice D3 (nw x0) d3] ∧ Below w.heap.size w W' ∧ Own W' w.heap.size D3 (nw x0) d3 x0 ∧ Own W' w.heap.size D5 (nw r1) d5 r1 ∧ Own W' w.heap.size D6 (nw s1) d6 s1 ∧ Own W' w.heap.size D7 (nw k1) d7 k1 ∧ (fun w' => w'.cell? ⟨w.heap.size, 0, none⟩ = some (.slice A (nw a) c1) ∧ w'.cell? ⟨w.heap.size + 1 + 1, 0, none⟩ = some (.slice A3 (nw b) c3) ∧ w'.cell? ⟨w.heap.size + 1 + 1 + 1, 0, none⟩ = some (.slice A4 (nw q) c4) ∧ w'.cell? ⟨g11, 0, none⟩ = some (.slice D3 (nw x0) d3)) W') (⟨B14', BA', BP', BBb', BQ', BR', B11', WW', O3', O5', O6', O7', hHeld2⟩) ?_
              clear hHeld2 hHeld B14' BA' BP' BBb' BQ' BR' B11' WW' O3' O5' O6' O7' B14 BA BP BBb BQ BR B11 WW O3 O5 O6 O7
              rintro W105 ⟨B14, BA, BP, BBb, BQ, BR, B11, WW, O3, O5, O6, O7, hHeld⟩
              refine wpAnyH_done (by kernel_rfl) ?_ _
              clear hHeld
              refine NoPanic.normal ?_
              exact ⟨rfl, ga, D5, d5, D6, d6, D7, d7, rfl, BA, BP, BBb, BQ, BR, B11, B14, WW, O7⟩
        refine AllReadyH.cons (o := { dst := some 14, op := Op.alloc 24, type := 0, pos := "natmod.go:87", after := #[], guard := none }) rfl (fun K hK => ?_) AllReadyH.nil
        · go_simp
          have ba := (Below.refl W102.heap.size W102).alloc (Nat.le_refl _) (.cells #[.slice none 0 0] 24)
          have BA' := BA.below ba BA.lt
          have BP' := BP.below ba BP.lt
          have BBb' := BBb.below ba BBb.lt
          have BQ' := BQ.below ba BQ.lt
          have BR' := BR.below ba BR.lt
          have B11' := B11.below ba B11.lt
          have B14' := Blk.new W102 24 #[.slice none 0 0]
          have WW' := WW.trans (ba.mono WW.size)
          have O3' := O3.below ba (Nat.le_refl _)
          have O5' := O5.below ba (Nat.le_refl _)
          have O6' := O6.below ba (Nat.le_refl _)
          have sn : W102.heap.size < (W102.alloc (.cells #[.slice none 0 0] 24)).heap.size := B14'.lt
          refine hK.out _ _ ⟨BA'.cell0, BBb'.cell0, BQ'.cell0, B11'.cell0⟩ (fun hHeld2 => ?_)
          clear hK K
          (try simp only [Act.put, List.setIfInBounds_toArray, List.set_cons_zero, List.set_cons_succ])
          refine wpAnyH_name (fun W' => Blk W' (W102.heap.size) 24 #[.slice none 0 0] ∧ Blk W' (w.heap.size) 24 #[.slice A (nw a) c1] ∧ Blk W' (w.heap.size + 1) 24 #[.slice A2 (nw p) c2] ∧ Blk W' (w.heap.size + 1 + 1) 24 #[.slice A3 (nw b) c3] ∧ Blk W' (w.heap.size + 1 + 1 + 1) 24 #[.slice A4 (nw q) c4] ∧ Blk W' (w.heap.size + 1 + 1 + 1 + 1) 24 #[.slice none 0 0] ∧ Blk W' (g11) 24 #[.slice D3 (nw x0) d3] ∧ Below w.heap.size w W' ∧ Own W' w.heap.size D3 (nw x0) d3 x0 ∧ Own W' w.heap.size D5 (nw r1) d5 r1 ∧ Own W' w.heap.size D6 (nw s1) d6 s1 ∧ W102.heap.size < W'.heap.size ∧ (fun w' => w'.cell? ⟨w.heap.size, 0, none⟩ = some (.slice A (nw a) c1) ∧ w'.cell? ⟨w.heap.size + 1 + 1, 0, none⟩ = some (.slice A3 (nw b) c3) ∧ w'.cell? ⟨w.heap.size + 1 + 1 + 1, 0, none⟩ = some (.slice A4 (nw q) c4) ∧ w'.cell? ⟨g11, 0, none⟩ = some (.slice D3 (nw x0) d3)) W') (⟨B14', BA', BP', BBb', BQ', BR', B11', WW', O3', O5', O6', sn, hHeld2⟩) ?_
          clear hHeld2 hHeld sn ba B14' BA' BP' BBb' BQ' BR' B11' WW' O3' O5' O6' BA BP BBb BQ BR B11 WW O3 O5 O6
          rintro W106 ⟨B14, BA, BP, BBb, BQ, BR, B11, WW, O3, O5, O6, s106, hHeld⟩
          refine wpAnyH_ready (rs := [8]) (by kernel_rfl) (by simp) ?_
          refine AllReadyH.cons (o := { dst := some 84, op := Op.call { callee := Callee.value (Operand.func 56), args := #[Operand.tmp 81, Operand.tmp 82, Operand.tmp 83], argTypes := #[24, 24, 24] }, type := 24, pos := "natmod.go:87", after := #[{ on := 5, ground := Ground.data }, { on := 6, ground := Ground.data }, { on := 7, ground := Ground.data }, { on := 5, ground := Ground.chain }], guard := none }) rfl (fun K hK => ?_) AllReadyH.nil
          · go_simp
            have hc := product2_any D6 D3 A4 d6 d3 c4 s1 x0 q W106 O6.num O3.num ((HQ.out.below WW).more WW.size) (by omega) (by omega) (by omega) hq0 hsx
            rw [← HK1.out] at hc
            refine hc.mono ?_
            clear hc
            rintro e W107 ⟨v, rfl, ⟨D7, d7, rfl, ho⟩, hb⟩
            have O7 := ho.weak (b := w.heap.size) WW.size
            clear ho
            replace BA := BA.below hb BA.lt
            replace BP := BP.below hb BP.lt
            replace BBb := BBb.below hb BBb.lt
            replace BQ := BQ.below hb BQ.lt
            replace BR := BR.below hb BR.lt
            replace B11 := B11.below hb B11.lt
            replace B14 := B14.below hb B14.lt
            replace O3 := O3.below hb (Nat.le_refl _)
            replace O5 := O5.below hb (Nat.le_refl _)
            replace O6 := O6.below hb (Nat.le_refl _)
            have hsz := WW.size
            replace WW := WW.trans (hb.mono WW.size)
            have s107 := hb.size
            have BA' := BA
            have BBb' := BBb
            have BQ' := BQ
            have B11' := B11
            clear hb hsz
            refine hK.out _ _ ⟨BA'.cell0, BBb'.cell0, BQ'.cell0, B11'.cell0⟩ (fun hHeld2 => ?_)
            clear hK K hHeld BA' BBb' BQ' B11'
            have hHeld := hHeld2
            clear hHeld2
            (try simp only [Act.put, List.setIfInBounds_toArray, List.set_cons_zero, List.set_cons_succ])
            refine wpAnyH_ready (rs := [10]) (by kernel_rfl) (by simp) ?_
            refine AllReadyH.cons (o := { dst := none, op := Op.store 24 (Operand.tmp 14) (Operand.tmp 84), type := 0, pos := "natmod.go:87", after := #[{ on := 9, ground := Ground.data }, { on := 8, ground := Ground.data }, { on := 8, ground := Ground.chain }, { on := 0, ground := Ground.phase }, { on := 1, ground := Ground.phase }, { on := 2, ground := Ground.phase }, { on := 3, ground := Ground.phase }, { on := 4, ground := Ground.phase }, { on := 5, ground := Ground.phase }, { on := 6, ground := Ground.phase }, { on := 7, ground := Ground.phase }, { on := 8, ground := Ground.phase }, { on := 9, ground := Ground.phase }], guard := none }) rfl (fun K hK => ?_) AllReadyH.nil
            · obtain ⟨ga, hga⟩ : ∃ g, g = W102.heap.size := ⟨_, rfl⟩
              have n2 : w.heap.size + 5 ≤ W102.heap.size := by omega
              have m5 : g11 ≠ W102.heap.size := by have := n11; omega
              rw [← hga] at B14 n2 m5 ⊢
              clear hga
              have fz := B14.frozen 0
              have cz := B14.cell0
              go_simp
              have BA' := BA.far (p := ⟨ga, 0, none⟩) (by simp <;> omega) (.slice D7 (nw k1) d7)
              have BP' := BP.far (p := ⟨ga, 0, none⟩) (by simp <;> omega) (.slice D7 (nw k1) d7)
              have BBb' := BBb.far (p := ⟨ga, 0, none⟩) (by simp <;> omega) (.slice D7 (nw k1) d7)
              have BQ' := BQ.far (p := ⟨ga, 0, none⟩) (by simp <;> omega) (.slice D7 (nw k1) d7)
              have BR' := BR.far (p := ⟨ga, 0, none⟩) (by simp <;> omega) (.slice D7 (nw k1) d7)
              have B11' := B11.far (p := ⟨ga, 0, none⟩) (by simp <;> omega) (.slice D7 (nw k1) d7)
              have B14' := B14.set_ 0 (.slice D7 (nw k1) d7)
              have WW' := WW.setCell (p := ⟨ga, 0, none⟩) (by simp <;> omega) (.slice D7 (nw k1) d7)
              have O3' := O3.box (p := ⟨ga, 0, none⟩) B14 (by decide) (.slice D7 (nw k1) d7)
              have O5' := O5.box (p := ⟨ga, 0, none⟩) B14 (by decide) (.slice D7 (nw k1) d7)
              have O6' := O6.box (p := ⟨ga, 0, none⟩) B14 (by decide) (.slice D7 (nw k1) d7)
              have O7' := O7.box (p := ⟨ga, 0, none⟩) B14 (by decide) (.slice D7 (nw k1) d7)
              refine hK.out _ _ ⟨BA'.cell0, BBb'.cell0, BQ'.cell0, B11'.cell0⟩ (fun hHeld2 => ?_)
              clear hK K fz cz
              (try simp only [Act.put, List.setIfInBounds_toArray, List.set_cons_zero, List.set_cons_succ])
              refine wpAnyH_name (fun W' => Blk W' (ga) 24 #[.slice D7 (nw k1) d7] ∧ Blk W' (w.heap.size) 24 #[.slice A (nw a) c1] ∧ Blk W' (w.heap.size + 1) 24 #[.slice A2 (nw p) c2] ∧ Blk W' (w.heap.size + 1 + 1) 24 #[.slice A3 (nw b) c3] ∧ Blk W' (w.heap.size + 1 + 1 + 1) 24 #[.slice A4 (nw q) c4] ∧ Blk W' (w.heap.size + 1 + 1 + 1 + 1) 24 #[.slice none 0 0] ∧ Blk W' (g11) 24 #[.slice D3 (nw x0) d3] ∧ Below w.heap.size w W' ∧ Own W' w.heap.size D3 (nw x0) d3 x0 ∧ Own W' w.heap.size D5 (nw r1) d5 r1 ∧ Own W' w.heap.size D6 (nw s1) d6 s1 ∧ Own W' w.heap.size D7 (nw k1) d7 k1 ∧ (fun w' => w'.cell? ⟨w.heap.size, 0, none⟩ = some (.slice A (nw a) c1) ∧ w'.cell? ⟨w.heap.size + 1 + 1, 0, none⟩ = some (.slice A3 (nw b) c3) ∧ w'.cell? ⟨w.heap.size + 1 + 1 + 1, 0, none⟩ = some (.slice A4 (nw q) c4) ∧ w'.cell? ⟨g11, 0, none⟩ = some (.slice D3 (nw x0) d3)) W') (⟨B14', BA', BP', BBb', BQ', BR', B11', WW', O3', O5', O6', O7', hHeld2⟩) ?_
              clear hHeld2 hHeld B14' BA' BP' BBb' BQ' BR' B11' WW' O3' O5' O6' O7' B14 BA BP BBb BQ BR B11 WW O3 O5 O6 O7
              rintro W108 ⟨B14, BA, BP, BBb, BQ, BR, B11, WW, O3, O5, O6, O7, hHeld⟩
              refine wpAnyH_done (by kernel_rfl) ?_ _
              clear hHeld
              refine NoPanic.normal ?_
              exact ⟨rfl, ga, D5, d5, D6, d6, D7, d7, rfl, BA, BP, BBb, BQ, BR, B11, B14, WW, O7⟩
      refine AllReadyH.cons (o := { dst := some 14, op := Op.alloc 24, type := 0, pos := "natmod.go:87", after := #[], guard := none }) rfl (fun K hK => ?_) AllReadyH.nil
      · go_simp
        have ba := (Below.refl W101.heap.size W101).alloc (Nat.le_refl _) (.cells #[.slice none 0 0] 24)
        have BA' := BA.below ba BA.lt
        have BP' := BP.below ba BP.lt
        have BBb' := BBb.below ba BBb.lt
        have BQ' := BQ.below ba BQ.lt
        have BR' := BR.below ba BR.lt
        have B11' := B11.below ba B11.lt
        have B14' := Blk.new W101 24 #[.slice none 0 0]
        have WW' := WW.trans (ba.mono WW.size)
        have O3' := O3.below ba (Nat.le_refl _)
        have O5' := O5.below ba (Nat.le_refl _)
        have sn : W101.heap.size < (W101.alloc (.cells #[.slice none 0 0] 24)).heap.size := B14'.lt
        refine hK.out _ _ ⟨BA'.cell0, BBb'.cell0, BQ'.cell0, B11'.cell0⟩ (fun hHeld2 => ?_)
        clear hK K
        (try simp only [Act.put, List.setIfInBounds_toArray, List.set_cons_zero, List.set_cons_succ])
        refine wpAnyH_name (fun W' => Blk W' (W101.heap.size) 24 #[.slice none 0 0] ∧ Blk W' (w.heap.size) 24 #[.slice A (nw a) c1] ∧ Blk W' (w.heap.size + 1) 24 #[.slice A2 (nw p) c2] ∧ Blk W' (w.heap.size + 1 + 1) 24 #[.slice A3 (nw b) c3] ∧ Blk W' (w.heap.size + 1 + 1 + 1) 24 #[.slice A4 (nw q) c4] ∧ Blk W' (w.heap.size + 1 + 1 + 1 + 1) 24 #[.slice none 0 0] ∧ Blk W' (g11) 24 #[.slice D3 (nw x0) d3] ∧ Below w.heap.size w W' ∧ Own W' w.heap.size D3 (nw x0) d3 x0 ∧ Own W' w.heap.size D5 (nw r1) d5 r1 ∧ W101.heap.size < W'.heap.size ∧ (fun w' => w'.cell? ⟨w.heap.size, 0, none⟩ = some (.slice A (nw a) c1) ∧ w'.cell? ⟨w.heap.size + 1 + 1, 0, none⟩ = some (.slice A3 (nw b) c3) ∧ w'.cell? ⟨w.heap.size + 1 + 1 + 1, 0, none⟩ = some (.slice A4 (nw q) c4) ∧ w'.cell? ⟨g11, 0, none⟩ = some (.slice D3 (nw x0) d3)) W') (⟨B14', BA', BP', BBb', BQ', BR', B11', WW', O3', O5', sn, hHeld2⟩) ?_
        clear hHeld2 hHeld sn ba B14' BA' BP' BBb' BQ' BR' B11' WW' O3' O5' BA BP BBb BQ BR B11 WW O3 O5
        rintro W109 ⟨B14, BA, BP, BBb, BQ, BR, B11, WW, O3, O5, s109, hHeld⟩
        refine wpAnyH_ready (rs := [5]) (by kernel_rfl) (by simp) ?_
        refine AllReadyH.cons (o := { dst := some 81, op := Op.call { callee := Callee.value (Operand.func 51), args := #[Operand.tmp 76, Operand.tmp 79, Operand.tmp 80], argTypes := #[24, 24, 24] }, type := 24, pos := "natmod.go:87", after := #[{ on := 0, ground := Ground.data }, { on := 3, ground := Ground.data }, { on := 4, ground := Ground.data }, { on := 3, ground := Ground.chain }], guard := none }) rfl (fun K hK => ?_) AllReadyH.nil
        · go_simp
          have hc := difference2_any A3 D5 A4 c3 d5 c4 b r1 q W109 ((HB.out.below WW).more WW.size) O5.num ((HQ.out.below WW).more WW.size) (by omega) (by omega) (by omega) hq0 r1q hbs1
          rw [← HS1.out] at hc
          refine hc.mono ?_
          clear hc
          rintro e W110 ⟨v, rfl, ⟨D6, d6, rfl, ho⟩, hb⟩
          have O6 := ho.weak (b := w.heap.size) WW.size
          clear ho
          replace BA := BA.below hb BA.lt
          replace BP := BP.below hb BP.lt
          replace BBb := BBb.below hb BBb.lt
          replace BQ := BQ.below hb BQ.lt
          replace BR := BR.below hb BR.lt
          replace B11 := B11.below hb B11.lt
          replace B14 := B14.below hb B14.lt
          replace O3 := O3.below hb (Nat.le_refl _)
          replace O5 := O5.below hb (Nat.le_refl _)
          have hsz := WW.size
          replace WW := WW.trans (hb.mono WW.size)
          have s110 := hb.size
          have BA' := BA
          have BBb' := BBb
          have BQ' := BQ
          have B11' := B11
          clear hb hsz
          refine hK.out _ _ ⟨BA'.cell0, BBb'.cell0, BQ'.cell0, B11'.cell0⟩ (fun hHeld2 => ?_)
          clear hK K hHeld BA' BBb' BQ' B11'
          have hHeld := hHeld2
          clear hHeld2
          (try simp only [Act.put, List.setIfInBounds_toArray, List.set_cons_zero, List.set_cons_succ])
          refine wpAnyH_ready (rs := [8]) (by kernel_rfl) (by simp) ?_
          refine AllReadyH.cons (o := { dst := some 84, op := Op.call { callee := Callee.value (Operand.func 56), args := #[Operand.tmp 81, Operand.tmp 82, Operand.tmp 83], argTypes := #[24, 24, 24] }, type := 24, pos := "natmod.go:87", after := #[{ on := 5, ground := Ground.data }, { on := 6, ground := Ground.data }, { on := 7, ground := Ground.data }, { on := 5, ground := Ground.chain }], guard := none }) rfl (fun K hK => ?_) AllReadyH.nil
          · go_simp
            have hc := product2_any D6 D3 A4 d6 d3 c4 s1 x0 q W110 O6.num O3.num ((HQ.out.below WW).more WW.size) (by omega) (by omega) (by omega) hq0 hsx
            rw [← HK1.out] at hc
            refine hc.mono ?_
            clear hc
            rintro e W111 ⟨v, rfl, ⟨D7, d7, rfl, ho⟩, hb⟩
            have O7 := ho.weak (b := w.heap.size) WW.size
            clear ho
            replace BA := BA.below hb BA.lt
            replace BP := BP.below hb BP.lt
            replace BBb := BBb.below hb BBb.lt
            replace BQ := BQ.below hb BQ.lt
            replace BR := BR.below hb BR.lt
            replace B11 := B11.below hb B11.lt
            replace B14 := B14.below hb B14.lt
            replace O3 := O3.below hb (Nat.le_refl _)
            replace O5 := O5.below hb (Nat.le_refl _)
            replace O6 := O6.below hb (Nat.le_refl _)
            have hsz := WW.size
            replace WW := WW.trans (hb.mono WW.size)
            have s111 := hb.size
            have BA' := BA
            have BBb' := BBb
            have BQ' := BQ
            have B11' := B11
            clear hb hsz
            refine hK.out _ _ ⟨BA'.cell0, BBb'.cell0, BQ'.cell0, B11'.cell0⟩ (fun hHeld2 => ?_)
            clear hK K hHeld BA' BBb' BQ' B11'
            have hHeld := hHeld2
            clear hHeld2
            (try simp only [Act.put, List.setIfInBounds_toArray, List.set_cons_zero, List.set_cons_succ])
            refine wpAnyH_ready (rs := [10]) (by kernel_rfl) (by simp) ?_
            refine AllReadyH.cons (o := { dst := none, op := Op.store 24 (Operand.tmp 14) (Operand.tmp 84), type := 0, pos := "natmod.go:87", after := #[{ on := 9, ground := Ground.data }, { on := 8, ground := Ground.data }, { on := 8, ground := Ground.chain }, { on := 0, ground := Ground.phase }, { on := 1, ground := Ground.phase }, { on := 2, ground := Ground.phase }, { on := 3, ground := Ground.phase }, { on := 4, ground := Ground.phase }, { on := 5, ground := Ground.phase }, { on := 6, ground := Ground.phase }, { on := 7, ground := Ground.phase }, { on := 8, ground := Ground.phase }, { on := 9, ground := Ground.phase }], guard := none }) rfl (fun K hK => ?_) AllReadyH.nil
            · obtain ⟨ga, hga⟩ : ∃ g, g = W101.heap.size := ⟨_, rfl⟩
              have n2 : w.heap.size + 5 ≤ W101.heap.size := by omega
              have m5 : g11 ≠ W101.heap.size := by have := n11; omega
              rw [← hga] at B14 n2 m5 ⊢
              clear hga
              have fz := B14.frozen 0
              have cz := B14.cell0
              go_simp
              have BA' := BA.far (p := ⟨ga, 0, none⟩) (by simp <;> omega) (.slice D7 (nw k1) d7)
              have BP' := BP.far (p := ⟨ga, 0, none⟩) (by simp <;> omega) (.slice D7 (nw k1) d7)
              have BBb' := BBb.far (p := ⟨ga, 0, none⟩) (by simp <;> omega) (.slice D7 (nw k1) d7)
              have BQ' := BQ.far (p := ⟨ga, 0, none⟩) (by simp <;> omega) (.slice D7 (nw k1) d7)
              have BR' := BR.far (p := ⟨ga, 0, none⟩) (by simp <;> omega) (.slice D7 (nw k1) d7)
              have B11' := B11.far (p := ⟨ga, 0, none⟩) (by simp <;> omega) (.slice D7 (nw k1) d7)
              have B14' := B14.set_ 0 (.slice D7 (nw k1) d7)
              have WW' := WW.setCell (p := ⟨ga, 0, none⟩) (by simp <;> omega) (.slice D7 (nw k1) d7)
              have O3' := O3.box (p := ⟨ga, 0, none⟩) B14 (by decide) (.slice D7 (nw k1) d7)
              have O5' := O5.box (p := ⟨ga, 0, none⟩) B14 (by decide) (.slice D7 (nw k1) d7)
              have O6' := O6.box (p := ⟨ga, 0, none⟩) B14 (by decide) (.slice D7 (nw k1) d7)
              have O7' := O7.box (p := ⟨ga, 0, none⟩) B14 (by decide) (.slice D7 (nw k1) d7)
              refine hK.out _ _ ⟨BA'.cell0, BBb'.cell0, BQ'.cell0, B11'.cell0⟩ (fun hHeld2 => ?_)
              clear hK K fz cz
              (try simp only [Act.put, List.setIfInBounds_toArray, List.set_cons_zero, List.set_cons_succ])
              refine wpAnyH_name (fun W' => Blk W' (ga) 24 #[.slice D7 (nw k1) d7] ∧ Blk W' (w.heap.size) 24 #[.slice A (nw a) c1] ∧ Blk W' (w.heap.size + 1) 24 #[.slice A2 (nw p) c2] ∧ Blk W' (w.heap.size + 1 + 1) 24 #[.slice A3 (nw b) c3] ∧ Blk W' (w.heap.size + 1 + 1 + 1) 24 #[.slice A4 (nw q) c4] ∧ Blk W' (w.heap.size + 1 + 1 + 1 + 1) 24 #[.slice none 0 0] ∧ Blk W' (g11) 24 #[.slice D3 (nw x0) d3] ∧ Below w.heap.size w W' ∧ Own W' w.heap.size D3 (nw x0) d3 x0 ∧ Own W' w.heap.size D5 (nw r1) d5 r1 ∧ Own W' w.heap.size D6 (nw s1) d6 s1 ∧ Own W' w.heap.size D7 (nw k1) d7 k1 ∧ (fun w' => w'.cell? ⟨w.heap.size, 0, none⟩ = some (.slice A (nw a) c1) ∧ w'.cell? ⟨w.heap.size + 1 + 1, 0, none⟩ = some (.slice A3 (nw b) c3) ∧ w'.cell? ⟨w.heap.size + 1 + 1 + 1, 0, none⟩ = some (.slice A4 (nw q) c4) ∧ w'.cell? ⟨g11, 0, none⟩ = some (.slice D3 (nw x0) d3)) W') (⟨B14', BA', BP', BBb', BQ', BR', B11', WW', O3', O5', O6', O7', hHeld2⟩) ?_
              clear hHeld2 hHeld B14' BA' BP' BBb' BQ' BR' B11' WW' O3' O5' O6' O7' B14 BA BP BBb BQ BR B11 WW O3 O5 O6 O7
              rintro W112 ⟨B14, BA, BP, BBb, BQ, BR, B11, WW, O3, O5, O6, O7, hHeld⟩
              refine wpAnyH_done (by kernel_rfl) ?_ _
              clear hHeld
              refine NoPanic.normal ?_
              exact ⟨rfl, ga, D5, d5, D6, d6, D7, d7, rfl, BA, BP, BBb, BQ, BR, B11, B14, WW, O7⟩
    refine AllReadyH.cons (o := { dst := some 14, op := Op.alloc 24, type := 0, pos := "natmod.go:87", after := #[], guard := none }) rfl (fun K hK => ?_) AllReadyH.nil
    · go_simp
      have ba := (Below.refl W100.heap.size W100).alloc (Nat.le_refl _) (.cells #[.slice none 0 0] 24)
      have BA' := BA.below ba BA.lt
      have BP' := BP.below ba BP.lt
      have BBb' := BBb.below ba BBb.lt
      have BQ' := BQ.below ba BQ.lt
      have BR' := BR.below ba BR.lt
      have B11' := B11.below ba B11.lt
      have B14' := Blk.new W100 24 #[.slice none 0 0]
      have WW' := WW.trans (ba.mono WW.size)
      have O3' := O3.below ba (Nat.le_refl _)
      have sn : W100.heap.size < (W100.alloc (.cells #[.slice none 0 0] 24)).heap.size := B14'.lt
      refine hK.out _ _ ⟨BA'.cell0, BBb'.cell0, BQ'.cell0, B11'.cell0⟩ (fun hHeld2 => ?_)
      clear hK K
      (try simp only [Act.put, List.setIfInBounds_toArray, List.set_cons_zero, List.set_cons_succ])
      refine wpAnyH_name (fun W' => Blk W' (W100.heap.size) 24 #[.slice none 0 0] ∧ Blk W' (w.heap.size) 24 #[.slice A (nw a) c1] ∧ Blk W' (w.heap.size + 1) 24 #[.slice A2 (nw p) c2] ∧ Blk W' (w.heap.size + 1 + 1) 24 #[.slice A3 (nw b) c3] ∧ Blk W' (w.heap.size + 1 + 1 + 1) 24 #[.slice A4 (nw q) c4] ∧ Blk W' (w.heap.size + 1 + 1 + 1 + 1) 24 #[.slice none 0 0] ∧ Blk W' (g11) 24 #[.slice D3 (nw x0) d3] ∧ Below w.heap.size w W' ∧ Own W' w.heap.size D3 (nw x0) d3 x0 ∧ W100.heap.size < W'.heap.size ∧ (fun w' => w'.cell? ⟨w.heap.size, 0, none⟩ = some (.slice A (nw a) c1) ∧ w'.cell? ⟨w.heap.size + 1 + 1, 0, none⟩ = some (.slice A3 (nw b) c3) ∧ w'.cell? ⟨w.heap.size + 1 + 1 + 1, 0, none⟩ = some (.slice A4 (nw q) c4) ∧ w'.cell? ⟨g11, 0, none⟩ = some (.slice D3 (nw x0) d3)) W') (⟨B14', BA', BP', BBb', BQ', BR', B11', WW', O3', sn, hHeld2⟩) ?_
      clear hHeld2 hHeld sn ba B14' BA' BP' BBb' BQ' BR' B11' WW' O3' BA BP BBb BQ BR B11 WW O3
      rintro W113 ⟨B14, BA, BP, BBb, BQ, BR, B11, WW, O3, s113, hHeld⟩
      refine wpAnyH_ready (rs := [3]) (by kernel_rfl) (by simp) ?_
      refine AllReadyH.cons (o := { dst := some 79, op := Op.call { callee := Callee.value (Operand.func 58), args := #[Operand.tmp 77, Operand.tmp 78], argTypes := #[24, 24] }, type := 24, pos := "natmod.go:87", after := #[{ on := 1, ground := Ground.data }, { on := 2, ground := Ground.data }], guard := none }) rfl (fun K hK => ?_) AllReadyH.nil
      · go_simp
        have hc := remainder_any A A4 c1 c4 a q W113 ((HA.out.below WW).more WW.size) ((HQ.out.below WW).more WW.size) (by omega) (by omega) hq0
        rw [← HR1.out] at hc
        refine hc.mono ?_
        clear hc
        rintro e W114 ⟨v, rfl, ⟨D5, d5, rfl, ho⟩, hb⟩
        have O5 := ho.weak (b := w.heap.size) WW.size
        clear ho
        replace BA := BA.below hb BA.lt
        replace BP := BP.below hb BP.lt
        replace BBb := BBb.below hb BBb.lt
        replace BQ := BQ.below hb BQ.lt
        replace BR := BR.below hb BR.lt
        replace B11 := B11.below hb B11.lt
        replace B14 := B14.below hb B14.lt
        replace O3 := O3.below hb (Nat.le_refl _)
        have hsz := WW.size
        replace WW := WW.trans (hb.mono WW.size)
        have s114 := hb.size
        have BA' := BA
        have BBb' := BBb
        have BQ' := BQ
        have B11' := B11
        clear hb hsz
        refine hK.out _ _ ⟨BA'.cell0, BBb'.cell0, BQ'.cell0, B11'.cell0⟩ (fun hHeld2 => ?_)
        clear hK K hHeld BA' BBb' BQ' B11'
        have hHeld := hHeld2
        clear hHeld2
        (try simp only [Act.put, List.setIfInBounds_toArray, List.set_cons_zero, List.set_cons_succ])
        refine wpAnyH_ready (rs := [5]) (by kernel_rfl) (by simp) ?_
        refine AllReadyH.cons (o := { dst := some 81, op := Op.call { callee := Callee.value (Operand.func 51), args := #[Operand.tmp 76, Operand.tmp 79, Operand.tmp 80], argTypes := #[24, 24, 24] }, type := 24, pos := "natmod.go:87", after := #[{ on := 0, ground := Ground.data }, { on := 3, ground := Ground.data }, { on := 4, ground := Ground.data }, { on := 3, ground := Ground.chain }], guard := none }) rfl (fun K hK => ?_) AllReadyH.nil
        · go_simp
          have hc := difference2_any A3 D5 A4 c3 d5 c4 b r1 q W114 ((HB.out.below WW).more WW.size) O5.num ((HQ.out.below WW).more WW.size) (by omega) (by omega) (by omega) hq0 r1q hbs1
          rw [← HS1.out] at hc
          refine hc.mono ?_
          clear hc
          rintro e W115 ⟨v, rfl, ⟨D6, d6, rfl, ho⟩, hb⟩
          have O6 := ho.weak (b := w.heap.size) WW.size
          clear ho
          replace BA := BA.below hb BA.lt
          replace BP := BP.below hb BP.lt
          replace BBb := BBb.below hb BBb.lt
          replace BQ := BQ.below hb BQ.lt
          replace BR := BR.below hb BR.lt
          replace B11 := B11.below hb B11.lt
          replace B14 := B14.below hb B14.lt
          replace O3 := O3.below hb (Nat.le_refl _)
          replace O5 := O5.below hb (Nat.le_refl _)
          have hsz := WW.size
          replace WW := WW.trans (hb.mono WW.size)
          have s115 := hb.size
          have BA' := BA
          have BBb' := BBb
          have BQ' := BQ
          have B11' := B11
          clear hb hsz
          refine hK.out _ _ ⟨BA'.cell0, BBb'.cell0, BQ'.cell0, B11'.cell0⟩ (fun hHeld2 => ?_)
          clear hK K hHeld BA' BBb' BQ' B11'
          have hHeld := hHeld2
          clear hHeld2
          (try simp only [Act.put, List.setIfInBounds_toArray, List.set_cons_zero, List.set_cons_succ])
          refine wpAnyH_ready (rs := [8]) (by kernel_rfl) (by simp) ?_
          refine AllReadyH.cons (o := { dst := some 84, op := Op.call { callee := Callee.value (Operand.func 56), args := #[Operand.tmp 81, Operand.tmp 82, Operand.tmp 83], argTypes := #[24, 24, 24] }, type := 24, pos := "natmod.go:87", after := #[{ on := 5, ground := Ground.data }, { on := 6, ground := Ground.data }, { on := 7, ground := Ground.data }, { on := 5, ground := Ground.chain }], guard := none }) rfl (fun K hK => ?_) AllReadyH.nil
          · go_simp
            have hc := product2_any D6 D3 A4 d6 d3 c4 s1 x0 q W115 O6.num O3.num ((HQ.out.below WW).more WW.size) (by omega) (by omega) (by omega) hq0 hsx
            rw [← HK1.out] at hc
            refine hc.mono ?_
            clear hc
            rintro e W116 ⟨v, rfl, ⟨D7, d7, rfl, ho⟩, hb⟩
            have O7 := ho.weak (b := w.heap.size) WW.size
            clear ho
            replace BA := BA.below hb BA.lt
            replace BP := BP.below hb BP.lt
            replace BBb := BBb.below hb BBb.lt
            replace BQ := BQ.below hb BQ.lt
            replace BR := BR.below hb BR.lt
            replace B11 := B11.below hb B11.lt
            replace B14 := B14.below hb B14.lt
            replace O3 := O3.below hb (Nat.le_refl _)
            replace O5 := O5.below hb (Nat.le_refl _)
            replace O6 := O6.below hb (Nat.le_refl _)
            have hsz := WW.size
            replace WW := WW.trans (hb.mono WW.size)
            have s116 := hb.size
            have BA' := BA
            have BBb' := BBb
            have BQ' := BQ
            have B11' := B11
            clear hb hsz
            refine hK.out _ _ ⟨BA'.cell0, BBb'.cell0, BQ'.cell0, B11'.cell0⟩ (fun hHeld2 => ?_)
            clear hK K hHeld BA' BBb' BQ' B11'
            have hHeld := hHeld2
            clear hHeld2
            (try simp only [Act.put, List.setIfInBounds_toArray, List.set_cons_zero, List.set_cons_succ])
            refine wpAnyH_ready (rs := [10]) (by kernel_rfl) (by simp) ?_
            refine AllReadyH.cons (o := { dst := none, op := Op.store 24 (Operand.tmp 14) (Operand.tmp 84), type := 0, pos := "natmod.go:87", after := #[{ on := 9, ground := Ground.data }, { on := 8, ground := Ground.data }, { on := 8, ground := Ground.chain }, { on := 0, ground := Ground.phase }, { on := 1, ground := Ground.phase }, { on := 2, ground := Ground.phase }, { on := 3, ground := Ground.phase }, { on := 4, ground := Ground.phase }, { on := 5, ground := Ground.phase }, { on := 6, ground := Ground.phase }, { on := 7, ground := Ground.phase }, { on := 8, ground := Ground.phase }, { on := 9, ground := Ground.phase }], guard := none }) rfl (fun K hK => ?_) AllReadyH.nil
            · obtain ⟨ga, hga⟩ : ∃ g, g = W100.heap.size := ⟨_, rfl⟩
              have n2 : w.heap.size + 5 ≤ W100.heap.size := by omega
              have m5 : g11 ≠ W100.heap.size := by have := n11; omega
              rw [← hga] at B14 n2 m5 ⊢
              clear hga
              have fz := B14.frozen 0
              have cz := B14.cell0
              go_simp
              have BA' := BA.far (p := ⟨ga, 0, none⟩) (by simp <;> omega) (.slice D7 (nw k1) d7)
              have BP' := BP.far (p := ⟨ga, 0, none⟩) (by simp <;> omega) (.slice D7 (nw k1) d7)
              have BBb' := BBb.far (p := ⟨ga, 0, none⟩) (by simp <;> omega) (.slice D7 (nw k1) d7)
              have BQ' := BQ.far (p := ⟨ga, 0, none⟩) (by simp <;> omega) (.slice D7 (nw k1) d7)
              have BR' := BR.far (p := ⟨ga, 0, none⟩) (by simp <;> omega) (.slice D7 (nw k1) d7)
              have B11' := B11.far (p := ⟨ga, 0, none⟩) (by simp <;> omega) (.slice D7 (nw k1) d7)
              have B14' := B14.set_ 0 (.slice D7 (nw k1) d7)
              have WW' := WW.setCell (p := ⟨ga, 0, none⟩) (by simp <;> omega) (.slice D7 (nw k1) d7)
              have O3' := O3.box (p := ⟨ga, 0, none⟩) B14 (by decide) (.slice D7 (nw k1) d7)
              have O5' := O5.box (p := ⟨ga, 0, none⟩) B14 (by decide) (.slice D7 (nw k1) d7)
              have O6' := O6.box (p := ⟨ga, 0, none⟩) B14 (by decide) (.slice D7 (nw k1) d7)
              have O7' := O7.box (p := ⟨ga, 0, none⟩) B14 (by decide) (.slice D7 (nw k1) d7)
              refine hK.out _ _ ⟨BA'.cell0, BBb'.cell0, BQ'.cell0, B11'.cell0⟩ (fun hHeld2 => ?_)
              clear hK K fz cz
              (try simp only [Act.put, List.setIfInBounds_toArray, List.set_cons_zero, List.set_cons_succ])
              refine wpAnyH_name (fun W' => Blk W' (ga) 24 #[.slice D7 (nw k1) d7] ∧ Blk W' (w.heap.size) 24 #[.slice A (nw a) c1] ∧ Blk W' (w.heap.size + 1) 24 #[.slice A2 (nw p) c2] ∧ Blk W' (w.heap.size + 1 + 1) 24 #[.slice A3 (nw b) c3] ∧ Blk W' (w.heap.size + 1 + 1 + 1) 24 #[.slice A4 (nw q) c4] ∧ Blk W' (w.heap.size + 1 + 1 + 1 + 1) 24 #[.slice none 0 0] ∧ Blk W' (g11) 24 #[.slice D3 (nw x0) d3] ∧ Below w.heap.size w W' ∧ Own W' w.heap.size D3 (nw x0) d3 x0 ∧ Own W' w.heap.size D5 (nw r1) d5 r1 ∧ Own W' w.heap.size D6 (nw s1) d6 s1 ∧ Own W' w.heap.size D7 (nw k1) d7 k1 ∧ (fun w' => w'.cell? ⟨w.heap.size, 0, none⟩ = some (.slice A (nw a) c1) ∧ w'.cell? ⟨w.heap.size + 1 + 1, 0, none⟩ = some (.slice A3 (nw b) c3) ∧ w'.cell? ⟨w.heap.size + 1 + 1 + 1, 0, none⟩ = some (.slice A4 (nw q) c4) ∧ w'.cell? ⟨g11, 0, none⟩ = some (.slice D3 (nw x0) d3)) W') (⟨B14', BA', BP', BBb', BQ', BR', B11', WW', O3', O5', O6', O7', hHeld2⟩) ?_
              clear hHeld2 hHeld B14' BA' BP' BBb' BQ' BR' B11' WW' O3' O5' O6' O7' B14 BA BP BBb BQ BR B11 WW O3 O5 O6 O7
              rintro W117 ⟨B14, BA, BP, BBb, BQ, BR, B11, WW, O3, O5, O6, O7, hHeld⟩
              refine wpAnyH_done (by kernel_rfl) ?_ _
              clear hHeld
              refine NoPanic.normal ?_
              exact ⟨rfl, ga, D5, d5, D6, d6, D7, d7, rfl, BA, BP, BBb, BQ, BR, B11, B14, WW, O7⟩
  rintro g14 D5 d5 D6 d6 D7 d7 W ⟨BA, BP, BBb, BQ, BR, B11, B14, WW, O7⟩
  have XA : Box W w.heap.size A (nw a) c1 a := ⟨BA, (HA.out.below WW).more WW.size⟩
  have XP : Box W (w.heap.size + 1) A2 (nw p) c2 p := ⟨BP, (HP.out.below WW).more WW.size⟩
  have XR : Box W (w.heap.size + 1 + 1 + 1 + 1) none 0 0 0 := ⟨BR, Num.nil _ _ _⟩
  have X14 : Box W g14 D7 (nw k1) d7 k1 := ⟨B14, O7.num⟩
  clear BA BP BBb BQ BR B11 B14
  have kXA := XA.cell
  have zXA := XA.lt
  have kXP := XP.cell
  have zXP := XP.lt
  have kXR := XR.cell
  have zXR := XR.lt
  have kX14 := X14.cell
  have zX14 := X14.lt
  go_wp2_with fail
  have hbs : w.heap.size ≤ W.heap.size := WW.size
  have hc := mul_any A2 D7 _ _ c2 d7 p k1 W XP.num X14.num (by omega) (by omega)
  rw [bothS_yes K3.out K5.out] at hc
  rw [← HU1.out] at hc
  rw [LU1.out] at hc
  refine hc.mono ?_
  clear hc
  rintro e V26 ⟨v, rfl, hv, hb⟩
  clear kXA zXA kXP zXP kXR zXR kX14 zX14
  replace XA := XA.below hb
  replace XP := XP.below hb
  replace XR := XR.below hb
  replace X14 := X14.below hb
  replace O7 := O7.below hb (Nat.le_refl _)
  replace WW := WW.trans (hb.mono WW.size)
  obtain ⟨D15, d15, rfl, ho⟩ := hv
  have O15 := ho.weak (b := w.heap.size) hbs
  have hv' := O15.num
  clear ho
  have kXA := XA.cell
  have zXA := XA.lt
  have kXP := XP.cell
  have zXP := XP.lt
  have kXR := XR.cell
  have zXR := XR.lt
  have kX14 := X14.cell
  have zX14 := X14.lt
  clear hb hbs
  go_wp2_with fail
  obtain ⟨b0, bw⟩ := boxes1 V26 (.slice D15 (nw u1) d15)
  clear kXA zXA kXP zXP kXR zXR kX14 zX14
  replace XA := XA.below bw
  replace XP := XP.below bw
  replace XR := XR.below bw
  replace X14 := X14.below bw
  have X15 := Box.mk b0 hv' bw
  replace O7 := O7.below bw (Nat.le_refl _)
  replace O15 := O15.below bw (Nat.le_refl _)
  replace WW := WW.trans (bw.mono WW.size)
  clear bw b0 hv'
  generalize hV : (V26.alloc (.cells #[.slice D15 (nw u1) d15] 24)) = V27 at XA XP XR X14 X15 O7 O15 WW ⊢
  clear hV
  have kXA := XA.cell
  have zXA := XA.lt
  have kXP := XP.cell
  have zXP := XP.lt
  have kXR := XR.cell
  have zXR := XR.lt
  have kX14 := X14.cell
  have zX14 := X14.lt
  have kX15 := X15.cell
  have zX15 := X15.lt
  have hbs : w.heap.size ≤ V27.heap.size := WW.size
  have hc := add_any A D15 _ _ c1 d15 a u1 V27 XA.num X15.num (by omega) (by omega)
  rw [bothS_yes H1.out K6.out] at hc
  rw [← HV1.out] at hc
  rw [LV1.out] at hc
  refine hc.mono ?_
  clear hc
  rintro e V28 ⟨v, rfl, hv, hb⟩
  clear kXA zXA kXP zXP kXR zXR kX14 zX14 kX15 zX15
  replace XA := XA.below hb
  replace XP := XP.below hb
  replace XR := XR.below hb
  replace X14 := X14.below hb
  replace X15 := X15.below hb
  replace O7 := O7.below hb (Nat.le_refl _)
  replace O15 := O15.below hb (Nat.le_refl _)
  replace WW := WW.trans (hb.mono WW.size)
  obtain ⟨D17, d17, rfl, ho⟩ := hv
  have O17 := ho.weak (b := w.heap.size) hbs
  have fXR := XR.1.frozen 0
  clear ho
  have kXA := XA.cell
  have zXA := XA.lt
  have kXP := XP.cell
  have zXP := XP.lt
  have kXR := XR.cell
  have zXR := XR.lt
  have kX14 := X14.cell
  have zX14 := X14.lt
  have kX15 := X15.cell
  have zX15 := X15.lt
  clear hb hbs
  go_wp2_with fail
  have ho2 := (O17.box (p := ⟨w.heap.size + 1 + 1 + 1 + 1, 0, none⟩) XR.1 (by decide) (.slice D17 (nw v1) d17)).alloc (.cells #[.slice D17 (nw v1) d17] 24)
  have hw2 := WW.setCell (p := ⟨w.heap.size + 1 + 1 + 1 + 1, 0, none⟩) (by simp <;> omega) (.slice D17 (nw v1) d17)
  have hk : ((V28.setCell ⟨w.heap.size + 1 + 1 + 1 + 1, 0, none⟩ (.slice D17 (nw v1) d17)).alloc (.cells #[.slice D17 (nw v1) d17] 24)).cell? ⟨w.heap.size + 1 + 1 + 1 + 1, 0, none⟩ = some (.slice D17 (nw v1) d17) := (((XR.1.set_ 0 (.slice D17 (nw v1) d17)).alloc _).cell 0).trans rfl
  exact bodyPost_ret (v := .tuple #[.agg #[.slice D17 (nw v1) d17], .int .i64 0]) (by simp [results, Try.results29, go_sem, hk]) rfl ⟨_, rfl, by rw [HRES.out]; exact ⟨D17, d17, rfl, ho2⟩, hw2.alloc hw2.size _⟩
end Go.Proofs.Ytckajjapockonaa
