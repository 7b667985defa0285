/- natmod: Inverse. -/
import Derived.Test.YtckajjapockonaaEuc2
set_option linter.unusedVariables false
set_option linter.unusedSimpArgs false
namespace Go.Proofs.Ytckajjapockonaa
open Go.RowKit

theorem Box.drew {V : World} {g n c a : Nat} {A : Option Addr} (h : Box V g A n c a) : Box V.drew g A n c a := ⟨h.1, h.2⟩
theorem Own.drew {w : World} {base n c a : Nat} {A : Option Addr} (h : Own w base A n c a) : Own w.drew base A n c a := h
theorem boxes5 (w : World) (x y z u v : Value) : Blk (((((w.alloc (.cells #[x] 24)).alloc (.cells #[y] 24)).alloc (.cells #[z] 24)).alloc (.cells #[u] 24)).alloc (.cells #[v] 24)) w.heap.size 24 #[x] ∧ Blk (((((w.alloc (.cells #[x] 24)).alloc (.cells #[y] 24)).alloc (.cells #[z] 24)).alloc (.cells #[u] 24)).alloc (.cells #[v] 24)) (w.heap.size + 1) 24 #[y] ∧
    Blk (((((w.alloc (.cells #[x] 24)).alloc (.cells #[y] 24)).alloc (.cells #[z] 24)).alloc (.cells #[u] 24)).alloc (.cells #[v] 24)) (w.heap.size + 1 + 1) 24 #[z] ∧ Blk (((((w.alloc (.cells #[x] 24)).alloc (.cells #[y] 24)).alloc (.cells #[z] 24)).alloc (.cells #[u] 24)).alloc (.cells #[v] 24)) (w.heap.size + 1 + 1 + 1) 24 #[u] ∧
    Blk (((((w.alloc (.cells #[x] 24)).alloc (.cells #[y] 24)).alloc (.cells #[z] 24)).alloc (.cells #[u] 24)).alloc (.cells #[v] 24)) (w.heap.size + 1 + 1 + 1 + 1) 24 #[v] ∧ Below w.heap.size w (((((w.alloc (.cells #[x] 24)).alloc (.cells #[y] 24)).alloc (.cells #[z] 24)).alloc (.cells #[u] 24)).alloc (.cells #[v] 24)) := by
  obtain ⟨h1, h2, h3, h4, h5⟩ := boxes4 w x y z u
  have e : ((((w.alloc (.cells #[x] 24)).alloc (.cells #[y] 24)).alloc (.cells #[z] 24)).alloc (.cells #[u] 24)).heap.size = w.heap.size + 1 + 1 + 1 + 1 := by simp
  exact ⟨h1.alloc _, h2.alloc _, h3.alloc _, h4.alloc _, by rw [← e]; exact Blk.new _ _ _, h5.alloc (by omega) _⟩
/-- The inverse of a residue. -/
noncomputable def invN (a m : Nat) : Nat := by
  classical
  exact if h : ∃ x : Nat, x < m ∧ (m : Int) ∣ (a : Int) * (x : Int) - 1 then Classical.choose h else 0
theorem inv_unique {a m x y : Nat} (hx : x < m) (hy : y < m) (h1 : (m : Int) ∣ (a : Int) * (x : Int) - 1) (h2 : (m : Int) ∣ (a : Int) * (y : Int) - 1) : x = y := by
  obtain ⟨u, hu⟩ := h1
  obtain ⟨v, hv⟩ := h2
  -- x (a y) - y (a x) = x - y modulo m
  have e : (m : Int) ∣ (x : Int) - (y : Int) := by
    refine ⟨(y : Int) * u - (x : Int) * v, ?_⟩
    have e1 : (m : Int) * ((y : Int) * u) = (y : Int) * ((a : Int) * (x : Int) - 1) := by rw [hu, Int.mul_left_comm]
    have e2 : (m : Int) * ((x : Int) * v) = (x : Int) * ((a : Int) * (y : Int) - 1) := by rw [hv, Int.mul_left_comm]
    rw [Int.mul_sub, e1, e2, Int.mul_sub, Int.mul_sub]
    have e3 : (y : Int) * ((a : Int) * (x : Int)) = (x : Int) * ((a : Int) * (y : Int)) := by
      rw [Int.mul_left_comm, Int.mul_comm (y : Int) (x : Int), Int.mul_left_comm]
    rw [e3]
    omega
  have h3 := Int.emod_emod_of_dvd
  obtain ⟨t, ht⟩ := e
  rcases Int.lt_trichotomy t 0 with h | h | h
  · have : (m : Int) * t ≤ (m : Int) * (-1) := Int.mul_le_mul_of_nonneg_left (by omega) (by omega)
    omega
  · subst h; omega
  · have : (m : Int) * 1 ≤ (m : Int) * t := Int.mul_le_mul_of_nonneg_left (by omega) (by omega)
    omega
theorem invN_eq {a m x : Nat} (hx : x < m) (h : (m : Int) ∣ (a : Int) * (x : Int) - 1) : invN a m = x := by
  classical
  unfold invN
  have h1 : ∃ x : Nat, x < m ∧ (m : Int) ∣ (a : Int) * (x : Int) - 1 := ⟨x, hx, h⟩
  rw [dif_pos h1]
  obtain ⟨h2, h3⟩ := Classical.choose_spec h1
  exact inv_unique h2 hx h3 h

/-- What Inverse returns. -/
noncomputable def invS (e : Int) (a m : Nat) : Nat × Int := if e = 0 then (if Nat.gcd a m = 1 then (invN a m, 0) else (0, 10)) else (0, e)

set_option maxHeartbeats 4000000 in
theorem inverse_err (A B' : Option Addr) (n q c p a m : Nat) (w : World) (hA : Num w w.heap.size A n a) (hB : Num w w.heap.size B' q m) (hn : n ≤ 9223372036854775807) (hq : q ≤ 9223372036854775807) (h0 : ¬ chkS n a 0 0 q m = 0) :
    Calls Try.prog 26 #[.agg #[.slice A n c], .agg #[.slice B' q p]] w (RetTwo w.heap.size (invS (chkS n a 0 0 q m) a m).1 (invS (chkS n a 0 0 q m) a m).2 w) := by
  obtain ⟨e, he⟩ : ∃ e, chkS n a 0 0 q m = e := ⟨_, rfl⟩
  rw [he] at h0 ⊢
  have HI : invS e a m = (0, e) := by unfold invS; rw [if_neg h0]
  rw [HI]
  have HC := hid he
  have he1 := chk_bd n a 0 0 q m
  rw [he] at he1
  have h1 : (e != 0) = true := by simpa using h0
  clear he h0 HI
  have HNA := hid hA
  have HNB := hid hB
  obtain ⟨b0, b1, b2, bw⟩ := boxes3 w (.slice A n c) (.slice B' q p) (.slice none 0 0)
  have XA := Box.mk b0 hA bw
  have XB := Box.mk b1 hB bw
  have XR := Box.mk b2 (Num.nil _ _ _) bw
  have WW := bw
  clear bw b0 b1 b2
  go_enter Try.func26, Try.ntmps26
  go_wp2_with fail
  generalize hV : (((w.alloc (.cells #[.slice A n c] 24)).alloc (.cells #[.slice B' q p] 24)).alloc (.cells #[.slice none 0 0] 24)) = V0 at XA XB XR WW ⊢
  clear hV
  have hbs : w.heap.size ≤ V0.heap.size := WW.size
  have hc := check_any A none B' _ _ _ c 0 p a 0 m V0 XA.num (Num.nil _ _ _) XB.num hn (by omega) hq
  rw [HC.out] at hc
  refine hc.mono ?_
  clear hc
  rintro e V1 ⟨rfl, hb⟩
  replace XA := XA.below hb
  replace XB := XB.below hb
  replace XR := XR.below hb
  replace WW := WW.trans (hb.mono WW.size)
  have fXR := XR.1.frozen 0
  have kXA := XA.cell
  have zXA := XA.lt
  have kXB := XB.cell
  have zXB := XB.lt
  have kXR := XR.cell
  have zXR := XR.lt
  clear hb hbs
  go_wp2_with fail
  exact bodyPost_ret (v := .tuple #[.agg #[.slice none 0 0], .int .i64 e]) (by simp [results, Try.results26, go_sem, kXR, zXR]) rfl ⟨_, rfl, NatV.nil _ _, WW.setCell (by simp <;> omega) _⟩

set_option maxHeartbeats 4000000 in
theorem inverse_none (A B' : Option Addr) (n q c p a m : Nat) (w : World) (hA : Num w w.heap.size A n a) (hB : Num w w.heap.size B' q m) (hn : n ≤ 9223372036854775807) (hq : q ≤ 9223372036854775807) (h0 : chkS n a 0 0 q m = 0) (hg : ¬ Nat.gcd a m = 1) :
    Calls Try.prog 26 #[.agg #[.slice A n c], .agg #[.slice B' q p]] w (RetTwo w.heap.size (invS (chkS n a 0 0 q m) a m).1 (invS (chkS n a 0 0 q m) a m).2 w) := by
  have HC := hid h0
  obtain ⟨hna, _, hqm, hm1, hm0, ha, _⟩ := chk0 h0
  subst hna hqm
  have HI : invS (chkS (nw a) a 0 0 (nw m) m) a m = (0, 10) := by unfold invS; rw [if_pos h0, if_neg hg]
  rw [HI]
  clear HI
  obtain ⟨gg, hgg⟩ : ∃ gg, gg = Nat.gcd a m := ⟨_, rfl⟩
  have HGG := hid hgg
  have hg32 : nw gg ≤ 32 := Nat.le_trans (nw_mono (by rw [hgg]; exact Nat.le_of_dvd hm0 (Nat.gcd_dvd_right a m))) hm1
  have HAM := hid ha
  have K1 := hid (okB_nw (Nat.le_trans hg32 (show 32 ≤ 64 by omega)))
  have K2 : Hid (okB (nw 1) 1 = true) := okB_nw (a := 1) (by decide)
  rw [← hgg] at hg
  have HO : Hid (ordN gg 1 ≠ 0) := (show ordN gg 1 ≠ 0 from fun h => hg (ordN_zero.1 h))
  obtain ⟨od, hod⟩ : ∃ x, ordN gg 1 = x := ⟨_, rfl⟩
  rw [hod] at HO
  have OD := hid hod
  have h1 : (od != 0) = true := by simpa using HO.out
  have hob := ordN_bd gg 1
  rw [hod] at hob
  clear hod
  clear h0 hgg hg ha
  have HNA := hid hA
  have HNB := hid hB
  obtain ⟨b0, b1, b2, bw⟩ := boxes3 w (.slice A (nw a) c) (.slice B' (nw m) p) (.slice none 0 0)
  have XA := Box.mk b0 hA bw
  have XB := Box.mk b1 hB bw
  have XR := Box.mk b2 (Num.nil _ _ _) bw
  have WW := bw
  clear bw b0 b1 b2
  go_enter Try.func26, Try.ntmps26
  go_wp2_with fail
  generalize hV : (((w.alloc (.cells #[.slice A (nw a) c] 24)).alloc (.cells #[.slice B' (nw m) p] 24)).alloc (.cells #[.slice none 0 0] 24)) = V0 at XA XB XR WW ⊢
  clear hV
  have hbs : w.heap.size ≤ V0.heap.size := WW.size
  have hc := check_any A none B' _ _ _ c 0 p a 0 m V0 XA.num (Num.nil _ _ _) XB.num (by omega) (by omega) (by omega)
  rw [HC.out] at hc
  refine hc.mono ?_
  clear hc
  rintro e V1 ⟨rfl, hb⟩
  replace XA := XA.below hb
  replace XB := XB.below hb
  replace XR := XR.below hb
  replace WW := WW.trans (hb.mono WW.size)
  have kXA := XA.cell
  have zXA := XA.lt
  have kXB := XB.cell
  have zXB := XB.lt
  have kXR := XR.cell
  have zXR := XR.lt
  clear hb hbs
  go_wp2_with fail
  have VA : Val w.heap.size V1 A (nw a) c a := .inl (HNA.out.below WW)
  have VB : Val w.heap.size V1 B' (nw m) p m := .inl (HNB.out.below WW)
  have hbs : w.heap.size ≤ V1.heap.size := WW.size
  have hc := euclid_any A B' c p a m V1 XA.num XB.num hm1 HAM.out w.heap.size WW.size VA VB
  refine hc.mono ?_
  clear hc
  rintro e V2 ⟨D1, d1, u, x, rfl, hvv, hu, hb, hxm, hxd⟩
  clear kXA zXA kXB zXB kXR zXR
  replace XA := XA.below hb
  replace XB := XB.below hb
  replace XR := XR.below hb
  replace WW := WW.trans (hb.mono WW.size)
  have hv' := hvv.num (Nat.le_trans hbs hb.size)
  clear hvv
  obtain ⟨D2, d2, rfl, ho⟩ := hu
  have O2 := ho.weak (b := w.heap.size) hbs
  have hu' := O2.num
  rw [← HGG.out] at hv' hxd ⊢
  have kXA := XA.cell
  have zXA := XA.lt
  have kXB := XB.cell
  have zXB := XB.lt
  have kXR := XR.cell
  have zXR := XR.lt
  clear hb hbs
  go_wp2_with fail
  clear ho
  clear hxm hxd
  obtain ⟨b0, b1, bw⟩ := boxes2 V2 (.slice D1 (nw gg) d1) (.slice D2 (nw x) d2)
  clear kXA zXA kXB zXB kXR zXR
  replace XA := XA.below bw
  replace XB := XB.below bw
  replace XR := XR.below bw
  have X1 := Box.mk b0 hv' bw
  have X2 := Box.mk b1 hu' bw
  replace O2 := O2.below bw (Nat.le_refl _)
  replace WW := WW.trans (bw.mono WW.size)
  clear bw b0 b1 hv' hu'
  generalize hV : ((V2.alloc (.cells #[.slice D1 (nw gg) d1] 24)).alloc (.cells #[.slice D2 (nw x) d2] 24)) = V3 at XA XB XR X1 X2 O2 WW ⊢
  clear hV
  have kXA := XA.cell
  have zXA := XA.lt
  have kXB := XB.cell
  have zXB := XB.lt
  have kXR := XR.cell
  have zXR := XR.lt
  have kX1 := X1.cell
  have zX1 := X1.lt
  have kX2 := X2.cell
  have zX2 := X2.lt
  have WWd := WW.drew
  have XAd := XA.drew
  have XBd := XB.drew
  have XRd := XR.drew
  have X1d := X1.drew
  have X2d := X2.drew
  have O2d := O2.drew
  have hst : (fun w' => w'.cell? ⟨V2.heap.size, 0, none⟩ = some (.slice D1 (nw gg) d1)) V3.drew := kX1
  clear WW kXA zXA kXB zXB kXR zXR kX1 zX1 kX2 zX2 XA XB XR X1 X2 O2
  have WW := WWd
  have XA := XAd
  have XB := XBd
  have XR := XRd
  have X1 := X1d
  have X2 := X2d
  have O2 := O2d
  clear WWd XAd XBd XRd X1d X2d O2d
  refine wp_region_held_drew (S := (fun w' => w'.cell? ⟨V2.heap.size, 0, none⟩ = some (.slice D1 (nw gg) d1))) (by kernel_rfl) (hst) (fun hHeld => ?_)
  refine wpAnyH_take (i := 0) (oi := { dst := some 23, op := Op.load 24 (Operand.tmp 7), type := 24, pos := "natmod.go:65", after := #[], guard := none }) (v := ?_) rfl (by kernel_rfl) (by kernel_rfl) (by kernel_rfl) (fun _ _ _ h => h) (Or.inl ⟨by rfl, ?_⟩) (by assumption) ?_
  rotate_left
  · (intro ws hSw; (try dsimp only at hSw); (try go_simp); (try with_reducible rfl))
  (try simp only [Act.put, List.setIfInBounds_toArray, List.set_cons_zero, List.set_cons_succ])
  refine wpAnyH_ready (rs := [1]) (by kernel_rfl) (by simp) ?_
  refine AllReadyH.cons (o := { dst := some 24, op := Op.call { callee := Callee.value (Operand.func 59), args := #[], argTypes := #[] }, type := 24, pos := "natmod.go:65", after := #[], guard := none }) rfl (fun K hK => ?_) AllReadyH.nil
  go_simp
  have hbs : w.heap.size ≤ (V3.drew).heap.size := WW.size
  have hc := one_any (V3.drew)
  refine hc.mono ?_
  clear hc
  rintro e V4 ⟨v, rfl, hv, hb⟩
  replace XA := XA.below hb
  replace XB := XB.below hb
  replace XR := XR.below hb
  replace X1 := X1.below hb
  replace X2 := X2.below hb
  replace O2 := O2.below hb (Nat.le_refl _)
  replace WW := WW.trans (hb.mono WW.size)
  obtain ⟨D3, d3, rfl, ho⟩ := hv
  have O3 := ho.weak (b := w.heap.size) hbs
  clear ho
  have kX1 := X1.cell
  clear hb hbs
  refine hK.out _ _ (kX1) (fun hHeld1 => ?_)
  clear hK K hHeld
  have hHeld := hHeld1
  clear hHeld1
  (try simp only [Act.put, List.setIfInBounds_toArray, List.set_cons_zero, List.set_cons_succ])
  refine wpAnyH_ready (rs := [2]) (by kernel_rfl) (by simp) ?_
  refine AllReadyH.cons (o := { dst := some 25, op := Op.call { callee := Callee.value (Operand.func 67), args := #[Operand.tmp 23, Operand.tmp 24], argTypes := #[24, 24] }, type := 3, pos := "natmod.go:65", after := #[{ on := 0, ground := Ground.data }, { on := 1, ground := Ground.data }, { on := 1, ground := Ground.chain }], guard := none }) rfl (fun K hK => ?_) AllReadyH.nil
  go_simp
  have hbs : w.heap.size ≤ (V4).heap.size := WW.size
  have hc := cmp_any D1 D3 _ _ d1 d3 gg 1 (V4) X1.num O3.num (by omega) (by decide)
  rw [bothC_yes K1.out K2.out] at hc
  rw [OD.out] at hc
  refine hc.mono ?_
  clear hc
  rintro e V5 ⟨rfl, hb⟩
  clear kX1
  replace XA := XA.below hb
  replace XB := XB.below hb
  replace XR := XR.below hb
  replace X1 := X1.below hb
  replace X2 := X2.below hb
  replace O2 := O2.below hb (Nat.le_refl _)
  replace O3 := O3.below hb (Nat.le_refl _)
  replace WW := WW.trans (hb.mono WW.size)
  have kX1 := X1.cell
  clear hb hbs
  refine hK.out _ _ (kX1) (fun hHeld2 => ?_)
  clear hK K hHeld
  have hHeld := hHeld2
  clear hHeld2
  (try simp only [Act.put, List.setIfInBounds_toArray, List.set_cons_zero, List.set_cons_succ])
  refine wpAnyH_take (i := 3) (oi := { dst := some 26, op := Op.binOp BinOp.neq 3 (Operand.tmp 25) (Operand.const (Value.int IntKind.i64 0)) 3, type := 4, pos := "natmod.go:65", after := #[{ on := 2, ground := Ground.data }], guard := none }) (v := ?_) rfl (by kernel_rfl) (by kernel_rfl) (by kernel_rfl) (fun _ _ _ h => h) (Or.inl ⟨by rfl, ?_⟩) (by assumption) ?_
  rotate_left
  · (intro ws hSw; (try dsimp only at hSw); (try go_simp); (try with_reducible rfl))
  (try simp only [Act.put, List.setIfInBounds_toArray, List.set_cons_zero, List.set_cons_succ])
  refine wpAnyH_done (by kernel_rfl) ?_ _
  clear hHeld
  clear hst kX1
  have kXA := XA.cell
  have zXA := XA.lt
  have kXB := XB.cell
  have zXB := XB.lt
  have kXR := XR.cell
  have zXR := XR.lt
  have kX1 := X1.cell
  have zX1 := X1.lt
  have kX2 := X2.cell
  have zX2 := X2.lt
  have fXR := XR.1.frozen 0
  go_wp2_with fail
  exact bodyPost_ret (v := .tuple #[.agg #[.slice none 0 0], .int .i64 10]) (by simp [results, Try.results26, go_sem, kXR, zXR]) rfl ⟨_, rfl, NatV.nil _ _, WW.setCell (by simp <;> omega) _⟩

set_option maxHeartbeats 4000000 in
theorem inverse_ok (A B' : Option Addr) (n q c p a m : Nat) (w : World) (hA : Num w w.heap.size A n a) (hB : Num w w.heap.size B' q m) (hn : n ≤ 9223372036854775807) (hq : q ≤ 9223372036854775807) (h0 : chkS n a 0 0 q m = 0) (hg : Nat.gcd a m = 1) :
    Calls Try.prog 26 #[.agg #[.slice A n c], .agg #[.slice B' q p]] w (RetTwo w.heap.size (invS (chkS n a 0 0 q m) a m).1 (invS (chkS n a 0 0 q m) a m).2 w) := by
  have HC := hid h0
  obtain ⟨hna, _, hqm, hm1, hm0, ha, _⟩ := chk0 h0
  subst hna hqm
  have HI : invS (chkS (nw a) a 0 0 (nw m) m) a m = (invN a m, 0) := by unfold invS; rw [if_pos h0, if_pos hg]
  rw [HI]
  clear HI
  obtain ⟨gg, hgg⟩ : ∃ gg, gg = Nat.gcd a m := ⟨_, rfl⟩
  have HGG := hid hgg
  have hg32 : nw gg ≤ 32 := Nat.le_trans (nw_mono (by rw [hgg]; exact Nat.le_of_dvd hm0 (Nat.gcd_dvd_right a m))) hm1
  have HAM := hid ha
  have K1 := hid (okB_nw (Nat.le_trans hg32 (show 32 ≤ 64 by omega)))
  have K2 : Hid (okB (nw 1) 1 = true) := okB_nw (a := 1) (by decide)
  rw [← hgg] at hg
  have OD : Hid (ordN gg 1 = 0) := ordN_zero.2 hg
  have HG1 := hid hg
  clear h0 hgg hg ha
  have HNA := hid hA
  have HNB := hid hB
  obtain ⟨b0, b1, b2, bw⟩ := boxes3 w (.slice A (nw a) c) (.slice B' (nw m) p) (.slice none 0 0)
  have XA := Box.mk b0 hA bw
  have XB := Box.mk b1 hB bw
  have XR := Box.mk b2 (Num.nil _ _ _) bw
  have WW := bw
  clear bw b0 b1 b2
  go_enter Try.func26, Try.ntmps26
  go_wp2_with fail
  generalize hV : (((w.alloc (.cells #[.slice A (nw a) c] 24)).alloc (.cells #[.slice B' (nw m) p] 24)).alloc (.cells #[.slice none 0 0] 24)) = V0 at XA XB XR WW ⊢
  clear hV
  have hbs : w.heap.size ≤ V0.heap.size := WW.size
  have hc := check_any A none B' _ _ _ c 0 p a 0 m V0 XA.num (Num.nil _ _ _) XB.num (by omega) (by omega) (by omega)
  rw [HC.out] at hc
  refine hc.mono ?_
  clear hc
  rintro e V1 ⟨rfl, hb⟩
  replace XA := XA.below hb
  replace XB := XB.below hb
  replace XR := XR.below hb
  replace WW := WW.trans (hb.mono WW.size)
  have kXA := XA.cell
  have zXA := XA.lt
  have kXB := XB.cell
  have zXB := XB.lt
  have kXR := XR.cell
  have zXR := XR.lt
  clear hb hbs
  go_wp2_with fail
  have VA : Val w.heap.size V1 A (nw a) c a := .inl (HNA.out.below WW)
  have VB : Val w.heap.size V1 B' (nw m) p m := .inl (HNB.out.below WW)
  have hbs : w.heap.size ≤ V1.heap.size := WW.size
  have hc := euclid_any A B' c p a m V1 XA.num XB.num hm1 HAM.out w.heap.size WW.size VA VB
  refine hc.mono ?_
  clear hc
  rintro e V2 ⟨D1, d1, u, x, rfl, hvv, hu, hb, hxm, hxd⟩
  clear kXA zXA kXB zXB kXR zXR
  replace XA := XA.below hb
  replace XB := XB.below hb
  replace XR := XR.below hb
  replace WW := WW.trans (hb.mono WW.size)
  have hv' := hvv.num (Nat.le_trans hbs hb.size)
  clear hvv
  obtain ⟨D2, d2, rfl, ho⟩ := hu
  have O2 := ho.weak (b := w.heap.size) hbs
  have hu' := O2.num
  rw [← HGG.out] at hv' hxd ⊢
  have kXA := XA.cell
  have zXA := XA.lt
  have kXB := XB.cell
  have zXB := XB.lt
  have kXR := XR.cell
  have zXR := XR.lt
  clear hb hbs
  go_wp2_with fail
  clear ho
  have HX := hid (invN_eq hxm (by rw [HG1.out] at hxd; exact hxd))
  skip
  clear hxm hxd
  obtain ⟨b0, b1, bw⟩ := boxes2 V2 (.slice D1 (nw gg) d1) (.slice D2 (nw x) d2)
  clear kXA zXA kXB zXB kXR zXR
  replace XA := XA.below bw
  replace XB := XB.below bw
  replace XR := XR.below bw
  have X1 := Box.mk b0 hv' bw
  have X2 := Box.mk b1 hu' bw
  replace O2 := O2.below bw (Nat.le_refl _)
  replace WW := WW.trans (bw.mono WW.size)
  clear bw b0 b1 hv' hu'
  generalize hV : ((V2.alloc (.cells #[.slice D1 (nw gg) d1] 24)).alloc (.cells #[.slice D2 (nw x) d2] 24)) = V3 at XA XB XR X1 X2 O2 WW ⊢
  clear hV
  have kXA := XA.cell
  have zXA := XA.lt
  have kXB := XB.cell
  have zXB := XB.lt
  have kXR := XR.cell
  have zXR := XR.lt
  have kX1 := X1.cell
  have zX1 := X1.lt
  have kX2 := X2.cell
  have zX2 := X2.lt
  have WWd := WW.drew
  have XAd := XA.drew
  have XBd := XB.drew
  have XRd := XR.drew
  have X1d := X1.drew
  have X2d := X2.drew
  have O2d := O2.drew
  have hst : (fun w' => w'.cell? ⟨V2.heap.size, 0, none⟩ = some (.slice D1 (nw gg) d1)) V3.drew := kX1
  clear WW kXA zXA kXB zXB kXR zXR kX1 zX1 kX2 zX2 XA XB XR X1 X2 O2
  have WW := WWd
  have XA := XAd
  have XB := XBd
  have XR := XRd
  have X1 := X1d
  have X2 := X2d
  have O2 := O2d
  clear WWd XAd XBd XRd X1d X2d O2d
  refine wp_region_held_drew (S := (fun w' => w'.cell? ⟨V2.heap.size, 0, none⟩ = some (.slice D1 (nw gg) d1))) (by kernel_rfl) (hst) (fun hHeld => ?_)
  refine wpAnyH_take (i := 0) (oi := { dst := some 23, op := Op.load 24 (Operand.tmp 7), type := 24, pos := "natmod.go:65", after := #[], guard := none }) (v := ?_) rfl (by kernel_rfl) (by kernel_rfl) (by kernel_rfl) (fun _ _ _ h => h) (Or.inl ⟨by rfl, ?_⟩) (by assumption) ?_
  rotate_left
  · (intro ws hSw; (try dsimp only at hSw); (try go_simp); (try with_reducible rfl))
  (try simp only [Act.put, List.setIfInBounds_toArray, List.set_cons_zero, List.set_cons_succ])
  refine wpAnyH_ready (rs := [1]) (by kernel_rfl) (by simp) ?_
  refine AllReadyH.cons (o := { dst := some 24, op := Op.call { callee := Callee.value (Operand.func 59), args := #[], argTypes := #[] }, type := 24, pos := "natmod.go:65", after := #[], guard := none }) rfl (fun K hK => ?_) AllReadyH.nil
  go_simp
  have hbs : w.heap.size ≤ (V3.drew).heap.size := WW.size
  have hc := one_any (V3.drew)
  refine hc.mono ?_
  clear hc
  rintro e V4 ⟨v, rfl, hv, hb⟩
  replace XA := XA.below hb
  replace XB := XB.below hb
  replace XR := XR.below hb
  replace X1 := X1.below hb
  replace X2 := X2.below hb
  replace O2 := O2.below hb (Nat.le_refl _)
  replace WW := WW.trans (hb.mono WW.size)
  obtain ⟨D3, d3, rfl, ho⟩ := hv
  have O3 := ho.weak (b := w.heap.size) hbs
  clear ho
  have kX1 := X1.cell
  clear hb hbs
  refine hK.out _ _ (kX1) (fun hHeld1 => ?_)
  clear hK K hHeld
  have hHeld := hHeld1
  clear hHeld1
  (try simp only [Act.put, List.setIfInBounds_toArray, List.set_cons_zero, List.set_cons_succ])
  refine wpAnyH_ready (rs := [2]) (by kernel_rfl) (by simp) ?_
  refine AllReadyH.cons (o := { dst := some 25, op := Op.call { callee := Callee.value (Operand.func 67), args := #[Operand.tmp 23, Operand.tmp 24], argTypes := #[24, 24] }, type := 3, pos := "natmod.go:65", after := #[{ on := 0, ground := Ground.data }, { on := 1, ground := Ground.data }, { on := 1, ground := Ground.chain }], guard := none }) rfl (fun K hK => ?_) AllReadyH.nil
  go_simp
  have hbs : w.heap.size ≤ (V4).heap.size := WW.size
  have hc := cmp_any D1 D3 _ _ d1 d3 gg 1 (V4) X1.num O3.num (by omega) (by decide)
  rw [bothC_yes K1.out K2.out] at hc
  rw [OD.out] at hc
  refine hc.mono ?_
  clear hc
  rintro e V5 ⟨rfl, hb⟩
  clear kX1
  replace XA := XA.below hb
  replace XB := XB.below hb
  replace XR := XR.below hb
  replace X1 := X1.below hb
  replace X2 := X2.below hb
  replace O2 := O2.below hb (Nat.le_refl _)
  replace O3 := O3.below hb (Nat.le_refl _)
  replace WW := WW.trans (hb.mono WW.size)
  have kX1 := X1.cell
  clear hb hbs
  refine hK.out _ _ (kX1) (fun hHeld2 => ?_)
  clear hK K hHeld
  have hHeld := hHeld2
  clear hHeld2
  (try simp only [Act.put, List.setIfInBounds_toArray, List.set_cons_zero, List.set_cons_succ])
  refine wpAnyH_take (i := 3) (oi := { dst := some 26, op := Op.binOp BinOp.neq 3 (Operand.tmp 25) (Operand.const (Value.int IntKind.i64 0)) 3, type := 4, pos := "natmod.go:65", after := #[{ on := 2, ground := Ground.data }], guard := none }) (v := ?_) rfl (by kernel_rfl) (by kernel_rfl) (by kernel_rfl) (fun _ _ _ h => h) (Or.inl ⟨by rfl, ?_⟩) (by assumption) ?_
  rotate_left
  · (intro ws hSw; (try dsimp only at hSw); (try go_simp); (try with_reducible rfl))
  (try simp only [Act.put, List.setIfInBounds_toArray, List.set_cons_zero, List.set_cons_succ])
  refine wpAnyH_done (by kernel_rfl) ?_ _
  clear hHeld
  clear hst kX1
  have kXA := XA.cell
  have zXA := XA.lt
  have kXB := XB.cell
  have zXB := XB.lt
  have kXR := XR.cell
  have zXR := XR.lt
  have kX1 := X1.cell
  have zX1 := X1.lt
  have kX2 := X2.cell
  have zX2 := X2.lt
  have fXR := XR.1.frozen 0
  go_wp2_with fail
  have ho2 := O2.box (p := ⟨w.heap.size + 1 + 1, 0, none⟩) XR.1 (by decide) (.slice D2 (nw x) d2)
  skip
  exact bodyPost_ret (v := .tuple #[.agg #[.slice D2 (nw x) d2], .int .i64 0]) (by simp [results, Try.results26, go_sem, kXR, zXR]) rfl ⟨_, rfl, by rw [HX.out]; exact ⟨D2, d2, rfl, ho2⟩, WW.setCell (by simp <;> omega) _⟩

theorem inverse_any (A B' : Option Addr) (n q c p a m : Nat) (w : World) (hA : Num w w.heap.size A n a) (hB : Num w w.heap.size B' q m) (hn : n ≤ 9223372036854775807) (hq : q ≤ 9223372036854775807) :
    Calls Try.prog 26 #[.agg #[.slice A n c], .agg #[.slice B' q p]] w (RetTwo w.heap.size (invS (chkS n a 0 0 q m) a m).1 (invS (chkS n a 0 0 q m) a m).2 w) := by
  by_cases h0 : chkS n a 0 0 q m = 0
  · by_cases hg : Nat.gcd a m = 1
    · exact inverse_ok A B' n q c p a m w hA hB hn hq h0 hg
    · exact inverse_none A B' n q c p a m w hA hB hn hq h0 hg
  · exact inverse_err A B' n q c p a m w hA hB hn hq h0

end Go.Proofs.Ytckajjapockonaa
