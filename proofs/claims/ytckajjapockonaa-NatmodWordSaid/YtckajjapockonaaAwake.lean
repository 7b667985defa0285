/- awake: the examples of the chapter. -/
import Derived.Test.YtckajjapockonaaMod4
import Derived.Test.YtckajjapockonaaOf3
import Derived.KernelRfl
set_option linter.unusedVariables false
set_option linter.unusedSimpArgs false
namespace Go.Proofs.Ytckajjapockonaa
open Go.RowKit

theorem of3_z (x : Nat) (z : Int) (w : World) (hx : x ≤ 18446744073709551615) (hz : z = ((x : Nat) : Int)) : Calls Try.prog 32 #[.int .u64 z] w (RetNat w.heap.size x w) := by
  rw [hz]; exact of3_any x w hx
theorem equal_B (A B' : Option Addr) (n m c d a b B : Nat) (w : World) (hA : Num w B A n a) (hB : Num w B B' m b) (hn : n ≤ 9223372036854775807) (hm : m ≤ 9223372036854775807) :
    Calls Try.prog 40 #[.slice A n c, .slice B' m d] w (RetB (.bool (sameB n a m b)) w) :=
  (equal_any A B' n m c d a b B w hA hB hn hm).mono fun _ _ ⟨h, j, hj⟩ => ⟨h, by rw [hj]; exact below_drewN (Below.refl _ _) j⟩
theorem wp_landG {P : Program} {c : Code} {Q : Exit → Act → World → Prop} {a : Act} {w : World} {F : Nat → Option Addr → Nat → Option Addr → Nat → Act} (R : Nat → Option Addr → Nat → World → Prop)
    (hreg : c.wp P (fun e a1 w1 => e = Exit.normal ∧ ∃ g1 D d X x, a1 = F g1 D d X x ∧ R g1 X x w1) a w) (himp : ∀ g1 D d X x w1, R g1 X x w1 → Q Exit.normal (F g1 D d X x) w1) : c.wp P Q a w :=
  Code.wp_mono (fun e a1 w1 h => by obtain ⟨rfl, g1, D, d, X, x, rfl, hR⟩ := h; exact himp _ _ _ _ _ w1 hR) hreg
theorem l_M : words 3 18446744073709551629 = #[.int .u32 13, .int .u32 0, .int .u32 1] := by kernel_rfl
theorem l_T : words 2 4294967296 = #[.int .u32 0, .int .u32 1] := by kernel_rfl
theorem l_S : words 3 18446744073709551616 = #[.int .u32 0, .int .u32 0, .int .u32 1] := by kernel_rfl
theorem l_I : words 2 9223372036854775815 = #[.int .u32 7, .int .u32 2147483648] := by kernel_rfl
theorem l_E : words 1 8 = #[.int .u32 8] := by kernel_rfl
/-- The numbers of the examples, behind names. -/
structure Lits (M T S I E u2 u3 u5 : Nat) : Prop where
  m : words 3 M = #[.int .u32 13, .int .u32 0, .int .u32 1]
  t : words 2 T = #[.int .u32 0, .int .u32 1]
  s : words 3 S = #[.int .u32 0, .int .u32 0, .int .u32 1]
  i : words 2 I = #[.int .u32 7, .int .u32 2147483648]
  e : words 1 E = #[.int .u32 8]
  nm : M < 2 ^ (32 * 3) ∧ nw M = 3
  nt : T < 2 ^ (32 * 2) ∧ nw T = 2
  ns : S < 2 ^ (32 * 3) ∧ nw S = 3
  ni : I < 2 ^ (32 * 2) ∧ nw I = 2
  ne : E < 2 ^ (32 * 1) ∧ nw E = 1
  v2 : (2 : Int) = ((u2 : Nat) : Int) ∧ u2 ≤ 100 ∧ nw u2 = 1
  v3 : (3 : Int) = ((u3 : Nat) : Int) ∧ u3 ≤ 100 ∧ nw u3 = 1
  v5 : (5 : Int) = ((u5 : Nat) : Int) ∧ u5 ≤ 100 ∧ nw u5 = 1
  mul : modS (chkS 2 T 2 T 3 M) (T * T % M) = (S, 0)
  inv : invS (chkS (nw u2) u2 0 0 3 M) u2 M = (I, 0)
  crt : u2 < u3 ∧ u3 < u5 ∧ Nat.gcd u3 u5 = 1 ∧ nw (u3 * u5) ≤ 32 ∧ crtN u2 u3 u3 u5 = E
theorem nw_lit {a n : Nat} (h : a < 2 ^ (32 * n)) (h1 : dig a (n - 1) ≠ 0) : nw a = n := nw_unique h (.inr h1)
theorem chk_ok {n a k b q m : Nat} (h1 : nw a = n) (h2 : nw b = k) (h3 : nw m = q) (hn : n ≤ 64) (hk : k ≤ 64) (hq : 1 ≤ q ∧ q ≤ 32) (ha : a < m) (hb : b < m) : chkS n a k b q m = 0 := by
  unfold chkS
  have e1 : okB n a = true := okB_yes.2 ⟨h1, hn⟩
  have e2 : okB k b = true := okB_yes.2 ⟨h2, hk⟩
  have e3 : modB q m = true := by unfold modB; rw [okB_yes.2 ⟨h3, by omega⟩, h3, decide_eq_true hq]; rfl
  rw [e1, e2, e3]
  simp [ha, hb]
theorem lits : ∃ M T S I E u2 u3 u5, Lits M T S I E u2 u3 u5 := by
  have hm : nw 18446744073709551629 = 3 := nw_lit (by decide) (by decide)
  have ht : nw 4294967296 = 2 := nw_lit (by decide) (by decide)
  have hs : nw 18446744073709551616 = 3 := nw_lit (by decide) (by decide)
  have hi : nw 9223372036854775815 = 2 := nw_lit (by decide) (by decide)
  have he : nw 8 = 1 := nw_lit (by decide) (by decide)
  have h2 : nw 2 = 1 := nw_lit (by decide) (by decide)
  have h3 : nw 3 = 1 := nw_lit (by decide) (by decide)
  have h5 : nw 5 = 1 := nw_lit (by decide) (by decide)
  have h15 : nw (3 * 5) = 1 := nw_lit (by decide) (by decide)
  refine ⟨18446744073709551629, 4294967296, 18446744073709551616, 9223372036854775815, 8, 2, 3, 5, l_M, l_T, l_S, l_I, l_E, ⟨by decide, hm⟩, ⟨by decide, ht⟩, ⟨by decide, hs⟩, ⟨by decide, hi⟩, ⟨by decide, he⟩, ⟨rfl, by omega, h2⟩, ⟨rfl, by omega, h3⟩, ⟨rfl, by omega, h5⟩, ?_, ?_, by omega, by omega, by decide, by rw [h15]; omega, ?_⟩
  · rw [chk_ok ht ht hm (by omega) (by omega) (by omega) (by decide) (by decide), modS_ok]
  · have hz : nw 0 = 0 := rfl
    rw [h2, chk_ok h2 hz hm (by omega) (by omega) (by omega) (by decide) (by decide)]
    unfold invS
    rw [if_pos rfl, if_pos (by decide), invN_eq (x := 9223372036854775815) (by decide) ⟨1, by decide⟩]
  · unfold crtN
    have e : invN (3 % 5) 5 = 2 := invN_eq (by decide) ⟨1, by decide⟩
    rw [e]

set_option maxHeartbeats 8000000 in
set_option maxRecDepth 100000 in
theorem awake_any (u : World) : Calls Try.prog 12 #[] u (RetB (.bool true) u) := by
  obtain ⟨M, T, S, I, E, u2, u3, u5, L⟩ := lits
  have HL := hid L
  obtain ⟨b2, b2', n2⟩ := L.v2
  obtain ⟨b3, b3', n3⟩ := L.v3
  obtain ⟨b5, b5', n5⟩ := L.v5
  have H2 := hid b2
  have H3 := hid b3
  have H5 := hid b5
  have N2 := hid n2
  have N3 := hid n3
  have N5 := hid n5
  clear L b2 b3 b5 n2 n3 n5
  go_enter Try.func12, Try.ntmps12
  go_wp2_with fail
  rw [← HL.out.m, ← HL.out.t]
  obtain ⟨w, hw⟩ : ∃ w, w = (((u.alloc (.cells (words 3 M) 50)).alloc (.cells #[.slice (some ⟨u.heap.size, 0, none⟩) 3 3] 24)).alloc (.cells (words 2 T) 50)).alloc (.cells (words 2 T) 50) := ⟨_, rfl⟩
  have e1 : (u.alloc (.cells (words 3 M) 50)).heap.size = u.heap.size + 1 := by simp
  have e2 : ((u.alloc (.cells (words 3 M) 50)).alloc (.cells #[.slice (some ⟨u.heap.size, 0, none⟩) 3 3] 24)).heap.size = u.heap.size + 1 + 1 := by simp
  have e3 : (((u.alloc (.cells (words 3 M) 50)).alloc (.cells #[.slice (some ⟨u.heap.size, 0, none⟩) 3 3] 24)).alloc (.cells (words 2 T) 50)).heap.size = u.heap.size + 1 + 1 + 1 := by simp
  have e4 : w.heap.size = u.heap.size + 1 + 1 + 1 + 1 := by rw [hw]; simp
  have bM : Blk w u.heap.size 50 (words 3 M) := by rw [hw]; exact (((Blk.new _ 50 _).alloc _).alloc _).alloc _
  have bm := Blk.new (u.alloc (.cells (words 3 M) 50)) 24 #[.slice (some ⟨u.heap.size, 0, none⟩) 3 3]
  rw [e1] at bm
  have bB : Blk w (u.heap.size + 1) 24 #[.slice (some ⟨u.heap.size, 0, none⟩) 3 3] := by rw [hw]; exact (bm.alloc _).alloc _
  have bt := Blk.new ((u.alloc (.cells (words 3 M) 50)).alloc (.cells #[.slice (some ⟨u.heap.size, 0, none⟩) 3 3] 24)) 50 (words 2 T)
  rw [e2] at bt
  have bT : Blk w (u.heap.size + 1 + 1) 50 (words 2 T) := by rw [hw]; exact bt.alloc _
  have bt2 := Blk.new (((u.alloc (.cells (words 3 M) 50)).alloc (.cells #[.slice (some ⟨u.heap.size, 0, none⟩) 3 3] 24)).alloc (.cells (words 2 T) 50)) 50 (words 2 T)
  rw [e3] at bt2
  have bT2 : Blk w (u.heap.size + 1 + 1 + 1) 50 (words 2 T) := by rw [hw]; exact bt2
  have bW : Below u.heap.size u w := by rw [hw]; exact ((((Below.refl _ _).alloc (Nat.le_refl _) _).alloc (by simp) _).alloc (by simp <;> omega) _).alloc (by simp <;> omega) _
  rw [← hw]
  have HU := hid bW
  have NM := hid (num_blk (B := w.heap.size) bM HL.out.nm.1 (by omega))
  have NT := hid (num_blk (B := w.heap.size) bT HL.out.nt.1 (by omega))
  have NT2 := hid (num_blk (B := w.heap.size) bT2 HL.out.nt.1 (by omega))
  have XM : Box w (u.heap.size + 1) (some ⟨u.heap.size, 0, none⟩) 3 3 M := ⟨bB, NM.out⟩
  have WW := Below.refl w.heap.size w
  have zu : u.heap.size + 1 < w.heap.size := by omega
  obtain ⟨gm, hgm⟩ : ∃ gm, gm = u.heap.size := ⟨_, rfl⟩
  obtain ⟨gb, hgb⟩ : ∃ gb, gb = u.heap.size + 1 := ⟨_, rfl⟩
  have HU2 : Hid (u.heap.size ≤ w.heap.size) := HU.out.size
  clear hw e1 e2 e3 bM bm bB bt bT bt2 bT2 bW
  have sM := HL.out.nm.2
  have sT := HL.out.nt.2
  have sS := HL.out.ns.2
  have sI := HL.out.ni.2
  have sE := HL.out.ne.2
  have kXM := XM.cell
  have zXM := XM.lt
  have hbs : w.heap.size ≤ w.heap.size := Nat.le_refl _
  clear hbs hgm hgb gm gb
  have hbs : w.heap.size ≤ w.heap.size := WW.size
  have hc := nmul_any (some ⟨u.heap.size + 1 + 1, 0, none⟩) (some ⟨u.heap.size + 1 + 1 + 1, 0, none⟩) (some ⟨u.heap.size, 0, none⟩) 2 2 3 2 2 3 T T M w NT.out NT2.out NM.out (by omega) (by omega) (by omega)
  rw [HL.out.mul] at hc
  refine hc.mono ?_
  clear hc
  rintro e V1 ⟨v, rfl, hv, hb⟩
  clear kXM zXM
  replace XM := XM.below hb
  replace WW := WW.trans (hb.mono WW.size)
  obtain ⟨D1, d1, rfl, ho⟩ := hv
  have O1 := ho.weak (b := w.heap.size) hbs
  rw [sS] at O1 ⊢
  have hv' := O1.num
  clear ho
  have kXM := XM.cell
  have zXM := XM.lt
  clear hb hbs
  go_wp2_with fail
  obtain ⟨b0, bw⟩ := boxes1 V1 (.slice D1 3 d1)
  clear kXM zXM
  replace XM := XM.below bw
  have X11 := Box.mk b0 hv' bw
  replace O1 := O1.below bw (Nat.le_refl _)
  replace WW := WW.trans (bw.mono WW.size)
  clear bw b0 hv'
  generalize hV : (V1.alloc (.cells #[.slice D1 3 d1] 24)) = V2 at XM X11 O1 WW ⊢
  clear hV
  have kXM := XM.cell
  have zXM := XM.lt
  have kX11 := X11.cell
  have zX11 := X11.lt
  have BM := XM.1
  have B11 := X11.1
  have n11 := X11.lt
  clear kXM zXM kX11 zX11 XM X11
  apply wp_landG (R := fun g4 D3 d3 w1 => Blk w1 (u.heap.size + 1) 24 #[.slice (some ⟨u.heap.size, 0, none⟩) 3 3] ∧ Blk w1 (V1.heap.size) 24 #[.slice D1 3 d1] ∧ Blk w1 g4 24 #[.slice D3 2 d3] ∧ Below w.heap.size w w1 ∧ Own w1 w.heap.size D1 3 d1 S ∧ Own w1 w.heap.size D3 2 d3 I)
  case hreg =>
    refine wp_region_noPanic ?_
    refine wp_region_held_drew (S := (fun w' => w'.cell? ⟨u.heap.size + 1, 0, none⟩ = some (.slice (some ⟨u.heap.size, 0, none⟩) 3 3) ∧ w'.cell? ⟨V1.heap.size, 0, none⟩ = some (.slice D1 3 d1))) (by kernel_rfl) (⟨BM.cell0, B11.cell0⟩) (fun hHeld => ?_)
    refine wpAnyH_name (fun W' => Blk W' (u.heap.size + 1) 24 #[.slice (some ⟨u.heap.size, 0, none⟩) 3 3] ∧ Blk W' (V1.heap.size) 24 #[.slice D1 3 d1] ∧ Below w.heap.size w W' ∧ Own W' w.heap.size D1 3 d1 S ∧ V2.heap.size ≤ W'.heap.size ∧ (fun w' => w'.cell? ⟨u.heap.size + 1, 0, none⟩ = some (.slice (some ⟨u.heap.size, 0, none⟩) 3 3) ∧ w'.cell? ⟨V1.heap.size, 0, none⟩ = some (.slice D1 3 d1)) W') (⟨BM, B11, WW.drew, O1.drew, Nat.le_refl _, hHeld⟩) ?_
    clear hHeld
    have hzV := WW.size
    rintro W100 ⟨BM, B11, WW, O1, s100, hHeld⟩
    refine wpAnyH_take (i := 1) (oi := { dst := some 21, op := Op.load 24 (Operand.tmp 1), type := 24, pos := "law.go:18", after := #[], guard := none }) (v := ?_) rfl (by kernel_rfl) (by kernel_rfl) (by kernel_rfl) (fun _ _ _ h => h) (Or.inl ⟨by rfl, ?_⟩) (by assumption) ?_
    rotate_left
    · (intro ws hSw; (try dsimp only at hSw); (try go_simp); (try with_reducible rfl))
    (try simp only [Act.put, List.setIfInBounds_toArray, List.set_cons_zero, List.set_cons_succ])
    refine wpAnyH_ready (rs := [0, 6]) (by kernel_rfl) (by simp) ?_
    refine AllReadyH.cons (o := { dst := some 20, op := Op.call { callee := Callee.value (Operand.func 32), args := #[Operand.const (Value.int IntKind.u64 2)], argTypes := #[42] }, type := 24, pos := "law.go:18", after := #[], guard := none }) rfl (fun K hK => ?_) ?_
    · go_simp
      have hc := of3_z u2 2 W100 (by omega) H2.out
      refine hc.mono ?_
      clear hc
      rintro e W101 ⟨v, rfl, ⟨D2, d2, rfl, ho⟩, hb⟩
      have O2 := ho.weak (b := w.heap.size) WW.size
      clear ho
      replace BM := BM.below hb BM.lt
      replace B11 := B11.below hb B11.lt
      replace O1 := O1.below hb (Nat.le_refl _)
      have hsz := WW.size
      replace WW := WW.trans (hb.mono WW.size)
      have s101 := hb.size
      have BM' := BM
      have B11' := B11
      clear hb hsz
      refine hK.out _ _ ⟨BM'.cell0, B11'.cell0⟩ (fun hHeld2 => ?_)
      clear hK K hHeld BM' B11'
      have hHeld := hHeld2
      clear hHeld2
      (try simp only [Act.put, List.setIfInBounds_toArray, List.set_cons_zero, List.set_cons_succ])
      refine wpAnyH_ready (rs := [2, 6]) (by kernel_rfl) (by simp) ?_
      refine AllReadyH.cons (o := { dst := some 22, op := Op.call { callee := Callee.value (Operand.func 26), args := #[Operand.tmp 20, Operand.tmp 21], argTypes := #[24, 24] }, type := 28, pos := "law.go:18", after := #[{ on := 0, ground := Ground.data }, { on := 1, ground := Ground.data }, { on := 0, ground := Ground.chain }], guard := none }) rfl (fun K hK => ?_) ?_
      · go_simp
        have hc := inverse_any D2 (some ⟨u.heap.size, 0, none⟩) _ _ d2 3 u2 M W101 O2.num ((NM.out.below WW).more WW.size) (by rw [N2.out]; omega) (by omega)
        rw [HL.out.inv] at hc
        refine hc.mono ?_
        clear hc
        rintro e W102 ⟨v, rfl, ⟨D3, d3, rfl, ho⟩, hb⟩
        have O3 := ho.weak (b := w.heap.size) WW.size; rw [sI] at O3 ⊢
        clear ho
        replace BM := BM.below hb BM.lt
        replace B11 := B11.below hb B11.lt
        replace O1 := O1.below hb (Nat.le_refl _)
        replace O2 := O2.below hb (Nat.le_refl _)
        have hsz := WW.size
        replace WW := WW.trans (hb.mono WW.size)
        have s102 := hb.size
        have BM' := BM
        have B11' := B11
        clear hb hsz
        refine hK.out _ _ ⟨BM'.cell0, B11'.cell0⟩ (fun hHeld2 => ?_)
        clear hK K hHeld BM' B11'
        have hHeld := hHeld2
        clear hHeld2
        (try simp only [Act.put, List.setIfInBounds_toArray, List.set_cons_zero, List.set_cons_succ])
        refine wpAnyH_take (i := 3) (oi := { dst := some 19, op := Op.move (Operand.tmp 22), type := 28, pos := "law.go:18", after := #[{ on := 2, ground := Ground.data }], guard := none }) (v := ?_) rfl (by kernel_rfl) (by kernel_rfl) (by kernel_rfl) (fun _ _ _ h => h) (Or.inl ⟨by rfl, ?_⟩) (by assumption) ?_
        rotate_left
        · (intro ws hSw; (try dsimp only at hSw); (try go_simp); (try with_reducible rfl))
        (try simp only [Act.put, List.setIfInBounds_toArray, List.set_cons_zero, List.set_cons_succ])
        refine wpAnyH_take (i := 4) (oi := { dst := some 23, op := Op.extract (Operand.tmp 19) 0, type := 24, pos := "law.go:18", after := #[{ on := 3, ground := Ground.data }], guard := none }) (v := ?_) rfl (by kernel_rfl) (by kernel_rfl) (by kernel_rfl) (fun _ _ _ h => h) (Or.inl ⟨by rfl, ?_⟩) (by assumption) ?_
        rotate_left
        · (intro ws hSw; (try dsimp only at hSw); (try go_simp); (try with_reducible rfl))
        (try simp only [Act.put, List.setIfInBounds_toArray, List.set_cons_zero, List.set_cons_succ])
        refine wpAnyH_take (i := 5) (oi := { dst := some 24, op := Op.extract (Operand.tmp 19) 1, type := 27, pos := "law.go:18", after := #[{ on := 3, ground := Ground.data }, { on := 7, ground := Ground.gcOnly Departure.lateStores }], guard := none }) (v := ?_) rfl (by kernel_rfl) (by kernel_rfl) (by kernel_rfl) (fun _ _ _ h => h) (Or.inl ⟨by rfl, ?_⟩) (by assumption) ?_
        rotate_left
        · (intro ws hSw; (try dsimp only at hSw); (try go_simp); (try with_reducible rfl))
        (try simp only [Act.put, List.setIfInBounds_toArray, List.set_cons_zero, List.set_cons_succ])
        refine wpAnyH_ready (rs := [6]) (by kernel_rfl) (by simp) ?_
        refine AllReadyH.cons (o := { dst := some 4, op := Op.alloc 24, type := 0, pos := "law.go:18", after := #[], guard := none }) rfl (fun K hK => ?_) AllReadyH.nil
        · go_simp
          have ba := (Below.refl W102.heap.size W102).alloc (Nat.le_refl _) (.cells #[.slice none 0 0] 24)
          have BM' := BM.below ba BM.lt
          have B11' := B11.below ba B11.lt
          have B4' := Blk.new W102 24 #[.slice none 0 0]
          have WW' := WW.trans (ba.mono WW.size)
          have O1' := O1.below ba (Nat.le_refl _)
          have O2' := O2.below ba (Nat.le_refl _)
          have O3' := O3.below ba (Nat.le_refl _)
          have sn : W102.heap.size < (W102.alloc (.cells #[.slice none 0 0] 24)).heap.size := B4'.lt
          refine hK.out _ _ ⟨BM'.cell0, B11'.cell0⟩ (fun hHeld2 => ?_)
          clear hK K
          (try simp only [Act.put, List.setIfInBounds_toArray, List.set_cons_zero, List.set_cons_succ])
          refine wpAnyH_name (fun W' => Blk W' (W102.heap.size) 24 #[.slice none 0 0] ∧ Blk W' (u.heap.size + 1) 24 #[.slice (some ⟨u.heap.size, 0, none⟩) 3 3] ∧ Blk W' (V1.heap.size) 24 #[.slice D1 3 d1] ∧ Below w.heap.size w W' ∧ Own W' w.heap.size D1 3 d1 S ∧ Own W' w.heap.size D2 (nw u2) d2 u2 ∧ Own W' w.heap.size D3 2 d3 I ∧ W102.heap.size < W'.heap.size ∧ (fun w' => w'.cell? ⟨u.heap.size + 1, 0, none⟩ = some (.slice (some ⟨u.heap.size, 0, none⟩) 3 3) ∧ w'.cell? ⟨V1.heap.size, 0, none⟩ = some (.slice D1 3 d1)) W') (⟨B4', BM', B11', WW', O1', O2', O3', sn, hHeld2⟩) ?_
          clear hHeld2 hHeld sn ba B4' BM' B11' WW' O1' O2' O3' BM B11 WW O1 O2 O3
          rintro W103 ⟨B4, BM, B11, WW, O1, O2, O3, s103, hHeld⟩
          refine wpAnyH_ready (rs := [7]) (by kernel_rfl) (by simp) ?_
          refine AllReadyH.cons (o := { dst := none, op := Op.store 24 (Operand.tmp 4) (Operand.tmp 23), type := 0, pos := "law.go:18", after := #[{ on := 6, ground := Ground.data }, { on := 4, ground := Ground.data }, { on := 2, ground := Ground.chain }, { on := 0, ground := Ground.phase }, { on := 1, ground := Ground.phase }, { on := 2, ground := Ground.phase }, { on := 3, ground := Ground.phase }, { on := 4, ground := Ground.phase }, { on := 5, ground := Ground.textOnly Departure.lateStores }, { on := 6, ground := Ground.phase }], guard := none }) rfl (fun K hK => ?_) AllReadyH.nil
          · obtain ⟨ga, hga⟩ : ∃ g, g = W102.heap.size := ⟨_, rfl⟩
            have n2 : w.heap.size ≤ W102.heap.size := by omega
            have m1 : V1.heap.size ≠ W102.heap.size := by have := n11; omega
            rw [← hga] at B4 n2 m1 ⊢
            clear hga
            have fz := B4.frozen 0
            have cz := B4.cell0
            go_simp
            have BM' := BM.far (p := ⟨ga, 0, none⟩) (by simp <;> omega) (.slice D3 2 d3)
            have B11' := B11.far (p := ⟨ga, 0, none⟩) (by simp <;> omega) (.slice D3 2 d3)
            have B4' := B4.set_ 0 (.slice D3 2 d3)
            have WW' := WW.setCell (p := ⟨ga, 0, none⟩) (by simp <;> omega) (.slice D3 2 d3)
            have O1' := O1.box (p := ⟨ga, 0, none⟩) B4 (by decide) (.slice D3 2 d3)
            have O2' := O2.box (p := ⟨ga, 0, none⟩) B4 (by decide) (.slice D3 2 d3)
            have O3' := O3.box (p := ⟨ga, 0, none⟩) B4 (by decide) (.slice D3 2 d3)
            refine hK.out _ _ ⟨BM'.cell0, B11'.cell0⟩ (fun hHeld2 => ?_)
            clear hK K fz cz
            (try simp only [Act.put, List.setIfInBounds_toArray, List.set_cons_zero, List.set_cons_succ])
            refine wpAnyH_name (fun W' => Blk W' (ga) 24 #[.slice D3 2 d3] ∧ Blk W' (u.heap.size + 1) 24 #[.slice (some ⟨u.heap.size, 0, none⟩) 3 3] ∧ Blk W' (V1.heap.size) 24 #[.slice D1 3 d1] ∧ Below w.heap.size w W' ∧ Own W' w.heap.size D1 3 d1 S ∧ Own W' w.heap.size D2 (nw u2) d2 u2 ∧ Own W' w.heap.size D3 2 d3 I ∧ (fun w' => w'.cell? ⟨u.heap.size + 1, 0, none⟩ = some (.slice (some ⟨u.heap.size, 0, none⟩) 3 3) ∧ w'.cell? ⟨V1.heap.size, 0, none⟩ = some (.slice D1 3 d1)) W') (⟨B4', BM', B11', WW', O1', O2', O3', hHeld2⟩) ?_
            clear hHeld2 hHeld B4' BM' B11' WW' O1' O2' O3' B4 BM B11 WW O1 O2 O3
            rintro W104 ⟨B4, BM, B11, WW, O1, O2, O3, hHeld⟩
            refine wpAnyH_take (i := 8) (oi := { dst := some 5, op := Op.assign (Operand.tmp 24), type := 27, pos := "law.go:18", after := #[{ on := 5, ground := Ground.data }, { on := 7, ground := Ground.chain }, { on := 0, ground := Ground.phase }, { on := 1, ground := Ground.phase }, { on := 2, ground := Ground.phase }, { on := 3, ground := Ground.phase }, { on := 4, ground := Ground.phase }, { on := 5, ground := Ground.phase }, { on := 6, ground := Ground.phase }, { on := 7, ground := Ground.phase }], guard := none }) (v := ?_) rfl (by kernel_rfl) (by kernel_rfl) (by kernel_rfl) (fun _ _ _ h => h) (Or.inl ⟨by rfl, ?_⟩) (by assumption) ?_
            rotate_left
            · (intro ws hSw; (try dsimp only at hSw); (try go_simp); (try with_reducible rfl))
            (try simp only [Act.put, List.setIfInBounds_toArray, List.set_cons_zero, List.set_cons_succ])
            refine wpAnyH_done (by kernel_rfl) ?_ _
            clear hHeld
            refine NoPanic.normal ?_
            exact ⟨rfl, ga, D2, d2, D3, d3, rfl, BM, B11, B4, WW, O1, O3⟩
      refine AllReadyH.cons (o := { dst := some 4, op := Op.alloc 24, type := 0, pos := "law.go:18", after := #[], guard := none }) rfl (fun K hK => ?_) AllReadyH.nil
      · go_simp
        have ba := (Below.refl W101.heap.size W101).alloc (Nat.le_refl _) (.cells #[.slice none 0 0] 24)
        have BM' := BM.below ba BM.lt
        have B11' := B11.below ba B11.lt
        have B4' := Blk.new W101 24 #[.slice none 0 0]
        have WW' := WW.trans (ba.mono WW.size)
        have O1' := O1.below ba (Nat.le_refl _)
        have O2' := O2.below ba (Nat.le_refl _)
        have sn : W101.heap.size < (W101.alloc (.cells #[.slice none 0 0] 24)).heap.size := B4'.lt
        refine hK.out _ _ ⟨BM'.cell0, B11'.cell0⟩ (fun hHeld2 => ?_)
        clear hK K
        (try simp only [Act.put, List.setIfInBounds_toArray, List.set_cons_zero, List.set_cons_succ])
        refine wpAnyH_name (fun W' => Blk W' (W101.heap.size) 24 #[.slice none 0 0] ∧ Blk W' (u.heap.size + 1) 24 #[.slice (some ⟨u.heap.size, 0, none⟩) 3 3] ∧ Blk W' (V1.heap.size) 24 #[.slice D1 3 d1] ∧ Below w.heap.size w W' ∧ Own W' w.heap.size D1 3 d1 S ∧ Own W' w.heap.size D2 (nw u2) d2 u2 ∧ W101.heap.size < W'.heap.size ∧ (fun w' => w'.cell? ⟨u.heap.size + 1, 0, none⟩ = some (.slice (some ⟨u.heap.size, 0, none⟩) 3 3) ∧ w'.cell? ⟨V1.heap.size, 0, none⟩ = some (.slice D1 3 d1)) W') (⟨B4', BM', B11', WW', O1', O2', sn, hHeld2⟩) ?_
        clear hHeld2 hHeld sn ba B4' BM' B11' WW' O1' O2' BM B11 WW O1 O2
        rintro W105 ⟨B4, BM, B11, WW, O1, O2, s105, hHeld⟩
        refine wpAnyH_ready (rs := [2]) (by kernel_rfl) (by simp) ?_
        refine AllReadyH.cons (o := { dst := some 22, op := Op.call { callee := Callee.value (Operand.func 26), args := #[Operand.tmp 20, Operand.tmp 21], argTypes := #[24, 24] }, type := 28, pos := "law.go:18", after := #[{ on := 0, ground := Ground.data }, { on := 1, ground := Ground.data }, { on := 0, ground := Ground.chain }], guard := none }) rfl (fun K hK => ?_) AllReadyH.nil
        · go_simp
          have hc := inverse_any D2 (some ⟨u.heap.size, 0, none⟩) _ _ d2 3 u2 M W105 O2.num ((NM.out.below WW).more WW.size) (by rw [N2.out]; omega) (by omega)
          rw [HL.out.inv] at hc
          refine hc.mono ?_
          clear hc
          rintro e W106 ⟨v, rfl, ⟨D3, d3, rfl, ho⟩, hb⟩
          have O3 := ho.weak (b := w.heap.size) WW.size; rw [sI] at O3 ⊢
          clear ho
          replace BM := BM.below hb BM.lt
          replace B11 := B11.below hb B11.lt
          replace B4 := B4.below hb B4.lt
          replace O1 := O1.below hb (Nat.le_refl _)
          replace O2 := O2.below hb (Nat.le_refl _)
          have hsz := WW.size
          replace WW := WW.trans (hb.mono WW.size)
          have s106 := hb.size
          have BM' := BM
          have B11' := B11
          clear hb hsz
          refine hK.out _ _ ⟨BM'.cell0, B11'.cell0⟩ (fun hHeld2 => ?_)
          clear hK K hHeld BM' B11'
          have hHeld := hHeld2
          clear hHeld2
          (try simp only [Act.put, List.setIfInBounds_toArray, List.set_cons_zero, List.set_cons_succ])
          refine wpAnyH_take (i := 3) (oi := { dst := some 19, op := Op.move (Operand.tmp 22), type := 28, pos := "law.go:18", after := #[{ on := 2, ground := Ground.data }], guard := none }) (v := ?_) rfl (by kernel_rfl) (by kernel_rfl) (by kernel_rfl) (fun _ _ _ h => h) (Or.inl ⟨by rfl, ?_⟩) (by assumption) ?_
          rotate_left
          · (intro ws hSw; (try dsimp only at hSw); (try go_simp); (try with_reducible rfl))
          (try simp only [Act.put, List.setIfInBounds_toArray, List.set_cons_zero, List.set_cons_succ])
          refine wpAnyH_take (i := 4) (oi := { dst := some 23, op := Op.extract (Operand.tmp 19) 0, type := 24, pos := "law.go:18", after := #[{ on := 3, ground := Ground.data }], guard := none }) (v := ?_) rfl (by kernel_rfl) (by kernel_rfl) (by kernel_rfl) (fun _ _ _ h => h) (Or.inl ⟨by rfl, ?_⟩) (by assumption) ?_
          rotate_left
          · (intro ws hSw; (try dsimp only at hSw); (try go_simp); (try with_reducible rfl))
          (try simp only [Act.put, List.setIfInBounds_toArray, List.set_cons_zero, List.set_cons_succ])
          refine wpAnyH_take (i := 5) (oi := { dst := some 24, op := Op.extract (Operand.tmp 19) 1, type := 27, pos := "law.go:18", after := #[{ on := 3, ground := Ground.data }, { on := 7, ground := Ground.gcOnly Departure.lateStores }], guard := none }) (v := ?_) rfl (by kernel_rfl) (by kernel_rfl) (by kernel_rfl) (fun _ _ _ h => h) (Or.inl ⟨by rfl, ?_⟩) (by assumption) ?_
          rotate_left
          · (intro ws hSw; (try dsimp only at hSw); (try go_simp); (try with_reducible rfl))
          (try simp only [Act.put, List.setIfInBounds_toArray, List.set_cons_zero, List.set_cons_succ])
          refine wpAnyH_ready (rs := [7]) (by kernel_rfl) (by simp) ?_
          refine AllReadyH.cons (o := { dst := none, op := Op.store 24 (Operand.tmp 4) (Operand.tmp 23), type := 0, pos := "law.go:18", after := #[{ on := 6, ground := Ground.data }, { on := 4, ground := Ground.data }, { on := 2, ground := Ground.chain }, { on := 0, ground := Ground.phase }, { on := 1, ground := Ground.phase }, { on := 2, ground := Ground.phase }, { on := 3, ground := Ground.phase }, { on := 4, ground := Ground.phase }, { on := 5, ground := Ground.textOnly Departure.lateStores }, { on := 6, ground := Ground.phase }], guard := none }) rfl (fun K hK => ?_) AllReadyH.nil
          · obtain ⟨ga, hga⟩ : ∃ g, g = W101.heap.size := ⟨_, rfl⟩
            have n2 : w.heap.size ≤ W101.heap.size := by omega
            have m1 : V1.heap.size ≠ W101.heap.size := by have := n11; omega
            rw [← hga] at B4 n2 m1 ⊢
            clear hga
            have fz := B4.frozen 0
            have cz := B4.cell0
            go_simp
            have BM' := BM.far (p := ⟨ga, 0, none⟩) (by simp <;> omega) (.slice D3 2 d3)
            have B11' := B11.far (p := ⟨ga, 0, none⟩) (by simp <;> omega) (.slice D3 2 d3)
            have B4' := B4.set_ 0 (.slice D3 2 d3)
            have WW' := WW.setCell (p := ⟨ga, 0, none⟩) (by simp <;> omega) (.slice D3 2 d3)
            have O1' := O1.box (p := ⟨ga, 0, none⟩) B4 (by decide) (.slice D3 2 d3)
            have O2' := O2.box (p := ⟨ga, 0, none⟩) B4 (by decide) (.slice D3 2 d3)
            have O3' := O3.box (p := ⟨ga, 0, none⟩) B4 (by decide) (.slice D3 2 d3)
            refine hK.out _ _ ⟨BM'.cell0, B11'.cell0⟩ (fun hHeld2 => ?_)
            clear hK K fz cz
            (try simp only [Act.put, List.setIfInBounds_toArray, List.set_cons_zero, List.set_cons_succ])
            refine wpAnyH_name (fun W' => Blk W' (ga) 24 #[.slice D3 2 d3] ∧ Blk W' (u.heap.size + 1) 24 #[.slice (some ⟨u.heap.size, 0, none⟩) 3 3] ∧ Blk W' (V1.heap.size) 24 #[.slice D1 3 d1] ∧ Below w.heap.size w W' ∧ Own W' w.heap.size D1 3 d1 S ∧ Own W' w.heap.size D2 (nw u2) d2 u2 ∧ Own W' w.heap.size D3 2 d3 I ∧ (fun w' => w'.cell? ⟨u.heap.size + 1, 0, none⟩ = some (.slice (some ⟨u.heap.size, 0, none⟩) 3 3) ∧ w'.cell? ⟨V1.heap.size, 0, none⟩ = some (.slice D1 3 d1)) W') (⟨B4', BM', B11', WW', O1', O2', O3', hHeld2⟩) ?_
            clear hHeld2 hHeld B4' BM' B11' WW' O1' O2' O3' B4 BM B11 WW O1 O2 O3
            rintro W107 ⟨B4, BM, B11, WW, O1, O2, O3, hHeld⟩
            refine wpAnyH_take (i := 8) (oi := { dst := some 5, op := Op.assign (Operand.tmp 24), type := 27, pos := "law.go:18", after := #[{ on := 5, ground := Ground.data }, { on := 7, ground := Ground.chain }, { on := 0, ground := Ground.phase }, { on := 1, ground := Ground.phase }, { on := 2, ground := Ground.phase }, { on := 3, ground := Ground.phase }, { on := 4, ground := Ground.phase }, { on := 5, ground := Ground.phase }, { on := 6, ground := Ground.phase }, { on := 7, ground := Ground.phase }], guard := none }) (v := ?_) rfl (by kernel_rfl) (by kernel_rfl) (by kernel_rfl) (fun _ _ _ h => h) (Or.inl ⟨by rfl, ?_⟩) (by assumption) ?_
            rotate_left
            · (intro ws hSw; (try dsimp only at hSw); (try go_simp); (try with_reducible rfl))
            (try simp only [Act.put, List.setIfInBounds_toArray, List.set_cons_zero, List.set_cons_succ])
            refine wpAnyH_done (by kernel_rfl) ?_ _
            clear hHeld
            refine NoPanic.normal ?_
            exact ⟨rfl, ga, D2, d2, D3, d3, rfl, BM, B11, B4, WW, O1, O3⟩
    refine AllReadyH.cons (o := { dst := some 4, op := Op.alloc 24, type := 0, pos := "law.go:18", after := #[], guard := none }) rfl (fun K hK => ?_) AllReadyH.nil
    · go_simp
      have ba := (Below.refl W100.heap.size W100).alloc (Nat.le_refl _) (.cells #[.slice none 0 0] 24)
      have BM' := BM.below ba BM.lt
      have B11' := B11.below ba B11.lt
      have B4' := Blk.new W100 24 #[.slice none 0 0]
      have WW' := WW.trans (ba.mono WW.size)
      have O1' := O1.below ba (Nat.le_refl _)
      have sn : W100.heap.size < (W100.alloc (.cells #[.slice none 0 0] 24)).heap.size := B4'.lt
      refine hK.out _ _ ⟨BM'.cell0, B11'.cell0⟩ (fun hHeld2 => ?_)
      clear hK K
      (try simp only [Act.put, List.setIfInBounds_toArray, List.set_cons_zero, List.set_cons_succ])
      refine wpAnyH_name (fun W' => Blk W' (W100.heap.size) 24 #[.slice none 0 0] ∧ Blk W' (u.heap.size + 1) 24 #[.slice (some ⟨u.heap.size, 0, none⟩) 3 3] ∧ Blk W' (V1.heap.size) 24 #[.slice D1 3 d1] ∧ Below w.heap.size w W' ∧ Own W' w.heap.size D1 3 d1 S ∧ W100.heap.size < W'.heap.size ∧ (fun w' => w'.cell? ⟨u.heap.size + 1, 0, none⟩ = some (.slice (some ⟨u.heap.size, 0, none⟩) 3 3) ∧ w'.cell? ⟨V1.heap.size, 0, none⟩ = some (.slice D1 3 d1)) W') (⟨B4', BM', B11', WW', O1', sn, hHeld2⟩) ?_
      clear hHeld2 hHeld sn ba B4' BM' B11' WW' O1' BM B11 WW O1
      rintro W108 ⟨B4, BM, B11, WW, O1, s108, hHeld⟩
      refine wpAnyH_ready (rs := [0]) (by kernel_rfl) (by simp) ?_
      refine AllReadyH.cons (o := { dst := some 20, op := Op.call { callee := Callee.value (Operand.func 32), args := #[Operand.const (Value.int IntKind.u64 2)], argTypes := #[42] }, type := 24, pos := "law.go:18", after := #[], guard := none }) rfl (fun K hK => ?_) AllReadyH.nil
      · go_simp
        have hc := of3_z u2 2 W108 (by omega) H2.out
        refine hc.mono ?_
        clear hc
        rintro e W109 ⟨v, rfl, ⟨D2, d2, rfl, ho⟩, hb⟩
        have O2 := ho.weak (b := w.heap.size) WW.size
        clear ho
        replace BM := BM.below hb BM.lt
        replace B11 := B11.below hb B11.lt
        replace B4 := B4.below hb B4.lt
        replace O1 := O1.below hb (Nat.le_refl _)
        have hsz := WW.size
        replace WW := WW.trans (hb.mono WW.size)
        have s109 := hb.size
        have BM' := BM
        have B11' := B11
        clear hb hsz
        refine hK.out _ _ ⟨BM'.cell0, B11'.cell0⟩ (fun hHeld2 => ?_)
        clear hK K hHeld BM' B11'
        have hHeld := hHeld2
        clear hHeld2
        (try simp only [Act.put, List.setIfInBounds_toArray, List.set_cons_zero, List.set_cons_succ])
        refine wpAnyH_ready (rs := [2]) (by kernel_rfl) (by simp) ?_
        refine AllReadyH.cons (o := { dst := some 22, op := Op.call { callee := Callee.value (Operand.func 26), args := #[Operand.tmp 20, Operand.tmp 21], argTypes := #[24, 24] }, type := 28, pos := "law.go:18", after := #[{ on := 0, ground := Ground.data }, { on := 1, ground := Ground.data }, { on := 0, ground := Ground.chain }], guard := none }) rfl (fun K hK => ?_) AllReadyH.nil
        · go_simp
          have hc := inverse_any D2 (some ⟨u.heap.size, 0, none⟩) _ _ d2 3 u2 M W109 O2.num ((NM.out.below WW).more WW.size) (by rw [N2.out]; omega) (by omega)
          rw [HL.out.inv] at hc
          refine hc.mono ?_
          clear hc
          rintro e W110 ⟨v, rfl, ⟨D3, d3, rfl, ho⟩, hb⟩
          have O3 := ho.weak (b := w.heap.size) WW.size; rw [sI] at O3 ⊢
          clear ho
          replace BM := BM.below hb BM.lt
          replace B11 := B11.below hb B11.lt
          replace B4 := B4.below hb B4.lt
          replace O1 := O1.below hb (Nat.le_refl _)
          replace O2 := O2.below hb (Nat.le_refl _)
          have hsz := WW.size
          replace WW := WW.trans (hb.mono WW.size)
          have s110 := hb.size
          have BM' := BM
          have B11' := B11
          clear hb hsz
          refine hK.out _ _ ⟨BM'.cell0, B11'.cell0⟩ (fun hHeld2 => ?_)
          clear hK K hHeld BM' B11'
          have hHeld := hHeld2
          clear hHeld2
          (try simp only [Act.put, List.setIfInBounds_toArray, List.set_cons_zero, List.set_cons_succ])
          refine wpAnyH_take (i := 3) (oi := { dst := some 19, op := Op.move (Operand.tmp 22), type := 28, pos := "law.go:18", after := #[{ on := 2, ground := Ground.data }], guard := none }) (v := ?_) rfl (by kernel_rfl) (by kernel_rfl) (by kernel_rfl) (fun _ _ _ h => h) (Or.inl ⟨by rfl, ?_⟩) (by assumption) ?_
          rotate_left
          · (intro ws hSw; (try dsimp only at hSw); (try go_simp); (try with_reducible rfl))
          (try simp only [Act.put, List.setIfInBounds_toArray, List.set_cons_zero, List.set_cons_succ])
          refine wpAnyH_take (i := 4) (oi := { dst := some 23, op := Op.extract (Operand.tmp 19) 0, type := 24, pos := "law.go:18", after := #[{ on := 3, ground := Ground.data }], guard := none }) (v := ?_) rfl (by kernel_rfl) (by kernel_rfl) (by kernel_rfl) (fun _ _ _ h => h) (Or.inl ⟨by rfl, ?_⟩) (by assumption) ?_
          rotate_left
          · (intro ws hSw; (try dsimp only at hSw); (try go_simp); (try with_reducible rfl))
          (try simp only [Act.put, List.setIfInBounds_toArray, List.set_cons_zero, List.set_cons_succ])
          refine wpAnyH_take (i := 5) (oi := { dst := some 24, op := Op.extract (Operand.tmp 19) 1, type := 27, pos := "law.go:18", after := #[{ on := 3, ground := Ground.data }, { on := 7, ground := Ground.gcOnly Departure.lateStores }], guard := none }) (v := ?_) rfl (by kernel_rfl) (by kernel_rfl) (by kernel_rfl) (fun _ _ _ h => h) (Or.inl ⟨by rfl, ?_⟩) (by assumption) ?_
          rotate_left
          · (intro ws hSw; (try dsimp only at hSw); (try go_simp); (try with_reducible rfl))
          (try simp only [Act.put, List.setIfInBounds_toArray, List.set_cons_zero, List.set_cons_succ])
          refine wpAnyH_ready (rs := [7]) (by kernel_rfl) (by simp) ?_
          refine AllReadyH.cons (o := { dst := none, op := Op.store 24 (Operand.tmp 4) (Operand.tmp 23), type := 0, pos := "law.go:18", after := #[{ on := 6, ground := Ground.data }, { on := 4, ground := Ground.data }, { on := 2, ground := Ground.chain }, { on := 0, ground := Ground.phase }, { on := 1, ground := Ground.phase }, { on := 2, ground := Ground.phase }, { on := 3, ground := Ground.phase }, { on := 4, ground := Ground.phase }, { on := 5, ground := Ground.textOnly Departure.lateStores }, { on := 6, ground := Ground.phase }], guard := none }) rfl (fun K hK => ?_) AllReadyH.nil
          · obtain ⟨ga, hga⟩ : ∃ g, g = W100.heap.size := ⟨_, rfl⟩
            have n2 : w.heap.size ≤ W100.heap.size := by omega
            have m1 : V1.heap.size ≠ W100.heap.size := by have := n11; omega
            rw [← hga] at B4 n2 m1 ⊢
            clear hga
            have fz := B4.frozen 0
            have cz := B4.cell0
            go_simp
            have BM' := BM.far (p := ⟨ga, 0, none⟩) (by simp <;> omega) (.slice D3 2 d3)
            have B11' := B11.far (p := ⟨ga, 0, none⟩) (by simp <;> omega) (.slice D3 2 d3)
            have B4' := B4.set_ 0 (.slice D3 2 d3)
            have WW' := WW.setCell (p := ⟨ga, 0, none⟩) (by simp <;> omega) (.slice D3 2 d3)
            have O1' := O1.box (p := ⟨ga, 0, none⟩) B4 (by decide) (.slice D3 2 d3)
            have O2' := O2.box (p := ⟨ga, 0, none⟩) B4 (by decide) (.slice D3 2 d3)
            have O3' := O3.box (p := ⟨ga, 0, none⟩) B4 (by decide) (.slice D3 2 d3)
            refine hK.out _ _ ⟨BM'.cell0, B11'.cell0⟩ (fun hHeld2 => ?_)
            clear hK K fz cz
            (try simp only [Act.put, List.setIfInBounds_toArray, List.set_cons_zero, List.set_cons_succ])
            refine wpAnyH_name (fun W' => Blk W' (ga) 24 #[.slice D3 2 d3] ∧ Blk W' (u.heap.size + 1) 24 #[.slice (some ⟨u.heap.size, 0, none⟩) 3 3] ∧ Blk W' (V1.heap.size) 24 #[.slice D1 3 d1] ∧ Below w.heap.size w W' ∧ Own W' w.heap.size D1 3 d1 S ∧ Own W' w.heap.size D2 (nw u2) d2 u2 ∧ Own W' w.heap.size D3 2 d3 I ∧ (fun w' => w'.cell? ⟨u.heap.size + 1, 0, none⟩ = some (.slice (some ⟨u.heap.size, 0, none⟩) 3 3) ∧ w'.cell? ⟨V1.heap.size, 0, none⟩ = some (.slice D1 3 d1)) W') (⟨B4', BM', B11', WW', O1', O2', O3', hHeld2⟩) ?_
            clear hHeld2 hHeld B4' BM' B11' WW' O1' O2' O3' B4 BM B11 WW O1 O2 O3
            rintro W111 ⟨B4, BM, B11, WW, O1, O2, O3, hHeld⟩
            refine wpAnyH_take (i := 8) (oi := { dst := some 5, op := Op.assign (Operand.tmp 24), type := 27, pos := "law.go:18", after := #[{ on := 5, ground := Ground.data }, { on := 7, ground := Ground.chain }, { on := 0, ground := Ground.phase }, { on := 1, ground := Ground.phase }, { on := 2, ground := Ground.phase }, { on := 3, ground := Ground.phase }, { on := 4, ground := Ground.phase }, { on := 5, ground := Ground.phase }, { on := 6, ground := Ground.phase }, { on := 7, ground := Ground.phase }], guard := none }) (v := ?_) rfl (by kernel_rfl) (by kernel_rfl) (by kernel_rfl) (fun _ _ _ h => h) (Or.inl ⟨by rfl, ?_⟩) (by assumption) ?_
            rotate_left
            · (intro ws hSw; (try dsimp only at hSw); (try go_simp); (try with_reducible rfl))
            (try simp only [Act.put, List.setIfInBounds_toArray, List.set_cons_zero, List.set_cons_succ])
            refine wpAnyH_done (by kernel_rfl) ?_ _
            clear hHeld
            refine NoPanic.normal ?_
            exact ⟨rfl, ga, D2, d2, D3, d3, rfl, BM, B11, B4, WW, O1, O3⟩
  rintro g4 D2 d2 D3 d3 W ⟨BM, B11, B4, WW, O1, O3⟩
  have XM : Box W (u.heap.size + 1) (some ⟨u.heap.size, 0, none⟩) 3 3 M := ⟨BM, (NM.out.below WW).more WW.size⟩
  have X11 : Box W (V1.heap.size) D1 3 d1 S := ⟨B11, O1.num⟩
  have X4 : Box W g4 D3 2 d3 I := ⟨B4, O3.num⟩
  clear BM B11 B4
  clear XM
  have kX11 := X11.cell
  have zX11 := X11.lt
  have kX4 := X4.cell
  have zX4 := X4.lt
  go_wp2_with fail
  have hbs : w.heap.size ≤ W.heap.size := WW.size
  have hc := of3_z u2 2 W (by omega) H2.out
  refine hc.mono ?_
  clear hc
  rintro e V31 ⟨v, rfl, hv, hb⟩
  clear kX11 zX11 kX4 zX4
  replace X11 := X11.below hb
  replace X4 := X4.below hb
  replace O1 := O1.below hb (Nat.le_refl _)
  replace O3 := O3.below hb (Nat.le_refl _)
  replace WW := WW.trans (hb.mono WW.size)
  obtain ⟨D5, d5, rfl, ho⟩ := hv
  have O5 := ho.weak (b := w.heap.size) hbs
  clear ho
  have kX11 := X11.cell
  have zX11 := X11.lt
  have kX4 := X4.cell
  have zX4 := X4.lt
  clear hb hbs
  go_wp2_with fail
  have hbs : w.heap.size ≤ V31.heap.size := WW.size
  have hc := of3_z u3 3 V31 (by omega) H3.out
  refine hc.mono ?_
  clear hc
  rintro e V32 ⟨v, rfl, hv, hb⟩
  clear kX11 zX11 kX4 zX4
  replace X11 := X11.below hb
  replace X4 := X4.below hb
  replace O1 := O1.below hb (Nat.le_refl _)
  replace O3 := O3.below hb (Nat.le_refl _)
  replace O5 := O5.below hb (Nat.le_refl _)
  replace WW := WW.trans (hb.mono WW.size)
  obtain ⟨D6, d6, rfl, ho⟩ := hv
  have O6 := ho.weak (b := w.heap.size) hbs
  clear ho
  have kX11 := X11.cell
  have zX11 := X11.lt
  have kX4 := X4.cell
  have zX4 := X4.lt
  clear hb hbs
  go_wp2_with fail
  have hbs : w.heap.size ≤ V32.heap.size := WW.size
  have hc := of3_z u3 3 V32 (by omega) H3.out
  refine hc.mono ?_
  clear hc
  rintro e V33 ⟨v, rfl, hv, hb⟩
  clear kX11 zX11 kX4 zX4
  replace X11 := X11.below hb
  replace X4 := X4.below hb
  replace O1 := O1.below hb (Nat.le_refl _)
  replace O3 := O3.below hb (Nat.le_refl _)
  replace O5 := O5.below hb (Nat.le_refl _)
  replace O6 := O6.below hb (Nat.le_refl _)
  replace WW := WW.trans (hb.mono WW.size)
  obtain ⟨D7, d7, rfl, ho⟩ := hv
  have O7 := ho.weak (b := w.heap.size) hbs
  clear ho
  have kX11 := X11.cell
  have zX11 := X11.lt
  have kX4 := X4.cell
  have zX4 := X4.lt
  clear hb hbs
  go_wp2_with fail
  have hbs : w.heap.size ≤ V33.heap.size := WW.size
  have hc := of3_z u5 5 V33 (by omega) H5.out
  refine hc.mono ?_
  clear hc
  rintro e V34 ⟨v, rfl, hv, hb⟩
  clear kX11 zX11 kX4 zX4
  replace X11 := X11.below hb
  replace X4 := X4.below hb
  replace O1 := O1.below hb (Nat.le_refl _)
  replace O3 := O3.below hb (Nat.le_refl _)
  replace O5 := O5.below hb (Nat.le_refl _)
  replace O6 := O6.below hb (Nat.le_refl _)
  replace O7 := O7.below hb (Nat.le_refl _)
  replace WW := WW.trans (hb.mono WW.size)
  obtain ⟨D8, d8, rfl, ho⟩ := hv
  have O8 := ho.weak (b := w.heap.size) hbs
  clear ho
  have kX11 := X11.cell
  have zX11 := X11.lt
  have kX4 := X4.cell
  have zX4 := X4.lt
  clear hb hbs
  go_wp2_with fail
  have hbs : w.heap.size ≤ V34.heap.size := WW.size
  have hc := crt_ok D5 D6 D7 D8 d5 d6 d7 d8 u2 u3 u3 u5 V34 O5.num O6.num O7.num O8.num (by rw [N3.out]; omega) (by rw [N5.out]; omega) HL.out.crt.1 HL.out.crt.2.1 HL.out.crt.2.2.1 HL.out.crt.2.2.2.1
  rw [HL.out.crt.2.2.2.2] at hc
  refine hc.mono ?_
  clear hc
  rintro e V35 ⟨v, rfl, hv, hb⟩
  clear kX11 zX11 kX4 zX4
  replace X11 := X11.below hb
  replace X4 := X4.below hb
  replace O1 := O1.below hb (Nat.le_refl _)
  replace O3 := O3.below hb (Nat.le_refl _)
  replace O5 := O5.below hb (Nat.le_refl _)
  replace O6 := O6.below hb (Nat.le_refl _)
  replace O7 := O7.below hb (Nat.le_refl _)
  replace O8 := O8.below hb (Nat.le_refl _)
  replace WW := WW.trans (hb.mono WW.size)
  obtain ⟨D9, d9, rfl, ho⟩ := hv
  have O9 := ho.weak (b := w.heap.size) hbs
  rw [sE] at O9 ⊢
  have hv' := O9.num
  clear ho
  have kX11 := X11.cell
  have zX11 := X11.lt
  have kX4 := X4.cell
  have zX4 := X4.lt
  clear hb hbs
  go_wp2_with fail
  clear O5 O6 O7 O8
  rw [← HL.out.s]
  obtain ⟨Y, hY⟩ : ∃ Y, Y = (V35.alloc (.cells #[.slice D9 1 d9] 24)).alloc (.cells (words 3 S) 50) := ⟨_, rfl⟩
  have e1 : (V35.alloc (.cells #[.slice D9 1 d9] 24)).heap.size = V35.heap.size + 1 := by simp
  have bs := Blk.new (V35.alloc (.cells #[.slice D9 1 d9] 24)) 50 (words 3 S)
  rw [e1] at bs
  have bS : Blk Y (V35.heap.size + 1) 50 (words 3 S) := by rw [hY]; exact bs
  have b9 : Blk Y V35.heap.size 24 #[.slice D9 1 d9] := by rw [hY]; exact (Blk.new _ 24 _).alloc _
  have bY : Below V35.heap.size V35 Y := by rw [hY]; exact ((Below.refl _ _).alloc (Nat.le_refl _) _).alloc (by simp) _
  rw [← hY]
  clear hY e1 bs kX11 zX11 kX4 zX4 hv'
  replace X11 := X11.below bY
  replace X4 := X4.below bY
  replace O1 := O1.below bY (Nat.le_refl _)
  replace O3 := O3.below bY (Nat.le_refl _)
  replace O9 := O9.below bY (Nat.le_refl _)
  replace WW := WW.trans (bY.mono WW.size)
  have X9 : Box Y V35.heap.size D9 1 d9 E := ⟨b9, O9.num⟩
  have NS := num_blk (B := Y.heap.size) bS HL.out.ns.1 bS.lt
  clear b9 bY
  clear X11
  have kX4 := X4.cell
  have zX4 := X4.lt
  have kX9 := X9.cell
  have zX9 := X9.lt
  have hbs : w.heap.size ≤ Y.heap.size := WW.size
  have hc := equal_B D1 (some ⟨V35.heap.size + 1, 0, none⟩) 3 3 d1 3 S S Y.heap.size Y O1.num NS (by omega) (by omega)
  rw [sameB_yes] at hc
  refine hc.mono ?_
  clear hc
  rintro e V36 ⟨rfl, hb⟩
  clear kX4 zX4 kX9 zX9
  replace X4 := X4.below hb
  replace X9 := X9.below hb
  replace O1 := O1.below hb (Nat.le_refl _)
  replace O3 := O3.below hb (Nat.le_refl _)
  replace O9 := O9.below hb (Nat.le_refl _)
  replace WW := WW.trans (hb.mono WW.size)
  clear NS bS
  have kX4 := X4.cell
  have zX4 := X4.lt
  have kX9 := X9.cell
  have zX9 := X9.lt
  clear hb hbs
  go_wp2_with fail
  rw [← HL.out.i]
  have bn := (Below.refl V36.heap.size V36).alloc (Nat.le_refl _) (.cells (words 2 I) 50)
  have bb := Blk.new V36 50 (words 2 I)
  obtain ⟨Z3, hZ⟩ : ∃ Z, Z = V36.alloc (.cells (words 2 I) 50) := ⟨_, rfl⟩
  rw [← hZ] at bn bb ⊢
  clear hZ kX4 zX4 kX9 zX9
  replace X4 := X4.below bn
  replace X9 := X9.below bn
  replace O1 := O1.below bn (Nat.le_refl _)
  replace O3 := O3.below bn (Nat.le_refl _)
  replace O9 := O9.below bn (Nat.le_refl _)
  replace WW := WW.trans (bn.mono WW.size)
  have NS := num_blk (B := Z3.heap.size) bb HL.out.ni.1 bb.lt
  clear bn
  have kX4 := X4.cell
  have zX4 := X4.lt
  have kX9 := X9.cell
  have zX9 := X9.lt
  have hbs : w.heap.size ≤ Z3.heap.size := WW.size
  have hc := equal_B D3 (some ⟨V36.heap.size, 0, none⟩) 2 2 d3 2 I I Z3.heap.size Z3 O3.num NS (by omega) (by omega)
  rw [sameB_yes] at hc
  refine hc.mono ?_
  clear hc
  rintro e V37 ⟨rfl, hb⟩
  clear kX4 zX4 kX9 zX9
  replace X4 := X4.below hb
  replace X9 := X9.below hb
  replace O1 := O1.below hb (Nat.le_refl _)
  replace O3 := O3.below hb (Nat.le_refl _)
  replace O9 := O9.below hb (Nat.le_refl _)
  replace WW := WW.trans (hb.mono WW.size)
  clear NS bb
  have kX4 := X4.cell
  have zX4 := X4.lt
  have kX9 := X9.cell
  have zX9 := X9.lt
  clear hb hbs
  go_wp2_with fail
  rw [← HL.out.e]
  have bn := (Below.refl V37.heap.size V37).alloc (Nat.le_refl _) (.cells (words 1 E) 50)
  have bb := Blk.new V37 50 (words 1 E)
  obtain ⟨Z9, hZ⟩ : ∃ Z, Z = V37.alloc (.cells (words 1 E) 50) := ⟨_, rfl⟩
  rw [← hZ] at bn bb ⊢
  clear hZ kX4 zX4 kX9 zX9
  replace X4 := X4.below bn
  replace X9 := X9.below bn
  replace O1 := O1.below bn (Nat.le_refl _)
  replace O3 := O3.below bn (Nat.le_refl _)
  replace O9 := O9.below bn (Nat.le_refl _)
  replace WW := WW.trans (bn.mono WW.size)
  have NS := num_blk (B := Z9.heap.size) bb HL.out.ne.1 bb.lt
  clear bn
  have kX4 := X4.cell
  have zX4 := X4.lt
  have kX9 := X9.cell
  have zX9 := X9.lt
  have hbs : w.heap.size ≤ Z9.heap.size := WW.size
  have hc := equal_B D9 (some ⟨V37.heap.size, 0, none⟩) 1 1 d9 1 E E Z9.heap.size Z9 O9.num NS (by omega) (by omega)
  rw [sameB_yes] at hc
  refine hc.mono ?_
  clear hc
  rintro e V38 ⟨rfl, hb⟩
  clear kX4 zX4 kX9 zX9
  replace X4 := X4.below hb
  replace X9 := X9.below hb
  replace O1 := O1.below hb (Nat.le_refl _)
  replace O3 := O3.below hb (Nat.le_refl _)
  replace O9 := O9.below hb (Nat.le_refl _)
  replace WW := WW.trans (hb.mono WW.size)
  clear NS bb
  have kX4 := X4.cell
  have zX4 := X4.lt
  have kX9 := X9.cell
  have zX9 := X9.lt
  clear hb hbs
  go_wp2_with fail
  go_ret
  exact ⟨rfl, HU.out.trans (WW.mono HU2.out)⟩

end Go.Proofs.Ytckajjapockonaa
