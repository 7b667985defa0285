/- prime.complete. -/
import Derived.Test.YtomkmkjkeihodaaDoorP12
set_option linter.unusedVariables false
set_option linter.unusedSimpArgs false
namespace Go.Proofs.YtomkmkjkeihodaaDoor
open Go.RowKit

def oq64_13_0 : Oper := { dst := some 34, op := Op.load 37 (Operand.tmp 3), type := 37, pos := "certificate.go:87", after := #[], guard := none }
def oq64_13_1 : Oper := { dst := some 35, op := Op.fieldAddr 40 (Operand.tmp 1) 0, type := 0, pos := "certificate.go:87", after := #[], guard := none }
def oq64_13_2 : Oper := { dst := some 36, op := Op.load 37 (Operand.tmp 35), type := 37, pos := "certificate.go:87", after := #[{ on := 1, ground := Ground.data }], guard := none }
def oq64_13_3 : Oper := { dst := some 37, op := Op.call { callee := Callee.value (Operand.func 81), args := #[Operand.tmp 36], argTypes := #[37] }, type := 37, pos := "certificate.go:87", after := #[{ on := 2, ground := Ground.data }], guard := none }
def oq64_13_4 : Oper := { dst := some 38, op := Op.call { callee := Callee.value (Operand.func 79), args := #[Operand.tmp 34, Operand.tmp 37], argTypes := #[37, 37] }, type := 3, pos := "certificate.go:87", after := #[{ on := 0, ground := Ground.data }, { on := 3, ground := Ground.data }, { on := 3, ground := Ground.chain }], guard := none }
def oq64_13_5 : Oper := { dst := some 39, op := Op.binOp BinOp.eql 3 (Operand.tmp 38) (Operand.const (Value.int IntKind.i64 0)) 3, type := 4, pos := "certificate.go:87", after := #[{ on := 4, ground := Ground.data }], guard := none }
def oq64_13_6 : Oper := { dst := some 2, op := Op.assign (Operand.tmp 39), type := 4, pos := "certificate.go:87", after := #[{ on := 5, ground := Ground.data }, { on := 4, ground := Ground.chain }, { on := 0, ground := Ground.phase }, { on := 1, ground := Ground.phase }, { on := 2, ground := Ground.phase }, { on := 3, ground := Ground.phase }, { on := 4, ground := Ground.phase }, { on := 5, ground := Ground.phase }], guard := none }
theorem ordN_gtD (a b : Nat) : decide (ordN a b > 0) = decide (b < a) := by
  unfold ordN
  split
  · simp; omega
  · split
    · simp [*]
    · simp; omega
/-- What complete asks of the parts: bef is the number before, prod the product so far. -/
def complB (less : Nat) : Nat → Nat → List CT → Bool
  | _, prod, [] => prod == less
  | bef, prod, p :: ps => okB p.wds p.val && decide (bef ≤ p.val) && decide (nw (prod * p.val) ≤ 64) && complB less p.val (prod * p.val) ps
theorem CV.num {w : World} {B : Nat} {x y z : Value} {t : CT} (h : CV w B x y z t) : ∃ A c A' m d P k e, x = .slice A t.wds c ∧ y = .slice A' m d ∧ z = .slice P k e ∧ Num w B A t.wds t.val ∧ t.wds ≤ 9223372036854775807 := by
  cases h with
  | mk X Y Z hN hR hn hm hk hk2 hP hT => exact ⟨_, _, _, _, _, _, _, _, rfl, rfl, rfl, hN, hn⟩
/-- The parts of a certificate in memory: slice P of length k. -/
def PV (w : World) (P : Option Addr) (k : Nat) (ps : List CT) : Prop := ps.length = k ∧ k ≤ 9223372036854775807 ∧ ∃ X Y Z : Nat → Value, (∀ i, i < k → ∃ ad, P = some ad ∧ ad.block < w.heap.size ∧ w.cell? (ad.add (i * 3)) = some (X i) ∧ w.cell? ⟨(ad.add (i * 3)).block, (ad.add (i * 3)).off + 1, none⟩ = some (Y i) ∧ w.cell? ⟨(ad.add (i * 3)).block, (ad.add (i * 3)).off + 2, none⟩ = some (Z i)) ∧ ∀ i (h : i < ps.length), CV w w.heap.size (X i) (Y i) (Z i) ps[i]
/-- One part, read in a later world. -/
theorem PV.part {w wr : World} {P : Option Addr} {k j : Nat} {ps : List CT} (h : PV w P k ps) (hj : j < k) (WW : Below w.heap.size w wr) : ∃ (hl : j < ps.length) (ad : Addr) (A1 A2 A3 : Option Addr) (c1 n2 c2 n3 c3 : Nat), P = some ad ∧
    wr.cell? (ad.add (j * 3)) = some (.slice A1 ps[j].wds c1) ∧ wr.cell? ⟨(ad.add (j * 3)).block, (ad.add (j * 3)).off + 1, none⟩ = some (.slice A2 n2 c2) ∧ wr.cell? ⟨(ad.add (j * 3)).block, (ad.add (j * 3)).off + 2, none⟩ = some (.slice A3 n3 c3) ∧
    Num w w.heap.size A1 ps[j].wds ps[j].val ∧ ps[j].wds ≤ 9223372036854775807 ∧ CV w w.heap.size (.slice A1 ps[j].wds c1) (.slice A2 n2 c2) (.slice A3 n3 c3) ps[j] := by
  obtain ⟨h1, h2, X, Y, Z, h3, h4⟩ := h
  obtain ⟨ad, e, hb, c0, c1, c2⟩ := h3 j hj
  have hl : j < ps.length := by rw [h1]; exact hj
  have hx := h4 j hl
  obtain ⟨A1, a1, A2, n2, a2, A3, n3, a3, e1, e2, e3, hN, hn⟩ := hx.num
  rw [e1] at c0 hx
  rw [e2] at c1 hx
  rw [e3] at c2 hx
  exact ⟨hl, ad, A1, A2, A3, a1, n2, a2, n3, a3, e, (WW.cell (by rw [add_block]; exact hb)).trans c0, (WW.cell (by show (ad.add (j * 3)).block < _; rw [add_block]; exact hb)).trans c1, (WW.cell (by show (ad.add (j * 3)).block < _; rw [add_block]; exact hb)).trans c2, hN, hn, hx⟩
theorem Num.up {w V : World} {A : Option Addr} {n a : Nat} (h : Num w w.heap.size A n a) (WW : Below w.heap.size w V) : Num V V.heap.size A n a := (h.below WW).more WW.size
theorem wp_landM {P : Program} {c : Code} {Q : Exit → Act → World → Prop} {a : Act} {w : World} {F : Option Addr → Nat → Act} (R : Option Addr → Nat → World → Prop)
    (hreg : c.wp P (fun e a1 w1 => e = Exit.normal ∧ ∃ x0 x1, a1 = F x0 x1 ∧ R x0 x1 w1) a w) (himp : ∀ x0 x1 w1, R x0 x1 w1 → Q Exit.normal (F x0 x1) w1) : c.wp P Q a w :=
  Code.wp_mono (fun e a1 w1 h => by obtain ⟨rfl, x0, x1, rfl, hR⟩ := h; exact himp _ _ w1 hR) hreg
set_option maxHeartbeats 4000000 in
set_option maxRecDepth 100000 in
theorem complete_any (A A' P : Option Addr) (c m d k ex a : Nat) (ps : List CT) (w : World) (hA : Num w w.heap.size A (nw a) a) (ha : nw a ≤ 64) (h1 : 1 ≤ a) (hPV : PV w P k ps) :
    Calls Tryd.prog 64 #[.agg #[.slice A (nw a) c, .slice A' m d, .slice P k ex]] w (RetB (.bool (complB (a - 1) 0 1 ps)) w) := by
  have HN0 := hid hA
  have HPV := hid hPV
  have hk2 := hPV.2.1
  have HK := hid hPV.1
  obtain ⟨ls, hls⟩ : ∃ ls, ls = a - 1 := ⟨_, rfl⟩
  have HLS := hid hls
  obtain ⟨res, hres⟩ : ∃ res, res = complB ls 0 1 ps := ⟨_, rfl⟩
  have HRES := hid hres
  have nls : nw ls ≤ 64 := Nat.le_trans (nw_mono (by omega)) ha
  rw [← hls, ← hres]
  clear hPV hA hls hres
  obtain ⟨XC, WW⟩ := box3 w (.slice A (nw a) c) (.slice A' m d) (.slice P k ex)
  go_enter Tryd.func64, Tryd.ntmps64
  go_wp2_with fail
  generalize hV : w.alloc (.cells #[.slice A (nw a) c, .slice A' m d, .slice P k ex] 40) = V0 at XC WW ⊢
  clear hV
  have kXC0 : V0.cell? ⟨w.heap.size, 0, none⟩ = some (.slice A (nw a) c) := (XC.cell 0).trans rfl
  have kXC1 : V0.cell? ⟨w.heap.size, 1, none⟩ = some (.slice A' m d) := (XC.cell 1).trans rfl
  have kXC2 : V0.cell? ⟨w.heap.size, 2, none⟩ = some (.slice P k ex) := (XC.cell 2).trans rfl
  have zXC := XC.lt
  have hbs : w.heap.size ≤ V0.heap.size := WW.size
  have hc := pnum_any 1 V0 (by decide)
  refine hc.mono ?_
  clear hc
  rintro e V1 ⟨v, rfl, hv, hb⟩
  clear kXC0 kXC1 kXC2 zXC
  replace XC := XC.below hb XC.lt
  replace WW := WW.trans (hb.mono WW.size)
  obtain ⟨D8, d8, rfl, ho⟩ := hv
  have O8 := ho.weak (b := w.heap.size) hbs
  clear ho
  have kXC0 : V1.cell? ⟨w.heap.size, 0, none⟩ = some (.slice A (nw a) c) := (XC.cell 0).trans rfl
  have kXC1 : V1.cell? ⟨w.heap.size, 1, none⟩ = some (.slice A' m d) := (XC.cell 1).trans rfl
  have kXC2 : V1.cell? ⟨w.heap.size, 2, none⟩ = some (.slice P k ex) := (XC.cell 2).trans rfl
  have zXC := XC.lt
  clear hb hbs
  go_wp2_with fail
  have hbs : w.heap.size ≤ V1.heap.size := WW.size
  have hc := pnum_any 0 V1 (by decide)
  refine hc.mono ?_
  clear hc
  rintro e V2 ⟨v, rfl, hv, hb⟩
  clear kXC0 kXC1 kXC2 zXC
  replace O8 := O8.below hb (Nat.le_refl _)
  replace XC := XC.below hb XC.lt
  replace WW := WW.trans (hb.mono WW.size)
  obtain ⟨D9, d9, rfl, ho⟩ := hv
  have O9 := ho.weak (b := w.heap.size) hbs
  clear ho
  have kXC0 : V2.cell? ⟨w.heap.size, 0, none⟩ = some (.slice A (nw a) c) := (XC.cell 0).trans rfl
  have kXC1 : V2.cell? ⟨w.heap.size, 1, none⟩ = some (.slice A' m d) := (XC.cell 1).trans rfl
  have kXC2 : V2.cell? ⟨w.heap.size, 2, none⟩ = some (.slice P k ex) := (XC.cell 2).trans rfl
  have zXC := XC.lt
  clear hb hbs
  go_wp2_with fail
  obtain ⟨b0, b1, bw⟩ := boxes2 V2 (.slice D8 (nw 1) d8) (.slice D9 (nw 0) d9)
  have hbs := WW.size
  clear kXC0 kXC1 kXC2 zXC
  have qXC3 := XC.lt
  have X3 := VB.mk (B := w.heap.size) (a := 1) b0 (.inr O8) bw hbs (by omega)
  have X4 := VB.mk (B := w.heap.size) (a := 0) b1 (.inr O9) bw hbs (by omega)
  replace O8 := O8.below bw (Nat.le_refl _)
  replace O9 := O9.below bw (Nat.le_refl _)
  replace XC := XC.below bw XC.lt
  replace WW := WW.trans (bw.mono WW.size)
  clear bw hbs b0 b1
  generalize hV : ((V2.alloc (.cells #[.slice D8 (nw 1) d8] 37)).alloc (.cells #[.slice D9 (nw 0) d9] 37)) = V3 at X3 X4 O8 O9 XC WW ⊢
  clear hV
  have kX3 := X3.cell
  have zX3 := X3.lt
  have kX4 := X4.cell
  have zX4 := X4.lt
  have kXC0 : V3.cell? ⟨w.heap.size, 0, none⟩ = some (.slice A (nw a) c) := (XC.cell 0).trans rfl
  have kXC1 : V3.cell? ⟨w.heap.size, 1, none⟩ = some (.slice A' m d) := (XC.cell 1).trans rfl
  have kXC2 : V3.cell? ⟨w.heap.size, 2, none⟩ = some (.slice P k ex) := (XC.cell 2).trans rfl
  have zXC := XC.lt
  go_wp2_with fail
  clear O8 O9
  go_loopw [13] (fun i wr => ∃ (j bf pr : Nat) (Bf Pr : Option Addr) (bc pc : Nat), j ≤ k ∧ i = .int .i64 ((j : Nat) : Int) ∧ nw bf ≤ 64 ∧ nw pr ≤ 64 ∧ Hid (res = complB ls bf pr (ps.drop j)) ∧ Below w.heap.size w wr ∧ VB w.heap.size wr (V2.heap.size) Pr (nw pr) pc pr ∧ VB w.heap.size wr (V2.heap.size + 1) Bf (nw bf) bc bf ∧ Blk wr (w.heap.size) 40 #[.slice A (nw a) c, .slice A' m d, .slice P k ex]) (fun i wr => k - (intOf i).toNat)
  case atStart => exact ⟨0, 0, 1, D9, D8, d9, d8, by omega, by go_num, by decide, by decide, (show res = _ by rw [HRES.out]; rfl), WW, X3, X4, XC⟩
  case round =>
    clear WW kX3 zX3 kX4 zX4 kXC0 kXC1 kXC2 zXC X3 X4 XC
    obtain ⟨j, bf, pr, Bf, Pr, bc, pc, hjk0, rfl, hbf, hpr, HJ, WW, X3, X4, XC⟩ := hrel
    have kX3 := X3.cell
    have zX3 := X3.lt
    have kX4 := X4.cell
    have zX4 := X4.lt
    have kXC0 : wr.cell? ⟨w.heap.size, 0, none⟩ = some (.slice A (nw a) c) := (XC.cell 0).trans rfl
    have kXC1 : wr.cell? ⟨w.heap.size, 1, none⟩ = some (.slice A' m d) := (XC.cell 1).trans rfl
    have kXC2 : wr.cell? ⟨w.heap.size, 2, none⟩ = some (.slice P k ex) := (XC.cell 2).trans rfl
    have zXC := XC.lt
    by_cases hjk : j < k
    · have l1 : decide (((j : Nat) : Int) < ((k : Nat) : Int)) = true := by simp; omega
      obtain ⟨hl, ad, A1, A2, A3, c1, n2, c2, n3, c3, e, q0, q1, q2, HN1, hn1, hx⟩ := HPV.out.part hjk WW
      obtain ⟨n1, hn1'⟩ : ∃ x, x = ps[j].wds := ⟨_, rfl⟩
      obtain ⟨a1, ha1⟩ : ∃ x, x = ps[j].val := ⟨_, rfl⟩
      rw [← hn1'] at q0 HN1 hn1 hx
      rw [← ha1] at HN1
      have HW1 := hid hn1'
      have HA1 := hid ha1
      have HX := hid hx
      have HN := hid HN1
      clear hn1' ha1 hx HN1
      subst e
      have HJ2 : Hid (res = (okB n1 a1 && decide (bf ≤ a1) && decide (nw (pr * a1) ≤ 64) && complB ls a1 (pr * a1) (ps.drop (j + 1)))) := (show _ = _ by rw [HJ.out, List.drop_eq_getElem_cons hl, complB, ← HA1.out, ← HW1.out])
      have KB := hid (okB_nw hbf)
      have KP := hid (okB_nw hpr)
      cases hok : okB n1 a1
      · have HOK := hid hok
        have HE : Hid (res = false) := (show _ = _ by rw [HJ2.out, hok]; rfl)
        clear hok
        go_wp2_with fail
        clear kX3 zX3 kX4 zX4 kXC0 kXC1 kXC2 zXC
        have qX34 := X3.lt
        have qX44 := X4.lt
        have bw := (Below.refl wr.heap.size wr).alloc (Nat.le_refl _) (.cells #[.slice A1 n1 c1, .slice A2 n2 c2, .slice A3 n3 c3] 40)
        have XP := Blk.new wr 40 #[.slice A1 n1 c1, .slice A2 n2 c2, .slice A3 n3 c3]
        replace X3 := X3.below bw
        replace X4 := X4.below bw
        replace XC := XC.below bw XC.lt
        replace WW := WW.trans (bw.mono WW.size)
        clear bw
        generalize hV : wr.alloc (.cells #[.slice A1 n1 c1, .slice A2 n2 c2, .slice A3 n3 c3] 40) = V4 at X3 X4 XC XP WW ⊢
        clear hV
        have kX3 := X3.cell
        have zX3 := X3.lt
        have kX4 := X4.cell
        have zX4 := X4.lt
        have kXC0 : V4.cell? ⟨w.heap.size, 0, none⟩ = some (.slice A (nw a) c) := (XC.cell 0).trans rfl
        have kXC1 : V4.cell? ⟨w.heap.size, 1, none⟩ = some (.slice A' m d) := (XC.cell 1).trans rfl
        have kXC2 : V4.cell? ⟨w.heap.size, 2, none⟩ = some (.slice (some ad) k ex) := (XC.cell 2).trans rfl
        have zXC := XC.lt
        have kXP0 : V4.cell? ⟨wr.heap.size, 0, none⟩ = some (.slice A1 n1 c1) := (XP.cell 0).trans rfl
        have kXP1 : V4.cell? ⟨wr.heap.size, 1, none⟩ = some (.slice A2 n2 c2) := (XP.cell 1).trans rfl
        have kXP2 : V4.cell? ⟨wr.heap.size, 2, none⟩ = some (.slice A3 n3 c3) := (XP.cell 2).trans rfl
        have zXP := XP.lt
        go_wp2_with fail
        have hbs : w.heap.size ≤ V4.heap.size := WW.size
        have hc := cmp_any Bf A1 _ _ bc c1 bf a1 V4 X4.num (HN.out.up WW) (by omega) hn1
        rw [bothC_no2 HOK.out] at hc
        refine hc.mono ?_
        clear hc
        rintro e V5 ⟨rfl, hb⟩
        clear kX3 zX3 kX4 zX4 kXC0 kXC1 kXC2 zXC kXP0 kXP1 kXP2 zXP
        replace X3 := X3.below hb
        replace X4 := X4.below hb
        replace XC := XC.below hb XC.lt
        replace XP := XP.below hb XP.lt
        replace WW := WW.trans (hb.mono WW.size)
        have kX3 := X3.cell
        have zX3 := X3.lt
        have kX4 := X4.cell
        have zX4 := X4.lt
        have kXC0 : V5.cell? ⟨w.heap.size, 0, none⟩ = some (.slice A (nw a) c) := (XC.cell 0).trans rfl
        have kXC1 : V5.cell? ⟨w.heap.size, 1, none⟩ = some (.slice A' m d) := (XC.cell 1).trans rfl
        have kXC2 : V5.cell? ⟨w.heap.size, 2, none⟩ = some (.slice (some ad) k ex) := (XC.cell 2).trans rfl
        have zXC := XC.lt
        have kXP0 : V5.cell? ⟨wr.heap.size, 0, none⟩ = some (.slice A1 n1 c1) := (XP.cell 0).trans rfl
        have kXP1 : V5.cell? ⟨wr.heap.size, 1, none⟩ = some (.slice A2 n2 c2) := (XP.cell 1).trans rfl
        have kXP2 : V5.cell? ⟨wr.heap.size, 2, none⟩ = some (.slice A3 n3 c3) := (XP.cell 2).trans rfl
        have zXP := XP.lt
        clear hb hbs
        have fX4 := X4.1.frozen 0
        go_wp2_with fail
        have fX4 := X4.1.frozen 0
        have X4n := X4.set_ (A' := A1) (n' := n1) (c' := c1) (a' := a1) (.inl (HN.out.below WW))
        replace X3 := X3.far (p := ⟨V2.heap.size + 1, 0, none⟩) X4.1 X4.2.2 (by simp <;> omega) (.slice A1 n1 c1)
        replace XC := XC.far (p := ⟨V2.heap.size + 1, 0, none⟩) (by simp <;> omega) (.slice A1 n1 c1)
        replace XP := XP.far (p := ⟨V2.heap.size + 1, 0, none⟩) (by simp <;> omega) (.slice A1 n1 c1)
        replace X4 := X4n
        clear X4n
        replace WW := WW.setCell (p := ⟨V2.heap.size + 1, 0, none⟩) X4.2.2 (.slice A1 n1 c1)
        clear kX3 zX3 kX4 zX4 kXC0 kXC1 kXC2 zXC kXP0 kXP1 kXP2 zXP fX4
        generalize hV : V5.setCell ⟨V2.heap.size + 1, 0, none⟩ (.slice A1 n1 c1) = V6 at X3 X4 XC XP WW ⊢
        clear hV
        have kX3 := X3.cell
        have zX3 := X3.lt
        have kX4 := X4.cell
        have zX4 := X4.lt
        have kXC0 : V6.cell? ⟨w.heap.size, 0, none⟩ = some (.slice A (nw a) c) := (XC.cell 0).trans rfl
        have kXC1 : V6.cell? ⟨w.heap.size, 1, none⟩ = some (.slice A' m d) := (XC.cell 1).trans rfl
        have kXC2 : V6.cell? ⟨w.heap.size, 2, none⟩ = some (.slice (some ad) k ex) := (XC.cell 2).trans rfl
        have zXC := XC.lt
        have kXP0 : V6.cell? ⟨wr.heap.size, 0, none⟩ = some (.slice A1 n1 c1) := (XP.cell 0).trans rfl
        have kXP1 : V6.cell? ⟨wr.heap.size, 1, none⟩ = some (.slice A2 n2 c2) := (XP.cell 1).trans rfl
        have kXP2 : V6.cell? ⟨wr.heap.size, 2, none⟩ = some (.slice A3 n3 c3) := (XP.cell 2).trans rfl
        have zXP := XP.lt
        have hbs : w.heap.size ≤ V6.heap.size := WW.size
        have hc := mul_any Pr A1 _ _ pc c1 pr a1 V6 X3.num (HN.out.up WW) (by omega) hn1
        rw [bothS_no2 HOK.out] at hc
        refine hc.mono ?_
        clear hc
        rintro e V7 ⟨v, rfl, hv, hb⟩
        clear kX3 zX3 kX4 zX4 kXC0 kXC1 kXC2 zXC kXP0 kXP1 kXP2 zXP
        replace X3 := X3.below hb
        replace X4 := X4.below hb
        replace XC := XC.below hb XC.lt
        replace XP := XP.below hb XP.lt
        replace WW := WW.trans (hb.mono WW.size)
        obtain ⟨D1, d1, rfl, ho⟩ := hv
        have O1 := ho.weak (b := w.heap.size) hbs
        clear ho
        have kX3 := X3.cell
        have zX3 := X3.lt
        have kX4 := X4.cell
        have zX4 := X4.lt
        have kXC0 : V7.cell? ⟨w.heap.size, 0, none⟩ = some (.slice A (nw a) c) := (XC.cell 0).trans rfl
        have kXC1 : V7.cell? ⟨w.heap.size, 1, none⟩ = some (.slice A' m d) := (XC.cell 1).trans rfl
        have kXC2 : V7.cell? ⟨w.heap.size, 2, none⟩ = some (.slice (some ad) k ex) := (XC.cell 2).trans rfl
        have zXC := XC.lt
        have kXP0 : V7.cell? ⟨wr.heap.size, 0, none⟩ = some (.slice A1 n1 c1) := (XP.cell 0).trans rfl
        have kXP1 : V7.cell? ⟨wr.heap.size, 1, none⟩ = some (.slice A2 n2 c2) := (XP.cell 1).trans rfl
        have kXP2 : V7.cell? ⟨wr.heap.size, 2, none⟩ = some (.slice A3 n3 c3) := (XP.cell 2).trans rfl
        have zXP := XP.lt
        clear hb hbs
        have fX3 := X3.1.frozen 0
        go_wp2_with fail
        go_ret
        exact ⟨by rw [HE.out]; rfl, WW.setCell (by simp <;> omega) _⟩
      · have HOK := hid hok
        obtain ⟨e1, e2⟩ := okB_yes.1 hok
        clear hok
        obtain rfl : n1 = nw a1 := e1.symm
        rw [HOK.out] at HJ2
        obtain ⟨o, ho⟩ : ∃ o, o = ordN bf a1 := ⟨_, rfl⟩
        have HO := hid ho
        have o9 := ordN_bd bf a1
        rw [← ho] at o9
        by_cases hlt : a1 < bf
        · have l2 : decide (o > 0) = true := by rw [ho, ordN_gtD]; exact decide_eq_true hlt
          have HE : Hid (res = false) := (show _ = _ by rw [HJ2.out, decide_eq_false (by omega)]; rfl)
          clear ho hlt e1
          go_wp2_with fail
          clear kX3 zX3 kX4 zX4 kXC0 kXC1 kXC2 zXC
          have qX34 := X3.lt
          have qX44 := X4.lt
          have bw := (Below.refl wr.heap.size wr).alloc (Nat.le_refl _) (.cells #[.slice A1 (nw a1) c1, .slice A2 n2 c2, .slice A3 n3 c3] 40)
          have XP := Blk.new wr 40 #[.slice A1 (nw a1) c1, .slice A2 n2 c2, .slice A3 n3 c3]
          replace X3 := X3.below bw
          replace X4 := X4.below bw
          replace XC := XC.below bw XC.lt
          replace WW := WW.trans (bw.mono WW.size)
          clear bw
          generalize hV : wr.alloc (.cells #[.slice A1 (nw a1) c1, .slice A2 n2 c2, .slice A3 n3 c3] 40) = V4 at X3 X4 XC XP WW ⊢
          clear hV
          have kX3 := X3.cell
          have zX3 := X3.lt
          have kX4 := X4.cell
          have zX4 := X4.lt
          have kXC0 : V4.cell? ⟨w.heap.size, 0, none⟩ = some (.slice A (nw a) c) := (XC.cell 0).trans rfl
          have kXC1 : V4.cell? ⟨w.heap.size, 1, none⟩ = some (.slice A' m d) := (XC.cell 1).trans rfl
          have kXC2 : V4.cell? ⟨w.heap.size, 2, none⟩ = some (.slice (some ad) k ex) := (XC.cell 2).trans rfl
          have zXC := XC.lt
          have kXP0 : V4.cell? ⟨wr.heap.size, 0, none⟩ = some (.slice A1 (nw a1) c1) := (XP.cell 0).trans rfl
          have kXP1 : V4.cell? ⟨wr.heap.size, 1, none⟩ = some (.slice A2 n2 c2) := (XP.cell 1).trans rfl
          have kXP2 : V4.cell? ⟨wr.heap.size, 2, none⟩ = some (.slice A3 n3 c3) := (XP.cell 2).trans rfl
          have zXP := XP.lt
          go_wp2_with fail
          have hbs : w.heap.size ≤ V4.heap.size := WW.size
          have hc := cmp_any Bf A1 _ _ bc c1 bf a1 V4 X4.num (HN.out.up WW) (by omega) hn1
          rw [bothC_yes KB.out HOK.out] at hc
          rw [← HO.out] at hc
          refine hc.mono ?_
          clear hc
          rintro e V5 ⟨rfl, hb⟩
          clear kX3 zX3 kX4 zX4 kXC0 kXC1 kXC2 zXC kXP0 kXP1 kXP2 zXP
          replace X3 := X3.below hb
          replace X4 := X4.below hb
          replace XC := XC.below hb XC.lt
          replace XP := XP.below hb XP.lt
          replace WW := WW.trans (hb.mono WW.size)
          have kX3 := X3.cell
          have zX3 := X3.lt
          have kX4 := X4.cell
          have zX4 := X4.lt
          have kXC0 : V5.cell? ⟨w.heap.size, 0, none⟩ = some (.slice A (nw a) c) := (XC.cell 0).trans rfl
          have kXC1 : V5.cell? ⟨w.heap.size, 1, none⟩ = some (.slice A' m d) := (XC.cell 1).trans rfl
          have kXC2 : V5.cell? ⟨w.heap.size, 2, none⟩ = some (.slice (some ad) k ex) := (XC.cell 2).trans rfl
          have zXC := XC.lt
          have kXP0 : V5.cell? ⟨wr.heap.size, 0, none⟩ = some (.slice A1 (nw a1) c1) := (XP.cell 0).trans rfl
          have kXP1 : V5.cell? ⟨wr.heap.size, 1, none⟩ = some (.slice A2 n2 c2) := (XP.cell 1).trans rfl
          have kXP2 : V5.cell? ⟨wr.heap.size, 2, none⟩ = some (.slice A3 n3 c3) := (XP.cell 2).trans rfl
          have zXP := XP.lt
          clear hb hbs
          go_wp2_with fail
          go_ret
          exact ⟨by rw [HE.out]; rfl, WW⟩
        · have l2 : decide (o > 0) = false := by rw [ho, ordN_gtD]; exact decide_eq_false hlt
          have LB := hid hlt
          clear ho hlt e1
          obtain ⟨p2, hp2⟩ : ∃ p2, p2 = pr * a1 := ⟨_, rfl⟩
          have HP2 := hid hp2
          rw [← HP2.out] at HJ2
          by_cases hq : nw p2 ≤ 64
          · have HE : Hid (res = complB ls a1 p2 (ps.drop (j + 1))) := (show _ = _ by rw [HJ2.out, decide_eq_true hq, decide_eq_true (show bf ≤ a1 by have := LB.out; omega)]; rfl)
            have LS := hid (limS_ok hq)
            clear hp2
            go_wp2_with fail
            clear kX3 zX3 kX4 zX4 kXC0 kXC1 kXC2 zXC
            have qX34 := X3.lt
            have qX44 := X4.lt
            have bw := (Below.refl wr.heap.size wr).alloc (Nat.le_refl _) (.cells #[.slice A1 (nw a1) c1, .slice A2 n2 c2, .slice A3 n3 c3] 40)
            have XP := Blk.new wr 40 #[.slice A1 (nw a1) c1, .slice A2 n2 c2, .slice A3 n3 c3]
            replace X3 := X3.below bw
            replace X4 := X4.below bw
            replace XC := XC.below bw XC.lt
            replace WW := WW.trans (bw.mono WW.size)
            clear bw
            generalize hV : wr.alloc (.cells #[.slice A1 (nw a1) c1, .slice A2 n2 c2, .slice A3 n3 c3] 40) = V4 at X3 X4 XC XP WW ⊢
            clear hV
            have kX3 := X3.cell
            have zX3 := X3.lt
            have kX4 := X4.cell
            have zX4 := X4.lt
            have kXC0 : V4.cell? ⟨w.heap.size, 0, none⟩ = some (.slice A (nw a) c) := (XC.cell 0).trans rfl
            have kXC1 : V4.cell? ⟨w.heap.size, 1, none⟩ = some (.slice A' m d) := (XC.cell 1).trans rfl
            have kXC2 : V4.cell? ⟨w.heap.size, 2, none⟩ = some (.slice (some ad) k ex) := (XC.cell 2).trans rfl
            have zXC := XC.lt
            have kXP0 : V4.cell? ⟨wr.heap.size, 0, none⟩ = some (.slice A1 (nw a1) c1) := (XP.cell 0).trans rfl
            have kXP1 : V4.cell? ⟨wr.heap.size, 1, none⟩ = some (.slice A2 n2 c2) := (XP.cell 1).trans rfl
            have kXP2 : V4.cell? ⟨wr.heap.size, 2, none⟩ = some (.slice A3 n3 c3) := (XP.cell 2).trans rfl
            have zXP := XP.lt
            go_wp2_with fail
            have hbs : w.heap.size ≤ V4.heap.size := WW.size
            have hc := cmp_any Bf A1 _ _ bc c1 bf a1 V4 X4.num (HN.out.up WW) (by omega) hn1
            rw [bothC_yes KB.out HOK.out] at hc
            rw [← HO.out] at hc
            refine hc.mono ?_
            clear hc
            rintro e V5 ⟨rfl, hb⟩
            clear kX3 zX3 kX4 zX4 kXC0 kXC1 kXC2 zXC kXP0 kXP1 kXP2 zXP
            replace X3 := X3.below hb
            replace X4 := X4.below hb
            replace XC := XC.below hb XC.lt
            replace XP := XP.below hb XP.lt
            replace WW := WW.trans (hb.mono WW.size)
            have kX3 := X3.cell
            have zX3 := X3.lt
            have kX4 := X4.cell
            have zX4 := X4.lt
            have kXC0 : V5.cell? ⟨w.heap.size, 0, none⟩ = some (.slice A (nw a) c) := (XC.cell 0).trans rfl
            have kXC1 : V5.cell? ⟨w.heap.size, 1, none⟩ = some (.slice A' m d) := (XC.cell 1).trans rfl
            have kXC2 : V5.cell? ⟨w.heap.size, 2, none⟩ = some (.slice (some ad) k ex) := (XC.cell 2).trans rfl
            have zXC := XC.lt
            have kXP0 : V5.cell? ⟨wr.heap.size, 0, none⟩ = some (.slice A1 (nw a1) c1) := (XP.cell 0).trans rfl
            have kXP1 : V5.cell? ⟨wr.heap.size, 1, none⟩ = some (.slice A2 n2 c2) := (XP.cell 1).trans rfl
            have kXP2 : V5.cell? ⟨wr.heap.size, 2, none⟩ = some (.slice A3 n3 c3) := (XP.cell 2).trans rfl
            have zXP := XP.lt
            clear hb hbs
            have fX4 := X4.1.frozen 0
            go_wp2_with fail
            have fX4 := X4.1.frozen 0
            have X4n := X4.set_ (A' := A1) (n' := (nw a1)) (c' := c1) (a' := a1) (.inl (HN.out.below WW))
            replace X3 := X3.far (p := ⟨V2.heap.size + 1, 0, none⟩) X4.1 X4.2.2 (by simp <;> omega) (.slice A1 (nw a1) c1)
            replace XC := XC.far (p := ⟨V2.heap.size + 1, 0, none⟩) (by simp <;> omega) (.slice A1 (nw a1) c1)
            replace XP := XP.far (p := ⟨V2.heap.size + 1, 0, none⟩) (by simp <;> omega) (.slice A1 (nw a1) c1)
            replace X4 := X4n
            clear X4n
            replace WW := WW.setCell (p := ⟨V2.heap.size + 1, 0, none⟩) X4.2.2 (.slice A1 (nw a1) c1)
            clear kX3 zX3 kX4 zX4 kXC0 kXC1 kXC2 zXC kXP0 kXP1 kXP2 zXP fX4
            generalize hV : V5.setCell ⟨V2.heap.size + 1, 0, none⟩ (.slice A1 (nw a1) c1) = V6 at X3 X4 XC XP WW ⊢
            clear hV
            have kX3 := X3.cell
            have zX3 := X3.lt
            have kX4 := X4.cell
            have zX4 := X4.lt
            have kXC0 : V6.cell? ⟨w.heap.size, 0, none⟩ = some (.slice A (nw a) c) := (XC.cell 0).trans rfl
            have kXC1 : V6.cell? ⟨w.heap.size, 1, none⟩ = some (.slice A' m d) := (XC.cell 1).trans rfl
            have kXC2 : V6.cell? ⟨w.heap.size, 2, none⟩ = some (.slice (some ad) k ex) := (XC.cell 2).trans rfl
            have zXC := XC.lt
            have kXP0 : V6.cell? ⟨wr.heap.size, 0, none⟩ = some (.slice A1 (nw a1) c1) := (XP.cell 0).trans rfl
            have kXP1 : V6.cell? ⟨wr.heap.size, 1, none⟩ = some (.slice A2 n2 c2) := (XP.cell 1).trans rfl
            have kXP2 : V6.cell? ⟨wr.heap.size, 2, none⟩ = some (.slice A3 n3 c3) := (XP.cell 2).trans rfl
            have zXP := XP.lt
            have hbs : w.heap.size ≤ V6.heap.size := WW.size
            have hc := mul_any Pr A1 _ _ pc c1 pr a1 V6 X3.num (HN.out.up WW) (by omega) hn1
            rw [bothS_yes KP.out HOK.out] at hc
            rw [← HP2.out] at hc
            rw [LS.out] at hc
            refine hc.mono ?_
            clear hc
            rintro e V7 ⟨v, rfl, hv, hb⟩
            clear kX3 zX3 kX4 zX4 kXC0 kXC1 kXC2 zXC kXP0 kXP1 kXP2 zXP
            replace X3 := X3.below hb
            replace X4 := X4.below hb
            replace XC := XC.below hb XC.lt
            replace XP := XP.below hb XP.lt
            replace WW := WW.trans (hb.mono WW.size)
            obtain ⟨D1, d1, rfl, ho⟩ := hv
            have O1 := ho.weak (b := w.heap.size) hbs
            clear ho
            have kX3 := X3.cell
            have zX3 := X3.lt
            have kX4 := X4.cell
            have zX4 := X4.lt
            have kXC0 : V7.cell? ⟨w.heap.size, 0, none⟩ = some (.slice A (nw a) c) := (XC.cell 0).trans rfl
            have kXC1 : V7.cell? ⟨w.heap.size, 1, none⟩ = some (.slice A' m d) := (XC.cell 1).trans rfl
            have kXC2 : V7.cell? ⟨w.heap.size, 2, none⟩ = some (.slice (some ad) k ex) := (XC.cell 2).trans rfl
            have zXC := XC.lt
            have kXP0 : V7.cell? ⟨wr.heap.size, 0, none⟩ = some (.slice A1 (nw a1) c1) := (XP.cell 0).trans rfl
            have kXP1 : V7.cell? ⟨wr.heap.size, 1, none⟩ = some (.slice A2 n2 c2) := (XP.cell 1).trans rfl
            have kXP2 : V7.cell? ⟨wr.heap.size, 2, none⟩ = some (.slice A3 n3 c3) := (XP.cell 2).trans rfl
            have zXP := XP.lt
            clear hb hbs
            have fX3 := X3.1.frozen 0
            go_wp2_with fail
            have fX3 := X3.1.frozen 0
            have X3n := X3.set_ (A' := D1) (n' := (nw p2)) (c' := d1) (a' := p2) (.inr O1)
            replace X4 := X4.far (p := ⟨V2.heap.size, 0, none⟩) X3.1 X3.2.2 (by simp <;> omega) (.slice D1 (nw p2) d1)
            replace O1 := O1.box (p := ⟨V2.heap.size, 0, none⟩) X3.1 (by decide) (.slice D1 (nw p2) d1)
            replace XC := XC.far (p := ⟨V2.heap.size, 0, none⟩) (by simp <;> omega) (.slice D1 (nw p2) d1)
            replace XP := XP.far (p := ⟨V2.heap.size, 0, none⟩) (by simp <;> omega) (.slice D1 (nw p2) d1)
            replace X3 := X3n
            clear X3n
            replace WW := WW.setCell (p := ⟨V2.heap.size, 0, none⟩) X3.2.2 (.slice D1 (nw p2) d1)
            clear kX3 zX3 kX4 zX4 kXC0 kXC1 kXC2 zXC kXP0 kXP1 kXP2 zXP fX3
            generalize hV : V7.setCell ⟨V2.heap.size, 0, none⟩ (.slice D1 (nw p2) d1) = V8 at X3 X4 O1 XC XP WW ⊢
            clear hV
            have kX3 := X3.cell
            have zX3 := X3.lt
            have kX4 := X4.cell
            have zX4 := X4.lt
            have kXC0 : V8.cell? ⟨w.heap.size, 0, none⟩ = some (.slice A (nw a) c) := (XC.cell 0).trans rfl
            have kXC1 : V8.cell? ⟨w.heap.size, 1, none⟩ = some (.slice A' m d) := (XC.cell 1).trans rfl
            have kXC2 : V8.cell? ⟨w.heap.size, 2, none⟩ = some (.slice (some ad) k ex) := (XC.cell 2).trans rfl
            have zXC := XC.lt
            have kXP0 : V8.cell? ⟨wr.heap.size, 0, none⟩ = some (.slice A1 (nw a1) c1) := (XP.cell 0).trans rfl
            have kXP1 : V8.cell? ⟨wr.heap.size, 1, none⟩ = some (.slice A2 n2 c2) := (XP.cell 1).trans rfl
            have kXP2 : V8.cell? ⟨wr.heap.size, 2, none⟩ = some (.slice A3 n3 c3) := (XP.cell 2).trans rfl
            have zXP := XP.lt
            go_roundw
            case rel => exact ⟨j + 1, a1, p2, A1, D1, c1, d1, by omega, by go_num, e2, hq, HE.out, WW, X3, X4, XC⟩
            case measure => simp [intOf] <;> omega
          · have HE : Hid (res = false) := (show _ = _ by rw [HJ2.out, decide_eq_false hq, Bool.and_false]; rfl)
            have LS : Hid (limS p2 = (0, 9)) := (show _ = _ by unfold limS; rw [if_neg hq])
            clear hp2
            go_wp2_with fail
            clear kX3 zX3 kX4 zX4 kXC0 kXC1 kXC2 zXC
            have qX34 := X3.lt
            have qX44 := X4.lt
            have bw := (Below.refl wr.heap.size wr).alloc (Nat.le_refl _) (.cells #[.slice A1 (nw a1) c1, .slice A2 n2 c2, .slice A3 n3 c3] 40)
            have XP := Blk.new wr 40 #[.slice A1 (nw a1) c1, .slice A2 n2 c2, .slice A3 n3 c3]
            replace X3 := X3.below bw
            replace X4 := X4.below bw
            replace XC := XC.below bw XC.lt
            replace WW := WW.trans (bw.mono WW.size)
            clear bw
            generalize hV : wr.alloc (.cells #[.slice A1 (nw a1) c1, .slice A2 n2 c2, .slice A3 n3 c3] 40) = V4 at X3 X4 XC XP WW ⊢
            clear hV
            have kX3 := X3.cell
            have zX3 := X3.lt
            have kX4 := X4.cell
            have zX4 := X4.lt
            have kXC0 : V4.cell? ⟨w.heap.size, 0, none⟩ = some (.slice A (nw a) c) := (XC.cell 0).trans rfl
            have kXC1 : V4.cell? ⟨w.heap.size, 1, none⟩ = some (.slice A' m d) := (XC.cell 1).trans rfl
            have kXC2 : V4.cell? ⟨w.heap.size, 2, none⟩ = some (.slice (some ad) k ex) := (XC.cell 2).trans rfl
            have zXC := XC.lt
            have kXP0 : V4.cell? ⟨wr.heap.size, 0, none⟩ = some (.slice A1 (nw a1) c1) := (XP.cell 0).trans rfl
            have kXP1 : V4.cell? ⟨wr.heap.size, 1, none⟩ = some (.slice A2 n2 c2) := (XP.cell 1).trans rfl
            have kXP2 : V4.cell? ⟨wr.heap.size, 2, none⟩ = some (.slice A3 n3 c3) := (XP.cell 2).trans rfl
            have zXP := XP.lt
            go_wp2_with fail
            have hbs : w.heap.size ≤ V4.heap.size := WW.size
            have hc := cmp_any Bf A1 _ _ bc c1 bf a1 V4 X4.num (HN.out.up WW) (by omega) hn1
            rw [bothC_yes KB.out HOK.out] at hc
            rw [← HO.out] at hc
            refine hc.mono ?_
            clear hc
            rintro e V5 ⟨rfl, hb⟩
            clear kX3 zX3 kX4 zX4 kXC0 kXC1 kXC2 zXC kXP0 kXP1 kXP2 zXP
            replace X3 := X3.below hb
            replace X4 := X4.below hb
            replace XC := XC.below hb XC.lt
            replace XP := XP.below hb XP.lt
            replace WW := WW.trans (hb.mono WW.size)
            have kX3 := X3.cell
            have zX3 := X3.lt
            have kX4 := X4.cell
            have zX4 := X4.lt
            have kXC0 : V5.cell? ⟨w.heap.size, 0, none⟩ = some (.slice A (nw a) c) := (XC.cell 0).trans rfl
            have kXC1 : V5.cell? ⟨w.heap.size, 1, none⟩ = some (.slice A' m d) := (XC.cell 1).trans rfl
            have kXC2 : V5.cell? ⟨w.heap.size, 2, none⟩ = some (.slice (some ad) k ex) := (XC.cell 2).trans rfl
            have zXC := XC.lt
            have kXP0 : V5.cell? ⟨wr.heap.size, 0, none⟩ = some (.slice A1 (nw a1) c1) := (XP.cell 0).trans rfl
            have kXP1 : V5.cell? ⟨wr.heap.size, 1, none⟩ = some (.slice A2 n2 c2) := (XP.cell 1).trans rfl
            have kXP2 : V5.cell? ⟨wr.heap.size, 2, none⟩ = some (.slice A3 n3 c3) := (XP.cell 2).trans rfl
            have zXP := XP.lt
            clear hb hbs
            have fX4 := X4.1.frozen 0
            go_wp2_with fail
            have fX4 := X4.1.frozen 0
            have X4n := X4.set_ (A' := A1) (n' := (nw a1)) (c' := c1) (a' := a1) (.inl (HN.out.below WW))
            replace X3 := X3.far (p := ⟨V2.heap.size + 1, 0, none⟩) X4.1 X4.2.2 (by simp <;> omega) (.slice A1 (nw a1) c1)
            replace XC := XC.far (p := ⟨V2.heap.size + 1, 0, none⟩) (by simp <;> omega) (.slice A1 (nw a1) c1)
            replace XP := XP.far (p := ⟨V2.heap.size + 1, 0, none⟩) (by simp <;> omega) (.slice A1 (nw a1) c1)
            replace X4 := X4n
            clear X4n
            replace WW := WW.setCell (p := ⟨V2.heap.size + 1, 0, none⟩) X4.2.2 (.slice A1 (nw a1) c1)
            clear kX3 zX3 kX4 zX4 kXC0 kXC1 kXC2 zXC kXP0 kXP1 kXP2 zXP fX4
            generalize hV : V5.setCell ⟨V2.heap.size + 1, 0, none⟩ (.slice A1 (nw a1) c1) = V6 at X3 X4 XC XP WW ⊢
            clear hV
            have kX3 := X3.cell
            have zX3 := X3.lt
            have kX4 := X4.cell
            have zX4 := X4.lt
            have kXC0 : V6.cell? ⟨w.heap.size, 0, none⟩ = some (.slice A (nw a) c) := (XC.cell 0).trans rfl
            have kXC1 : V6.cell? ⟨w.heap.size, 1, none⟩ = some (.slice A' m d) := (XC.cell 1).trans rfl
            have kXC2 : V6.cell? ⟨w.heap.size, 2, none⟩ = some (.slice (some ad) k ex) := (XC.cell 2).trans rfl
            have zXC := XC.lt
            have kXP0 : V6.cell? ⟨wr.heap.size, 0, none⟩ = some (.slice A1 (nw a1) c1) := (XP.cell 0).trans rfl
            have kXP1 : V6.cell? ⟨wr.heap.size, 1, none⟩ = some (.slice A2 n2 c2) := (XP.cell 1).trans rfl
            have kXP2 : V6.cell? ⟨wr.heap.size, 2, none⟩ = some (.slice A3 n3 c3) := (XP.cell 2).trans rfl
            have zXP := XP.lt
            have hbs : w.heap.size ≤ V6.heap.size := WW.size
            have hc := mul_any Pr A1 _ _ pc c1 pr a1 V6 X3.num (HN.out.up WW) (by omega) hn1
            rw [bothS_yes KP.out HOK.out] at hc
            rw [← HP2.out] at hc
            rw [LS.out] at hc
            refine hc.mono ?_
            clear hc
            rintro e V7 ⟨v, rfl, hv, hb⟩
            clear kX3 zX3 kX4 zX4 kXC0 kXC1 kXC2 zXC kXP0 kXP1 kXP2 zXP
            replace X3 := X3.below hb
            replace X4 := X4.below hb
            replace XC := XC.below hb XC.lt
            replace XP := XP.below hb XP.lt
            replace WW := WW.trans (hb.mono WW.size)
            obtain ⟨D1, d1, rfl, ho⟩ := hv
            have O1 := ho.weak (b := w.heap.size) hbs
            clear ho
            have kX3 := X3.cell
            have zX3 := X3.lt
            have kX4 := X4.cell
            have zX4 := X4.lt
            have kXC0 : V7.cell? ⟨w.heap.size, 0, none⟩ = some (.slice A (nw a) c) := (XC.cell 0).trans rfl
            have kXC1 : V7.cell? ⟨w.heap.size, 1, none⟩ = some (.slice A' m d) := (XC.cell 1).trans rfl
            have kXC2 : V7.cell? ⟨w.heap.size, 2, none⟩ = some (.slice (some ad) k ex) := (XC.cell 2).trans rfl
            have zXC := XC.lt
            have kXP0 : V7.cell? ⟨wr.heap.size, 0, none⟩ = some (.slice A1 (nw a1) c1) := (XP.cell 0).trans rfl
            have kXP1 : V7.cell? ⟨wr.heap.size, 1, none⟩ = some (.slice A2 n2 c2) := (XP.cell 1).trans rfl
            have kXP2 : V7.cell? ⟨wr.heap.size, 2, none⟩ = some (.slice A3 n3 c3) := (XP.cell 2).trans rfl
            have zXP := XP.lt
            clear hb hbs
            have fX3 := X3.1.frozen 0
            go_wp2_with fail
            go_ret
            exact ⟨by rw [HE.out]; rfl, WW.setCell (by simp <;> omega) _⟩
    · have l1 : decide (((j : Nat) : Int) < ((k : Nat) : Int)) = false := by simp; omega
      have HE : Hid (res = (pr == ls)) := (show _ = _ by rw [HJ.out, List.drop_of_length_le (by rw [HK.out]; omega)]; rfl)
      have KP := hid (okB_nw hpr)
      have KL := hid (okB_nw nls)
      obtain ⟨o, ho⟩ : ∃ o, o = ordN pr ls := ⟨_, rfl⟩
      have HO := hid ho
      have o9 := ordN_bd pr ls
      rw [← ho] at o9
      obtain ⟨bv, hbv⟩ : ∃ bv, bv = (pr == ls) := ⟨_, rfl⟩
      have HBV := hid hbv
      rw [← hbv] at HE
      have l2 : (o == 0) = bv := by rw [ho, hbv, Bool.eq_iff_iff]; simp [ordN_zero]
      clear ho hbv
      go_wp2_with fail
      have hst : (fun w' => w'.cell? ⟨V2.heap.size, 0, none⟩ = some (.slice Pr (nw pr) pc) ∧ w'.cell? ⟨w.heap.size, 0, none⟩ = some (.slice A (nw a) c) ∧ w'.cell? ⟨w.heap.size, 1, none⟩ = some (.slice A' m d) ∧ w'.cell? ⟨w.heap.size, 2, none⟩ = some (.slice P k ex)) wr.drew := ⟨X3.cell, (XC.cell 0).trans rfl, (XC.cell 1).trans rfl, (XC.cell 2).trans rfl⟩
      clear kX3 zX3 kX4 zX4 kXC0 kXC1 kXC2 zXC
      replace WW := WW.drew
      replace X3 := X3.drew
      replace X4 := X4.drew
      replace XC : Blk wr.drew (w.heap.size) 40 #[.slice A (nw a) c, .slice A' m d, .slice P k ex] := XC
      have qq0 := X4.lt
      refine region_L 14 (fun w' => w'.cell? ⟨V2.heap.size, 0, none⟩ = some (.slice Pr (nw pr) pc) ∧ w'.cell? ⟨w.heap.size, 0, none⟩ = some (.slice A (nw a) c) ∧ w'.cell? ⟨w.heap.size, 1, none⟩ = some (.slice A' m d) ∧ w'.cell? ⟨w.heap.size, 2, none⟩ = some (.slice P k ex)) (by kernel_rfl) hst (fun hHeld => ?_)
      clear hst
      generalize hV : wr.drew = U3x0 at hHeld WW qq0 X3 X4 XC ⊢
      clear hV
      refine AnyL_take (i := 0) (oi := oq64_13_0) (v := ?_) rfl (by kernel_rfl) (by kernel_rfl) (by kernel_rfl) (by kernel_rfl) (fun _ _ _ h => h) (Or.inl ⟨by rfl, ?_⟩) (by assumption) ?_
      rotate_left
      · (delta oq64_13_0; intro ws hSw; (try dsimp only at hSw); (try go_simp); (try with_reducible rfl))
      (try simp only [oq64_13_0, Act.put, List.setIfInBounds_toArray, List.set_cons_zero, List.set_cons_succ])
      refine AnyL_take (i := 1) (oi := oq64_13_1) (v := ?_) rfl (by kernel_rfl) (by kernel_rfl) (by kernel_rfl) (by kernel_rfl) (fun _ _ _ h => h) (Or.inl ⟨by rfl, ?_⟩) (by assumption) ?_
      rotate_left
      · (delta oq64_13_1; intro ws hSw; (try dsimp only at hSw); (try go_simp); (try with_reducible rfl))
      (try simp only [oq64_13_1, Act.put, List.setIfInBounds_toArray, List.set_cons_zero, List.set_cons_succ])
      refine AnyL_take (i := 2) (oi := oq64_13_2) (v := ?_) rfl (by kernel_rfl) (by kernel_rfl) (by kernel_rfl) (by kernel_rfl) (fun _ _ _ h => h) (Or.inl ⟨by rfl, ?_⟩) (by assumption) ?_
      rotate_left
      · (delta oq64_13_2; intro ws hSw; (try dsimp only at hSw); (try go_simp); (try with_reducible rfl))
      (try simp only [oq64_13_2, Act.put, List.setIfInBounds_toArray, List.set_cons_zero, List.set_cons_succ])
      refine AnyL_ready (rs := [3]) (by kernel_rfl) (by simp) ?_
      refine ReadyL.cons (o := oq64_13_3) rfl (fun K hK => ?_) ReadyL.nil
      delta oq64_13_3
      go_simp
      have hbs : w.heap.size ≤ U3x0.heap.size := WW.size
      have hc := less_any A c a U3x0 (HN0.out.up WW) ha h1
      rw [← HLS.out] at hc
      refine hc.mono ?_
      clear hc
      rintro e V5 ⟨v, rfl, hv, hb⟩
      replace X3 := X3.below hb
      replace X4 := X4.below hb
      replace XC := XC.below hb XC.lt
      replace WW := WW.trans (hb.mono WW.size)
      have sz5 := hb.size
      obtain ⟨D5, d5, rfl, ho⟩ := hv
      have O5 := ho.weak (b := w.heap.size) hbs
      clear ho
      clear hb hbs
      refine hK.out _ _ (⟨X3.cell, (XC.cell 0).trans rfl, (XC.cell 1).trans rfl, (XC.cell 2).trans rfl⟩) (fun hHeld2 => ?_)
      clear hK K hHeld
      have hHeld := hHeld2
      clear hHeld2
      (try simp only [oq64_13_3, Act.put, List.setIfInBounds_toArray, List.set_cons_zero, List.set_cons_succ])
      refine AnyL_ready (rs := [4]) (by kernel_rfl) (by simp) ?_
      refine ReadyL.cons (o := oq64_13_4) rfl (fun K hK => ?_) ReadyL.nil
      delta oq64_13_4
      go_simp
      have hbs : w.heap.size ≤ V5.heap.size := WW.size
      have hc := cmp_any Pr D5 _ _ pc d5 pr ls V5 X3.num O5.num (by omega) (by omega)
      rw [bothC_yes KP.out KL.out] at hc
      rw [← HO.out] at hc
      refine hc.mono ?_
      clear hc
      rintro e V6 ⟨rfl, hb⟩
      replace X3 := X3.below hb
      replace X4 := X4.below hb
      replace O5 := O5.below hb (Nat.le_refl _)
      replace XC := XC.below hb XC.lt
      replace WW := WW.trans (hb.mono WW.size)
      have sz6 := hb.size
      clear hb hbs
      refine hK.out _ _ (⟨X3.cell, (XC.cell 0).trans rfl, (XC.cell 1).trans rfl, (XC.cell 2).trans rfl⟩) (fun hHeld2 => ?_)
      clear hK K hHeld
      have hHeld := hHeld2
      clear hHeld2
      (try simp only [oq64_13_4, Act.put, List.setIfInBounds_toArray, List.set_cons_zero, List.set_cons_succ])
      refine AnyL_take (i := 5) (oi := oq64_13_5) (v := ?_) rfl (by kernel_rfl) (by kernel_rfl) (by kernel_rfl) (by kernel_rfl) (fun _ _ _ h => h) (Or.inl ⟨by rfl, ?_⟩) (by assumption) ?_
      rotate_left
      · (delta oq64_13_5; intro ws hSw; (try dsimp only at hSw); (try go_simp); (try with_reducible rfl))
      (try simp only [oq64_13_5, Act.put, List.setIfInBounds_toArray, List.set_cons_zero, List.set_cons_succ])
      refine AnyL_take (i := 6) (oi := oq64_13_6) (v := ?_) rfl (by kernel_rfl) (by kernel_rfl) (by kernel_rfl) (by kernel_rfl) (fun _ _ _ h => h) (Or.inl ⟨by rfl, ?_⟩) (by assumption) ?_
      rotate_left
      · (delta oq64_13_6; intro ws hSw; (try dsimp only at hSw); (try go_simp); (try with_reducible rfl))
      (try simp only [oq64_13_6, Act.put, List.setIfInBounds_toArray, List.set_cons_zero, List.set_cons_succ])
      refine AnyL_done (by kernel_rfl) ?_ _
      clear hHeld
      have kX3 := X3.cell
      have zX3 := X3.lt
      have kX4 := X4.cell
      have zX4 := X4.lt
      have kXC0 : V6.cell? ⟨w.heap.size, 0, none⟩ = some (.slice A (nw a) c) := (XC.cell 0).trans rfl
      have kXC1 : V6.cell? ⟨w.heap.size, 1, none⟩ = some (.slice A' m d) := (XC.cell 1).trans rfl
      have kXC2 : V6.cell? ⟨w.heap.size, 2, none⟩ = some (.slice P k ex) := (XC.cell 2).trans rfl
      have zXC := XC.lt
      go_wp2_with fail
      go_ret
      exact ⟨by rw [HE.out]; rfl, WW⟩

end Go.Proofs.YtomkmkjkeihodaaDoor
