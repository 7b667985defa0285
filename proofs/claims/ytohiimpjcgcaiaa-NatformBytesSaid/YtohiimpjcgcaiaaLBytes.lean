/- NatformBytes: the walk. -/
import Derived.Test.YtohiimpjcgcaiaaLParses
set_option linter.unusedVariables false
set_option linter.unusedSimpArgs false
namespace Go.Proofs.Ytohiimpjcgcaiaa
open Go.RowKit

theorem BN.more {w : World} {B B' : Nat} {A : Option Addr} {l : List Nat} (h : BN w B A l) (hB : B ≤ B') : BN w B' A l := fun i hi => by
  obtain ⟨ad, e, h1, h2, h3⟩ := h i hi
  exact ⟨ad, e, Nat.lt_of_lt_of_le h1 hB, h2, h3⟩
theorem equal_same {w : World} {v1 v2 : Value} {l : List Nat} (h1 : (convert 37 9 v1).run Try.prog w = .ok (.string (strN l)) w) (h2 : (convert 37 9 v2).run Try.prog w = .ok (.string (strN l)) w) :
    Calls Try.prog 23 #[v1, v2] w (RetB (.bool true) w) := by
  refine (Try.bytes_Equal v1 v2 (l.map fun d => ((d : Nat) : Int)) (l.map fun d => ((d : Nat) : Int)) w h1 h2).mono ?_
  rintro e w' ⟨rfl, rfl⟩
  exact ⟨by rw [beq_self_eq_true], Below.refl _ _⟩
set_option maxHeartbeats 4000000 in
set_option maxRecDepth 100000 in
theorem natformBytes_walk (A B : Option Addr) (n m c d a : Nat) (l : List Nat) (z : Int) (w : World) (hA : Num w w.heap.size A n a) (hn : n ≤ 9223372036854775807) (hz0 : -9223372036854775808 ≤ z) (hz1 : z ≤ 9223372036854775807) (hB : BN w w.heap.size B l) (hl : l.length = m) (hm : m ≤ d) (hd : d ≤ 9223372036854775807) :
    Calls Try.prog 5 #[.agg #[.slice A n c], .int .i64 z, .slice B m d] w (RetB (.bool true) w) := by
  obtain ⟨r, hr⟩ : ∃ r, r = bytesS n a z := ⟨_, rfl⟩
  have HR : Hid (bytesS n a z = r) := hr.symm
  clear hr
  obtain ⟨t, ht⟩ : ∃ t, t = fbS l := ⟨_, rfl⟩
  have HT : Hid (fbS l = t) := ht.symm
  clear ht
  have HL := hid hl
  have HB := hid hB
  clear hl hB
  obtain ⟨b0, bw⟩ := boxes1 w (.slice A n c)
  have XN := VB.mk (B := w.heap.size) (a := a) b0 (.inl hA) bw (Nat.le_refl _) (by omega)
  have WW := bw
  clear bw b0
  go_enter Try.func5, Try.ntmps5
  go_wp2_with fail
  generalize hV : (w.alloc (.cells #[.slice A n c] 24)) = V0 at XN WW ⊢
  clear hV
  have hbs : w.heap.size ≤ V0.heap.size := WW.size
  have hc := awake_any V0
  refine hc.mono ?_
  clear hc
  rintro e V1 ⟨rfl, hb⟩
  replace XN := XN.below hb
  replace WW := WW.trans (hb.mono WW.size)
  have kXN := XN.cell
  have zXN := XN.lt
  clear hb hbs
  go_wp2_with fail
  by_cases h : 100 < n
  · have hbs : w.heap.size ≤ V1.heap.size := WW.size
    have hc := great1_any A n c V1 (by omega)
    rw [decide_eq_true h] at hc
    refine hc.mono ?_
    clear hc
    rintro e V2 ⟨rfl, hb⟩
    clear kXN zXN
    replace XN := XN.below hb
    replace WW := WW.trans (hb.mono WW.size)
    have kXN := XN.cell
    have zXN := XN.lt
    clear hb hbs
    go_wp2_with fail
    go_ret
    exact ⟨rfl, WW⟩
  · by_cases h2 : 1100 < m
    · have l1 : decide (((m : Nat) : Int) > 1100) = true := by simp; omega
      have hbs : w.heap.size ≤ V1.heap.size := WW.size
      have hc := great1_any A n c V1 (by omega)
      rw [decide_eq_false h] at hc
      refine hc.mono ?_
      clear hc
      rintro e V2 ⟨rfl, hb⟩
      clear kXN zXN
      replace XN := XN.below hb
      replace WW := WW.trans (hb.mono WW.size)
      have kXN := XN.cell
      have zXN := XN.lt
      clear hb hbs
      go_wp2_with fail
      go_ret
      exact ⟨rfl, WW⟩
    · have l1 : decide (((m : Nat) : Int) > 1100) = false := by simp; omega
      have hbs : w.heap.size ≤ V1.heap.size := WW.size
      have hc := great1_any A n c V1 (by omega)
      rw [decide_eq_false h] at hc
      refine hc.mono ?_
      clear hc
      rintro e V2 ⟨rfl, hb⟩
      clear kXN zXN
      replace XN := XN.below hb
      replace WW := WW.trans (hb.mono WW.size)
      have kXN := XN.cell
      have zXN := XN.lt
      clear hb hbs
      go_wp2_with fail
      have hbs : w.heap.size ≤ V2.heap.size := WW.size
      have hc := bytes_any A n c a z V2 XN.num (by omega) hz0 hz1
      rw [HR.out] at hc
      refine hc.mono ?_
      clear hc
      rintro e V3 ⟨v, rfl, hv, hb⟩
      clear kXN zXN
      replace XN := XN.below hb
      replace WW := WW.trans (hb.mono WW.size)
      have O1 := hv.weak (b := w.heap.size) hbs
      clear hv
      obtain ⟨D1, d1, rfl⟩ := O1.slc
      have kXN := XN.cell
      have zXN := XN.lt
      clear hb hbs
      go_wp2_with fail
      have hbs : w.heap.size ≤ V3.heap.size := WW.size
      have hc := rbytes_any A n c a z V3 XN.num (by omega) hz0 hz1
      rw [HR.out] at hc
      refine hc.mono ?_
      clear hc
      rintro e V4 ⟨v, rfl, hv, hb⟩
      clear kXN zXN
      replace XN := XN.below hb
      replace O1 := O1.below hb (Nat.le_refl _)
      replace WW := WW.trans (hb.mono WW.size)
      have O2 := hv.weak (b := w.heap.size) hbs
      clear hv
      obtain ⟨D2, d2, rfl⟩ := O2.slc
      have kXN := XN.cell
      have zXN := XN.lt
      clear hb hbs
      go_wp2_with fail
      have hbs : w.heap.size ≤ V4.heap.size := WW.size
      have hc := frombytes_any B m d l V4 ((HB.out.below WW).more WW.size) HL.out (by omega) hm hd
      rw [HT.out] at hc
      refine hc.mono ?_
      clear hc
      rintro e V5 ⟨v, rfl, hv, hb⟩
      clear kXN zXN
      replace XN := XN.below hb
      replace O1 := O1.below hb (Nat.le_refl _)
      replace O2 := O2.below hb (Nat.le_refl _)
      replace WW := WW.trans (hb.mono WW.size)
      obtain ⟨D3, d3, rfl, ho⟩ := hv
      have O3 := ho.weak (b := w.heap.size) hbs
      clear ho
      have kXN := XN.cell
      have zXN := XN.lt
      clear hb hbs
      go_wp2_with fail
      obtain ⟨b0, bw⟩ := boxes1 V5 (.slice D3 (nw t.1) d3)
      have hbs := WW.size
      clear kXN zXN
      have qXN6 := XN.lt
      have XC := VB.mk (B := w.heap.size) (a := t.1) b0 (.inr O3) bw hbs (by omega)
      replace XN := XN.below bw
      replace O1 := O1.below bw (Nat.le_refl _)
      replace O2 := O2.below bw (Nat.le_refl _)
      replace O3 := O3.below bw (Nat.le_refl _)
      replace WW := WW.trans (bw.mono WW.size)
      clear bw hbs b0
      generalize hV : (V5.alloc (.cells #[.slice D3 (nw t.1) d3] 24)) = V6 at XN XC O1 O2 O3 WW ⊢
      clear hV
      have kXN := XN.cell
      have zXN := XN.lt
      have kXC := XC.cell
      have zXC := XC.lt
      have hbs : w.heap.size ≤ V6.heap.size := WW.size
      have hc := rfrom_any B m d l V6 ((HB.out.below WW).more WW.size) HL.out (by omega)
      rw [HT.out] at hc
      refine hc.mono ?_
      clear hc
      rintro e V7 ⟨v, rfl, hv, hb⟩
      clear kXN zXN kXC zXC
      replace XN := XN.below hb
      replace XC := XC.below hb
      replace O1 := O1.below hb (Nat.le_refl _)
      replace O2 := O2.below hb (Nat.le_refl _)
      replace O3 := O3.below hb (Nat.le_refl _)
      replace WW := WW.trans (hb.mono WW.size)
      obtain ⟨D4, d4, rfl, ho⟩ := hv
      have O4 := ho.weak (b := w.heap.size) hbs
      clear ho
      have kXN := XN.cell
      have zXN := XN.lt
      have kXC := XC.cell
      have zXC := XC.lt
      clear hb hbs
      go_wp2_with fail
      obtain ⟨b0, bw⟩ := boxes1 V7 (.slice D4 (nw t.1) d4)
      have hbs := WW.size
      clear kXN zXN kXC zXC
      have qXC8 := XC.lt
      have qXN8 := XN.lt
      have XD := VB.mk (B := w.heap.size) (a := t.1) b0 (.inr O4) bw hbs (by omega)
      replace XN := XN.below bw
      replace XC := XC.below bw
      replace O1 := O1.below bw (Nat.le_refl _)
      replace O2 := O2.below bw (Nat.le_refl _)
      replace O3 := O3.below bw (Nat.le_refl _)
      replace O4 := O4.below bw (Nat.le_refl _)
      replace WW := WW.trans (bw.mono WW.size)
      clear bw hbs b0
      generalize hV : (V7.alloc (.cells #[.slice D4 (nw t.1) d4] 24)) = V8 at XN XC XD O1 O2 O3 O4 WW ⊢
      clear hV
      have kXN := XN.cell
      have zXN := XN.lt
      have kXC := XC.cell
      have zXC := XC.lt
      have kXD := XD.cell
      have zXD := XD.lt
      have hbs : w.heap.size ≤ V8.heap.size := WW.size
      have hc := equal_same O1.str O2.str
      refine hc.mono ?_
      clear hc
      rintro e V9 ⟨rfl, hb⟩
      clear kXN zXN kXC zXC kXD zXD
      replace XN := XN.below hb
      replace XC := XC.below hb
      replace XD := XD.below hb
      replace O1 := O1.below hb (Nat.le_refl _)
      replace O2 := O2.below hb (Nat.le_refl _)
      replace O3 := O3.below hb (Nat.le_refl _)
      replace O4 := O4.below hb (Nat.le_refl _)
      replace WW := WW.trans (hb.mono WW.size)
      have kXN := XN.cell
      have zXN := XN.lt
      have kXC := XC.cell
      have zXC := XC.lt
      have kXD := XD.cell
      have zXD := XD.lt
      clear hb hbs
      go_wp2_with fail
      have hbs : w.heap.size ≤ V9.heap.size := WW.size
      have hc := same_any D3 D4 _ _ d3 d4 t.1 t.1 V9 XC.num XD.num O3.nle O4.nle
      rw [sameB_yes rfl rfl] at hc
      refine hc.mono ?_
      clear hc
      rintro e V10 ⟨rfl, hb⟩
      clear kXN zXN kXC zXC kXD zXD
      replace XN := XN.below hb
      replace XC := XC.below hb
      replace XD := XD.below hb
      replace O1 := O1.below hb (Nat.le_refl _)
      replace O2 := O2.below hb (Nat.le_refl _)
      replace O3 := O3.below hb (Nat.le_refl _)
      replace O4 := O4.below hb (Nat.le_refl _)
      replace WW := WW.trans (hb.mono WW.size)
      have kXN := XN.cell
      have zXN := XN.lt
      have kXC := XC.cell
      have zXC := XC.lt
      have kXD := XD.cell
      have zXD := XD.lt
      clear hb hbs
      go_wp2_with fail
      go_ret
      exact ⟨rfl, WW⟩

end Go.Proofs.Ytohiimpjcgcaiaa
