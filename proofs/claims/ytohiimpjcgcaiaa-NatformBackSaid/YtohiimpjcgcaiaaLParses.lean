/- NatformParses: the walk. -/
import Derived.Test.YtohiimpjcgcaiaaAw
set_option linter.unusedVariables false
set_option linter.unusedSimpArgs false
namespace Go.Proofs.Ytohiimpjcgcaiaa
open Go.RowKit

theorem Own.nle {w : World} {b n c a : Nat} {A : Option Addr} (h : Own w b A n c a) : n ≤ 9223372036854775807 := by have h1 := h.2.1; have h2 := h.2.2.1; unfold maxLen at h2; omega
set_option maxHeartbeats 4000000 in
set_option maxRecDepth 100000 in
theorem natformParses_walk (s : ByteArray) (w : World) (hs : s.size ≤ 9223372036854775807) :
    Calls Try.prog 4 #[.string s] w (RetB (.bool true) w) := by
  obtain ⟨r10, hr10⟩ : ∃ r, r = rdS 10 (strL s) := ⟨_, rfl⟩
  have H10 : Hid (rdS 10 (strL s) = r10) := hr10.symm
  clear hr10
  obtain ⟨r16, hr16⟩ : ∃ r, r = rdS 16 (strL s) := ⟨_, rfl⟩
  have H16 : Hid (rdS 16 (strL s) = r16) := hr16.symm
  clear hr16
  have WW := Below.refl w.heap.size w
  go_enter Try.func4, Try.ntmps4
  go_wp2_with fail
  obtain ⟨V0, hV⟩ : ∃ V, V = w := ⟨_, rfl⟩
  rw [← hV]
  replace WW : Below w.heap.size w V0 := by rw [hV]; exact WW
  clear hV
  have hbs : w.heap.size ≤ V0.heap.size := WW.size
  have hc := awake_any V0
  refine hc.mono ?_
  clear hc
  rintro e V1 ⟨rfl, hb⟩
  replace WW := WW.trans (hb.mono WW.size)
  clear hb hbs
  by_cases h : 1100 < s.size
  · have l1 : decide (((s.size : Nat) : Int) > 1100) = true := by simp; omega
    go_wp2_with fail
    go_ret
    exact ⟨rfl, WW⟩
  · have l1 : decide (((s.size : Nat) : Int) > 1100) = false := by simp; omega
    go_wp2_with fail
    have hbs : w.heap.size ≤ V1.heap.size := WW.size
    have hc := parse_any s V1 hs
    rw [H10.out] at hc
    refine hc.mono ?_
    clear hc
    rintro e V2 ⟨v, rfl, hv, hb⟩
    replace WW := WW.trans (hb.mono WW.size)
    obtain ⟨D1, d1, rfl, ho⟩ := hv
    have O1 := ho.weak (b := w.heap.size) hbs
    clear ho
    clear hb hbs
    go_wp2_with fail
    obtain ⟨b0, bw⟩ := boxes1 V2 (.slice D1 (nw r10.1) d1)
    have hbs := WW.size
    have XA := VB.mk (B := w.heap.size) (a := r10.1) b0 (.inr O1) bw hbs (by omega)
    replace O1 := O1.below bw (Nat.le_refl _)
    replace WW := WW.trans (bw.mono WW.size)
    clear bw hbs b0
    generalize hV : (V2.alloc (.cells #[.slice D1 (nw r10.1) d1] 24)) = V3 at XA O1 WW ⊢
    clear hV
    have kXA := XA.cell
    have zXA := XA.lt
    have hbs : w.heap.size ≤ V3.heap.size := WW.size
    have hc := (show Calls Try.prog 16 #[.string s, .int .u64 10] V3 (RetTwo V3.heap.size (rdS 10 (strL s)).1 (rdS 10 (strL s)).2 V3) from rparse_any s 10 V3 hs (by decide))
    rw [H10.out] at hc
    refine hc.mono ?_
    clear hc
    rintro e V4 ⟨v, rfl, hv, hb⟩
    clear kXA zXA
    replace XA := XA.below hb
    replace O1 := O1.below hb (Nat.le_refl _)
    replace WW := WW.trans (hb.mono WW.size)
    obtain ⟨D2, d2, rfl, ho⟩ := hv
    have O2 := ho.weak (b := w.heap.size) hbs
    clear ho
    have kXA := XA.cell
    have zXA := XA.lt
    clear hb hbs
    go_wp2_with fail
    obtain ⟨b0, bw⟩ := boxes1 V4 (.slice D2 (nw r10.1) d2)
    have hbs := WW.size
    clear kXA zXA
    have qXA5 := XA.lt
    have XB := VB.mk (B := w.heap.size) (a := r10.1) b0 (.inr O2) bw hbs (by omega)
    replace XA := XA.below bw
    replace O1 := O1.below bw (Nat.le_refl _)
    replace O2 := O2.below bw (Nat.le_refl _)
    replace WW := WW.trans (bw.mono WW.size)
    clear bw hbs b0
    generalize hV : (V4.alloc (.cells #[.slice D2 (nw r10.1) d2] 24)) = V5 at XA XB O1 O2 WW ⊢
    clear hV
    have kXA := XA.cell
    have zXA := XA.lt
    have kXB := XB.cell
    have zXB := XB.lt
    have hbs : w.heap.size ≤ V5.heap.size := WW.size
    have hc := parsehex_any s V5 hs
    rw [H16.out] at hc
    refine hc.mono ?_
    clear hc
    rintro e V6 ⟨v, rfl, hv, hb⟩
    clear kXA zXA kXB zXB
    replace XA := XA.below hb
    replace XB := XB.below hb
    replace O1 := O1.below hb (Nat.le_refl _)
    replace O2 := O2.below hb (Nat.le_refl _)
    replace WW := WW.trans (hb.mono WW.size)
    obtain ⟨D3, d3, rfl, ho⟩ := hv
    have O3 := ho.weak (b := w.heap.size) hbs
    clear ho
    have kXA := XA.cell
    have zXA := XA.lt
    have kXB := XB.cell
    have zXB := XB.lt
    clear hb hbs
    go_wp2_with fail
    obtain ⟨b0, bw⟩ := boxes1 V6 (.slice D3 (nw r16.1) d3)
    have hbs := WW.size
    clear kXA zXA kXB zXB
    have qXA7 := XA.lt
    have qXB7 := XB.lt
    have XC := VB.mk (B := w.heap.size) (a := r16.1) b0 (.inr O3) bw hbs (by omega)
    replace XA := XA.below bw
    replace XB := XB.below bw
    replace O1 := O1.below bw (Nat.le_refl _)
    replace O2 := O2.below bw (Nat.le_refl _)
    replace O3 := O3.below bw (Nat.le_refl _)
    replace WW := WW.trans (bw.mono WW.size)
    clear bw hbs b0
    generalize hV : (V6.alloc (.cells #[.slice D3 (nw r16.1) d3] 24)) = V7 at XA XB XC O1 O2 O3 WW ⊢
    clear hV
    have kXA := XA.cell
    have zXA := XA.lt
    have kXB := XB.cell
    have zXB := XB.lt
    have kXC := XC.cell
    have zXC := XC.lt
    have hbs : w.heap.size ≤ V7.heap.size := WW.size
    have hc := (show Calls Try.prog 16 #[.string s, .int .u64 16] V7 (RetTwo V7.heap.size (rdS 16 (strL s)).1 (rdS 16 (strL s)).2 V7) from rparse_any s 16 V7 hs (by decide))
    rw [H16.out] at hc
    refine hc.mono ?_
    clear hc
    rintro e V8 ⟨v, rfl, hv, hb⟩
    clear kXA zXA kXB zXB kXC zXC
    replace XA := XA.below hb
    replace XB := XB.below hb
    replace XC := XC.below hb
    replace O1 := O1.below hb (Nat.le_refl _)
    replace O2 := O2.below hb (Nat.le_refl _)
    replace O3 := O3.below hb (Nat.le_refl _)
    replace WW := WW.trans (hb.mono WW.size)
    obtain ⟨D4, d4, rfl, ho⟩ := hv
    have O4 := ho.weak (b := w.heap.size) hbs
    clear ho
    have kXA := XA.cell
    have zXA := XA.lt
    have kXB := XB.cell
    have zXB := XB.lt
    have kXC := XC.cell
    have zXC := XC.lt
    clear hb hbs
    go_wp2_with fail
    obtain ⟨b0, bw⟩ := boxes1 V8 (.slice D4 (nw r16.1) d4)
    have hbs := WW.size
    clear kXA zXA kXB zXB kXC zXC
    have qXA9 := XA.lt
    have qXB9 := XB.lt
    have qXC9 := XC.lt
    have XD := VB.mk (B := w.heap.size) (a := r16.1) b0 (.inr O4) bw hbs (by omega)
    replace XA := XA.below bw
    replace XB := XB.below bw
    replace XC := XC.below bw
    replace O1 := O1.below bw (Nat.le_refl _)
    replace O2 := O2.below bw (Nat.le_refl _)
    replace O3 := O3.below bw (Nat.le_refl _)
    replace O4 := O4.below bw (Nat.le_refl _)
    replace WW := WW.trans (bw.mono WW.size)
    clear bw hbs b0
    generalize hV : (V8.alloc (.cells #[.slice D4 (nw r16.1) d4] 24)) = V9 at XA XB XC XD O1 O2 O3 O4 WW ⊢
    clear hV
    have kXA := XA.cell
    have zXA := XA.lt
    have kXB := XB.cell
    have zXB := XB.lt
    have kXC := XC.cell
    have zXC := XC.lt
    have kXD := XD.cell
    have zXD := XD.lt
    have hbs : w.heap.size ≤ V9.heap.size := WW.size
    have hc := same_any D1 D2 _ _ d1 d2 r10.1 r10.1 V9 XA.num XB.num O1.nle O2.nle
    rw [sameB_yes rfl rfl] at hc
    refine hc.mono ?_
    clear hc
    rintro e V10 ⟨rfl, hb⟩
    clear kXA zXA kXB zXB kXC zXC kXD zXD
    replace XA := XA.below hb
    replace XB := XB.below hb
    replace XC := XC.below hb
    replace XD := XD.below hb
    replace O1 := O1.below hb (Nat.le_refl _)
    replace O2 := O2.below hb (Nat.le_refl _)
    replace O3 := O3.below hb (Nat.le_refl _)
    replace O4 := O4.below hb (Nat.le_refl _)
    replace WW := WW.trans (hb.mono WW.size)
    have kXA := XA.cell
    have zXA := XA.lt
    have kXB := XB.cell
    have zXB := XB.lt
    have kXC := XC.cell
    have zXC := XC.lt
    have kXD := XD.cell
    have zXD := XD.lt
    clear hb hbs
    go_wp2_with fail
    have hbs : w.heap.size ≤ V10.heap.size := WW.size
    have hc := same_any D3 D4 _ _ d3 d4 r16.1 r16.1 V10 XC.num XD.num O3.nle O4.nle
    rw [sameB_yes rfl rfl] at hc
    refine hc.mono ?_
    clear hc
    rintro e V11 ⟨rfl, hb⟩
    clear kXA zXA kXB zXB kXC zXC kXD zXD
    replace XA := XA.below hb
    replace XB := XB.below hb
    replace XC := XC.below hb
    replace XD := XD.below hb
    replace O1 := O1.below hb (Nat.le_refl _)
    replace O2 := O2.below hb (Nat.le_refl _)
    replace O3 := O3.below hb (Nat.le_refl _)
    replace O4 := O4.below hb (Nat.le_refl _)
    replace WW := WW.trans (hb.mono WW.size)
    have kXA := XA.cell
    have zXA := XA.lt
    have kXB := XB.cell
    have zXB := XB.lt
    have kXC := XC.cell
    have zXC := XC.lt
    have kXD := XD.cell
    have zXD := XD.lt
    clear hb hbs
    go_wp2_with fail
    go_ret
    exact ⟨rfl, WW⟩

end Go.Proofs.Ytohiimpjcgcaiaa
