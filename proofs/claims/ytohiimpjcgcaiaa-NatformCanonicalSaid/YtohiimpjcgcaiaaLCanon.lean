/- NatformCanonical: the walk. -/
import Derived.Test.YtohiimpjcgcaiaaCanon
set_option linter.unusedVariables false
set_option linter.unusedSimpArgs false
namespace Go.Proofs.Ytohiimpjcgcaiaa
open Go.RowKit

set_option maxHeartbeats 4000000 in
set_option maxRecDepth 100000 in
theorem natformCanonical_walk (s t : ByteArray) (w : World) (hs : s.size ≤ 9223372036854775807) (ht : t.size ≤ 9223372036854775807) :
    Calls Try.prog 7 #[.string s, .string t] w (RetB (.bool true) w) := by
  obtain ⟨r1, hr1⟩ : ∃ r, r = rdS 10 (strL s) := ⟨_, rfl⟩
  have H1 : Hid (rdS 10 (strL s) = r1) := hr1.symm
  clear hr1
  obtain ⟨r2, hr2⟩ : ∃ r, r = rdS 16 (strL s) := ⟨_, rfl⟩
  have H2 : Hid (rdS 16 (strL s) = r2) := hr2.symm
  clear hr2
  obtain ⟨r3, hr3⟩ : ∃ r, r = rdS 10 (strL t) := ⟨_, rfl⟩
  have H3 : Hid (rdS 10 (strL t) = r3) := hr3.symm
  clear hr3
  have WW := Below.refl w.heap.size w
  go_enter Try.func7, Try.ntmps7
  go_wp2_with fail
  obtain ⟨V0, hV⟩ : ∃ V, V = w := ⟨_, rfl⟩
  rw [← hV]
  replace WW : Below w.heap.size w V0 := by rw [hV]; exact WW
  clear hV
  have hbs : w.heap.size ≤ V0.heap.size := WW.size
  have hc := awake_any V0
  refine hc.mono ?_
  clear hc
  rintro e V1 ⟨rfl, hb⟩
  replace WW := WW.trans (hb.mono WW.size)
  clear hb hbs
  by_cases h : 700 < s.size
  · have l1 : decide (((s.size : Nat) : Int) > 700) = true := by simp; omega
    go_wp2_with fail
    go_ret
    exact ⟨rfl, WW⟩
  · have l1 : decide (((s.size : Nat) : Int) > 700) = false := by simp; omega
    by_cases h' : 700 < t.size
    · have l2 : decide (((t.size : Nat) : Int) > 700) = true := by simp; omega
      go_wp2_with fail
      go_ret
      exact ⟨rfl, WW⟩
    · have l2 : decide (((t.size : Nat) : Int) > 700) = false := by simp; omega
      go_wp2_with fail
      by_cases h1 : r1.2 = 0
      · have he1 : (r1.2 == 0) = true := by simpa using h1
        have hn1 : (r1.2 != 0) = false := by simpa using h1
        have E1 : Hid (rdS 10 (strL s) = (r1.1, 0)) := (show _ = _ by rw [H1.out, ← h1])
        have Z1 := hid h1
        clear h1
        have hbs : w.heap.size ≤ V1.heap.size := WW.size
        have hc := parse_any s V1 hs
        rw [H1.out] at hc
        refine hc.mono ?_
        clear hc
        rintro e V2 ⟨v, rfl, hv, hb⟩
        replace WW := WW.trans (hb.mono WW.size)
        obtain ⟨D1, d1, rfl, ho⟩ := hv
        have O1 := ho.weak (b := w.heap.size) hbs
        clear ho
        clear hb hbs
        go_wp2_with fail
        obtain ⟨b0, bw⟩ := boxes1 V2 (.slice D1 (nw r1.1) d1)
        have hbs := WW.size
        have XA := VB.mk (B := w.heap.size) (a := r1.1) b0 (.inr O1) bw hbs (by omega)
        replace O1 := O1.below bw (Nat.le_refl _)
        replace WW := WW.trans (bw.mono WW.size)
        clear bw hbs b0
        generalize hV : (V2.alloc (.cells #[.slice D1 (nw r1.1) d1] 24)) = V3 at XA O1 WW ⊢
        clear hV
        have kXA := XA.cell
        have zXA := XA.lt
        have hbs : w.heap.size ≤ V3.heap.size := WW.size
        have hc := text_any D1 (nw r1.1) d1 r1.1 V3 XA.num O1.nle
        rw [text_back (by decide) (by decide) E1.out] at hc
        refine hc.mono ?_
        clear hc
        rintro e V4 ⟨rfl, hb⟩
        clear kXA zXA
        replace XA := XA.below hb
        replace O1 := O1.below hb (Nat.le_refl _)
        replace WW := WW.trans (hb.mono WW.size)
        have kXA := XA.cell
        have zXA := XA.lt
        clear hb hbs
        go_wp2_with fail
        by_cases h2 : r2.2 = 0
        · have he2 : (r2.2 == 0) = true := by simpa using h2
          have hn2 : (r2.2 != 0) = false := by simpa using h2
          have E2 : Hid (rdS 16 (strL s) = (r2.1, 0)) := (show _ = _ by rw [H2.out, ← h2])
          have Z2 := hid h2
          clear h2
          have hbs : w.heap.size ≤ V4.heap.size := WW.size
          have hc := parsehex_any s V4 hs
          rw [H2.out] at hc
          refine hc.mono ?_
          clear hc
          rintro e V5 ⟨v, rfl, hv, hb⟩
          clear kXA zXA
          replace XA := XA.below hb
          replace O1 := O1.below hb (Nat.le_refl _)
          replace WW := WW.trans (hb.mono WW.size)
          obtain ⟨D2, d2, rfl, ho⟩ := hv
          have O2 := ho.weak (b := w.heap.size) hbs
          clear ho
          have kXA := XA.cell
          have zXA := XA.lt
          clear hb hbs
          go_wp2_with fail
          obtain ⟨b0, bw⟩ := boxes1 V5 (.slice D2 (nw r2.1) d2)
          have hbs := WW.size
          clear kXA zXA
          have qXA6 := XA.lt
          have XB := VB.mk (B := w.heap.size) (a := r2.1) b0 (.inr O2) bw hbs (by omega)
          replace XA := XA.below bw
          replace O1 := O1.below bw (Nat.le_refl _)
          replace O2 := O2.below bw (Nat.le_refl _)
          replace WW := WW.trans (bw.mono WW.size)
          clear bw hbs b0
          generalize hV : (V5.alloc (.cells #[.slice D2 (nw r2.1) d2] 24)) = V6 at XA XB O1 O2 WW ⊢
          clear hV
          have kXA := XA.cell
          have zXA := XA.lt
          have kXB := XB.cell
          have zXB := XB.lt
          have hbs : w.heap.size ≤ V6.heap.size := WW.size
          have hc := hex_any D2 (nw r2.1) d2 r2.1 V6 XB.num O2.nle
          rw [text_back (by decide) (by decide) E2.out] at hc
          refine hc.mono ?_
          clear hc
          rintro e V7 ⟨rfl, hb⟩
          clear kXA zXA kXB zXB
          replace XA := XA.below hb
          replace XB := XB.below hb
          replace O1 := O1.below hb (Nat.le_refl _)
          replace O2 := O2.below hb (Nat.le_refl _)
          replace WW := WW.trans (hb.mono WW.size)
          have kXA := XA.cell
          have zXA := XA.lt
          have kXB := XB.cell
          have zXB := XB.lt
          clear hb hbs
          go_wp2_with fail
          by_cases h3 : r3.2 = 0
          · have he3 : (r3.2 == 0) = true := by simpa using h3
            have hn3 : (r3.2 != 0) = false := by simpa using h3
            have E3 : Hid (rdS 10 (strL t) = (r3.1, 0)) := (show _ = _ by rw [H3.out, ← h3])
            have Z3 := hid h3
            clear h3
            by_cases h4 : s.size < t.size
            · have l4 : decide (((s.size : Nat) : Int) ≥ ((t.size : Nat) : Int)) = false := by simp; omega
              have l4' : decide (t.size ≤ s.size) = false := by simp; omega
              have hlt := len_lt E1.out E3.out h4
              have l5 : decide (nw r1.1 ≤ nw r3.1) = true := by have := nw_mono (Nat.le_of_lt hlt); simp; omega
              have hne : ¬ (nw r1.1 = nw r3.1 ∧ r1.1 = r3.1) := fun h => by have := h.2; omega
              clear hlt
              have hbs : w.heap.size ≤ V7.heap.size := WW.size
              have hc := parse_any t V7 ht
              rw [H3.out] at hc
              refine hc.mono ?_
              clear hc
              rintro e V8 ⟨v, rfl, hv, hb⟩
              clear kXA zXA kXB zXB
              replace XA := XA.below hb
              replace XB := XB.below hb
              replace O1 := O1.below hb (Nat.le_refl _)
              replace O2 := O2.below hb (Nat.le_refl _)
              replace WW := WW.trans (hb.mono WW.size)
              obtain ⟨D3, d3, rfl, ho⟩ := hv
              have O3 := ho.weak (b := w.heap.size) hbs
              clear ho
              have kXA := XA.cell
              have zXA := XA.lt
              have kXB := XB.cell
              have zXB := XB.lt
              clear hb hbs
              go_wp2_with fail
              obtain ⟨b0, bw⟩ := boxes1 V8 (.slice D3 (nw r3.1) d3)
              have hbs := WW.size
              clear kXA zXA kXB zXB
              have qXA9 := XA.lt
              have qXB9 := XB.lt
              have XC := VB.mk (B := w.heap.size) (a := r3.1) b0 (.inr O3) bw hbs (by omega)
              replace XA := XA.below bw
              replace XB := XB.below bw
              replace O1 := O1.below bw (Nat.le_refl _)
              replace O2 := O2.below bw (Nat.le_refl _)
              replace O3 := O3.below bw (Nat.le_refl _)
              replace WW := WW.trans (bw.mono WW.size)
              clear bw hbs b0
              generalize hV : (V8.alloc (.cells #[.slice D3 (nw r3.1) d3] 24)) = V9 at XA XB XC O1 O2 O3 WW ⊢
              clear hV
              have kXA := XA.cell
              have zXA := XA.lt
              have kXB := XB.cell
              have zXB := XB.lt
              have kXC := XC.cell
              have zXC := XC.lt
              have hbs : w.heap.size ≤ V9.heap.size := WW.size
              have hc := same_any D1 D3 _ _ d1 d3 r1.1 r3.1 V9 XA.num XC.num O1.nle O3.nle
              rw [sameB_no hne] at hc
              refine hc.mono ?_
              clear hc
              rintro e V10 ⟨rfl, hb⟩
              clear kXA zXA kXB zXB kXC zXC
              replace XA := XA.below hb
              replace XB := XB.below hb
              replace XC := XC.below hb
              replace O1 := O1.below hb (Nat.le_refl _)
              replace O2 := O2.below hb (Nat.le_refl _)
              replace O3 := O3.below hb (Nat.le_refl _)
              replace WW := WW.trans (hb.mono WW.size)
              have kXA := XA.cell
              have zXA := XA.lt
              have kXB := XB.cell
              have zXB := XB.lt
              have kXC := XC.cell
              have zXC := XC.lt
              clear hb hbs
              go_wp2_with fail
              go_ret
              exact ⟨rfl, WW⟩
            · have l4 : decide (((s.size : Nat) : Int) ≥ ((t.size : Nat) : Int)) = true := by simp; omega
              have l4' : decide (t.size ≤ s.size) = true := by simp; omega
              have hbs : w.heap.size ≤ V7.heap.size := WW.size
              have hc := parse_any t V7 ht
              rw [H3.out] at hc
              refine hc.mono ?_
              clear hc
              rintro e V8 ⟨v, rfl, hv, hb⟩
              clear kXA zXA kXB zXB
              replace XA := XA.below hb
              replace XB := XB.below hb
              replace O1 := O1.below hb (Nat.le_refl _)
              replace O2 := O2.below hb (Nat.le_refl _)
              replace WW := WW.trans (hb.mono WW.size)
              obtain ⟨D3, d3, rfl, ho⟩ := hv
              have O3 := ho.weak (b := w.heap.size) hbs
              clear ho
              have kXA := XA.cell
              have zXA := XA.lt
              have kXB := XB.cell
              have zXB := XB.lt
              clear hb hbs
              go_wp2_with fail
              obtain ⟨b0, bw⟩ := boxes1 V8 (.slice D3 (nw r3.1) d3)
              have hbs := WW.size
              clear kXA zXA kXB zXB
              have qXA9 := XA.lt
              have qXB9 := XB.lt
              have XC := VB.mk (B := w.heap.size) (a := r3.1) b0 (.inr O3) bw hbs (by omega)
              replace XA := XA.below bw
              replace XB := XB.below bw
              replace O1 := O1.below bw (Nat.le_refl _)
              replace O2 := O2.below bw (Nat.le_refl _)
              replace O3 := O3.below bw (Nat.le_refl _)
              replace WW := WW.trans (bw.mono WW.size)
              clear bw hbs b0
              generalize hV : (V8.alloc (.cells #[.slice D3 (nw r3.1) d3] 24)) = V9 at XA XB XC O1 O2 O3 WW ⊢
              clear hV
              have kXA := XA.cell
              have zXA := XA.lt
              have kXB := XB.cell
              have zXB := XB.lt
              have kXC := XC.cell
              have zXC := XC.lt
              go_ret
              exact ⟨rfl, WW⟩
          · have he3 : (r3.2 == 0) = false := by simpa using h3
            have hn3 : (r3.2 != 0) = true := by simpa using h3
            have Z3 := hid h3
            clear h3
            have hbs : w.heap.size ≤ V7.heap.size := WW.size
            have hc := parse_any t V7 ht
            rw [H3.out] at hc
            refine hc.mono ?_
            clear hc
            rintro e V8 ⟨v, rfl, hv, hb⟩
            clear kXA zXA kXB zXB
            replace XA := XA.below hb
            replace XB := XB.below hb
            replace O1 := O1.below hb (Nat.le_refl _)
            replace O2 := O2.below hb (Nat.le_refl _)
            replace WW := WW.trans (hb.mono WW.size)
            obtain ⟨D3, d3, rfl, ho⟩ := hv
            have O3 := ho.weak (b := w.heap.size) hbs
            clear ho
            have kXA := XA.cell
            have zXA := XA.lt
            have kXB := XB.cell
            have zXB := XB.lt
            clear hb hbs
            go_wp2_with fail
            obtain ⟨b0, bw⟩ := boxes1 V8 (.slice D3 (nw r3.1) d3)
            have hbs := WW.size
            clear kXA zXA kXB zXB
            have qXA9 := XA.lt
            have qXB9 := XB.lt
            have XC := VB.mk (B := w.heap.size) (a := r3.1) b0 (.inr O3) bw hbs (by omega)
            replace XA := XA.below bw
            replace XB := XB.below bw
            replace O1 := O1.below bw (Nat.le_refl _)
            replace O2 := O2.below bw (Nat.le_refl _)
            replace O3 := O3.below bw (Nat.le_refl _)
            replace WW := WW.trans (bw.mono WW.size)
            clear bw hbs b0
            generalize hV : (V8.alloc (.cells #[.slice D3 (nw r3.1) d3] 24)) = V9 at XA XB XC O1 O2 O3 WW ⊢
            clear hV
            have kXA := XA.cell
            have zXA := XA.lt
            have kXB := XB.cell
            have zXB := XB.lt
            have kXC := XC.cell
            have zXC := XC.lt
            go_ret
            exact ⟨rfl, WW⟩
        · have he2 : (r2.2 == 0) = false := by simpa using h2
          have hn2 : (r2.2 != 0) = true := by simpa using h2
          have Z2 := hid h2
          clear h2
          have hbs : w.heap.size ≤ V4.heap.size := WW.size
          have hc := parsehex_any s V4 hs
          rw [H2.out] at hc
          refine hc.mono ?_
          clear hc
          rintro e V5 ⟨v, rfl, hv, hb⟩
          clear kXA zXA
          replace XA := XA.below hb
          replace O1 := O1.below hb (Nat.le_refl _)
          replace WW := WW.trans (hb.mono WW.size)
          obtain ⟨D2, d2, rfl, ho⟩ := hv
          have O2 := ho.weak (b := w.heap.size) hbs
          clear ho
          have kXA := XA.cell
          have zXA := XA.lt
          clear hb hbs
          go_wp2_with fail
          obtain ⟨b0, bw⟩ := boxes1 V5 (.slice D2 (nw r2.1) d2)
          have hbs := WW.size
          clear kXA zXA
          have qXA6 := XA.lt
          have XB := VB.mk (B := w.heap.size) (a := r2.1) b0 (.inr O2) bw hbs (by omega)
          replace XA := XA.below bw
          replace O1 := O1.below bw (Nat.le_refl _)
          replace O2 := O2.below bw (Nat.le_refl _)
          replace WW := WW.trans (bw.mono WW.size)
          clear bw hbs b0
          generalize hV : (V5.alloc (.cells #[.slice D2 (nw r2.1) d2] 24)) = V6 at XA XB O1 O2 WW ⊢
          clear hV
          have kXA := XA.cell
          have zXA := XA.lt
          have kXB := XB.cell
          have zXB := XB.lt
          by_cases h3 : r3.2 = 0
          · have he3 : (r3.2 == 0) = true := by simpa using h3
            have hn3 : (r3.2 != 0) = false := by simpa using h3
            have E3 : Hid (rdS 10 (strL t) = (r3.1, 0)) := (show _ = _ by rw [H3.out, ← h3])
            have Z3 := hid h3
            clear h3
            by_cases h4 : s.size < t.size
            · have l4 : decide (((s.size : Nat) : Int) ≥ ((t.size : Nat) : Int)) = false := by simp; omega
              have l4' : decide (t.size ≤ s.size) = false := by simp; omega
              have hlt := len_lt E1.out E3.out h4
              have l5 : decide (nw r1.1 ≤ nw r3.1) = true := by have := nw_mono (Nat.le_of_lt hlt); simp; omega
              have hne : ¬ (nw r1.1 = nw r3.1 ∧ r1.1 = r3.1) := fun h => by have := h.2; omega
              clear hlt
              have hbs : w.heap.size ≤ V6.heap.size := WW.size
              have hc := parse_any t V6 ht
              rw [H3.out] at hc
              refine hc.mono ?_
              clear hc
              rintro e V7 ⟨v, rfl, hv, hb⟩
              clear kXA zXA kXB zXB
              replace XA := XA.below hb
              replace XB := XB.below hb
              replace O1 := O1.below hb (Nat.le_refl _)
              replace O2 := O2.below hb (Nat.le_refl _)
              replace WW := WW.trans (hb.mono WW.size)
              obtain ⟨D3, d3, rfl, ho⟩ := hv
              have O3 := ho.weak (b := w.heap.size) hbs
              clear ho
              have kXA := XA.cell
              have zXA := XA.lt
              have kXB := XB.cell
              have zXB := XB.lt
              clear hb hbs
              go_wp2_with fail
              obtain ⟨b0, bw⟩ := boxes1 V7 (.slice D3 (nw r3.1) d3)
              have hbs := WW.size
              clear kXA zXA kXB zXB
              have qXA8 := XA.lt
              have qXB8 := XB.lt
              have XC := VB.mk (B := w.heap.size) (a := r3.1) b0 (.inr O3) bw hbs (by omega)
              replace XA := XA.below bw
              replace XB := XB.below bw
              replace O1 := O1.below bw (Nat.le_refl _)
              replace O2 := O2.below bw (Nat.le_refl _)
              replace O3 := O3.below bw (Nat.le_refl _)
              replace WW := WW.trans (bw.mono WW.size)
              clear bw hbs b0
              generalize hV : (V7.alloc (.cells #[.slice D3 (nw r3.1) d3] 24)) = V8 at XA XB XC O1 O2 O3 WW ⊢
              clear hV
              have kXA := XA.cell
              have zXA := XA.lt
              have kXB := XB.cell
              have zXB := XB.lt
              have kXC := XC.cell
              have zXC := XC.lt
              have hbs : w.heap.size ≤ V8.heap.size := WW.size
              have hc := same_any D1 D3 _ _ d1 d3 r1.1 r3.1 V8 XA.num XC.num O1.nle O3.nle
              rw [sameB_no hne] at hc
              refine hc.mono ?_
              clear hc
              rintro e V9 ⟨rfl, hb⟩
              clear kXA zXA kXB zXB kXC zXC
              replace XA := XA.below hb
              replace XB := XB.below hb
              replace XC := XC.below hb
              replace O1 := O1.below hb (Nat.le_refl _)
              replace O2 := O2.below hb (Nat.le_refl _)
              replace O3 := O3.below hb (Nat.le_refl _)
              replace WW := WW.trans (hb.mono WW.size)
              have kXA := XA.cell
              have zXA := XA.lt
              have kXB := XB.cell
              have zXB := XB.lt
              have kXC := XC.cell
              have zXC := XC.lt
              clear hb hbs
              go_wp2_with fail
              go_ret
              exact ⟨rfl, WW⟩
            · have l4 : decide (((s.size : Nat) : Int) ≥ ((t.size : Nat) : Int)) = true := by simp; omega
              have l4' : decide (t.size ≤ s.size) = true := by simp; omega
              have hbs : w.heap.size ≤ V6.heap.size := WW.size
              have hc := parse_any t V6 ht
              rw [H3.out] at hc
              refine hc.mono ?_
              clear hc
              rintro e V7 ⟨v, rfl, hv, hb⟩
              clear kXA zXA kXB zXB
              replace XA := XA.below hb
              replace XB := XB.below hb
              replace O1 := O1.below hb (Nat.le_refl _)
              replace O2 := O2.below hb (Nat.le_refl _)
              replace WW := WW.trans (hb.mono WW.size)
              obtain ⟨D3, d3, rfl, ho⟩ := hv
              have O3 := ho.weak (b := w.heap.size) hbs
              clear ho
              have kXA := XA.cell
              have zXA := XA.lt
              have kXB := XB.cell
              have zXB := XB.lt
              clear hb hbs
              go_wp2_with fail
              obtain ⟨b0, bw⟩ := boxes1 V7 (.slice D3 (nw r3.1) d3)
              have hbs := WW.size
              clear kXA zXA kXB zXB
              have qXA8 := XA.lt
              have qXB8 := XB.lt
              have XC := VB.mk (B := w.heap.size) (a := r3.1) b0 (.inr O3) bw hbs (by omega)
              replace XA := XA.below bw
              replace XB := XB.below bw
              replace O1 := O1.below bw (Nat.le_refl _)
              replace O2 := O2.below bw (Nat.le_refl _)
              replace O3 := O3.below bw (Nat.le_refl _)
              replace WW := WW.trans (bw.mono WW.size)
              clear bw hbs b0
              generalize hV : (V7.alloc (.cells #[.slice D3 (nw r3.1) d3] 24)) = V8 at XA XB XC O1 O2 O3 WW ⊢
              clear hV
              have kXA := XA.cell
              have zXA := XA.lt
              have kXB := XB.cell
              have zXB := XB.lt
              have kXC := XC.cell
              have zXC := XC.lt
              go_ret
              exact ⟨rfl, WW⟩
          · have he3 : (r3.2 == 0) = false := by simpa using h3
            have hn3 : (r3.2 != 0) = true := by simpa using h3
            have Z3 := hid h3
            clear h3
            have hbs : w.heap.size ≤ V6.heap.size := WW.size
            have hc := parse_any t V6 ht
            rw [H3.out] at hc
            refine hc.mono ?_
            clear hc
            rintro e V7 ⟨v, rfl, hv, hb⟩
            clear kXA zXA kXB zXB
            replace XA := XA.below hb
            replace XB := XB.below hb
            replace O1 := O1.below hb (Nat.le_refl _)
            replace O2 := O2.below hb (Nat.le_refl _)
            replace WW := WW.trans (hb.mono WW.size)
            obtain ⟨D3, d3, rfl, ho⟩ := hv
            have O3 := ho.weak (b := w.heap.size) hbs
            clear ho
            have kXA := XA.cell
            have zXA := XA.lt
            have kXB := XB.cell
            have zXB := XB.lt
            clear hb hbs
            go_wp2_with fail
            obtain ⟨b0, bw⟩ := boxes1 V7 (.slice D3 (nw r3.1) d3)
            have hbs := WW.size
            clear kXA zXA kXB zXB
            have qXA8 := XA.lt
            have qXB8 := XB.lt
            have XC := VB.mk (B := w.heap.size) (a := r3.1) b0 (.inr O3) bw hbs (by omega)
            replace XA := XA.below bw
            replace XB := XB.below bw
            replace O1 := O1.below bw (Nat.le_refl _)
            replace O2 := O2.below bw (Nat.le_refl _)
            replace O3 := O3.below bw (Nat.le_refl _)
            replace WW := WW.trans (bw.mono WW.size)
            clear bw hbs b0
            generalize hV : (V7.alloc (.cells #[.slice D3 (nw r3.1) d3] 24)) = V8 at XA XB XC O1 O2 O3 WW ⊢
            clear hV
            have kXA := XA.cell
            have zXA := XA.lt
            have kXB := XB.cell
            have zXB := XB.lt
            have kXC := XC.cell
            have zXC := XC.lt
            go_ret
            exact ⟨rfl, WW⟩
      · have he1 : (r1.2 == 0) = false := by simpa using h1
        have hn1 : (r1.2 != 0) = true := by simpa using h1
        have Z1 := hid h1
        clear h1
        have hbs : w.heap.size ≤ V1.heap.size := WW.size
        have hc := parse_any s V1 hs
        rw [H1.out] at hc
        refine hc.mono ?_
        clear hc
        rintro e V2 ⟨v, rfl, hv, hb⟩
        replace WW := WW.trans (hb.mono WW.size)
        obtain ⟨D1, d1, rfl, ho⟩ := hv
        have O1 := ho.weak (b := w.heap.size) hbs
        clear ho
        clear hb hbs
        go_wp2_with fail
        obtain ⟨b0, bw⟩ := boxes1 V2 (.slice D1 (nw r1.1) d1)
        have hbs := WW.size
        have XA := VB.mk (B := w.heap.size) (a := r1.1) b0 (.inr O1) bw hbs (by omega)
        replace O1 := O1.below bw (Nat.le_refl _)
        replace WW := WW.trans (bw.mono WW.size)
        clear bw hbs b0
        generalize hV : (V2.alloc (.cells #[.slice D1 (nw r1.1) d1] 24)) = V3 at XA O1 WW ⊢
        clear hV
        have kXA := XA.cell
        have zXA := XA.lt
        by_cases h2 : r2.2 = 0
        · have he2 : (r2.2 == 0) = true := by simpa using h2
          have hn2 : (r2.2 != 0) = false := by simpa using h2
          have E2 : Hid (rdS 16 (strL s) = (r2.1, 0)) := (show _ = _ by rw [H2.out, ← h2])
          have Z2 := hid h2
          clear h2
          have hbs : w.heap.size ≤ V3.heap.size := WW.size
          have hc := parsehex_any s V3 hs
          rw [H2.out] at hc
          refine hc.mono ?_
          clear hc
          rintro e V4 ⟨v, rfl, hv, hb⟩
          clear kXA zXA
          replace XA := XA.below hb
          replace O1 := O1.below hb (Nat.le_refl _)
          replace WW := WW.trans (hb.mono WW.size)
          obtain ⟨D2, d2, rfl, ho⟩ := hv
          have O2 := ho.weak (b := w.heap.size) hbs
          clear ho
          have kXA := XA.cell
          have zXA := XA.lt
          clear hb hbs
          go_wp2_with fail
          obtain ⟨b0, bw⟩ := boxes1 V4 (.slice D2 (nw r2.1) d2)
          have hbs := WW.size
          clear kXA zXA
          have qXA5 := XA.lt
          have XB := VB.mk (B := w.heap.size) (a := r2.1) b0 (.inr O2) bw hbs (by omega)
          replace XA := XA.below bw
          replace O1 := O1.below bw (Nat.le_refl _)
          replace O2 := O2.below bw (Nat.le_refl _)
          replace WW := WW.trans (bw.mono WW.size)
          clear bw hbs b0
          generalize hV : (V4.alloc (.cells #[.slice D2 (nw r2.1) d2] 24)) = V5 at XA XB O1 O2 WW ⊢
          clear hV
          have kXA := XA.cell
          have zXA := XA.lt
          have kXB := XB.cell
          have zXB := XB.lt
          have hbs : w.heap.size ≤ V5.heap.size := WW.size
          have hc := hex_any D2 (nw r2.1) d2 r2.1 V5 XB.num O2.nle
          rw [text_back (by decide) (by decide) E2.out] at hc
          refine hc.mono ?_
          clear hc
          rintro e V6 ⟨rfl, hb⟩
          clear kXA zXA kXB zXB
          replace XA := XA.below hb
          replace XB := XB.below hb
          replace O1 := O1.below hb (Nat.le_refl _)
          replace O2 := O2.below hb (Nat.le_refl _)
          replace WW := WW.trans (hb.mono WW.size)
          have kXA := XA.cell
          have zXA := XA.lt
          have kXB := XB.cell
          have zXB := XB.lt
          clear hb hbs
          go_wp2_with fail
          by_cases h3 : r3.2 = 0
          · have he3 : (r3.2 == 0) = true := by simpa using h3
            have hn3 : (r3.2 != 0) = false := by simpa using h3
            have E3 : Hid (rdS 10 (strL t) = (r3.1, 0)) := (show _ = _ by rw [H3.out, ← h3])
            have Z3 := hid h3
            clear h3
            have hbs : w.heap.size ≤ V6.heap.size := WW.size
            have hc := parse_any t V6 ht
            rw [H3.out] at hc
            refine hc.mono ?_
            clear hc
            rintro e V7 ⟨v, rfl, hv, hb⟩
            clear kXA zXA kXB zXB
            replace XA := XA.below hb
            replace XB := XB.below hb
            replace O1 := O1.below hb (Nat.le_refl _)
            replace O2 := O2.below hb (Nat.le_refl _)
            replace WW := WW.trans (hb.mono WW.size)
            obtain ⟨D3, d3, rfl, ho⟩ := hv
            have O3 := ho.weak (b := w.heap.size) hbs
            clear ho
            have kXA := XA.cell
            have zXA := XA.lt
            have kXB := XB.cell
            have zXB := XB.lt
            clear hb hbs
            go_wp2_with fail
            obtain ⟨b0, bw⟩ := boxes1 V7 (.slice D3 (nw r3.1) d3)
            have hbs := WW.size
            clear kXA zXA kXB zXB
            have qXA8 := XA.lt
            have qXB8 := XB.lt
            have XC := VB.mk (B := w.heap.size) (a := r3.1) b0 (.inr O3) bw hbs (by omega)
            replace XA := XA.below bw
            replace XB := XB.below bw
            replace O1 := O1.below bw (Nat.le_refl _)
            replace O2 := O2.below bw (Nat.le_refl _)
            replace O3 := O3.below bw (Nat.le_refl _)
            replace WW := WW.trans (bw.mono WW.size)
            clear bw hbs b0
            generalize hV : (V7.alloc (.cells #[.slice D3 (nw r3.1) d3] 24)) = V8 at XA XB XC O1 O2 O3 WW ⊢
            clear hV
            have kXA := XA.cell
            have zXA := XA.lt
            have kXB := XB.cell
            have zXB := XB.lt
            have kXC := XC.cell
            have zXC := XC.lt
            go_ret
            exact ⟨rfl, WW⟩
          · have he3 : (r3.2 == 0) = false := by simpa using h3
            have hn3 : (r3.2 != 0) = true := by simpa using h3
            have Z3 := hid h3
            clear h3
            have hbs : w.heap.size ≤ V6.heap.size := WW.size
            have hc := parse_any t V6 ht
            rw [H3.out] at hc
            refine hc.mono ?_
            clear hc
            rintro e V7 ⟨v, rfl, hv, hb⟩
            clear kXA zXA kXB zXB
            replace XA := XA.below hb
            replace XB := XB.below hb
            replace O1 := O1.below hb (Nat.le_refl _)
            replace O2 := O2.below hb (Nat.le_refl _)
            replace WW := WW.trans (hb.mono WW.size)
            obtain ⟨D3, d3, rfl, ho⟩ := hv
            have O3 := ho.weak (b := w.heap.size) hbs
            clear ho
            have kXA := XA.cell
            have zXA := XA.lt
            have kXB := XB.cell
            have zXB := XB.lt
            clear hb hbs
            go_wp2_with fail
            obtain ⟨b0, bw⟩ := boxes1 V7 (.slice D3 (nw r3.1) d3)
            have hbs := WW.size
            clear kXA zXA kXB zXB
            have qXA8 := XA.lt
            have qXB8 := XB.lt
            have XC := VB.mk (B := w.heap.size) (a := r3.1) b0 (.inr O3) bw hbs (by omega)
            replace XA := XA.below bw
            replace XB := XB.below bw
            replace O1 := O1.below bw (Nat.le_refl _)
            replace O2 := O2.below bw (Nat.le_refl _)
            replace O3 := O3.below bw (Nat.le_refl _)
            replace WW := WW.trans (bw.mono WW.size)
            clear bw hbs b0
            generalize hV : (V7.alloc (.cells #[.slice D3 (nw r3.1) d3] 24)) = V8 at XA XB XC O1 O2 O3 WW ⊢
            clear hV
            have kXA := XA.cell
            have zXA := XA.lt
            have kXB := XB.cell
            have zXB := XB.lt
            have kXC := XC.cell
            have zXC := XC.lt
            go_ret
            exact ⟨rfl, WW⟩
        · have he2 : (r2.2 == 0) = false := by simpa using h2
          have hn2 : (r2.2 != 0) = true := by simpa using h2
          have Z2 := hid h2
          clear h2
          have hbs : w.heap.size ≤ V3.heap.size := WW.size
          have hc := parsehex_any s V3 hs
          rw [H2.out] at hc
          refine hc.mono ?_
          clear hc
          rintro e V4 ⟨v, rfl, hv, hb⟩
          clear kXA zXA
          replace XA := XA.below hb
          replace O1 := O1.below hb (Nat.le_refl _)
          replace WW := WW.trans (hb.mono WW.size)
          obtain ⟨D2, d2, rfl, ho⟩ := hv
          have O2 := ho.weak (b := w.heap.size) hbs
          clear ho
          have kXA := XA.cell
          have zXA := XA.lt
          clear hb hbs
          go_wp2_with fail
          obtain ⟨b0, bw⟩ := boxes1 V4 (.slice D2 (nw r2.1) d2)
          have hbs := WW.size
          clear kXA zXA
          have qXA5 := XA.lt
          have XB := VB.mk (B := w.heap.size) (a := r2.1) b0 (.inr O2) bw hbs (by omega)
          replace XA := XA.below bw
          replace O1 := O1.below bw (Nat.le_refl _)
          replace O2 := O2.below bw (Nat.le_refl _)
          replace WW := WW.trans (bw.mono WW.size)
          clear bw hbs b0
          generalize hV : (V4.alloc (.cells #[.slice D2 (nw r2.1) d2] 24)) = V5 at XA XB O1 O2 WW ⊢
          clear hV
          have kXA := XA.cell
          have zXA := XA.lt
          have kXB := XB.cell
          have zXB := XB.lt
          by_cases h3 : r3.2 = 0
          · have he3 : (r3.2 == 0) = true := by simpa using h3
            have hn3 : (r3.2 != 0) = false := by simpa using h3
            have E3 : Hid (rdS 10 (strL t) = (r3.1, 0)) := (show _ = _ by rw [H3.out, ← h3])
            have Z3 := hid h3
            clear h3
            have hbs : w.heap.size ≤ V5.heap.size := WW.size
            have hc := parse_any t V5 ht
            rw [H3.out] at hc
            refine hc.mono ?_
            clear hc
            rintro e V6 ⟨v, rfl, hv, hb⟩
            clear kXA zXA kXB zXB
            replace XA := XA.below hb
            replace XB := XB.below hb
            replace O1 := O1.below hb (Nat.le_refl _)
            replace O2 := O2.below hb (Nat.le_refl _)
            replace WW := WW.trans (hb.mono WW.size)
            obtain ⟨D3, d3, rfl, ho⟩ := hv
            have O3 := ho.weak (b := w.heap.size) hbs
            clear ho
            have kXA := XA.cell
            have zXA := XA.lt
            have kXB := XB.cell
            have zXB := XB.lt
            clear hb hbs
            go_wp2_with fail
            obtain ⟨b0, bw⟩ := boxes1 V6 (.slice D3 (nw r3.1) d3)
            have hbs := WW.size
            clear kXA zXA kXB zXB
            have qXA7 := XA.lt
            have qXB7 := XB.lt
            have XC := VB.mk (B := w.heap.size) (a := r3.1) b0 (.inr O3) bw hbs (by omega)
            replace XA := XA.below bw
            replace XB := XB.below bw
            replace O1 := O1.below bw (Nat.le_refl _)
            replace O2 := O2.below bw (Nat.le_refl _)
            replace O3 := O3.below bw (Nat.le_refl _)
            replace WW := WW.trans (bw.mono WW.size)
            clear bw hbs b0
            generalize hV : (V6.alloc (.cells #[.slice D3 (nw r3.1) d3] 24)) = V7 at XA XB XC O1 O2 O3 WW ⊢
            clear hV
            have kXA := XA.cell
            have zXA := XA.lt
            have kXB := XB.cell
            have zXB := XB.lt
            have kXC := XC.cell
            have zXC := XC.lt
            go_ret
            exact ⟨rfl, WW⟩
          · have he3 : (r3.2 == 0) = false := by simpa using h3
            have hn3 : (r3.2 != 0) = true := by simpa using h3
            have Z3 := hid h3
            clear h3
            have hbs : w.heap.size ≤ V5.heap.size := WW.size
            have hc := parse_any t V5 ht
            rw [H3.out] at hc
            refine hc.mono ?_
            clear hc
            rintro e V6 ⟨v, rfl, hv, hb⟩
            clear kXA zXA kXB zXB
            replace XA := XA.below hb
            replace XB := XB.below hb
            replace O1 := O1.below hb (Nat.le_refl _)
            replace O2 := O2.below hb (Nat.le_refl _)
            replace WW := WW.trans (hb.mono WW.size)
            obtain ⟨D3, d3, rfl, ho⟩ := hv
            have O3 := ho.weak (b := w.heap.size) hbs
            clear ho
            have kXA := XA.cell
            have zXA := XA.lt
            have kXB := XB.cell
            have zXB := XB.lt
            clear hb hbs
            go_wp2_with fail
            obtain ⟨b0, bw⟩ := boxes1 V6 (.slice D3 (nw r3.1) d3)
            have hbs := WW.size
            clear kXA zXA kXB zXB
            have qXA7 := XA.lt
            have qXB7 := XB.lt
            have XC := VB.mk (B := w.heap.size) (a := r3.1) b0 (.inr O3) bw hbs (by omega)
            replace XA := XA.below bw
            replace XB := XB.below bw
            replace O1 := O1.below bw (Nat.le_refl _)
            replace O2 := O2.below bw (Nat.le_refl _)
            replace O3 := O3.below bw (Nat.le_refl _)
            replace WW := WW.trans (bw.mono WW.size)
            clear bw hbs b0
            generalize hV : (V6.alloc (.cells #[.slice D3 (nw r3.1) d3] 24)) = V7 at XA XB XC O1 O2 O3 WW ⊢
            clear hV
            have kXA := XA.cell
            have zXA := XA.lt
            have kXB := XB.cell
            have zXB := XB.lt
            have kXC := XC.cell
            have zXC := XC.lt
            go_ret
            exact ⟨rfl, WW⟩

end Go.Proofs.Ytohiimpjcgcaiaa
