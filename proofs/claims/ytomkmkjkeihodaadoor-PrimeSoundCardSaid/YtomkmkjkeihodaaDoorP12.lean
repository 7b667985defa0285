/- prime.inRange. -/
import Derived.Test.YtomkmkjkeihodaaDoorP11
set_option linter.unusedVariables false
set_option linter.unusedSimpArgs false
namespace Go.Proofs.YtomkmkjkeihodaaDoor
open Go.RowKit

/-- What inRange asks of a number (n words, value a) and a root (m words, value b). -/
def rngB (n a m b : Nat) : Bool := okB n a && decide (2 ≤ a ∧ bl a ≤ 1024) && okB m b && decide (1 ≤ b ∧ b < a)
theorem bl_two {a : Nat} : 2 ≤ bl a ↔ 2 ≤ a := by
  constructor
  · intro h
    rcases Nat.lt_or_ge a 2 with h2 | h2
    · have : bl a ≤ 1 := bl_le (by omega)
      omega
    · exact h2
  · intro h
    rcases Nat.lt_or_ge 1 (bl a) with h2 | h2
    · exact h2
    · have h3 := lt_bl a
      have := Nat.pow_le_pow_right (n := 2) (by decide) h2
      omega
theorem bl_one {a : Nat} : 0 < bl a ↔ 1 ≤ a := by
  constructor
  · intro h
    rcases Nat.lt_or_ge a 1 with h2 | h2
    · have : bl a ≤ 0 := bl_le (by omega)
      omega
    · exact h2
  · intro h
    rcases Nat.lt_or_ge 0 (bl a) with h2 | h2
    · exact h2
    · have h3 := lt_bl a
      have := Nat.pow_le_pow_right (n := 2) (by decide) h2
      omega
theorem rngB_eq (n a m b : Nat) : rngB n a m b = (decide (2 ≤ bitsS n a) && decide (bitsS n a ≤ 1024) && decide (0 < bitsS m b) && decide (bothC m b n a < 0)) := by
  unfold rngB bitsS
  cases h1 : okB n a
  · simp
  · cases h2 : okB m b
    · simp
    · rw [bothC_yes h2 h1, Bool.eq_iff_iff]
      have e1 := @bl_two a
      have e3 := @bl_one b
      have e4 : ordN b a < 0 ↔ b < a := by
        unfold ordN
        split
        · simp [*]
        · split <;> simp <;> omega
      simp only [Bool.true_and, Bool.and_true, if_true, Bool.and_eq_true, decide_eq_true_eq]
      rw [e4]
      omega
theorem bitsS_bd (n a : Nat) : bitsS n a ≤ 2048 := by
  unfold bitsS
  split
  · rename_i h
    obtain ⟨h1, h2⟩ := okB_yes.1 h
    have := bl_le_nw a
    omega
  · omega
theorem bothC_bd (n a m b : Nat) : -1 ≤ bothC n a m b ∧ bothC n a m b ≤ 1 := by
  unfold bothC
  split
  · exact ordN_bd a b
  · omega
set_option maxHeartbeats 4000000 in
set_option maxRecDepth 100000 in
theorem inrange_any (A A' P : Option Addr) (n c m d k ex a b : Nat) (w : World) (hA : Num w w.heap.size A n a) (hB : Num w w.heap.size A' m b) (hn : n ≤ 9223372036854775807) (hm : m ≤ 9223372036854775807) :
    Calls Tryd.prog 63 #[.agg #[.slice A n c, .slice A' m d, .slice P k ex]] w (RetB (.bool (rngB n a m b)) w) := by
  rw [rngB_eq]
  obtain ⟨v, hv⟩ : ∃ v, v = bitsS n a := ⟨_, rfl⟩
  have HV := hid hv
  obtain ⟨u, hu⟩ : ∃ u, u = bitsS m b := ⟨_, rfl⟩
  have HU := hid hu
  obtain ⟨o, ho⟩ : ∃ o, o = bothC m b n a := ⟨_, rfl⟩
  have HO := hid ho
  rw [← hv, ← hu, ← ho]
  have v0 : 0 ≤ v := by rw [hv]; unfold bitsS; split <;> omega
  have v9 := bitsS_bd n a
  have u0 : 0 ≤ u := by rw [hu]; unfold bitsS; split <;> omega
  have u9 := bitsS_bd m b
  have o9 := bothC_bd m b n a
  rw [← hv] at v9
  rw [← hu] at u9
  rw [← ho] at o9
  obtain ⟨XC, WW⟩ := box3 w (.slice A n c) (.slice A' m d) (.slice P k ex)
  replace hA := (hA.below WW).more WW.size
  replace hB := (hB.below WW).more WW.size
  clear hv hu ho
  by_cases h1 : 2 ≤ v
  · have l1 : decide (2 ≤ v) = true := decide_eq_true h1
    by_cases h2 : v ≤ 1024
    · have l2 : decide (v ≤ 1024) = true := decide_eq_true h2
      by_cases h3 : 0 < u
      · have l3 : decide (u > 0) = true := decide_eq_true h3
        have H1 := hid h1
        have H2 := hid h2
        have H3 := hid h3
        go_enter Tryd.func63, Tryd.ntmps63
        go_wp2_with fail
        generalize hV : w.alloc (.cells #[.slice A n c, .slice A' m d, .slice P k ex] 40) = V0 at XC hA hB WW ⊢
        clear hV
        have kXC0 := (XC.cell 0).trans rfl
        have kXC1 := (XC.cell 1).trans rfl
        have kXC2 := (XC.cell 2).trans rfl
        have zXC := XC.lt
        go_wp2_with fail
        have hbs : w.heap.size ≤ V0.heap.size := WW.size
        have hc := bits_any A n c a V0 hA (by omega)
        rw [← HV.out] at hc
        refine hc.mono ?_
        clear hc
        rintro e V1 ⟨rfl, hb⟩
        clear kXC0 kXC1 kXC2 zXC
        replace XC := XC.below hb XC.lt
        replace hA := (hA.below hb).more hb.size
        replace hB := (hB.below hb).more hb.size
        replace WW := WW.trans (hb.mono WW.size)
        have kXC0 := (XC.cell 0).trans rfl
        have kXC1 := (XC.cell 1).trans rfl
        have kXC2 := (XC.cell 2).trans rfl
        have zXC := XC.lt
        clear hb hbs
        go_wp2_with fail
        have hbs : w.heap.size ≤ V1.heap.size := WW.size
        have hc := bits_any A' m d b V1 hB (by omega)
        rw [← HU.out] at hc
        refine hc.mono ?_
        clear hc
        rintro e V2 ⟨rfl, hb⟩
        clear kXC0 kXC1 kXC2 zXC
        replace XC := XC.below hb XC.lt
        replace hA := (hA.below hb).more hb.size
        replace hB := (hB.below hb).more hb.size
        replace WW := WW.trans (hb.mono WW.size)
        have kXC0 := (XC.cell 0).trans rfl
        have kXC1 := (XC.cell 1).trans rfl
        have kXC2 := (XC.cell 2).trans rfl
        have zXC := XC.lt
        clear hb hbs
        go_wp2_with fail
        have hbs : w.heap.size ≤ V2.heap.size := WW.size
        have hc := cmp_any A' A _ _ d c b a V2 hB hA (by omega) (by omega)
        rw [← HO.out] at hc
        refine hc.mono ?_
        clear hc
        rintro e V3 ⟨rfl, hb⟩
        clear kXC0 kXC1 kXC2 zXC
        replace XC := XC.below hb XC.lt
        replace hA := (hA.below hb).more hb.size
        replace hB := (hB.below hb).more hb.size
        replace WW := WW.trans (hb.mono WW.size)
        have kXC0 := (XC.cell 0).trans rfl
        have kXC1 := (XC.cell 1).trans rfl
        have kXC2 := (XC.cell 2).trans rfl
        have zXC := XC.lt
        clear hb hbs
        go_wp2_with fail
        go_ret
        exact ⟨by simp [H1.out, H2.out, H3.out], WW⟩
      · have l3 : decide (u > 0) = false := decide_eq_false h3
        have H3 := hid h3
        go_enter Tryd.func63, Tryd.ntmps63
        go_wp2_with fail
        generalize hV : w.alloc (.cells #[.slice A n c, .slice A' m d, .slice P k ex] 40) = V0 at XC hA hB WW ⊢
        clear hV
        have kXC0 := (XC.cell 0).trans rfl
        have kXC1 := (XC.cell 1).trans rfl
        have kXC2 := (XC.cell 2).trans rfl
        have zXC := XC.lt
        go_wp2_with fail
        have hbs : w.heap.size ≤ V0.heap.size := WW.size
        have hc := bits_any A n c a V0 hA (by omega)
        rw [← HV.out] at hc
        refine hc.mono ?_
        clear hc
        rintro e V1 ⟨rfl, hb⟩
        clear kXC0 kXC1 kXC2 zXC
        replace XC := XC.below hb XC.lt
        replace hA := (hA.below hb).more hb.size
        replace hB := (hB.below hb).more hb.size
        replace WW := WW.trans (hb.mono WW.size)
        have kXC0 := (XC.cell 0).trans rfl
        have kXC1 := (XC.cell 1).trans rfl
        have kXC2 := (XC.cell 2).trans rfl
        have zXC := XC.lt
        clear hb hbs
        go_wp2_with fail
        have hbs : w.heap.size ≤ V1.heap.size := WW.size
        have hc := bits_any A' m d b V1 hB (by omega)
        rw [← HU.out] at hc
        refine hc.mono ?_
        clear hc
        rintro e V2 ⟨rfl, hb⟩
        clear kXC0 kXC1 kXC2 zXC
        replace XC := XC.below hb XC.lt
        replace hA := (hA.below hb).more hb.size
        replace hB := (hB.below hb).more hb.size
        replace WW := WW.trans (hb.mono WW.size)
        have kXC0 := (XC.cell 0).trans rfl
        have kXC1 := (XC.cell 1).trans rfl
        have kXC2 := (XC.cell 2).trans rfl
        have zXC := XC.lt
        clear hb hbs
        go_wp2_with fail
        go_ret
        exact ⟨by have := H3.out; simp; intros; omega, WW⟩
    · have l2 : decide (v ≤ 1024) = false := decide_eq_false h2
      have H3 := hid h2
      go_enter Tryd.func63, Tryd.ntmps63
      go_wp2_with fail
      generalize hV : w.alloc (.cells #[.slice A n c, .slice A' m d, .slice P k ex] 40) = V0 at XC hA hB WW ⊢
      clear hV
      have kXC0 := (XC.cell 0).trans rfl
      have kXC1 := (XC.cell 1).trans rfl
      have kXC2 := (XC.cell 2).trans rfl
      have zXC := XC.lt
      go_wp2_with fail
      have hbs : w.heap.size ≤ V0.heap.size := WW.size
      have hc := bits_any A n c a V0 hA (by omega)
      rw [← HV.out] at hc
      refine hc.mono ?_
      clear hc
      rintro e V1 ⟨rfl, hb⟩
      clear kXC0 kXC1 kXC2 zXC
      replace XC := XC.below hb XC.lt
      replace hA := (hA.below hb).more hb.size
      replace hB := (hB.below hb).more hb.size
      replace WW := WW.trans (hb.mono WW.size)
      have kXC0 := (XC.cell 0).trans rfl
      have kXC1 := (XC.cell 1).trans rfl
      have kXC2 := (XC.cell 2).trans rfl
      have zXC := XC.lt
      clear hb hbs
      go_wp2_with fail
      go_ret
      exact ⟨by have := H3.out; simp; intros; omega, WW⟩
  · have l1 : decide (2 ≤ v) = false := decide_eq_false h1
    have H3 := hid h1
    go_enter Tryd.func63, Tryd.ntmps63
    go_wp2_with fail
    generalize hV : w.alloc (.cells #[.slice A n c, .slice A' m d, .slice P k ex] 40) = V0 at XC hA hB WW ⊢
    clear hV
    have kXC0 := (XC.cell 0).trans rfl
    have kXC1 := (XC.cell 1).trans rfl
    have kXC2 := (XC.cell 2).trans rfl
    have zXC := XC.lt
    go_wp2_with fail
    have hbs : w.heap.size ≤ V0.heap.size := WW.size
    have hc := bits_any A n c a V0 hA (by omega)
    rw [← HV.out] at hc
    refine hc.mono ?_
    clear hc
    rintro e V1 ⟨rfl, hb⟩
    clear kXC0 kXC1 kXC2 zXC
    replace XC := XC.below hb XC.lt
    replace hA := (hA.below hb).more hb.size
    replace hB := (hB.below hb).more hb.size
    replace WW := WW.trans (hb.mono WW.size)
    have kXC0 := (XC.cell 0).trans rfl
    have kXC1 := (XC.cell 1).trans rfl
    have kXC2 := (XC.cell 2).trans rfl
    have zXC := XC.lt
    clear hb hbs
    go_wp2_with fail
    go_ret
    exact ⟨by have := H3.out; simp; intros; omega, WW⟩

end Go.Proofs.YtomkmkjkeihodaaDoor
