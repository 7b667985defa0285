/- NaturalRing: the walk, all its cases. -/
import Derived.Test.YtlhfaaghfhiaoaaLRing0
import Derived.Test.YtlhfaaghfhiaoaaLRing1
import Derived.Test.YtlhfaaghfhiaoaaLRing2
import Derived.Test.YtlhfaaghfhiaoaaLRing3
import Derived.Test.YtlhfaaghfhiaoaaLRing4
import Derived.Test.YtlhfaaghfhiaoaaLRing5
import Derived.Test.YtlhfaaghfhiaoaaLRing6
set_option linter.unusedVariables false
set_option linter.unusedSimpArgs false
namespace Go.Proofs.Ytlhfaaghfhiaoaa
open Go.RowKit

set_option maxHeartbeats 4000000 in
set_option maxRecDepth 100000 in
theorem naturalRing_walk (A B' C' : Option Addr) (n m p ca cb cc a b c : Nat) (w : World) (hA : Num w w.heap.size A n a) (hB : Num w w.heap.size B' m b) (hC : Num w w.heap.size C' p c) (hn : n ≤ 9223372036854775807) (hm : m ≤ 9223372036854775807) (hp : p ≤ 9223372036854775807) :
    Calls Try.prog 6 #[.agg #[.slice A n ca], .agg #[.slice B' m cb], .agg #[.slice C' p cc]] w (RetB (.bool true) w) := by
  by_cases hg : 100 < n ∨ 100 < m ∨ 100 < p
  · have HG := hid (decide_eq_true hg)
    clear hg
    obtain ⟨b0, b1, b2, bw⟩ := boxes3 w (.slice A n ca) (.slice B' m cb) (.slice C' p cc)
    have XA := Box.mk b0 hA bw
    have XB := Box.mk b1 hB bw
    have XC := Box.mk b2 hC bw
    have WW := bw
    clear bw b0 b1 b2
    go_enter Try.func6, Try.ntmps6
    go_wp2_with fail
    generalize hV : (((w.alloc (.cells #[.slice A n ca] 24)).alloc (.cells #[.slice B' m cb] 24)).alloc (.cells #[.slice C' p cc] 24)) = V0 at XA XB XC WW ⊢
    clear hV
    have hc := awake_any V0
    refine hc.mono ?_
    clear hc
    rintro e V1 ⟨rfl, hb⟩
    replace XA := XA.below hb
    replace XB := XB.below hb
    replace XC := XC.below hb
    replace WW := WW.trans (hb.mono WW.size)
    have kXA := XA.cell
    have zXA := XA.lt
    have kXB := XB.cell
    have zXB := XB.lt
    have kXC := XC.cell
    have zXC := XC.lt
    clear hb
    go_wp2_with fail
    have hc := great_3 V1 A B' C' _ ca _ cb _ cc hn hm hp
    rw [HG.out] at hc
    refine hc.mono ?_
    clear hc
    rintro e V2 ⟨rfl, hb⟩
    clear kXA zXA kXB zXB kXC zXC
    replace XA := XA.below hb
    replace XB := XB.below hb
    replace XC := XC.below hb
    replace WW := WW.trans (hb.mono WW.size)
    have kXA := XA.cell
    have zXA := XA.lt
    have kXB := XB.cell
    have zXB := XB.lt
    have kXC := XC.cell
    have zXC := XC.lt
    clear hb
    go_wp2_with fail
    go_ret
    exact ⟨rfl, WW⟩
  · have HG := hid (decide_eq_false hg)
    clear hg
    cases h1 : okB n a
    · have H1 := hid h1
      clear h1
      obtain ⟨b0, b1, b2, bw⟩ := boxes3 w (.slice A n ca) (.slice B' m cb) (.slice C' p cc)
      have XA := Box.mk b0 hA bw
      have XB := Box.mk b1 hB bw
      have XC := Box.mk b2 hC bw
      have WW := bw
      clear bw b0 b1 b2
      go_enter Try.func6, Try.ntmps6
      go_wp2_with fail
      generalize hV : (((w.alloc (.cells #[.slice A n ca] 24)).alloc (.cells #[.slice B' m cb] 24)).alloc (.cells #[.slice C' p cc] 24)) = V0 at XA XB XC WW ⊢
      clear hV
      have hc := awake_any V0
      refine hc.mono ?_
      clear hc
      rintro e V1 ⟨rfl, hb⟩
      replace XA := XA.below hb
      replace XB := XB.below hb
      replace XC := XC.below hb
      replace WW := WW.trans (hb.mono WW.size)
      have kXA := XA.cell
      have zXA := XA.lt
      have kXB := XB.cell
      have zXB := XB.lt
      have kXC := XC.cell
      have zXC := XC.lt
      clear hb
      go_wp2_with fail
      have hc := great_3 V1 A B' C' _ ca _ cb _ cc hn hm hp
      rw [HG.out] at hc
      refine hc.mono ?_
      clear hc
      rintro e V2 ⟨rfl, hb⟩
      clear kXA zXA kXB zXB kXC zXC
      replace XA := XA.below hb
      replace XB := XB.below hb
      replace XC := XC.below hb
      replace WW := WW.trans (hb.mono WW.size)
      have kXA := XA.cell
      have zXA := XA.lt
      have kXB := XB.cell
      have zXB := XB.lt
      have kXC := XC.cell
      have zXC := XC.lt
      clear hb
      go_wp2_with fail
      have hc := rvalid_any A _ ca a _ V2 XA.num (Nat.le_refl _) hn
      rw [H1.out] at hc
      refine hc.mono ?_
      clear hc
      rintro e V3 ⟨rfl, hb⟩
      clear kXA zXA kXB zXB kXC zXC
      replace XA := XA.below hb
      replace XB := XB.below hb
      replace XC := XC.below hb
      replace WW := WW.trans (hb.mono WW.size)
      have kXA := XA.cell
      have zXA := XA.lt
      have kXB := XB.cell
      have zXB := XB.lt
      have kXC := XC.cell
      have zXC := XC.lt
      clear hb
      go_wp2_with fail
      go_ret
      exact ⟨rfl, WW⟩
    · cases h2 : okB m b
      · have H1 := hid h1
        have H2 := hid h2
        clear h1 h2
        obtain ⟨b0, b1, b2, bw⟩ := boxes3 w (.slice A n ca) (.slice B' m cb) (.slice C' p cc)
        have XA := Box.mk b0 hA bw
        have XB := Box.mk b1 hB bw
        have XC := Box.mk b2 hC bw
        have WW := bw
        clear bw b0 b1 b2
        go_enter Try.func6, Try.ntmps6
        go_wp2_with fail
        generalize hV : (((w.alloc (.cells #[.slice A n ca] 24)).alloc (.cells #[.slice B' m cb] 24)).alloc (.cells #[.slice C' p cc] 24)) = V0 at XA XB XC WW ⊢
        clear hV
        have hc := awake_any V0
        refine hc.mono ?_
        clear hc
        rintro e V1 ⟨rfl, hb⟩
        replace XA := XA.below hb
        replace XB := XB.below hb
        replace XC := XC.below hb
        replace WW := WW.trans (hb.mono WW.size)
        have kXA := XA.cell
        have zXA := XA.lt
        have kXB := XB.cell
        have zXB := XB.lt
        have kXC := XC.cell
        have zXC := XC.lt
        clear hb
        go_wp2_with fail
        have hc := great_3 V1 A B' C' _ ca _ cb _ cc hn hm hp
        rw [HG.out] at hc
        refine hc.mono ?_
        clear hc
        rintro e V2 ⟨rfl, hb⟩
        clear kXA zXA kXB zXB kXC zXC
        replace XA := XA.below hb
        replace XB := XB.below hb
        replace XC := XC.below hb
        replace WW := WW.trans (hb.mono WW.size)
        have kXA := XA.cell
        have zXA := XA.lt
        have kXB := XB.cell
        have zXB := XB.lt
        have kXC := XC.cell
        have zXC := XC.lt
        clear hb
        go_wp2_with fail
        have hc := rvalid_any A _ ca a _ V2 XA.num (Nat.le_refl _) hn
        rw [H1.out] at hc
        refine hc.mono ?_
        clear hc
        rintro e V3 ⟨rfl, hb⟩
        clear kXA zXA kXB zXB kXC zXC
        replace XA := XA.below hb
        replace XB := XB.below hb
        replace XC := XC.below hb
        replace WW := WW.trans (hb.mono WW.size)
        have kXA := XA.cell
        have zXA := XA.lt
        have kXB := XB.cell
        have zXB := XB.lt
        have kXC := XC.cell
        have zXC := XC.lt
        clear hb
        go_wp2_with fail
        have hc := rvalid_any B' _ cb b _ V3 XB.num (Nat.le_refl _) hm
        rw [H2.out] at hc
        refine hc.mono ?_
        clear hc
        rintro e V4 ⟨rfl, hb⟩
        clear kXA zXA kXB zXB kXC zXC
        replace XA := XA.below hb
        replace XB := XB.below hb
        replace XC := XC.below hb
        replace WW := WW.trans (hb.mono WW.size)
        have kXA := XA.cell
        have zXA := XA.lt
        have kXB := XB.cell
        have zXB := XB.lt
        have kXC := XC.cell
        have zXC := XC.lt
        clear hb
        go_wp2_with fail
        go_ret
        exact ⟨rfl, WW⟩
      · cases h3 : okB p c
        · have H1 := hid h1
          have H2 := hid h2
          have H3 := hid h3
          clear h1 h2 h3
          obtain ⟨b0, b1, b2, bw⟩ := boxes3 w (.slice A n ca) (.slice B' m cb) (.slice C' p cc)
          have XA := Box.mk b0 hA bw
          have XB := Box.mk b1 hB bw
          have XC := Box.mk b2 hC bw
          have WW := bw
          clear bw b0 b1 b2
          go_enter Try.func6, Try.ntmps6
          go_wp2_with fail
          generalize hV : (((w.alloc (.cells #[.slice A n ca] 24)).alloc (.cells #[.slice B' m cb] 24)).alloc (.cells #[.slice C' p cc] 24)) = V0 at XA XB XC WW ⊢
          clear hV
          have hc := awake_any V0
          refine hc.mono ?_
          clear hc
          rintro e V1 ⟨rfl, hb⟩
          replace XA := XA.below hb
          replace XB := XB.below hb
          replace XC := XC.below hb
          replace WW := WW.trans (hb.mono WW.size)
          have kXA := XA.cell
          have zXA := XA.lt
          have kXB := XB.cell
          have zXB := XB.lt
          have kXC := XC.cell
          have zXC := XC.lt
          clear hb
          go_wp2_with fail
          have hc := great_3 V1 A B' C' _ ca _ cb _ cc hn hm hp
          rw [HG.out] at hc
          refine hc.mono ?_
          clear hc
          rintro e V2 ⟨rfl, hb⟩
          clear kXA zXA kXB zXB kXC zXC
          replace XA := XA.below hb
          replace XB := XB.below hb
          replace XC := XC.below hb
          replace WW := WW.trans (hb.mono WW.size)
          have kXA := XA.cell
          have zXA := XA.lt
          have kXB := XB.cell
          have zXB := XB.lt
          have kXC := XC.cell
          have zXC := XC.lt
          clear hb
          go_wp2_with fail
          have hc := rvalid_any A _ ca a _ V2 XA.num (Nat.le_refl _) hn
          rw [H1.out] at hc
          refine hc.mono ?_
          clear hc
          rintro e V3 ⟨rfl, hb⟩
          clear kXA zXA kXB zXB kXC zXC
          replace XA := XA.below hb
          replace XB := XB.below hb
          replace XC := XC.below hb
          replace WW := WW.trans (hb.mono WW.size)
          have kXA := XA.cell
          have zXA := XA.lt
          have kXB := XB.cell
          have zXB := XB.lt
          have kXC := XC.cell
          have zXC := XC.lt
          clear hb
          go_wp2_with fail
          have hc := rvalid_any B' _ cb b _ V3 XB.num (Nat.le_refl _) hm
          rw [H2.out] at hc
          refine hc.mono ?_
          clear hc
          rintro e V4 ⟨rfl, hb⟩
          clear kXA zXA kXB zXB kXC zXC
          replace XA := XA.below hb
          replace XB := XB.below hb
          replace XC := XC.below hb
          replace WW := WW.trans (hb.mono WW.size)
          have kXA := XA.cell
          have zXA := XA.lt
          have kXB := XB.cell
          have zXB := XB.lt
          have kXC := XC.cell
          have zXC := XC.lt
          clear hb
          go_wp2_with fail
          have hc := rvalid_any C' _ cc c _ V4 XC.num (Nat.le_refl _) hp
          rw [H3.out] at hc
          refine hc.mono ?_
          clear hc
          rintro e V5 ⟨rfl, hb⟩
          clear kXA zXA kXB zXB kXC zXC
          replace XA := XA.below hb
          replace XB := XB.below hb
          replace XC := XC.below hb
          replace WW := WW.trans (hb.mono WW.size)
          have kXA := XA.cell
          have zXA := XA.lt
          have kXB := XB.cell
          have zXB := XB.lt
          have kXC := XC.cell
          have zXC := XC.lt
          clear hb
          go_wp2_with fail
          go_ret
          exact ⟨rfl, WW⟩
        · obtain ⟨hna, hn1⟩ := okB_yes.1 h1
          obtain ⟨hmb, hm1⟩ := okB_yes.1 h2
          obtain ⟨hpc, hp1⟩ := okB_yes.1 h3
          subst hna hmb hpc
          clear hn hm hp h1 h2 h3 HG
          by_cases s1 : nw (a + b) ≤ 64
          · by_cases s2 : nw (b + c) ≤ 64
            · by_cases s3 : nw (a + b + c) ≤ 64
              · by_cases p1 : nw (a * b) ≤ 64
                · by_cases p2 : nw (a * b * c) ≤ 64
                  · by_cases p3 : nw (b * c) ≤ 64
                    · by_cases m : nw ((a + b) * c) ≤ 64
                      · exact ring_26 A B' C' ca cb cc a b c w hA hB hC hn1 hm1 hp1 s1 s2 s3 p1 p2 p3 m
                      · exact ring_27 A B' C' ca cb cc a b c w hA hB hC hn1 hm1 hp1 s1 s2 s3 p1 p2 p3 m
                    · by_cases m : nw ((a + b) * c) ≤ 64
                      · exact ring_24 A B' C' ca cb cc a b c w hA hB hC hn1 hm1 hp1 s1 s2 s3 p1 p2 p3 m
                      · exact ring_25 A B' C' ca cb cc a b c w hA hB hC hn1 hm1 hp1 s1 s2 s3 p1 p2 p3 m
                  · by_cases m : nw ((a + b) * c) ≤ 64
                    · exact ring_22 A B' C' ca cb cc a b c w hA hB hC hn1 hm1 hp1 s1 s2 s3 p1 p2 m
                    · exact ring_23 A B' C' ca cb cc a b c w hA hB hC hn1 hm1 hp1 s1 s2 s3 p1 p2 m
                · by_cases m : nw ((a + b) * c) ≤ 64
                  · exact ring_20 A B' C' ca cb cc a b c w hA hB hC hn1 hm1 hp1 s1 s2 s3 p1 m
                  · exact ring_21 A B' C' ca cb cc a b c w hA hB hC hn1 hm1 hp1 s1 s2 s3 p1 m
              · by_cases p1 : nw (a * b) ≤ 64
                · by_cases p2 : nw (a * b * c) ≤ 64
                  · by_cases p3 : nw (b * c) ≤ 64
                    · by_cases m : nw ((a + b) * c) ≤ 64
                      · exact ring_18 A B' C' ca cb cc a b c w hA hB hC hn1 hm1 hp1 s1 s2 s3 p1 p2 p3 m
                      · exact ring_19 A B' C' ca cb cc a b c w hA hB hC hn1 hm1 hp1 s1 s2 s3 p1 p2 p3 m
                    · by_cases m : nw ((a + b) * c) ≤ 64
                      · exact ring_16 A B' C' ca cb cc a b c w hA hB hC hn1 hm1 hp1 s1 s2 s3 p1 p2 p3 m
                      · exact ring_17 A B' C' ca cb cc a b c w hA hB hC hn1 hm1 hp1 s1 s2 s3 p1 p2 p3 m
                  · by_cases m : nw ((a + b) * c) ≤ 64
                    · exact ring_14 A B' C' ca cb cc a b c w hA hB hC hn1 hm1 hp1 s1 s2 s3 p1 p2 m
                    · exact ring_15 A B' C' ca cb cc a b c w hA hB hC hn1 hm1 hp1 s1 s2 s3 p1 p2 m
                · by_cases m : nw ((a + b) * c) ≤ 64
                  · exact ring_12 A B' C' ca cb cc a b c w hA hB hC hn1 hm1 hp1 s1 s2 s3 p1 m
                  · exact ring_13 A B' C' ca cb cc a b c w hA hB hC hn1 hm1 hp1 s1 s2 s3 p1 m
            · by_cases p1 : nw (a * b) ≤ 64
              · by_cases p2 : nw (a * b * c) ≤ 64
                · by_cases p3 : nw (b * c) ≤ 64
                  · by_cases m : nw ((a + b) * c) ≤ 64
                    · exact ring_10 A B' C' ca cb cc a b c w hA hB hC hn1 hm1 hp1 s1 s2 p1 p2 p3 m
                    · exact ring_11 A B' C' ca cb cc a b c w hA hB hC hn1 hm1 hp1 s1 s2 p1 p2 p3 m
                  · by_cases m : nw ((a + b) * c) ≤ 64
                    · exact ring_8 A B' C' ca cb cc a b c w hA hB hC hn1 hm1 hp1 s1 s2 p1 p2 p3 m
                    · exact ring_9 A B' C' ca cb cc a b c w hA hB hC hn1 hm1 hp1 s1 s2 p1 p2 p3 m
                · by_cases m : nw ((a + b) * c) ≤ 64
                  · exact ring_6 A B' C' ca cb cc a b c w hA hB hC hn1 hm1 hp1 s1 s2 p1 p2 m
                  · exact ring_7 A B' C' ca cb cc a b c w hA hB hC hn1 hm1 hp1 s1 s2 p1 p2 m
              · by_cases m : nw ((a + b) * c) ≤ 64
                · exact ring_4 A B' C' ca cb cc a b c w hA hB hC hn1 hm1 hp1 s1 s2 p1 m
                · exact ring_5 A B' C' ca cb cc a b c w hA hB hC hn1 hm1 hp1 s1 s2 p1 m
          · by_cases p1 : nw (a * b) ≤ 64
            · by_cases p2 : nw (a * b * c) ≤ 64
              · by_cases p3 : nw (b * c) ≤ 64
                · exact ring_3 A B' C' ca cb cc a b c w hA hB hC hn1 hm1 hp1 s1 p1 p2 p3
                · exact ring_2 A B' C' ca cb cc a b c w hA hB hC hn1 hm1 hp1 s1 p1 p2 p3
              · exact ring_1 A B' C' ca cb cc a b c w hA hB hC hn1 hm1 hp1 s1 p1 p2
            · exact ring_0 A B' C' ca cb cc a b c w hA hB hC hn1 hm1 hp1 s1 p1

end Go.Proofs.Ytlhfaaghfhiaoaa
