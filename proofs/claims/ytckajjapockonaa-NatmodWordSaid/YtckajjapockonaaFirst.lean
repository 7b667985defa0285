/- first. -/
import Derived.Test.YtckajjapockonaaFew2
set_option linter.unusedVariables false
set_option linter.unusedSimpArgs false
namespace Go.Proofs.Ytckajjapockonaa
open Go.RowKit

theorem any2 (p : Nat → Bool) : anyB 2 p = (p 0 || p 1) := by unfold anyB; simp [List.range, List.range.loop]
set_option maxHeartbeats 4000000 in
theorem first_args (V : World) (A B' : Option Addr) (n k c d a b q m p : Nat) (C' : Option Addr) (hA : Num V V.heap.size A n a) (hB : Num V V.heap.size B' k b) (hC : Num V V.heap.size C' q m) (hn : n ≤ 9223372036854775807) (hk : k ≤ 9223372036854775807) (hq : q ≤ 9223372036854775807) :
    Calls Try.prog 16 #[.agg #[.slice C' q p], .slice (some ⟨V.heap.size, 0, none⟩) 2 2] (V.alloc (.cells #[.slice A n c, .slice B' k d] 24)) fun e w' => e = .returned (.int .i64 (chkS n a k b q m)) ∧ Below V.heap.size V w' := by
  have hb := (Below.refl V.heap.size V).alloc (Nat.le_refl _) (.cells #[.slice A n c, .slice B' k d] 24)
  have hN := nats2 V A B' n c k d hn hk
  obtain ⟨g, hg⟩ : ∃ g, g = V.heap.size := ⟨_, rfl⟩
  have HA := hid hA
  have HB := hid hB
  have HC := hid hC
  obtain ⟨w, hw⟩ : ∃ w, w = V.alloc (.cells #[.slice A n c, .slice B' k d] 24) := ⟨_, rfl⟩
  rw [← hw] at hb hN ⊢
  have HBV := hid hb
  have HN := hid hN
  have hgs : V.heap.size < w.heap.size := hN.1
  clear hw
  obtain ⟨b0, bw⟩ := boxes1 w (.slice C' q p)
  have XM := Box.mk b0 ((hC.below hb).more hb.size) bw
  have WW := bw
  clear b0 bw hb hN hA hB hC
  obtain ⟨e, he⟩ : ∃ e, e = chkS n a k b q m := ⟨_, rfl⟩
  have HE := hid he
  rw [← he]
  clear he
  cases h3 : modB q m
  · have H3 := hid h3
    have HV : Hid (e = 1) := (show e = 1 by rw [HE.out]; unfold chkS; rw [h3, Bool.and_false, Bool.and_false]; rfl)
    rw [HV.out]
    clear h3
    go_enter Try.func16, Try.ntmps16
    go_wp2_with fail
    have hc := rmodulus_any C' q p m _ XM.num hq
    rw [H3.out] at hc
    refine hc.mono ?_
    clear hc
    rintro e w1 ⟨rfl, hb⟩
    have W1 := hid (HBV.out.trans ((WW.trans (hb.mono WW.size)).mono HBV.out.size))
    clear hb
    go_wp2_with fail
    go_ret
    exact ⟨rfl, W1.out⟩
  · have H3 := hid h3
    have C1 := hid (contains_53 (fun i => if i = 0 then !okB n a else !okB k b) V.heap.size 2 2 (fun i => if i = 0 then A else B') (fun i => if i = 0 then n else k) (fun i => if i = 0 then c else d))
    cases h4 : (okB n a && okB k b)
    · have HV : Hid (e = 1) := (show e = 1 by
        rw [HE.out]; unfold chkS
        rw [← Bool.and_assoc, h4]; rfl)
      have HP : Hid ((!okB n a || !okB k b) = true) := (show (!okB n a || !okB k b) = true by rw [← Bool.not_and, h4]; rfl)
      rw [HV.out]
      clear h3 h4
      go_enter Try.func16, Try.ntmps16
      go_wp2_with fail
      have hc := rmodulus_any C' q p m _ XM.num hq
      rw [H3.out] at hc
      refine hc.mono ?_
      clear hc
      rintro e w1 ⟨rfl, hb⟩
      have WA := HBV.out.trans ((WW.trans (hb.mono WW.size)).mono HBV.out.size)
      have NA := hid (HN.out.below (WW.trans (hb.mono WW.size)))
      have W1 := hid WA
      have hsz : w.heap.size ≤ w1.heap.size := (WW.trans (hb.mono WW.size)).size
      clear hb WA
      go_wp2_with fail
      have hc := C1.out w1 ⟨Nat.lt_of_lt_of_le hgs hsz, NA.out.2⟩ (by omega) (fun i hi wr hw => by
        have h : i = 0 ∨ i = 1 := by omega
        have hV := W1.out.trans (hw.mono W1.out.size)
        rcases h with rfl | rfl
        · exact first1_any A n c a wr ((HA.out.below hV).more hV.size) hn
        · exact first1_any B' k d b wr ((HB.out.below hV).more hV.size) hk)
      rw [any2] at hc
      have hc2 : Calls Try.prog 47 #[.slice (some ⟨V.heap.size, 0, none⟩) 2 2, .func (.func 53) #[] #[]] w1 (RetB (.bool (!okB n a || !okB k b)) w1) := hc
      rw [HP.out] at hc2
      refine hc2.mono ?_
      clear hc hc2
      rintro e w2 ⟨rfl, hb⟩
      have W2 := hid (W1.out.trans (hb.mono W1.out.size))
      clear hb
      go_wp2_with fail
      go_ret
      exact ⟨rfl, W2.out⟩
    · rw [Bool.and_eq_true] at h4
      have HP : Hid ((!okB n a || !okB k b) = false) := (show (!okB n a || !okB k b) = false by rw [h4.1, h4.2]; rfl)
      have HV : Hid (e = if (decide (a < m) && decide (b < m)) = true then 0 else 2) := (show e = _ by
        rw [HE.out]; unfold chkS
        rw [h4.1, h4.2, h3]
        by_cases h5 : a < m ∧ b < m
        · rw [if_pos (show (true && (true && true)) = true from rfl), if_pos h5, decide_eq_true h5.1, decide_eq_true h5.2]; rfl
        · rw [if_pos (show (true && (true && true)) = true from rfl), if_neg h5, ← Bool.decide_and, decide_eq_false h5]; rfl)
      obtain ⟨hna, hn1⟩ := okB_yes.1 h4.1
      obtain ⟨hkb, hk1⟩ := okB_yes.1 h4.2
      obtain ⟨hqm, hq1, hm0⟩ := modB_yes h3
      have hqm2 := hqm
      subst hna hkb hqm
      obtain ⟨t, ht⟩ : ∃ t, t = (decide (a < m) && decide (b < m)) := ⟨_, rfl⟩
      rw [← ht] at HV
      have HP2 : Hid ((!decide (a < m) || !decide (b < m)) = !t) := (show _ = !t by rw [ht, Bool.not_and])
      rw [HV.out]
      clear h3 h4 ht hqm2
      have hmain : ∀ v : Int, v = (if t = true then 0 else 2) → Calls Try.prog 16 #[.agg #[.slice C' (nw m) p], .slice (some ⟨V.heap.size, 0, none⟩) 2 2] w fun e w' => e = .returned (.int .i64 v) ∧ Below V.heap.size V w' := by
        intro v hv
        cases t
        · obtain rfl : v = 2 := hv
          clear HV
          go_enter Try.func16, Try.ntmps16
          go_wp2_with fail
          have hc := rmodulus_any C' (nw m) p m _ XM.num hq
          rw [H3.out] at hc
          refine hc.mono ?_
          clear hc
          rintro e w1 ⟨rfl, hb⟩
          have X1 := XM.below hb
          have WA := WW.trans (hb.mono WW.size)
          have NA := hid (HN.out.below WA)
          have W1 := hid (HBV.out.trans (WA.mono HBV.out.size))
          have hsz : w.heap.size ≤ w1.heap.size := WA.size
          clear hb WA
          go_wp2_with fail
          have hc := C1.out w1 ⟨Nat.lt_of_lt_of_le hgs hsz, NA.out.2⟩ (by omega) (fun i hi wr hw => by
            have h : i = 0 ∨ i = 1 := by omega
            have hV := W1.out.trans (hw.mono W1.out.size)
            rcases h with rfl | rfl
            · exact first1_any A (nw a) c a wr ((HA.out.below hV).more hV.size) hn
            · exact first1_any B' (nw b) d b wr ((HB.out.below hV).more hV.size) hk)
          rw [any2] at hc
          have hc2 : Calls Try.prog 47 #[.slice (some ⟨V.heap.size, 0, none⟩) 2 2, .func (.func 53) #[] #[]] w1 (RetB (.bool (!okB (nw a) a || !okB (nw b) b)) w1) := hc
          rw [HP.out] at hc2
          refine hc2.mono ?_
          clear hc hc2
          rintro e w2 ⟨rfl, hb⟩
          have X2 := X1.below hb
          have N2 := hid (NA.out.below (hb.mono hsz))
          have W2 := hid (W1.out.trans (hb.mono W1.out.size))
          have hsz2 : w.heap.size ≤ w2.heap.size := Nat.le_trans hsz hb.size
          clear hb X1
          go_wp2_with fail
          have hc := contains_54 (fun i => if i = 0 then !decide (a < m) else !decide (b < m)) V.heap.size 2 2 w.heap.size (fun i => if i = 0 then A else B') (fun i => if i = 0 then nw a else nw b) (fun i => if i = 0 then c else d) w2 ⟨Nat.lt_of_lt_of_le hgs hsz2, N2.out.2⟩ (by omega) (fun i hi wr hw => by
            have h : i = 0 ∨ i = 1 := by omega
            have hV := W2.out.trans (hw.mono W2.out.size)
            have hX := X2.below hw
            rcases h with rfl | rfl
            · exact first2_any w.heap.size A C' c p a m wr hX.cell ((HA.out.below hV).more hV.size) hX.num (by omega) (by omega)
            · exact first2_any w.heap.size B' C' d p b m wr hX.cell ((HB.out.below hV).more hV.size) hX.num (by omega) (by omega))
          rw [any2] at hc
          have hc2 : Calls Try.prog 47 #[.slice (some ⟨V.heap.size, 0, none⟩) 2 2, .func (.func 54) #[] #[.pointer (some ⟨w.heap.size, 0, none⟩)]] w2 (RetB (.bool (!decide (a < m) || !decide (b < m))) w2) := hc
          rw [HP2.out] at hc2
          refine hc2.mono ?_
          clear hc hc2
          rintro e w3 ⟨rfl, hb⟩
          have W3 := hid (W2.out.trans (hb.mono W2.out.size))
          clear hb
          go_wp2_with fail
          go_ret
          exact ⟨rfl, W3.out⟩
        · obtain rfl : v = 0 := hv
          clear HV
          go_enter Try.func16, Try.ntmps16
          go_wp2_with fail
          have hc := rmodulus_any C' (nw m) p m _ XM.num hq
          rw [H3.out] at hc
          refine hc.mono ?_
          clear hc
          rintro e w1 ⟨rfl, hb⟩
          have X1 := XM.below hb
          have WA := WW.trans (hb.mono WW.size)
          have NA := hid (HN.out.below WA)
          have W1 := hid (HBV.out.trans (WA.mono HBV.out.size))
          have hsz : w.heap.size ≤ w1.heap.size := WA.size
          clear hb WA
          go_wp2_with fail
          have hc := C1.out w1 ⟨Nat.lt_of_lt_of_le hgs hsz, NA.out.2⟩ (by omega) (fun i hi wr hw => by
            have h : i = 0 ∨ i = 1 := by omega
            have hV := W1.out.trans (hw.mono W1.out.size)
            rcases h with rfl | rfl
            · exact first1_any A (nw a) c a wr ((HA.out.below hV).more hV.size) hn
            · exact first1_any B' (nw b) d b wr ((HB.out.below hV).more hV.size) hk)
          rw [any2] at hc
          have hc2 : Calls Try.prog 47 #[.slice (some ⟨V.heap.size, 0, none⟩) 2 2, .func (.func 53) #[] #[]] w1 (RetB (.bool (!okB (nw a) a || !okB (nw b) b)) w1) := hc
          rw [HP.out] at hc2
          refine hc2.mono ?_
          clear hc hc2
          rintro e w2 ⟨rfl, hb⟩
          have X2 := X1.below hb
          have N2 := hid (NA.out.below (hb.mono hsz))
          have W2 := hid (W1.out.trans (hb.mono W1.out.size))
          have hsz2 : w.heap.size ≤ w2.heap.size := Nat.le_trans hsz hb.size
          clear hb X1
          go_wp2_with fail
          have hc := contains_54 (fun i => if i = 0 then !decide (a < m) else !decide (b < m)) V.heap.size 2 2 w.heap.size (fun i => if i = 0 then A else B') (fun i => if i = 0 then nw a else nw b) (fun i => if i = 0 then c else d) w2 ⟨Nat.lt_of_lt_of_le hgs hsz2, N2.out.2⟩ (by omega) (fun i hi wr hw => by
            have h : i = 0 ∨ i = 1 := by omega
            have hV := W2.out.trans (hw.mono W2.out.size)
            have hX := X2.below hw
            rcases h with rfl | rfl
            · exact first2_any w.heap.size A C' c p a m wr hX.cell ((HA.out.below hV).more hV.size) hX.num (by omega) (by omega)
            · exact first2_any w.heap.size B' C' d p b m wr hX.cell ((HB.out.below hV).more hV.size) hX.num (by omega) (by omega))
          rw [any2] at hc
          have hc2 : Calls Try.prog 47 #[.slice (some ⟨V.heap.size, 0, none⟩) 2 2, .func (.func 54) #[] #[.pointer (some ⟨w.heap.size, 0, none⟩)]] w2 (RetB (.bool (!decide (a < m) || !decide (b < m))) w2) := hc
          rw [HP2.out] at hc2
          refine hc2.mono ?_
          clear hc hc2
          rintro e w3 ⟨rfl, hb⟩
          have W3 := hid (W2.out.trans (hb.mono W2.out.size))
          clear hb
          go_wp2_with fail
          go_ret
          exact ⟨rfl, W3.out⟩
      exact hmain _ rfl

end Go.Proofs.Ytckajjapockonaa
