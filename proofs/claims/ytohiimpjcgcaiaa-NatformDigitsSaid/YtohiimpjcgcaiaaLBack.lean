/- NatformBack: the walk. -/
import Derived.Test.YtohiimpjcgcaiaaBack
set_option linter.unusedVariables false
set_option linter.unusedSimpArgs false
namespace Go.Proofs.Ytohiimpjcgcaiaa
open Go.RowKit

theorem obn {w : World} {b n c : Nat} {A : Option Addr} {l : List Nat} (h : OB w b (.slice A n c) l) (hl : ∀ x ∈ l, x ≤ 255) : BN w w.heap.size A l := fun i hi => by
  obtain ⟨g, e, h1, h2, h3⟩ := h.cell hi
  refine ⟨_, e, ?_, by rw [add_at, Nat.zero_add]; exact h2, hl _ (List.getElem_mem hi)⟩
  exact World.block_lt_of_cell? w ⟨g, i, none⟩ h2
theorem text_facts {b n a : Nat} (hb : 10 ≤ b) (hb2 : b ≤ 16) (hok : okB n a = true) : ∃ T, strN (textS b n a) = T ∧ rdS b (strL T) = (a, 0) ∧ T.size ≤ 1000 := by
  obtain ⟨rfl, h64⟩ := okB_yes.1 hok
  refine ⟨_, rfl, ?_, ?_⟩
  · unfold textS; rw [if_pos hok, strL_strN (fun x hx => textN_le (by omega) hb2 hx)]; exact rd_text hb hb2 h64
  · unfold textS; rw [if_pos hok]; unfold strN; rw [strOfNums_size, List.length_map]
    by_cases h : a = 0
    · unfold textN; rw [if_pos h]; simp
    · rw [textN_len h]; exact ndg_bd hb h64
set_option maxHeartbeats 4000000 in
set_option maxRecDepth 100000 in
theorem natformBack_walk (A : Option Addr) (n c a m : Nat) (w : World) (hA : Num w w.heap.size A n a) (hn : n ≤ 9223372036854775807) (hm : m ≤ 255) :
    Calls Try.prog 6 #[.agg #[.slice A n c], .int .u8 ((m : Nat) : Int)] w (RetB (.bool true) w) := by
  obtain ⟨b0, bw⟩ := boxes1 w (.slice A n c)
  have XN := VB.mk (B := w.heap.size) (a := a) b0 (.inl hA) bw (Nat.le_refl _) (by omega)
  have WW := bw
  clear bw b0
  go_enter Try.func6, Try.ntmps6
  go_wp2_with fail
  generalize hV : (w.alloc (.cells #[.slice A n c] 24)) = V0 at XN WW ⊢
  clear hV
  have hbs : w.heap.size ≤ V0.heap.size := WW.size
  have hc := awake_any V0
  refine hc.mono ?_
  clear hc
  rintro e V1 ⟨rfl, hb⟩
  replace XN := XN.below hb
  replace WW := WW.trans (hb.mono WW.size)
  have kXN := XN.cell
  have zXN := XN.lt
  clear hb hbs
  go_wp2_with fail
  by_cases h : 100 < n
  · have hbs : w.heap.size ≤ V1.heap.size := WW.size
    have hc := great1_any A n c V1 (by omega)
    rw [decide_eq_true h] at hc
    refine hc.mono ?_
    clear hc
    rintro e V2 ⟨rfl, hb⟩
    clear kXN zXN
    replace XN := XN.below hb
    replace WW := WW.trans (hb.mono WW.size)
    have kXN := XN.cell
    have zXN := XN.lt
    clear hb hbs
    go_wp2_with fail
    go_ret
    exact ⟨rfl, WW⟩
  · have hbs : w.heap.size ≤ V1.heap.size := WW.size
    have hc := great1_any A n c V1 (by omega)
    rw [decide_eq_false h] at hc
    refine hc.mono ?_
    clear hc
    rintro e V2 ⟨rfl, hb⟩
    clear kXN zXN
    replace XN := XN.below hb
    replace WW := WW.trans (hb.mono WW.size)
    have kXN := XN.cell
    have zXN := XN.lt
    clear hb hbs
    go_wp2_with fail
    cases hok : okB n a
    · have hbs : w.heap.size ≤ V2.heap.size := WW.size
      have hc := rvalid_any A n c a V2.heap.size V2 XN.num (Nat.le_refl _) (by omega)
      rw [hok] at hc
      refine hc.mono ?_
      clear hc
      rintro e V3 ⟨rfl, hb⟩
      clear kXN zXN
      replace XN := XN.below hb
      replace WW := WW.trans (hb.mono WW.size)
      have kXN := XN.cell
      have zXN := XN.lt
      clear hb hbs
      go_wp2_with fail
      go_ret
      exact ⟨rfl, WW⟩
    · have hbs : w.heap.size ≤ V2.heap.size := WW.size
      have hc := rvalid_any A n c a V2.heap.size V2 XN.num (Nat.le_refl _) (by omega)
      rw [hok] at hc
      refine hc.mono ?_
      clear hc
      rintro e V3 ⟨rfl, hb⟩
      clear kXN zXN
      replace XN := XN.below hb
      replace WW := WW.trans (hb.mono WW.size)
      have kXN := XN.cell
      have zXN := XN.lt
      clear hb hbs
      obtain ⟨T1, hT1, hP1, hz1⟩ := text_facts (b := 10) (by decide) (by decide) hok
      obtain ⟨T2, hT2, hP2, hz2⟩ := text_facts (b := 16) (by decide) (by decide) hok
      have HT1 := hid hT1
      have HT2 := hid hT2
      have HP1 := hid hP1
      have HP2 := hid hP2
      clear hT1 hT2 hP1 hP2
      obtain ⟨hnw, h64⟩ := okB_yes.1 hok
      have HNW := hid hnw
      obtain ⟨R, hR⟩ : ∃ R, R = bytesL (4 * n + m) a := ⟨_, rfl⟩
      have HBS : Hid (bytesS n a (4 * ((n : Nat) : Int) + ((m : Nat) : Int)) = (R, 0)) := (show _ = _ by rw [hR, ← hnw]; exact bts_ok (by omega) hm)
      have HFB : Hid (fbS R = (a, 0)) := (show _ = _ by rw [hR, ← hnw]; exact fb_bts (by omega) hm)
      have HRL : Hid (R.length = 4 * n + m) := (show _ = _ by rw [hR, bytesL_len]; have := ndg256 (a := a); omega)
      have hrl : (((R.length : Nat) : Int) == 4 * ((n : Nat) : Int) + ((m : Nat) : Int)) = true := by rw [HRL.out]; simp
      have HBN : Hid (∀ x ∈ R, x ≤ 255) := (show ∀ x ∈ R, x ≤ 255 by rw [hR]; exact fun x hx => bytesL_le hx)
      clear hR hnw hok
      go_wp2_with fail
      have hbs : w.heap.size ≤ V3.heap.size := WW.size
      have hc := text_any A n c a V3 XN.num (by omega)
      rw [HT1.out] at hc
      refine hc.mono ?_
      clear hc
      rintro e V4 ⟨rfl, hb⟩
      clear kXN zXN
      replace XN := XN.below hb
      replace WW := WW.trans (hb.mono WW.size)
      have kXN := XN.cell
      have zXN := XN.lt
      clear hb hbs
      go_wp2_with fail
      have hbs : w.heap.size ≤ V4.heap.size := WW.size
      have hc := parse_any T1 V4 (by omega)
      rw [HP1.out] at hc
      refine hc.mono ?_
      clear hc
      rintro e V5 ⟨v, rfl, hv, hb⟩
      clear kXN zXN
      replace XN := XN.below hb
      replace WW := WW.trans (hb.mono WW.size)
      obtain ⟨D1, d1, rfl, ho⟩ := hv
      have O1 := ho.weak (b := w.heap.size) hbs
      clear ho
      have kXN := XN.cell
      have zXN := XN.lt
      clear hb hbs
      go_wp2_with fail
      obtain ⟨b0, bw⟩ := boxes1 V5 (.slice D1 (nw a) d1)
      have hbs := WW.size
      clear kXN zXN
      have qXN6 := XN.lt
      have XA := VB.mk (B := w.heap.size) (a := a) b0 (.inr O1) bw hbs (by omega)
      replace XN := XN.below bw
      replace O1 := O1.below bw (Nat.le_refl _)
      replace WW := WW.trans (bw.mono WW.size)
      clear bw hbs b0
      generalize hV : (V5.alloc (.cells #[.slice D1 (nw a) d1] 24)) = V6 at XN XA O1 WW ⊢
      clear hV
      have kXN := XN.cell
      have zXN := XN.lt
      have kXA := XA.cell
      have zXA := XA.lt
      have hbs : w.heap.size ≤ V6.heap.size := WW.size
      have hc := hex_any A n c a V6 XN.num (by omega)
      rw [HT2.out] at hc
      refine hc.mono ?_
      clear hc
      rintro e V7 ⟨rfl, hb⟩
      clear kXN zXN kXA zXA
      replace XN := XN.below hb
      replace XA := XA.below hb
      replace O1 := O1.below hb (Nat.le_refl _)
      replace WW := WW.trans (hb.mono WW.size)
      have kXN := XN.cell
      have zXN := XN.lt
      have kXA := XA.cell
      have zXA := XA.lt
      clear hb hbs
      go_wp2_with fail
      have hbs : w.heap.size ≤ V7.heap.size := WW.size
      have hc := parsehex_any T2 V7 (by omega)
      rw [HP2.out] at hc
      refine hc.mono ?_
      clear hc
      rintro e V8 ⟨v, rfl, hv, hb⟩
      clear kXN zXN kXA zXA
      replace XN := XN.below hb
      replace XA := XA.below hb
      replace O1 := O1.below hb (Nat.le_refl _)
      replace WW := WW.trans (hb.mono WW.size)
      obtain ⟨D2, d2, rfl, ho⟩ := hv
      have O2 := ho.weak (b := w.heap.size) hbs
      clear ho
      have kXN := XN.cell
      have zXN := XN.lt
      have kXA := XA.cell
      have zXA := XA.lt
      clear hb hbs
      go_wp2_with fail
      obtain ⟨b0, bw⟩ := boxes1 V8 (.slice D2 (nw a) d2)
      have hbs := WW.size
      clear kXN zXN kXA zXA
      have qXA9 := XA.lt
      have qXN9 := XN.lt
      have XB := VB.mk (B := w.heap.size) (a := a) b0 (.inr O2) bw hbs (by omega)
      replace XN := XN.below bw
      replace XA := XA.below bw
      replace O1 := O1.below bw (Nat.le_refl _)
      replace O2 := O2.below bw (Nat.le_refl _)
      replace WW := WW.trans (bw.mono WW.size)
      clear bw hbs b0
      generalize hV : (V8.alloc (.cells #[.slice D2 (nw a) d2] 24)) = V9 at XN XA XB O1 O2 WW ⊢
      clear hV
      have kXN := XN.cell
      have zXN := XN.lt
      have kXA := XA.cell
      have zXA := XA.lt
      have kXB := XB.cell
      have zXB := XB.lt
      have hbs : w.heap.size ≤ V9.heap.size := WW.size
      have hc := bytes_any A n c a (4 * ((n : Nat) : Int) + ((m : Nat) : Int)) V9 XN.num (by omega) (by omega) (by omega)
      rw [HBS.out] at hc
      refine hc.mono ?_
      clear hc
      rintro e V10 ⟨v, rfl, hv, hb⟩
      clear kXN zXN kXA zXA kXB zXB
      replace XN := XN.below hb
      replace XA := XA.below hb
      replace XB := XB.below hb
      replace O1 := O1.below hb (Nat.le_refl _)
      replace O2 := O2.below hb (Nat.le_refl _)
      replace WW := WW.trans (hb.mono WW.size)
      have O3 := hv.weak (b := w.heap.size) hbs
      clear hv
      obtain ⟨D3, d3, rfl⟩ := O3.slc
      have kXN := XN.cell
      have zXN := XN.lt
      have kXA := XA.cell
      have zXA := XA.lt
      have kXB := XB.cell
      have zXB := XB.lt
      clear hb hbs
      go_wp2_with fail
      have hcp := O3.cap
      have hbs : w.heap.size ≤ V10.heap.size := WW.size
      have hc := frombytes_any D3 R.length d3 R V10 (obn O3 HBN.out) rfl (by have := hcp.1; have := hcp.2; omega) hcp.1 hcp.2
      rw [HFB.out] at hc
      refine hc.mono ?_
      clear hc
      rintro e V11 ⟨v, rfl, hv, hb⟩
      clear kXN zXN kXA zXA kXB zXB
      replace XN := XN.below hb
      replace XA := XA.below hb
      replace XB := XB.below hb
      replace O1 := O1.below hb (Nat.le_refl _)
      replace O2 := O2.below hb (Nat.le_refl _)
      replace O3 := O3.below hb (Nat.le_refl _)
      replace WW := WW.trans (hb.mono WW.size)
      obtain ⟨D4, d4, rfl, ho⟩ := hv
      have O4 := ho.weak (b := w.heap.size) hbs
      clear ho
      have kXN := XN.cell
      have zXN := XN.lt
      have kXA := XA.cell
      have zXA := XA.lt
      have kXB := XB.cell
      have zXB := XB.lt
      clear hb hbs
      go_wp2_with fail
      obtain ⟨b0, bw⟩ := boxes1 V11 (.slice D4 (nw a) d4)
      have hbs := WW.size
      clear kXN zXN kXA zXA kXB zXB
      have qXA12 := XA.lt
      have qXB12 := XB.lt
      have qXN12 := XN.lt
      have XC := VB.mk (B := w.heap.size) (a := a) b0 (.inr O4) bw hbs (by omega)
      replace XN := XN.below bw
      replace XA := XA.below bw
      replace XB := XB.below bw
      replace O1 := O1.below bw (Nat.le_refl _)
      replace O2 := O2.below bw (Nat.le_refl _)
      replace O3 := O3.below bw (Nat.le_refl _)
      replace O4 := O4.below bw (Nat.le_refl _)
      replace WW := WW.trans (bw.mono WW.size)
      clear bw hbs b0
      generalize hV : (V11.alloc (.cells #[.slice D4 (nw a) d4] 24)) = V12 at XN XA XB XC O1 O2 O3 O4 WW ⊢
      clear hV
      have kXN := XN.cell
      have zXN := XN.lt
      have kXA := XA.cell
      have zXA := XA.lt
      have kXB := XB.cell
      have zXB := XB.lt
      have kXC := XC.cell
      have zXC := XC.lt
      have XAn := O1.nle
      have XBn := O2.nle
      have XCn := O4.nle
      have hbs : w.heap.size ≤ V12.heap.size := WW.size
      have hc := (show Calls Try.prog 18 #[.agg #[.slice D1 (nw a) d1], .agg #[.slice A n c]] V12 (RetB (.bool true) V12) by have h := same_any D1 A (nw a) n d1 c a a V12 XA.num XN.num XAn hn; rw [sameB_yes HNW.out rfl] at h; exact h)
      refine hc.mono ?_
      clear hc
      rintro e V13 ⟨rfl, hb⟩
      clear kXN zXN kXA zXA kXB zXB kXC zXC
      replace XN := XN.below hb
      replace XA := XA.below hb
      replace XB := XB.below hb
      replace XC := XC.below hb
      replace O1 := O1.below hb (Nat.le_refl _)
      replace O2 := O2.below hb (Nat.le_refl _)
      replace O3 := O3.below hb (Nat.le_refl _)
      replace O4 := O4.below hb (Nat.le_refl _)
      replace WW := WW.trans (hb.mono WW.size)
      have kXN := XN.cell
      have zXN := XN.lt
      have kXA := XA.cell
      have zXA := XA.lt
      have kXB := XB.cell
      have zXB := XB.lt
      have kXC := XC.cell
      have zXC := XC.lt
      clear hb hbs
      go_wp2_with fail
      have hbs : w.heap.size ≤ V13.heap.size := WW.size
      have hc := (show Calls Try.prog 18 #[.agg #[.slice D2 (nw a) d2], .agg #[.slice A n c]] V13 (RetB (.bool true) V13) by have h := same_any D2 A (nw a) n d2 c a a V13 XB.num XN.num XBn hn; rw [sameB_yes HNW.out rfl] at h; exact h)
      refine hc.mono ?_
      clear hc
      rintro e V14 ⟨rfl, hb⟩
      clear kXN zXN kXA zXA kXB zXB kXC zXC
      replace XN := XN.below hb
      replace XA := XA.below hb
      replace XB := XB.below hb
      replace XC := XC.below hb
      replace O1 := O1.below hb (Nat.le_refl _)
      replace O2 := O2.below hb (Nat.le_refl _)
      replace O3 := O3.below hb (Nat.le_refl _)
      replace O4 := O4.below hb (Nat.le_refl _)
      replace WW := WW.trans (hb.mono WW.size)
      have kXN := XN.cell
      have zXN := XN.lt
      have kXA := XA.cell
      have zXA := XA.lt
      have kXB := XB.cell
      have zXB := XB.lt
      have kXC := XC.cell
      have zXC := XC.lt
      clear hb hbs
      go_wp2_with fail
      have hbs : w.heap.size ≤ V14.heap.size := WW.size
      have hc := (show Calls Try.prog 18 #[.agg #[.slice D4 (nw a) d4], .agg #[.slice A n c]] V14 (RetB (.bool true) V14) by have h := same_any D4 A (nw a) n d4 c a a V14 XC.num XN.num XCn hn; rw [sameB_yes HNW.out rfl] at h; exact h)
      refine hc.mono ?_
      clear hc
      rintro e V15 ⟨rfl, hb⟩
      clear kXN zXN kXA zXA kXB zXB kXC zXC
      replace XN := XN.below hb
      replace XA := XA.below hb
      replace XB := XB.below hb
      replace XC := XC.below hb
      replace O1 := O1.below hb (Nat.le_refl _)
      replace O2 := O2.below hb (Nat.le_refl _)
      replace O3 := O3.below hb (Nat.le_refl _)
      replace O4 := O4.below hb (Nat.le_refl _)
      replace WW := WW.trans (hb.mono WW.size)
      have kXN := XN.cell
      have zXN := XN.lt
      have kXA := XA.cell
      have zXA := XA.lt
      have kXB := XB.cell
      have zXB := XB.lt
      have kXC := XC.cell
      have zXC := XC.lt
      clear hb hbs
      go_wp2_with fail
      go_ret
      exact ⟨rfl, WW⟩

end Go.Proofs.Ytohiimpjcgcaiaa
