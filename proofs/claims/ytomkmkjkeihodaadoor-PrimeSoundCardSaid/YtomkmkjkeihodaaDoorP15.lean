/- prime.right, Verify. -/
import Derived.Test.YtomkmkjkeihodaaDoorP14
set_option linter.unusedVariables false
set_option linter.unusedSimpArgs false
namespace Go.Proofs.YtomkmkjkeihodaaDoor
open Go.RowKit

theorem PV.up {w V : World} {P : Option Addr} {k : Nat} {ps : List CT} (h : PV w P k ps) (WW : Below w.heap.size w V) : PV V P k ps := by
  obtain ⟨h1, h2, X, Y, Z, h3, h4⟩ := h
  refine ⟨h1, h2, X, Y, Z, fun i hi => ?_, fun i hi => (h4 i hi).go WW⟩
  obtain ⟨ad, e, hb, c0, c1, c2⟩ := h3 i hi
  exact ⟨ad, e, Nat.lt_of_lt_of_le hb WW.size, (WW.cell (by rw [add_block]; exact hb)).trans c0, (WW.cell (by show (ad.add (i * 3)).block < _; rw [add_block]; exact hb)).trans c1, (WW.cell (by show (ad.add (i * 3)).block < _; rw [add_block]; exact hb)).trans c2⟩
mutual
/-- Is a certificate right, as the program says it. -/
def rightB : CT → Bool | .node n a m b ps => rngB n a m b && complB (a - 1) 0 1 ps && rightsB ps && gensB a b ps
def rightsB : List CT → Bool | [] => true | p :: ps => rightB p && rightsB ps
end
theorem rngB_out {n a m b : Nat} (h : rngB n a m b = true) : n = nw a ∧ m = nw b ∧ nw a ≤ 32 ∧ 2 ≤ a ∧ 1 ≤ b ∧ b < a ∧ bl a ≤ 1024 := by
  unfold rngB at h
  simp only [Bool.and_eq_true, decide_eq_true_eq] at h
  obtain ⟨⟨⟨h1, h2, h3⟩, h4⟩, h5, h6⟩ := h
  exact ⟨(okB_yes.1 h1).1.symm, (okB_yes.1 h4).1.symm, nw_le_bl (by omega), h2, h5, h6, h3⟩
theorem rightB_out {t : CT} (h : rightB t = true) : okB t.wds t.val = true ∧ 1 ≤ t.val := by
  cases t with
  | node n a m b ps =>
    rw [rightB] at h
    simp only [Bool.and_eq_true] at h
    obtain ⟨e1, _, h1, h2, _⟩ := rngB_out h.1.1.1
    exact ⟨by show okB n a = true; rw [e1]; exact okB_nw (by omega), by show 1 ≤ a; omega⟩
theorem rightsB_all (ps : List CT) : rightsB ps = ps.all rightB := by
  induction ps with
  | nil => rfl
  | cons p ps ih => rw [rightsB, ih]; rfl
set_option maxHeartbeats 4000000 in
set_option maxRecDepth 100000 in
theorem right_any : ∀ (s : Nat) (t : CT) (hs : t.size ≤ s) (x y z : Value) (w : World) (hV : CV w w.heap.size x y z t),
    Calls Tryd.prog 42 #[.agg #[x, y, z]] w (RetB (.bool (rightB t)) w)
  | 0, t, hs, _, _, _, _, _ => absurd hs (by have := t.size_pos; omega)
  | s + 1, t, hs, x, y, z, w, hV => by
    have IH := hid (right_any s)
    rcases hV with @⟨A, A', P, n, c, a, m, d, b, k, ex, ps, X, Y, Z, hN, hR, hn, hm, hk, hk2, hP, hT⟩
    have HPV : Hid (PV w P k ps) := ⟨hk, hk2, X, Y, Z, hP, hT⟩
    have HN0 := hid hN
    have HB0 := hid hR
    have HK := hid hk
    have HS := hid hs
    clear hP hT hk hN hR hs
    obtain ⟨res, hres⟩ : ∃ r, r = rightB (.node n a m b ps) := ⟨_, rfl⟩
    have HRES := hid hres
    rw [rightB] at hres
    rw [← HRES.out]
    have HRES2 := hid hres
    clear hres
    obtain ⟨XC, WW⟩ := box3 w (.slice A n c) (.slice A' m d) (.slice P k ex)
    go_enter Tryd.func42, Tryd.ntmps42
    go_wp2_with fail
    generalize hV : w.alloc (.cells #[.slice A n c, .slice A' m d, .slice P k ex] 40) = V0 at XC WW ⊢
    clear hV
    have kXC0 : V0.cell? ⟨w.heap.size, 0, none⟩ = some (.slice A n c) := (XC.cell 0).trans rfl
    have kXC1 : V0.cell? ⟨w.heap.size, 1, none⟩ = some (.slice A' m d) := (XC.cell 1).trans rfl
    have kXC2 : V0.cell? ⟨w.heap.size, 2, none⟩ = some (.slice P k ex) := (XC.cell 2).trans rfl
    have zXC := XC.lt
    go_wp2_with fail
    obtain ⟨rg, hrg⟩ : ∃ r, r = rngB n a m b := ⟨_, rfl⟩
    have HRG := hid hrg
    have hbs : w.heap.size ≤ V0.heap.size := WW.size
    have hc := inrange_any A A' P n c m d k ex a b V0 (HN0.out.up WW) (HB0.out.up WW) hn hm
    rw [← hrg] at hc
    refine hc.mono ?_
    clear hc
    rintro e V1 ⟨rfl, hb⟩
    clear kXC0 kXC1 kXC2 zXC
    replace XC := XC.below hb XC.lt
    replace WW := WW.trans (hb.mono WW.size)
    have kXC0 : V1.cell? ⟨w.heap.size, 0, none⟩ = some (.slice A n c) := (XC.cell 0).trans rfl
    have kXC1 : V1.cell? ⟨w.heap.size, 1, none⟩ = some (.slice A' m d) := (XC.cell 1).trans rfl
    have kXC2 : V1.cell? ⟨w.heap.size, 2, none⟩ = some (.slice P k ex) := (XC.cell 2).trans rfl
    have zXC := XC.lt
    clear hb hbs
    cases rg
    · have HE : Hid (res = false) := (show _ = _ by rw [HRES2.out, ← hrg]; rfl)
      clear hrg
      go_wp2_with fail
      go_ret
      exact ⟨by rw [HE.out]; rfl, WW⟩
    · obtain ⟨en, em, ha, ha2, hb1, hba, _⟩ := rngB_out hrg.symm
      subst en em
      have h1 : 1 ≤ a := by omega
      have ha64 : nw a ≤ 64 := by omega
      rw [← hrg, Bool.true_and] at HRES2
      clear hrg
      go_wp2_with fail
      obtain ⟨cp, hcp⟩ : ∃ r, r = complB (a - 1) 0 1 ps := ⟨_, rfl⟩
      have hbs : w.heap.size ≤ V1.heap.size := WW.size
      have hc := complete_any A A' P c (nw b) d k ex a ps V1 (HN0.out.up WW) ha64 h1 (HPV.out.up WW)
      rw [← hcp] at hc
      refine hc.mono ?_
      clear hc
      rintro e V2 ⟨rfl, hb⟩
      clear kXC0 kXC1 kXC2 zXC
      replace XC := XC.below hb XC.lt
      replace WW := WW.trans (hb.mono WW.size)
      have kXC0 : V2.cell? ⟨w.heap.size, 0, none⟩ = some (.slice A (nw a) c) := (XC.cell 0).trans rfl
      have kXC1 : V2.cell? ⟨w.heap.size, 1, none⟩ = some (.slice A' (nw b) d) := (XC.cell 1).trans rfl
      have kXC2 : V2.cell? ⟨w.heap.size, 2, none⟩ = some (.slice P k ex) := (XC.cell 2).trans rfl
      have zXC := XC.lt
      clear hb hbs
      rw [← hcp] at HRES2
      cases cp
      · have HE : Hid (res = false) := HRES2.out
        clear hcp
        go_wp2_with fail
        go_ret
        exact ⟨by rw [HE.out]; rfl, WW⟩
      · rw [Bool.true_and, rightsB_all] at HRES2
        clear hcp
        go_wp2_with fail
        go_loopw [16] (fun i wr => ∃ (j : Nat), j ≤ k ∧ i = .int .i64 ((j : Nat) : Int) ∧ Hid (∀ i (h : i < ps.length), i < j → rightB ps[i] = true) ∧ Below w.heap.size w wr ∧ Blk wr (w.heap.size) 40 #[.slice A (nw a) c, .slice A' (nw b) d, .slice P k ex]) (fun i wr => k - (intOf i).toNat)
        case atStart => exact ⟨0, by omega, by go_num, (show ∀ i (h : i < ps.length), i < 0 → _ from fun i _ h => absurd h (by omega)), WW, XC⟩
        case round =>
          clear WW kXC0 kXC1 kXC2 zXC XC
          obtain ⟨j, hjk0, rfl, HJ, WW, XC⟩ := hrel
          have kXC0 : wr.cell? ⟨w.heap.size, 0, none⟩ = some (.slice A (nw a) c) := (XC.cell 0).trans rfl
          have kXC1 : wr.cell? ⟨w.heap.size, 1, none⟩ = some (.slice A' (nw b) d) := (XC.cell 1).trans rfl
          have kXC2 : wr.cell? ⟨w.heap.size, 2, none⟩ = some (.slice P k ex) := (XC.cell 2).trans rfl
          have zXC := XC.lt
          by_cases hjk : j < k
          · have l1 : decide (((j : Nat) : Int) < ((k : Nat) : Int)) = true := by simp; omega
            obtain ⟨hl, ad, A1, A2, A3, c1, n2, c2, n3, c3, e, q0, q1, q2, HN1, hn1, hx⟩ := HPV.out.part hjk WW
            obtain ⟨n1, hn1'⟩ : ∃ x, x = ps[j].wds := ⟨_, rfl⟩
            obtain ⟨a1, ha1⟩ : ∃ x, x = ps[j].val := ⟨_, rfl⟩
            rw [← hn1'] at q0 HN1 hn1 hx
            rw [← ha1] at HN1
            have HW1 := hid hn1'
            have HA1 := hid ha1
            have HX := hid hx
            have HN := hid HN1
            clear hn1' ha1 hx HN1
            subst e
            obtain ⟨pj, hpj⟩ : ∃ p, p = ps[j] := ⟨_, rfl⟩
            have HPJ := hid hpj
            rw [← hpj] at HX
            have HSJ : Hid (pj.size ≤ s) := (show _ ≤ _ by have h1 := size_lt (n := nw a) (a := a) (m := nw b) (b := b) hl; have h2 := HS.out; rw [hpj]; omega)
            clear hpj
            go_wp2_with fail
            clear kXC0 kXC1 kXC2 zXC
            have bw := (Below.refl wr.heap.size wr).alloc (Nat.le_refl _) (.cells #[.slice A1 n1 c1, .slice A2 n2 c2, .slice A3 n3 c3] 40)
            have XP := Blk.new wr 40 #[.slice A1 n1 c1, .slice A2 n2 c2, .slice A3 n3 c3]
            replace XC := XC.below bw XC.lt
            replace WW := WW.trans (bw.mono WW.size)
            clear bw
            generalize hV : wr.alloc (.cells #[.slice A1 n1 c1, .slice A2 n2 c2, .slice A3 n3 c3] 40) = V3 at XC XP WW ⊢
            clear hV
            have kXC0 : V3.cell? ⟨w.heap.size, 0, none⟩ = some (.slice A (nw a) c) := (XC.cell 0).trans rfl
            have kXC1 : V3.cell? ⟨w.heap.size, 1, none⟩ = some (.slice A' (nw b) d) := (XC.cell 1).trans rfl
            have kXC2 : V3.cell? ⟨w.heap.size, 2, none⟩ = some (.slice (some ad) k ex) := (XC.cell 2).trans rfl
            have zXC := XC.lt
            have kXP0 : V3.cell? ⟨wr.heap.size, 0, none⟩ = some (.slice A1 n1 c1) := (XP.cell 0).trans rfl
            have kXP1 : V3.cell? ⟨wr.heap.size, 1, none⟩ = some (.slice A2 n2 c2) := (XP.cell 1).trans rfl
            have kXP2 : V3.cell? ⟨wr.heap.size, 2, none⟩ = some (.slice A3 n3 c3) := (XP.cell 2).trans rfl
            have zXP := XP.lt
            go_wp2_with fail
            obtain ⟨rj, hrj⟩ : ∃ r, r = rightB pj := ⟨_, rfl⟩
            have hbs : w.heap.size ≤ V3.heap.size := WW.size
            have hc := IH.out pj HSJ.out _ _ _ V3 (HX.out.go WW)
            rw [← hrj] at hc
            refine hc.mono ?_
            clear hc
            rintro e V4 ⟨rfl, hb⟩
            clear kXC0 kXC1 kXC2 zXC kXP0 kXP1 kXP2 zXP
            replace XC := XC.below hb XC.lt
            replace XP := XP.below hb XP.lt
            replace WW := WW.trans (hb.mono WW.size)
            have kXC0 : V4.cell? ⟨w.heap.size, 0, none⟩ = some (.slice A (nw a) c) := (XC.cell 0).trans rfl
            have kXC1 : V4.cell? ⟨w.heap.size, 1, none⟩ = some (.slice A' (nw b) d) := (XC.cell 1).trans rfl
            have kXC2 : V4.cell? ⟨w.heap.size, 2, none⟩ = some (.slice (some ad) k ex) := (XC.cell 2).trans rfl
            have zXC := XC.lt
            have kXP0 : V4.cell? ⟨wr.heap.size, 0, none⟩ = some (.slice A1 n1 c1) := (XP.cell 0).trans rfl
            have kXP1 : V4.cell? ⟨wr.heap.size, 1, none⟩ = some (.slice A2 n2 c2) := (XP.cell 1).trans rfl
            have kXP2 : V4.cell? ⟨wr.heap.size, 2, none⟩ = some (.slice A3 n3 c3) := (XP.cell 2).trans rfl
            have zXP := XP.lt
            clear hb hbs
            cases rj
            · have HE : Hid (res = false) := (show _ = _ by rw [HRES2.out, List.all_eq_false.2 ⟨ps[j], List.getElem_mem hl, by rw [← HPJ.out, ← hrj]; decide⟩]; rfl)
              clear hrj
              go_wp2_with fail
              go_ret
              exact ⟨by rw [HE.out]; rfl, WW⟩
            · have HRJ := hid hrj
              clear hrj
              go_wp2_with fail
              go_roundw
              case rel => exact ⟨j + 1, by omega, by go_num, (show ∀ i (h : i < ps.length), i < j + 1 → _ from fun i hi hij => by
                rcases Nat.lt_or_ge i j with h | h
                · exact HJ.out i hi h
                · obtain rfl : i = j := by omega
                  rw [← HPJ.out]; exact HRJ.out.symm), WW, XC⟩
              case measure => simp [intOf] <;> omega
          · have l1 : decide (((j : Nat) : Int) < ((k : Nat) : Int)) = false := by simp; omega
            have HALL : ∀ p ∈ ps, rightB p = true := fun p hp => by obtain ⟨i, hi, e⟩ := List.getElem_of_mem hp; rw [← e]; exact HJ.out i hi (by have := HK.out; omega)
            have HE : Hid (res = gensB a b ps) := (show _ = _ by rw [HRES2.out, List.all_eq_true.2 HALL, Bool.true_and])
            have HOKS := hid fun p hp => rightB_out (HALL p hp)
            clear HALL
            go_wp2_with fail
            have hbs : w.heap.size ≤ wr.heap.size := WW.size
            have hc := generates_any A A' P c d k ex a b ps wr (HN0.out.up WW) (HB0.out.up WW) ha h1 hba (HPV.out.up WW) HOKS.out
            rw [← HE.out] at hc
            refine hc.mono ?_
            clear hc
            rintro e V3 ⟨rfl, hb⟩
            clear kXC0 kXC1 kXC2 zXC
            replace XC := XC.below hb XC.lt
            replace WW := WW.trans (hb.mono WW.size)
            have kXC0 : V3.cell? ⟨w.heap.size, 0, none⟩ = some (.slice A (nw a) c) := (XC.cell 0).trans rfl
            have kXC1 : V3.cell? ⟨w.heap.size, 1, none⟩ = some (.slice A' (nw b) d) := (XC.cell 1).trans rfl
            have kXC2 : V3.cell? ⟨w.heap.size, 2, none⟩ = some (.slice P k ex) := (XC.cell 2).trans rfl
            have zXC := XC.lt
            clear hb hbs
            go_wp2_with fail
            go_ret
            exact ⟨rfl, WW⟩

def verB (t : CT) : Bool := decide (t.size ≤ 1000) && rightB t
set_option maxHeartbeats 4000000 in
set_option maxRecDepth 100000 in
theorem verify_any (t : CT) (x y z : Value) (w : World) (hV : CV w w.heap.size x y z t) :
    Calls Tryd.prog 25 #[.agg #[x, y, z]] w (RetB (.bool (verB t)) w) := by
  obtain ⟨A1, n1, c1, A2, n2, c2, A3, n3, c3, rfl, rfl, rfl⟩ := hV.slc
  obtain ⟨V0, hV0⟩ : ∃ V, V = w.alloc (.cells #[.slice A1 n1 c1, .slice A2 n2 c2, .slice A3 n3 c3] 40) := ⟨_, rfl⟩
  obtain ⟨hB, WW⟩ := box3 w (.slice A1 n1 c1) (.slice A2 n2 c2) (.slice A3 n3 c3)
  rw [← hV0] at hB WW
  have HV := hid hV
  have HC := hid (size_any t _ _ _ V0 (hV.go WW))
  obtain ⟨q, hq⟩ : ∃ q, q = sizeN t := ⟨_, rfl⟩
  have q1 : q ≤ 1000 := by rw [hq]; unfold sizeN; split <;> omega
  rw [← hq] at HC
  have HQ : Hid (decide (t.size ≤ 1000) = !(q == 0)) := (show _ = _ by
    have := t.size_pos
    rw [hq]; unfold sizeN
    by_cases h : t.size ≤ 1000
    · rw [if_pos h, decide_eq_true h]; simp; omega
    · rw [if_neg h, decide_eq_false h]; rfl)
  clear hV hq
  by_cases h : q = 0
  · subst h
    have HE : Hid (verB t = false) := (show _ = _ by unfold verB; rw [HQ.out]; rfl)
    go_enter Tryd.func25, Tryd.ntmps25
    go_wp2_with fail
    rw [← hV0]
    clear hV0 hB
    refine HC.out.mono ?_
    clear HC
    rintro e V1 ⟨rfl, hb⟩
    replace WW := WW.trans (hb.mono WW.size)
    clear hb
    go_wp2_with fail
    go_ret
    exact ⟨by rw [HE.out]; rfl, WW⟩
  · have l1 : (((q : Nat) : Int) != 0) = true := by simp; omega
    have HE : Hid (verB t = rightB t) := (show _ = _ by unfold verB; rw [HQ.out, show (q == 0) = false by simp; omega]; rfl)
    obtain ⟨k0, k1, k2⟩ := blk3 hB
    have hz := hB.lt
    go_enter Tryd.func25, Tryd.ntmps25
    go_wp2_with fail
    rw [← hV0]
    clear hV0
    refine HC.out.mono ?_
    clear HC
    rintro e V1 ⟨rfl, hb⟩
    replace k0 := (hb.cell (p := ⟨w.heap.size, 0, none⟩) hz).trans k0
    replace k1 := (hb.cell (p := ⟨w.heap.size, 1, none⟩) hz).trans k1
    replace k2 := (hb.cell (p := ⟨w.heap.size, 2, none⟩) hz).trans k2
    replace WW := WW.trans (hb.mono WW.size)
    clear hb hB hz
    go_wp2_with fail
    refine (right_any _ t (Nat.le_refl _) _ _ _ V1 (HV.out.go WW)).mono ?_
    rintro e V2 ⟨rfl, hb⟩
    replace WW := WW.trans (hb.mono WW.size)
    clear hb k0 k1 k2
    go_wp2_with fail
    go_ret
    exact ⟨by rw [HE.out]; rfl, WW⟩
end Go.Proofs.YtomkmkjkeihodaaDoor
