/- prime.generates. -/
import Derived.Test.YtomkmkjkeihodaaDoorP13
set_option linter.unusedVariables false
set_option linter.unusedSimpArgs false
namespace Go.Proofs.YtomkmkjkeihodaaDoor
open Go.RowKit

/-- What generates asks beside the first power: no power with (N - 1) / p is 1; bef is the number before. -/
def genB (a b : Nat) : Nat → List CT → Bool
  | _, [] => true
  | bef, p :: ps => if bef = p.val then genB a b bef ps else if b ^ ((a - 1) / p.val) % a == 1 then false else genB a b p.val ps
def gensB (a b : Nat) (ps : List CT) : Bool := (b ^ (a - 1) % a == 1) && genB a b 0 ps
set_option maxHeartbeats 4000000 in
set_option maxRecDepth 100000 in
theorem generates_any (A A' P : Option Addr) (c d k ex a b : Nat) (ps : List CT) (w : World) (hA : Num w w.heap.size A (nw a) a) (hB : Num w w.heap.size A' (nw b) b) (ha : nw a ≤ 32) (h1 : 1 ≤ a) (hba : b < a) (hPV : PV w P k ps) (hok : ∀ p ∈ ps, okB p.wds p.val = true ∧ 1 ≤ p.val) :
    Calls Tryd.prog 65 #[.agg #[.slice A (nw a) c, .slice A' (nw b) d, .slice P k ex]] w (RetB (.bool (gensB a b ps)) w) := by
  have HN0 := hid hA
  have HB0 := hid hB
  have HPV := hid hPV
  have hk2 := hPV.2.1
  have HK := hid hPV.1
  have HOKS := hid hok
  obtain ⟨ls, hls⟩ : ∃ ls, ls = a - 1 := ⟨_, rfl⟩
  have HLS := hid hls
  have nls : nw ls ≤ 32 := Nat.le_trans (nw_mono (by omega)) ha
  have KL := hid (okB_nw (a := ls) (by omega))
  obtain ⟨res, hres⟩ : ∃ res, res = genB a b 0 ps := ⟨_, rfl⟩
  have HRES := hid hres
  obtain ⟨fst, hfst⟩ : ∃ fst, fst = (b ^ ls % a == 1) := ⟨_, rfl⟩
  have HFST := hid hfst
  have HRET : Hid (gensB a b ps = (fst && res)) := (show _ = _ by unfold gensB; rw [hfst, hres, hls])
  rw [HRET.out]
  clear hPV hA hB hok hls hres hfst
  obtain ⟨XC, WW⟩ := box3 w (.slice A (nw a) c) (.slice A' (nw b) d) (.slice P k ex)
  go_enter Tryd.func65, Tryd.ntmps65
  go_wp2_with fail
  generalize hV : w.alloc (.cells #[.slice A (nw a) c, .slice A' (nw b) d, .slice P k ex] 40) = V0 at XC WW ⊢
  clear hV
  have kXC0 : V0.cell? ⟨w.heap.size, 0, none⟩ = some (.slice A (nw a) c) := (XC.cell 0).trans rfl
  have kXC1 : V0.cell? ⟨w.heap.size, 1, none⟩ = some (.slice A' (nw b) d) := (XC.cell 1).trans rfl
  have kXC2 : V0.cell? ⟨w.heap.size, 2, none⟩ = some (.slice P k ex) := (XC.cell 2).trans rfl
  have zXC := XC.lt
  go_wp2_with fail
  have hbs : w.heap.size ≤ V0.heap.size := WW.size
  have hc := less_any A c a V0 (HN0.out.up WW) (by omega) h1
  rw [← HLS.out] at hc
  refine hc.mono ?_
  clear hc
  rintro e V1 ⟨v, rfl, hv, hb⟩
  clear kXC0 kXC1 kXC2 zXC
  replace XC := XC.below hb XC.lt
  replace WW := WW.trans (hb.mono WW.size)
  obtain ⟨D3, d3, rfl, ho⟩ := hv
  have O3 := ho.weak (b := w.heap.size) hbs
  clear ho
  have kXC0 : V1.cell? ⟨w.heap.size, 0, none⟩ = some (.slice A (nw a) c) := (XC.cell 0).trans rfl
  have kXC1 : V1.cell? ⟨w.heap.size, 1, none⟩ = some (.slice A' (nw b) d) := (XC.cell 1).trans rfl
  have kXC2 : V1.cell? ⟨w.heap.size, 2, none⟩ = some (.slice P k ex) := (XC.cell 2).trans rfl
  have zXC := XC.lt
  clear hb hbs
  go_wp2_with fail
  obtain ⟨b0, bw⟩ := boxes1 V1 (.slice D3 (nw ls) d3)
  have hbs := WW.size
  clear kXC0 kXC1 kXC2 zXC
  have qXC2 := XC.lt
  have X3 := VB.mk (B := w.heap.size) (a := ls) b0 (.inr O3) bw hbs (by omega)
  replace O3 := O3.below bw (Nat.le_refl _)
  replace XC := XC.below bw XC.lt
  replace WW := WW.trans (bw.mono WW.size)
  clear bw hbs b0
  generalize hV : (V1.alloc (.cells #[.slice D3 (nw ls) d3] 37)) = V2 at X3 O3 XC WW ⊢
  clear hV
  have kX3 := X3.cell
  have zX3 := X3.lt
  have kXC0 : V2.cell? ⟨w.heap.size, 0, none⟩ = some (.slice A (nw a) c) := (XC.cell 0).trans rfl
  have kXC1 : V2.cell? ⟨w.heap.size, 1, none⟩ = some (.slice A' (nw b) d) := (XC.cell 1).trans rfl
  have kXC2 : V2.cell? ⟨w.heap.size, 2, none⟩ = some (.slice P k ex) := (XC.cell 2).trans rfl
  have zXC := XC.lt
  go_wp2_with fail
  clear O3
  have hbs : w.heap.size ≤ V2.heap.size := WW.size
  have hc := isone_any A A' P D3 c d k ex d3 a b ls V2 (HN0.out.up WW) (HB0.out.up WW) X3.num ha hba (by omega)
  rw [← HFST.out] at hc
  refine hc.mono ?_
  clear hc
  rintro e V3 ⟨rfl, hb⟩
  clear kX3 zX3 kXC0 kXC1 kXC2 zXC
  replace X3 := X3.below hb
  replace XC := XC.below hb XC.lt
  replace WW := WW.trans (hb.mono WW.size)
  have kX3 := X3.cell
  have zX3 := X3.lt
  have kXC0 : V3.cell? ⟨w.heap.size, 0, none⟩ = some (.slice A (nw a) c) := (XC.cell 0).trans rfl
  have kXC1 : V3.cell? ⟨w.heap.size, 1, none⟩ = some (.slice A' (nw b) d) := (XC.cell 1).trans rfl
  have kXC2 : V3.cell? ⟨w.heap.size, 2, none⟩ = some (.slice P k ex) := (XC.cell 2).trans rfl
  have zXC := XC.lt
  clear hb hbs
  cases fst
  · go_wp2_with fail
    go_ret
    exact ⟨rfl, WW⟩
  · go_wp2_with fail
    have hbs : w.heap.size ≤ V3.heap.size := WW.size
    have hc := pnum_any 0 V3 (by decide)
    refine hc.mono ?_
    clear hc
    rintro e V4 ⟨v, rfl, hv, hb⟩
    clear kX3 zX3 kXC0 kXC1 kXC2 zXC
    replace X3 := X3.below hb
    replace XC := XC.below hb XC.lt
    replace WW := WW.trans (hb.mono WW.size)
    obtain ⟨D4, d4, rfl, ho⟩ := hv
    have O4 := ho.weak (b := w.heap.size) hbs
    clear ho
    have kX3 := X3.cell
    have zX3 := X3.lt
    have kXC0 : V4.cell? ⟨w.heap.size, 0, none⟩ = some (.slice A (nw a) c) := (XC.cell 0).trans rfl
    have kXC1 : V4.cell? ⟨w.heap.size, 1, none⟩ = some (.slice A' (nw b) d) := (XC.cell 1).trans rfl
    have kXC2 : V4.cell? ⟨w.heap.size, 2, none⟩ = some (.slice P k ex) := (XC.cell 2).trans rfl
    have zXC := XC.lt
    clear hb hbs
    go_wp2_with fail
    obtain ⟨b0, bw⟩ := boxes1 V4 (.slice D4 (nw 0) d4)
    have hbs := WW.size
    clear kX3 zX3 kXC0 kXC1 kXC2 zXC
    have qX35 := X3.lt
    have qXC5 := XC.lt
    have X4 := VB.mk (B := w.heap.size) (a := 0) b0 (.inr O4) bw hbs (by omega)
    replace X3 := X3.below bw
    replace O4 := O4.below bw (Nat.le_refl _)
    replace XC := XC.below bw XC.lt
    replace WW := WW.trans (bw.mono WW.size)
    clear bw hbs b0
    generalize hV : (V4.alloc (.cells #[.slice D4 (nw 0) d4] 37)) = V5 at X3 X4 O4 XC WW ⊢
    clear hV
    have kX3 := X3.cell
    have zX3 := X3.lt
    have kX4 := X4.cell
    have zX4 := X4.lt
    have kXC0 : V5.cell? ⟨w.heap.size, 0, none⟩ = some (.slice A (nw a) c) := (XC.cell 0).trans rfl
    have kXC1 : V5.cell? ⟨w.heap.size, 1, none⟩ = some (.slice A' (nw b) d) := (XC.cell 1).trans rfl
    have kXC2 : V5.cell? ⟨w.heap.size, 2, none⟩ = some (.slice P k ex) := (XC.cell 2).trans rfl
    have zXC := XC.lt
    go_wp2_with fail
    clear O4
    go_loopw [21] (fun i wr => ∃ (j bf : Nat) (Bf : Option Addr) (bc : Nat), j ≤ k ∧ i = .int .i64 ((j : Nat) : Int) ∧ nw bf ≤ 64 ∧ Hid (res = genB a b bf (ps.drop j)) ∧ Below w.heap.size w wr ∧ VB w.heap.size wr (V1.heap.size) D3 (nw ls) d3 ls ∧ VB w.heap.size wr (V4.heap.size) Bf (nw bf) bc bf ∧ Blk wr (w.heap.size) 40 #[.slice A (nw a) c, .slice A' (nw b) d, .slice P k ex]) (fun i wr => k - (intOf i).toNat)
    case atStart => exact ⟨0, 0, D4, d4, by omega, by go_num, by decide, (show res = _ by rw [HRES.out]; rfl), WW, X3, X4, XC⟩
    case round =>
      clear WW kX3 zX3 kX4 zX4 kXC0 kXC1 kXC2 zXC X3 X4 XC
      obtain ⟨j, bf, Bf, bc, hjk0, rfl, hbf, HJ, WW, X3, X4, XC⟩ := hrel
      have kX3 := X3.cell
      have zX3 := X3.lt
      have kX4 := X4.cell
      have zX4 := X4.lt
      have kXC0 : wr.cell? ⟨w.heap.size, 0, none⟩ = some (.slice A (nw a) c) := (XC.cell 0).trans rfl
      have kXC1 : wr.cell? ⟨w.heap.size, 1, none⟩ = some (.slice A' (nw b) d) := (XC.cell 1).trans rfl
      have kXC2 : wr.cell? ⟨w.heap.size, 2, none⟩ = some (.slice P k ex) := (XC.cell 2).trans rfl
      have zXC := XC.lt
      by_cases hjk : j < k
      · have l1 : decide (((j : Nat) : Int) < ((k : Nat) : Int)) = true := by simp; omega
        obtain ⟨hl, ad, A1, A2, A3, c1, n2, c2, n3, c3, e, q0, q1, q2, HN1, hn1, hx⟩ := HPV.out.part hjk WW
        obtain ⟨n1, hn1'⟩ : ∃ x, x = ps[j].wds := ⟨_, rfl⟩
        obtain ⟨a1, ha1⟩ : ∃ x, x = ps[j].val := ⟨_, rfl⟩
        rw [← hn1'] at q0 HN1 hn1 hx
        rw [← ha1] at HN1
        have HW1 := hid hn1'
        have HA1 := hid ha1
        have HX := hid hx
        have HN := hid HN1
        clear hn1' ha1 hx HN1
        subst e
        have HOK : Hid (okB n1 a1 = true) := (show _ = _ by rw [HA1.out, HW1.out]; exact (HOKS.out _ (List.getElem_mem hl)).1)
        have ha1 : ¬ a1 = 0 := by rw [HA1.out]; have := (HOKS.out _ (List.getElem_mem hl)).2; omega
        obtain ⟨e1, e2⟩ := okB_yes.1 HOK.out
        obtain rfl : n1 = nw a1 := e1.symm
        clear e1
        have HJ2 : Hid (res = if bf = a1 then genB a b bf (ps.drop (j + 1)) else if b ^ (ls / a1) % a == 1 then false else genB a b a1 (ps.drop (j + 1))) := (show _ = _ by rw [HJ.out, List.drop_eq_getElem_cons hl, genB, ← HA1.out, ← HLS.out])
        have KB := hid (okB_nw hbf)
        obtain ⟨o, ho⟩ : ∃ o, o = ordN bf a1 := ⟨_, rfl⟩
        have HO := hid ho
        have o9 := ordN_bd bf a1
        rw [← ho] at o9
        by_cases hlt : bf = a1
        · have l2 : (o == 0) = true := by rw [ho, ordN_zero.2 hlt]; rfl
          have HE : Hid (res = genB a b bf (ps.drop (j + 1))) := (show _ = _ by rw [HJ2.out, if_pos hlt])
          clear ho hlt
          go_wp2_with fail
          clear kX3 zX3 kX4 zX4 kXC0 kXC1 kXC2 zXC
          have qX36 := X3.lt
          have qX46 := X4.lt
          have bw := (Below.refl wr.heap.size wr).alloc (Nat.le_refl _) (.cells #[.slice A1 (nw a1) c1, .slice A2 n2 c2, .slice A3 n3 c3] 40)
          have XP := Blk.new wr 40 #[.slice A1 (nw a1) c1, .slice A2 n2 c2, .slice A3 n3 c3]
          replace X3 := X3.below bw
          replace X4 := X4.below bw
          replace XC := XC.below bw XC.lt
          replace WW := WW.trans (bw.mono WW.size)
          clear bw
          generalize hV : wr.alloc (.cells #[.slice A1 (nw a1) c1, .slice A2 n2 c2, .slice A3 n3 c3] 40) = V6 at X3 X4 XC XP WW ⊢
          clear hV
          have kX3 := X3.cell
          have zX3 := X3.lt
          have kX4 := X4.cell
          have zX4 := X4.lt
          have kXC0 : V6.cell? ⟨w.heap.size, 0, none⟩ = some (.slice A (nw a) c) := (XC.cell 0).trans rfl
          have kXC1 : V6.cell? ⟨w.heap.size, 1, none⟩ = some (.slice A' (nw b) d) := (XC.cell 1).trans rfl
          have kXC2 : V6.cell? ⟨w.heap.size, 2, none⟩ = some (.slice (some ad) k ex) := (XC.cell 2).trans rfl
          have zXC := XC.lt
          have kXP0 : V6.cell? ⟨wr.heap.size, 0, none⟩ = some (.slice A1 (nw a1) c1) := (XP.cell 0).trans rfl
          have kXP1 : V6.cell? ⟨wr.heap.size, 1, none⟩ = some (.slice A2 n2 c2) := (XP.cell 1).trans rfl
          have kXP2 : V6.cell? ⟨wr.heap.size, 2, none⟩ = some (.slice A3 n3 c3) := (XP.cell 2).trans rfl
          have zXP := XP.lt
          go_wp2_with fail
          have hbs : w.heap.size ≤ V6.heap.size := WW.size
          have hc := cmp_any Bf A1 _ _ bc c1 bf a1 V6 X4.num (HN.out.up WW) (by omega) hn1
          rw [bothC_yes KB.out HOK.out] at hc
          rw [← HO.out] at hc
          refine hc.mono ?_
          clear hc
          rintro e V7 ⟨rfl, hb⟩
          clear kX3 zX3 kX4 zX4 kXC0 kXC1 kXC2 zXC kXP0 kXP1 kXP2 zXP
          replace X3 := X3.below hb
          replace X4 := X4.below hb
          replace XC := XC.below hb XC.lt
          replace XP := XP.below hb XP.lt
          replace WW := WW.trans (hb.mono WW.size)
          have kX3 := X3.cell
          have zX3 := X3.lt
          have kX4 := X4.cell
          have zX4 := X4.lt
          have kXC0 : V7.cell? ⟨w.heap.size, 0, none⟩ = some (.slice A (nw a) c) := (XC.cell 0).trans rfl
          have kXC1 : V7.cell? ⟨w.heap.size, 1, none⟩ = some (.slice A' (nw b) d) := (XC.cell 1).trans rfl
          have kXC2 : V7.cell? ⟨w.heap.size, 2, none⟩ = some (.slice (some ad) k ex) := (XC.cell 2).trans rfl
          have zXC := XC.lt
          have kXP0 : V7.cell? ⟨wr.heap.size, 0, none⟩ = some (.slice A1 (nw a1) c1) := (XP.cell 0).trans rfl
          have kXP1 : V7.cell? ⟨wr.heap.size, 1, none⟩ = some (.slice A2 n2 c2) := (XP.cell 1).trans rfl
          have kXP2 : V7.cell? ⟨wr.heap.size, 2, none⟩ = some (.slice A3 n3 c3) := (XP.cell 2).trans rfl
          have zXP := XP.lt
          clear hb hbs
          go_wp2_with fail
          go_roundw
          case rel => exact ⟨j + 1, bf, Bf, bc, by omega, by go_num, hbf, HE.out, WW, X3, X4, XC⟩
          case measure => simp [intOf] <;> omega
        · have l2 : (o == 0) = false := by rw [ho, beq_eq_false_iff_ne]; exact fun h => hlt (ordN_zero.1 h)
          rw [if_neg hlt] at HJ2
          clear ho hlt
          obtain ⟨q, hq⟩ : ∃ q, q = ls / a1 := ⟨_, rfl⟩
          have HQ := hid hq
          have nq : nw q ≤ 32 := by rw [hq]; exact Nat.le_trans (nw_mono (Nat.div_le_self _ _)) nls
          obtain ⟨r, hr⟩ : ∃ r, r = ls % a1 := ⟨_, rfl⟩
          have HR := hid hr
          have nr : nw r ≤ 32 := by rw [hr]; exact Nat.le_trans (nw_mono (Nat.mod_le _ _)) nls
          rw [← hq] at HJ2
          have HD : Hid (divS ls a1 = (q, r, 0)) := (show _ = _ by rw [divS_yes ha1, hq, hr])
          clear hq hr
          obtain ⟨y, hy⟩ : ∃ y, y = (b ^ q % a == 1) := ⟨_, rfl⟩
          have HY := hid hy
          rw [← hy] at HJ2
          clear hy
          go_wp2_with fail
          clear kX3 zX3 kX4 zX4 kXC0 kXC1 kXC2 zXC
          have qX36 := X3.lt
          have qX46 := X4.lt
          have bw := (Below.refl wr.heap.size wr).alloc (Nat.le_refl _) (.cells #[.slice A1 (nw a1) c1, .slice A2 n2 c2, .slice A3 n3 c3] 40)
          have XP := Blk.new wr 40 #[.slice A1 (nw a1) c1, .slice A2 n2 c2, .slice A3 n3 c3]
          replace X3 := X3.below bw
          replace X4 := X4.below bw
          replace XC := XC.below bw XC.lt
          replace WW := WW.trans (bw.mono WW.size)
          clear bw
          generalize hV : wr.alloc (.cells #[.slice A1 (nw a1) c1, .slice A2 n2 c2, .slice A3 n3 c3] 40) = V6 at X3 X4 XC XP WW ⊢
          clear hV
          have kX3 := X3.cell
          have zX3 := X3.lt
          have kX4 := X4.cell
          have zX4 := X4.lt
          have kXC0 : V6.cell? ⟨w.heap.size, 0, none⟩ = some (.slice A (nw a) c) := (XC.cell 0).trans rfl
          have kXC1 : V6.cell? ⟨w.heap.size, 1, none⟩ = some (.slice A' (nw b) d) := (XC.cell 1).trans rfl
          have kXC2 : V6.cell? ⟨w.heap.size, 2, none⟩ = some (.slice (some ad) k ex) := (XC.cell 2).trans rfl
          have zXC := XC.lt
          have kXP0 : V6.cell? ⟨wr.heap.size, 0, none⟩ = some (.slice A1 (nw a1) c1) := (XP.cell 0).trans rfl
          have kXP1 : V6.cell? ⟨wr.heap.size, 1, none⟩ = some (.slice A2 n2 c2) := (XP.cell 1).trans rfl
          have kXP2 : V6.cell? ⟨wr.heap.size, 2, none⟩ = some (.slice A3 n3 c3) := (XP.cell 2).trans rfl
          have zXP := XP.lt
          go_wp2_with fail
          have hbs : w.heap.size ≤ V6.heap.size := WW.size
          have hc := cmp_any Bf A1 _ _ bc c1 bf a1 V6 X4.num (HN.out.up WW) (by omega) hn1
          rw [bothC_yes KB.out HOK.out] at hc
          rw [← HO.out] at hc
          refine hc.mono ?_
          clear hc
          rintro e V7 ⟨rfl, hb⟩
          clear kX3 zX3 kX4 zX4 kXC0 kXC1 kXC2 zXC kXP0 kXP1 kXP2 zXP
          replace X3 := X3.below hb
          replace X4 := X4.below hb
          replace XC := XC.below hb XC.lt
          replace XP := XP.below hb XP.lt
          replace WW := WW.trans (hb.mono WW.size)
          have kX3 := X3.cell
          have zX3 := X3.lt
          have kX4 := X4.cell
          have zX4 := X4.lt
          have kXC0 : V7.cell? ⟨w.heap.size, 0, none⟩ = some (.slice A (nw a) c) := (XC.cell 0).trans rfl
          have kXC1 : V7.cell? ⟨w.heap.size, 1, none⟩ = some (.slice A' (nw b) d) := (XC.cell 1).trans rfl
          have kXC2 : V7.cell? ⟨w.heap.size, 2, none⟩ = some (.slice (some ad) k ex) := (XC.cell 2).trans rfl
          have zXC := XC.lt
          have kXP0 : V7.cell? ⟨wr.heap.size, 0, none⟩ = some (.slice A1 (nw a1) c1) := (XP.cell 0).trans rfl
          have kXP1 : V7.cell? ⟨wr.heap.size, 1, none⟩ = some (.slice A2 n2 c2) := (XP.cell 1).trans rfl
          have kXP2 : V7.cell? ⟨wr.heap.size, 2, none⟩ = some (.slice A3 n3 c3) := (XP.cell 2).trans rfl
          have zXP := XP.lt
          clear hb hbs
          have fX4 := X4.1.frozen 0
          go_wp2_with fail
          have fX4 := X4.1.frozen 0
          have X4n := X4.set_ (A' := A1) (n' := (nw a1)) (c' := c1) (a' := a1) (.inl (HN.out.below WW))
          replace X3 := X3.far (p := ⟨V4.heap.size, 0, none⟩) X4.1 X4.2.2 (by simp <;> omega) (.slice A1 (nw a1) c1)
          replace XC := XC.far (p := ⟨V4.heap.size, 0, none⟩) (by simp <;> omega) (.slice A1 (nw a1) c1)
          replace XP := XP.far (p := ⟨V4.heap.size, 0, none⟩) (by simp <;> omega) (.slice A1 (nw a1) c1)
          replace X4 := X4n
          clear X4n
          replace WW := WW.setCell (p := ⟨V4.heap.size, 0, none⟩) X4.2.2 (.slice A1 (nw a1) c1)
          go_wp2_with fail
          clear kX3 zX3 kX4 zX4 kXC0 kXC1 kXC2 zXC kXP0 kXP1 kXP2 zXP fX4
          generalize hV : V7.setCell ⟨V4.heap.size, 0, none⟩ (.slice A1 (nw a1) c1) = V8 at X3 X4 XC XP WW ⊢
          clear hV
          have kX3 := X3.cell
          have zX3 := X3.lt
          have kX4 := X4.cell
          have zX4 := X4.lt
          have kXC0 : V8.cell? ⟨w.heap.size, 0, none⟩ = some (.slice A (nw a) c) := (XC.cell 0).trans rfl
          have kXC1 : V8.cell? ⟨w.heap.size, 1, none⟩ = some (.slice A' (nw b) d) := (XC.cell 1).trans rfl
          have kXC2 : V8.cell? ⟨w.heap.size, 2, none⟩ = some (.slice (some ad) k ex) := (XC.cell 2).trans rfl
          have zXC := XC.lt
          have kXP0 : V8.cell? ⟨wr.heap.size, 0, none⟩ = some (.slice A1 (nw a1) c1) := (XP.cell 0).trans rfl
          have kXP1 : V8.cell? ⟨wr.heap.size, 1, none⟩ = some (.slice A2 n2 c2) := (XP.cell 1).trans rfl
          have kXP2 : V8.cell? ⟨wr.heap.size, 2, none⟩ = some (.slice A3 n3 c3) := (XP.cell 2).trans rfl
          have zXP := XP.lt
          have hbs : w.heap.size ≤ V8.heap.size := WW.size
          have hc := div_any D3 A1 _ _ d3 c1 ls a1 V8 X3.num (HN.out.up WW) (by omega) (by omega)
          rw [bothD_yes KL.out HOK.out] at hc
          rw [HD.out] at hc
          refine hc.mono ?_
          clear hc
          rintro e V9 ⟨v, u, rfl, hv, hu, hb⟩
          clear kX3 zX3 kX4 zX4 kXC0 kXC1 kXC2 zXC kXP0 kXP1 kXP2 zXP
          replace X3 := X3.below hb
          replace X4 := X4.below hb
          replace XC := XC.below hb XC.lt
          replace XP := XP.below hb XP.lt
          replace WW := WW.trans (hb.mono WW.size)
          obtain ⟨D7, d7, rfl, ho⟩ := hv
          have O7 := ho.weak (b := w.heap.size) hbs
          clear ho
          obtain ⟨D8, d8, rfl, ho⟩ := hu
          have O8 := ho.weak (b := w.heap.size) hbs
          clear ho
          have kX3 := X3.cell
          have zX3 := X3.lt
          have kX4 := X4.cell
          have zX4 := X4.lt
          have kXC0 : V9.cell? ⟨w.heap.size, 0, none⟩ = some (.slice A (nw a) c) := (XC.cell 0).trans rfl
          have kXC1 : V9.cell? ⟨w.heap.size, 1, none⟩ = some (.slice A' (nw b) d) := (XC.cell 1).trans rfl
          have kXC2 : V9.cell? ⟨w.heap.size, 2, none⟩ = some (.slice (some ad) k ex) := (XC.cell 2).trans rfl
          have zXC := XC.lt
          have kXP0 : V9.cell? ⟨wr.heap.size, 0, none⟩ = some (.slice A1 (nw a1) c1) := (XP.cell 0).trans rfl
          have kXP1 : V9.cell? ⟨wr.heap.size, 1, none⟩ = some (.slice A2 n2 c2) := (XP.cell 1).trans rfl
          have kXP2 : V9.cell? ⟨wr.heap.size, 2, none⟩ = some (.slice A3 n3 c3) := (XP.cell 2).trans rfl
          have zXP := XP.lt
          clear hb hbs
          go_wp2_with fail
          obtain ⟨b0, b1, bw⟩ := boxes2 V9 (.slice D7 (nw q) d7) (.slice D8 (nw r) d8)
          have hbs := WW.size
          clear kX3 zX3 kX4 zX4 kXC0 kXC1 kXC2 zXC kXP0 kXP1 kXP2 zXP
          have qX310 := X3.lt
          have qX410 := X4.lt
          have qXC10 := XC.lt
          have qXP10 := XP.lt
          have X7 := VB.mk (B := w.heap.size) (a := q) b0 (.inr O7) bw hbs (by omega)
          have X8 := VB.mk (B := w.heap.size) (a := r) b1 (.inr O8) bw hbs (by omega)
          replace X3 := X3.below bw
          replace X4 := X4.below bw
          replace O7 := O7.below bw (Nat.le_refl _)
          replace O8 := O8.below bw (Nat.le_refl _)
          replace XC := XC.below bw XC.lt
          replace XP := XP.below bw XP.lt
          replace WW := WW.trans (bw.mono WW.size)
          clear bw hbs b0 b1
          generalize hV : ((V9.alloc (.cells #[.slice D7 (nw q) d7] 37)).alloc (.cells #[.slice D8 (nw r) d8] 37)) = V10 at X3 X4 X7 X8 O7 O8 XC XP WW ⊢
          clear hV
          have kX3 := X3.cell
          have zX3 := X3.lt
          have kX4 := X4.cell
          have zX4 := X4.lt
          have kX7 := X7.cell
          have zX7 := X7.lt
          have kX8 := X8.cell
          have zX8 := X8.lt
          have kXC0 : V10.cell? ⟨w.heap.size, 0, none⟩ = some (.slice A (nw a) c) := (XC.cell 0).trans rfl
          have kXC1 : V10.cell? ⟨w.heap.size, 1, none⟩ = some (.slice A' (nw b) d) := (XC.cell 1).trans rfl
          have kXC2 : V10.cell? ⟨w.heap.size, 2, none⟩ = some (.slice (some ad) k ex) := (XC.cell 2).trans rfl
          have zXC := XC.lt
          have kXP0 : V10.cell? ⟨wr.heap.size, 0, none⟩ = some (.slice A1 (nw a1) c1) := (XP.cell 0).trans rfl
          have kXP1 : V10.cell? ⟨wr.heap.size, 1, none⟩ = some (.slice A2 n2 c2) := (XP.cell 1).trans rfl
          have kXP2 : V10.cell? ⟨wr.heap.size, 2, none⟩ = some (.slice A3 n3 c3) := (XP.cell 2).trans rfl
          have zXP := XP.lt
          go_wp2_with fail
          clear O7 O8
          have hbs : w.heap.size ≤ V10.heap.size := WW.size
          have hc := isone_any A A' (some ad) D7 c d k ex d7 a b q V10 (HN0.out.up WW) (HB0.out.up WW) X7.num ha hba (by omega)
          rw [← HY.out] at hc
          refine hc.mono ?_
          clear hc
          rintro e V11 ⟨rfl, hb⟩
          clear kX3 zX3 kX4 zX4 kX7 zX7 kX8 zX8 kXC0 kXC1 kXC2 zXC kXP0 kXP1 kXP2 zXP
          replace X3 := X3.below hb
          replace X4 := X4.below hb
          replace X7 := X7.below hb
          replace X8 := X8.below hb
          replace XC := XC.below hb XC.lt
          replace XP := XP.below hb XP.lt
          replace WW := WW.trans (hb.mono WW.size)
          have kX3 := X3.cell
          have zX3 := X3.lt
          have kX4 := X4.cell
          have zX4 := X4.lt
          have kX7 := X7.cell
          have zX7 := X7.lt
          have kX8 := X8.cell
          have zX8 := X8.lt
          have kXC0 : V11.cell? ⟨w.heap.size, 0, none⟩ = some (.slice A (nw a) c) := (XC.cell 0).trans rfl
          have kXC1 : V11.cell? ⟨w.heap.size, 1, none⟩ = some (.slice A' (nw b) d) := (XC.cell 1).trans rfl
          have kXC2 : V11.cell? ⟨w.heap.size, 2, none⟩ = some (.slice (some ad) k ex) := (XC.cell 2).trans rfl
          have zXC := XC.lt
          have kXP0 : V11.cell? ⟨wr.heap.size, 0, none⟩ = some (.slice A1 (nw a1) c1) := (XP.cell 0).trans rfl
          have kXP1 : V11.cell? ⟨wr.heap.size, 1, none⟩ = some (.slice A2 n2 c2) := (XP.cell 1).trans rfl
          have kXP2 : V11.cell? ⟨wr.heap.size, 2, none⟩ = some (.slice A3 n3 c3) := (XP.cell 2).trans rfl
          have zXP := XP.lt
          clear hb hbs
          cases y
          · rw [if_neg (by decide)] at HJ2
            go_wp2_with fail
            go_roundw
            case rel => exact ⟨j + 1, a1, A1, c1, by omega, by go_num, e2, HJ2.out, WW, X3, X4, XC⟩
            case measure => simp [intOf] <;> omega
          · rw [if_pos rfl] at HJ2
            go_wp2_with fail
            go_ret
            exact ⟨by rw [HJ2.out]; rfl, WW⟩
      · have l1 : decide (((j : Nat) : Int) < ((k : Nat) : Int)) = false := by simp; omega
        have HE : Hid (res = true) := (show _ = _ by rw [HJ.out, List.drop_of_length_le (by rw [HK.out]; omega)]; rfl)
        go_wp2_with fail
        go_ret
        exact ⟨by rw [HE.out]; rfl, WW⟩

end Go.Proofs.YtomkmkjkeihodaaDoor
