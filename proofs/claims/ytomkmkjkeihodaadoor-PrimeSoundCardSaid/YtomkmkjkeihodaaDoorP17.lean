/- prime.Certify. -/
import Derived.Test.YtomkmkjkeihodaaDoorP16
set_option linter.unusedVariables false
set_option linter.unusedSimpArgs false
namespace Go.Proofs.YtomkmkjkeihodaaDoor
open Go.RowKit

/-- t is the certificate of p, as the program makes it. -/
inductive Good : Nat → CT → Prop
  | mk (p r : Nat) (l : List Nat) (ps : List CT) (h2 : 2 ≤ p) (hp : p ≤ 2305843009213693951) (hB : isB p = true) (hf : facS (p - 1) = some l) (hq : ∀ q ∈ l, 1 ≤ q ∧ q ≤ 9223372036854775807) (hr : RootIs p l r) (hlen : ps.length = l.length)
    (hps : ∀ i (h : i < l.length) (h' : i < ps.length), Good l[i] ps[i]) : Good p (.node (nw p) p (nw r) r ps)
theorem Good.out {p : Nat} {t : CT} (h : Good p t) : ∃ r l ps, t = .node (nw p) p (nw r) r ps ∧ 2 ≤ p ∧ p ≤ 2305843009213693951 ∧ isB p = true ∧ facS (p - 1) = some l ∧ (∀ q ∈ l, 1 ≤ q ∧ q ≤ 9223372036854775807) ∧ RootIs p l r ∧ ps.length = l.length ∧ ∀ i (h : i < l.length) (h' : i < ps.length), Good l[i] ps[i] := by
  cases h with
  | mk _ r l ps h2 hp hB hf hq hr hlen hps => exact ⟨r, l, ps, rfl, h2, hp, hB, hf, hq, hr, hlen, hps⟩
def RetCert (t : CT) (w : World) (e : Ending) (w' : World) : Prop := ∃ x y z, e = .returned (.tuple #[.agg #[x, y, z], .int .i64 0]) ∧ CVS w' (fun b => w.heap.size ≤ b ∧ b < w'.heap.size) x y z t ∧ Below w.heap.size w w'
theorem grown_go {w V V' : World} {row r2 : Option Nat} (h : w.grownBy V row) (h2 : V.grownBy V' r2) (hr : ∀ k, r2 = some k → w.heap.size ≤ k ∨ r2 = row) : w.grownBy V' row :=
  ⟨h2.os.trans h.os, h2.tape.trans h.tape, h2.output.trans h.output, Nat.le_trans h.size h2.size, fun k hk hne => (h2.block k (Nat.lt_of_lt_of_le hk h.size) (fun e => by
    rcases hr k e.symm with h3 | h3
    · omega
    · exact hne (by rw [e, h3]))).trans (h.block k hk hne)⟩
theorem grown_set (w : World) (g i : Nat) (u : Value) : w.grownBy (w.setCell ⟨g, i, none⟩ u) (some g) :=
  ⟨rfl, rfl, rfl, by simp, fun k hk hne => Below.heap_setCell w _ _ k (fun e => hne (by rw [e]))⟩
theorem Tabs.grown {w V : World} {g : Nat} (h : Tabs w) (hg : w.grownBy V (some g)) (h2 : 2 ≤ g) : Tabs V :=
  ⟨fun j hj => hg.cell (h.1 j hj) (by simp; omega), fun j hj => hg.cell (h.2 j hj) (by simp; omega)⟩
theorem Tabs.two {w : World} (h : Tabs w) : 2 ≤ w.heap.size := World.block_lt_of_cell? w ⟨1, 0, none⟩ (h.1 0 (by decide))
theorem below_of_grown {w V : World} {g B : Nat} (h : w.grownBy V (some g)) (hB : B ≤ g) (hs : B ≤ w.heap.size) : Below B w V := ⟨h.os, h.tape, h.output, h.size, fun k hk => h.block k (by omega) (by simp; omega)⟩
theorem NumS.keepG {w V : World} {S S' : Nat → Prop} {A : Option Addr} {n a g : Nat} (h : NumS w S A n a) (hg : w.grownBy V (some g)) (hS : ∀ b, S b → b < w.heap.size ∧ b ≠ g ∧ S' b) : NumS V S' A n a :=
  h.keep fun b hb => ⟨hg.block b (hS b hb).1 (by simp; exact (hS b hb).2.1), (hS b hb).2.2⟩
theorem Own.nums2 {w : World} {base n c a g g' : Nat} {A : Option Addr} {cs cs' : Array Value} (h : Own w base A n c a) (hg : Blk w g 40 cs) (hg' : Blk w g' 40 cs') : NumS w (fun b => base ≤ b ∧ b < w.heap.size ∧ b ≠ g ∧ b ≠ g') A n a :=
  ⟨h.1, fun hn => by
    obtain ⟨x, ds, e, h1, hb, hc⟩ := h.2.2.2 hn
    refine ⟨_, e, ⟨h1, hb.lt, fun e => ?_, fun e => ?_⟩, fun i hi => by rw [add_at, Nat.zero_add, hb.cell]; exact hc i hi⟩
    · subst e; unfold Blk at hb hg; rw [hb] at hg; injection hg with hg; injection hg with _ hg; exact absurd hg (by decide)
    · subst e; unfold Blk at hb hg'; rw [hb] at hg'; injection hg' with hg'; injection hg' with _ hg'; exact absurd hg' (by decide)⟩
theorem OC.own {w : World} {base : Nat} {v : Value} {ps : List CT} (h : OC w base v ps) : ∀ g, v.ownBlock = some g → base ≤ g := by
  obtain ⟨T, h1, h2, h3⟩ := h
  exact fun g hg => (h2.lt g hg).1
theorem OC.own2 {w : World} {base : Nat} {v : Value} {ps : List CT} (h : OC w base v ps) : ∀ g, some g = v.ownBlock → g < w.heap.size := by
  obtain ⟨T, h1, h2, h3⟩ := h
  exact fun g hg => (h2.lt g hg.symm).2
theorem OC.slc2 {w : World} {base n : Nat} {v : Value} {ps : List CT} (h : OC w base v ps) (hn : ps.length = n) : ∃ P e, v = .slice P n e := by
  subst hn; obtain ⟨P, e, h1, _⟩ := h.slc; exact ⟨P, e, h1⟩
theorem OC.set3 {w : World} {base g : Nat} {v x y z : Value} {ps : List CT} (h : OC w base v ps) (hg : g < base) : OC (((w.setCell ⟨g, 0, none⟩ x).setCell ⟨g, 1, none⟩ y).setCell ⟨g, 2, none⟩ z) base v ps :=
  ((h.kept (grown_set _ g 0 x) (fun k e => by injection e with e; omega)).kept (grown_set _ g 1 y) (fun k e => by injection e with e; omega)).kept (grown_set _ g 2 z) (fun k e => by injection e with e; omega)
theorem NumS.set3 {w : World} {S S' : Nat → Prop} {g n a : Nat} {A : Option Addr} {x y z : Value} (h : NumS w S A n a) (hS : ∀ b, S b → b < w.heap.size ∧ b ≠ g ∧ S' b) : NumS (((w.setCell ⟨g, 0, none⟩ x).setCell ⟨g, 1, none⟩ y).setCell ⟨g, 2, none⟩ z) S' A n a :=
  ((h.keepG (S' := S) (grown_set _ g 0 x) (fun b hb => ⟨(hS b hb).1, (hS b hb).2.1, hb⟩)).keepG (S' := S) (grown_set _ g 1 y) (fun b hb => ⟨by simpa using (hS b hb).1, (hS b hb).2.1, hb⟩)).keepG (grown_set _ g 2 z) (fun b hb => ⟨by simpa using (hS b hb).1, (hS b hb).2.1, (hS b hb).2.2⟩)
set_option maxHeartbeats 4000000 in
set_option maxRecDepth 100000 in
theorem certify_any : ∀ (s : Nat) (t : CT) (hs : t.size ≤ s) (p : Nat) (w : World) (hG : Good p t) (hT : Tabs w),
    Calls Tryd.prog 21 #[.int .i64 ((p : Nat) : Int)] w (RetCert t w)
  | 0, t, hs, _, _, _, _ => absurd hs (by have := t.size_pos; omega)
  | s + 1, t, hs, p, w, hG, hT => by
    have IH := hid (certify_any s)
    obtain ⟨r, l, ps, rfl, h2, hp, hB, hf, hq, hr, hlen, hps⟩ := hG.out
    have HPS := hid hps
    have HLEN := hid hlen
    have HQ := hid hq
    have HR := hid hr
    have HF := hid hf
    have HT := hid hT
    have HS := hid hs
    obtain ⟨r1, r2, _⟩ := hr
    have hT2 := hT.two
    have nr : nw r ≤ 64 := nw_i63 (by omega)
    have np : nw p ≤ 64 := nw_i63 (by omega)
    obtain ⟨V0, hV0⟩ : ∃ V, V = w.alloc (.cells #[.slice none 0 0, .slice none 0 0, .slice none 0 0] 40) := ⟨_, rfl⟩
    obtain ⟨B2, WW⟩ := box3 w (.slice none 0 0) (.slice none 0 0) (.slice none 0 0)
    rw [← hV0] at B2 WW
    have HC := hid (fbelow_any p V0 h2 hp hB (hT.below WW (Nat.le_refl _)))
    clear hT hs hq hps hlen hf hB
    go_enter Tryd.func21, Tryd.ntmps21
    go_wp2_with fail
    rw [← hV0]
    clear hV0
    refine HC.out.mono ?_
    clear HC
    rintro e V1 h
    rcases h with ⟨l', v, hf, rfl, ho, hl, hb⟩ | ⟨hf, rfl, hb⟩
    rotate_left
    · rw [HF.out] at hf; cases hf
    rw [HF.out] at hf
    injection hf with hf
    subst hf
    obtain ⟨LA, lc, rfl⟩ := ho.slc
    replace B2 := B2.below hb B2.lt
    have hbs := WW.size
    replace WW := WW.trans (hb.mono WW.size)
    replace ho := ho.weak hbs
    clear hb hbs
    go_wp2_with fail
    refine (pnum_any p V1 (by omega)).mono ?_
    rintro e V2 ⟨v, rfl, ⟨N, nc, rfl, hN⟩, hb⟩
    replace B2 := B2.below hb B2.lt
    have hbs := WW.size
    replace hN := hN.weak hbs
    replace WW := WW.trans (hb.mono WW.size)
    replace ho := ho.below hb (Nat.le_refl _)
    clear hb hbs
    have HC := hid (root_any p _ r _ l V2 ho (by omega) HQ.out (by omega) r1 r2 HR.out.2.2.1)
    go_wp2_with fail
    refine HC.out.mono ?_
    clear HC
    rintro e V3 ⟨r', rfl, hr', hb⟩
    obtain rfl : r' = r := hr'.unique HR.out
    replace B2 := B2.below hb B2.lt
    have hbs := WW.size
    replace WW := WW.trans (hb.mono WW.size)
    replace ho := ho.below hb (Nat.le_refl _)
    replace hN := hN.below hb (Nat.le_refl _)
    clear hb hbs hr'
    go_wp2_with fail
    refine (pnum_any r' V3 (by omega)).mono ?_
    rintro e V4 ⟨v, rfl, ⟨R, rc, rfl, hR⟩, hb⟩
    replace B2 := B2.below hb B2.lt
    have hbs := WW.size
    replace hR := hR.weak hbs
    replace WW := WW.trans (hb.mono WW.size)
    replace ho := ho.below hb (Nat.le_refl _)
    replace hN := hN.below hb (Nat.le_refl _)
    clear hb hbs
    go_wp2_with fail
    have z2 := B2.lt
    have hwV := WW.size
    obtain ⟨V5, hV5⟩ : ∃ V, V = V4.alloc (.cells #[.slice N (nw p) nc, .slice R (nw r') rc, .slice none 0 0] 40) := ⟨_, rfl⟩
    obtain ⟨B6, hb⟩ := box3 V4 (.slice N (nw p) nc) (.slice R (nw r') rc) (.slice none 0 0)
    rw [← hV5] at B6 hb
    replace B2 := B2.below hb B2.lt
    replace WW := WW.trans (hb.mono WW.size)
    replace ho := ho.below hb (Nat.le_refl _)
    replace hN := hN.below hb (Nat.le_refl _)
    replace hR := hR.below hb (Nat.le_refl _)
    have z6 := B6.lt
    have HB65 := hid B6
    have HB25 := hid B2
    have HT5 := hid (HT.out.below WW (Nat.le_refl _))
    rw [← hV5]
    clear hb hV5
    obtain ⟨k, hk⟩ : ∃ k, k = l.length := ⟨_, rfl⟩
    rw [← hk]
    have HK := hid hk
    have hk1 : k ≤ 61 := by omega
    have HO : Hid (OI V5 w.heap.size (.slice LA k lc) l) := by rw [hk]; exact ho
    have HN := hid hN
    have HRO := hid hR
    have HW := hid WW
    clear hk hl ho hN hR WW
    go_loopw [29] (fun i wr => ∃ (j : Nat) (P : Option Addr) (ex : Nat), j ≤ k ∧ i = .int .i64 ((j : Nat) : Int) ∧ OC wr V5.heap.size (.slice P j ex) (ps.take j) ∧ Blk wr V4.heap.size 40 #[.slice N (nw p) nc, .slice R (nw r') rc, .slice P j ex] ∧ V5.grownBy wr (some V4.heap.size)) (fun i _ => k - (intOf i).toNat)
    case atStart => exact ⟨0, none, 0, by omega, by go_num, OC.nil _ _, B6, ⟨rfl, rfl, rfl, Nat.le_refl _, fun _ _ _ => rfl⟩⟩
    case round =>
      clear B6
      obtain ⟨j, P, ex, hjk0, rfl, OCj, B6, GG⟩ := hrel
      by_cases hjk : j < k
      · have l1 : decide (((j : Nat) : Int) < ((k : Nat) : Int)) = true := by simp; omega
        have hjl : j < l.length := by rw [← HK.out]; exact hjk
        have hjp : j < ps.length := by rw [HLEN.out]; exact hjl
        have hO := HO.out
        obtain ⟨g, hA, _, hc, _⟩ := hO.cell hjl
        have hgne := hO.apart HB65.out (by decide)
        subst hA
        replace hc := GG.cell hc (fun e => hgne (by rw [← e]; rfl))
        unfold ivl at hc
        obtain ⟨q, hq⟩ : ∃ q, q = l[j] := ⟨_, rfl⟩
        rw [← hq] at hc
        obtain ⟨pj, hpj⟩ : ∃ x, x = ps[j] := ⟨_, rfl⟩
        have hgood := HPS.out j hjl hjp
        rw [← hq, ← hpj] at hgood
        have HPJ := hid hpj
        have HC := hid (IH.out pj (by have h1 := size_lt (n := nw p) (a := p) (m := nw r') (b := r') hjp; have h2 := HS.out; rw [hpj]; omega) q wr hgood (HT5.out.grown GG (by omega)))
        have q1 := (HQ.out l[j] (List.getElem_mem _)).2
        rw [← hq] at q1
        have z6r : V4.heap.size < wr.heap.size := B6.lt
        clear hO hgne hq hpj hgood
        go_wp2_with fail
        refine HC.out.mono ?_
        clear HC hc
        rintro e V6 ⟨x, y, z, rfl, hcv, hb⟩
        obtain ⟨A1, n1, c1, A2, n2, c2, A3, n3, c3, rfl, rfl, rfl⟩ := hcv.slc
        have hlow := OCj.own
        have hOw := OCj.own2
        replace OCj := OCj.below hb (Nat.le_refl _)
        replace B6 := B6.below hb B6.lt
        have h5r := GG.size
        replace GG := grown_go GG (grown_of hb (Nat.le_refl _)) (fun k e => by cases e)
        have hT7 : CVS (V6.alloc (.cells #[.slice A1 n1 c1, .slice A2 n2 c2, .slice A3 n3 c3] 40)) (fun b => V5.heap.size ≤ b ∧ b < (V6.alloc (.cells #[.slice A1 n1 c1, .slice A2 n2 c2, .slice A3 n3 c3] 40)).heap.size ∧ some b ≠ (Value.slice P j ex).ownBlock) (.slice A1 n1 c1) (.slice A2 n2 c2) (.slice A3 n3 c3) pj :=
          hcv.keep fun b hb2 => ⟨Below.heap_alloc V6 _ b hb2.2, by have := hb2.1; omega, by simp; omega, fun e => by have h1 := hOw b e; have := hb2.1; omega⟩
        have b7 := (box3 V6 (.slice A1 n1 c1) (.slice A2 n2 c2) (.slice A3 n3 c3)).2
        replace OCj := OCj.below b7 (Nat.le_refl _)
        replace GG := grown_go GG (grown_of b7 (Nat.le_refl _)) (fun k e => by cases e)
        obtain ⟨k60, k61, k62⟩ := blk3 B6
        have z66 := B6.lt
        replace B6 := B6.below b7 B6.lt
        have s7 := b7.size
        have h57 := GG.size
        clear hb hcv
        go_wp2_with (at_builtin; refine wp_appc rfl _ _ rfl V5.heap.size (V6.alloc (.cells #[.slice A1 n1 c1, .slice A2 n2 c2, .slice A3 n3 c3] 40)) (.slice P j ex) (ps.take j) (.slice A1 n1 c1) (.slice A2 n2 c2) (.slice A3 n3 c3) pj rfl OCj rfl (by simp) (by rw [List.length_take]; omega) h57 hT7 ?_; clear OCj; intro v9 V9 OCj hg; replace B6 := B6.grown hg (fun e => by have h1 := hlow _ e.symm; omega); replace GG := grown_go GG hg (fun k e => .inl (hlow _ e)); obtain ⟨P', e', rfl⟩ := OCj.slc2 (n := j + 1) (by rw [List.length_append, List.length_take]; simp; omega); clear k60 k61 k62 z66 b7 s7 h57 hT7; obtain ⟨k60, k61, k62⟩ := blk3 B6; have z66 := B6.lt; have f62 := B6.frozen 2)
        have OC9 := OCj.kept (grown_set V9 V4.heap.size 2 (.slice P' (j + 1) e')) (fun k e => by injection e with e; omega)
        have B69 := B6.set_ 2 (.slice P' (j + 1) e')
        have GG9 := grown_go GG (grown_set V9 V4.heap.size 2 (.slice P' (j + 1) e')) (fun k e => .inr rfl)
        go_roundw
        case rel => exact ⟨j + 1, P', e', by omega, by go_num, by rw [List.take_succ_eq_append_getElem hjp, ← HPJ.out]; exact OC9, B69, GG9⟩
        case measure => simp [intOf] <;> omega
      · have l1 : decide (((j : Nat) : Int) < ((k : Nat) : Int)) = false := by simp; omega
        obtain rfl : j = k := by omega
        have OCk : OC wr V5.heap.size (.slice P j ex) ps := by
          have h := OCj
          rw [List.take_of_length_le (by rw [HLEN.out, HK.out]; exact Nat.le_refl _)] at h
          exact h
        have B2r := HB25.out.grown GG (by simp; omega)
        obtain ⟨k60, k61, k62⟩ := blk3 B6
        obtain ⟨k20, k21, k22⟩ := blk3 B2r
        have f20 := B2r.frozen 0
        have f21 := B2r.frozen 1
        have f22 := B2r.frozen 2
        have z2r := B2r.lt
        have hrs := GG.size
        have HWr := hid (HW.out.trans (below_of_grown GG hwV HW.out.size))
        clear OCj
        go_wp2_with fail
        have HNr := HN.out.nums2 HB65.out HB25.out
        have HRr := HRO.out.nums2 HB65.out HB25.out
        have n1 := (HNr.keepG (S' := fun b => w.heap.size ≤ b ∧ b < wr.heap.size ∧ b ≠ w.heap.size) GG (fun b hb => ⟨hb.2.1, hb.2.2.1, hb.1, by omega, hb.2.2.2⟩)).set3 (S' := fun b => w.heap.size ≤ b ∧ b < wr.heap.size) (g := w.heap.size) (x := .slice N (nw p) nc) (y := .slice R (nw r') rc) (z := .slice P j ex) (fun b hb => ⟨hb.2.1, hb.2.2, hb.1, hb.2.1⟩)
        have n2 := (HRr.keepG (S' := fun b => w.heap.size ≤ b ∧ b < wr.heap.size ∧ b ≠ w.heap.size) GG (fun b hb => ⟨hb.2.1, hb.2.2.1, hb.1, by omega, hb.2.2.2⟩)).set3 (S' := fun b => w.heap.size ≤ b ∧ b < wr.heap.size) (g := w.heap.size) (x := .slice N (nw p) nc) (y := .slice R (nw r') rc) (z := .slice P j ex) (fun b hb => ⟨hb.2.1, hb.2.2, hb.1, hb.2.1⟩)
        have oc := OCk.set3 (g := w.heap.size) (x := .slice N (nw p) nc) (y := .slice R (nw r') rc) (z := .slice P j ex) (by omega)
        have B2f := ((B2r.set_ 0 (.slice N (nw p) nc)).set_ 1 (.slice R (nw r') rc)).set_ 2 (.slice P j ex)
        have q0 := (B2f.cell 0).trans (show _ = some (Value.slice N (nw p) nc) from rfl)
        have q1 := (B2f.cell 1).trans (show _ = some (Value.slice R (nw r') rc) from rfl)
        have q2 := (B2f.cell 2).trans (show _ = some (Value.slice P j ex) from rfl)
        have hsz : (((wr.setCell ⟨w.heap.size, 0, none⟩ (.slice N (nw p) nc)).setCell ⟨w.heap.size, 1, none⟩ (.slice R (nw r') rc)).setCell ⟨w.heap.size, 2, none⟩ (.slice P j ex)).heap.size = wr.heap.size := by simp
        refine bodyPost_ret (v := .tuple #[.agg #[.slice N (nw p) nc, .slice R (nw r') rc, .slice P j ex], .int .i64 0]) ?_ rfl ⟨_, _, _, rfl, ?_, ((HWr.out.setCell (Nat.le_refl _) _).setCell (Nat.le_refl _) _).setCell (Nat.le_refl _) _⟩
        · simp [results, Tryd.results21, go_sem, q0, q1, q2]
        · rw [hsz]
          have h := oc.cvs (B := w.heap.size) (c := nc) (d := rc) (n := nw p) (m := nw r') (by omega) (by rw [hsz]; exact n1) (by rw [hsz]; exact n2) (by omega) (by omega)
          rw [hsz] at h
          exact h
end Go.Proofs.YtomkmkjkeihodaaDoor
