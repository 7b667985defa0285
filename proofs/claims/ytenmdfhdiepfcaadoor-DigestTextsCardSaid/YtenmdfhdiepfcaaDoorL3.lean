/- digest.absorbed. -/
import Derived.Test.YtenmdfhdiepfcaaDoorL2
set_option linter.unusedVariables false
set_option linter.unusedSimpArgs false
namespace Go.Proofs.YtenmdfhdiepfcaaDoor
open Go Go.RowKit
def stV (s : St) : Value := .agg #[.int .u32 ((s.a : Nat) : Int), .int .u32 ((s.b : Nat) : Int), .int .u32 ((s.c : Nat) : Int), .int .u32 ((s.d : Nat) : Int), .int .u32 ((s.e : Nat) : Int), .int .u32 ((s.f : Nat) : Int), .int .u32 ((s.g : Nat) : Int), .int .u32 ((s.h : Nat) : Int)]
def stW (s : St) : Array Value := #[.int .u32 ((s.a : Nat) : Int), .int .u32 ((s.b : Nat) : Int), .int .u32 ((s.c : Nat) : Int), .int .u32 ((s.d : Nat) : Int), .int .u32 ((s.e : Nat) : Int), .int .u32 ((s.f : Nat) : Int), .int .u32 ((s.g : Nat) : Int), .int .u32 ((s.h : Nat) : Int)]
structure St.ok (s : St) : Prop where
  a : s.a < 4294967296
  b : s.b < 4294967296
  c : s.c < 4294967296
  d : s.d < 4294967296
  e : s.e < 4294967296
  f : s.f < 4294967296
  g : s.g < 4294967296
  h : s.h < 4294967296
def TabK (w : World) : Prop := ∀ j, j < 64 → w.cell? ⟨1, j, none⟩ = some (.int .u32 ((consts.getD j 0 : Nat) : Int))
theorem rnd_ok {s : St} (h : s.ok) (k w : Nat) : (rnd s k w).ok := ⟨Nat.mod_lt _ (by omega), h.a, h.b, h.c, Nat.mod_lt _ (by omega), h.e, h.f, h.g⟩
theorem rounds_all {s : St} (h : s.ok) (w : List Nat) : ∀ k, (rounds s w k).ok
  | 0 => h
  | k + 1 => rnd_ok (rounds_all h w k) _ _
theorem max32 : IntKind.u32.max = 4294967295 := by decide +kernel
theorem ch_val (e f g : Nat) (he : e < 4294967296) (hf : f < 4294967296) (hg : g < 4294967296) : bits BinOp.xor IntKind.u32 (bits BinOp.and IntKind.u32 ((e : Nat) : Int) ((f : Nat) : Int)) (bits BinOp.and IntKind.u32 (bits BinOp.xor IntKind.u32 IntKind.u32.max ((e : Nat) : Int)) ((g : Nat) : Int)) = (((e &&& f) ^^^ ((4294967295 ^^^ e) &&& g) : Nat) : Int) := by
  have h1 : 4294967295 ^^^ e < 4294967296 := Nat.xor_lt_two_pow (n := 32) (by omega) he
  rw [max32, show (4294967295 : Int) = ((4294967295 : Nat) : Int) from rfl, u32_and_nat _ _ he hf, u32_xor_nat _ _ (by omega) he, u32_and_nat _ _ h1 hg, u32_xor_nat _ _ (Nat.lt_of_le_of_lt Nat.and_le_right hf) (Nat.lt_of_le_of_lt Nat.and_le_right hg)]
theorem mj_val (a b c : Nat) (ha : a < 4294967296) (hb : b < 4294967296) (hc : c < 4294967296) : bits BinOp.xor IntKind.u32 (bits BinOp.xor IntKind.u32 (bits BinOp.and IntKind.u32 ((a : Nat) : Int) ((b : Nat) : Int)) (bits BinOp.and IntKind.u32 ((a : Nat) : Int) ((c : Nat) : Int))) (bits BinOp.and IntKind.u32 ((b : Nat) : Int) ((c : Nat) : Int)) = (((a &&& b) ^^^ (a &&& c) ^^^ (b &&& c) : Nat) : Int) := by
  have h1 : a &&& b < 4294967296 := Nat.lt_of_le_of_lt Nat.and_le_right hb
  have h2 : a &&& c < 4294967296 := Nat.lt_of_le_of_lt Nat.and_le_right hc
  have h3 : b &&& c < 4294967296 := Nat.lt_of_le_of_lt Nat.and_le_right hc
  rw [u32_and_nat _ _ ha hb, u32_and_nat _ _ ha hc, u32_and_nat _ _ hb hc, u32_xor_nat _ _ h1 h2, u32_xor_nat _ _ (Nat.xor_lt_two_pow (n := 32) h1 h2) h3]
theorem x3_val (a b c : Nat) (ha : a < 4294967296) (hb : b < 4294967296) (hc : c < 4294967296) : bits BinOp.xor IntKind.u32 (bits BinOp.xor IntKind.u32 ((a : Nat) : Int) ((b : Nat) : Int)) ((c : Nat) : Int) = ((a ^^^ b ^^^ c : Nat) : Int) := by
  rw [u32_xor_nat _ _ ha hb, u32_xor_nat _ _ (Nat.xor_lt_two_pow (n := 32) ha hb) hc]
theorem sum_val (a b : Nat) : (((a : Nat) : Int) + ((b : Nat) : Int)) % 4294967296 = (((a + b) % 4294967296 : Nat) : Int) := by omega
theorem index_w (cs : Array Value) (k x : Nat) (w : World) (hk : k < 64) (h : cs[k]? = some (.int .u32 ((x : Nat) : Int))) : (Instr.index 82 (.agg cs) (.int .i64 ((k : Nat) : Int))).run Tryd.prog w = .ok (.int .u32 ((x : Nat) : Int)) w := by
  have h1 : ((k : Nat) : Int) < 64 := by omega
  simp [Instr.index, run_underlying Tryd.underlying82, asIntOf, go_sem, part, Tryd.sizeOf51, Tryd.isAgg51, h, h1]
  omega
theorem index_8 (cs : Array Value) (k x : Nat) (w : World) (hk : k < 8) (h : cs[k]? = some (.int .u32 ((x : Nat) : Int))) : (Instr.index 60 (.agg cs) (.int .i64 ((k : Nat) : Int))).run Tryd.prog w = .ok (.int .u32 ((x : Nat) : Int)) w := by
  have h1 : ((k : Nat) : Int) < 8 := by omega
  simp [Instr.index, run_underlying Tryd.underlying60, asIntOf, go_sem, part, Tryd.sizeOf51, Tryd.isAgg51, h, h1]
  omega
def mixL (s t : St) (j : Nat) : List Nat := (List.range 8).map fun i => if i < j then ((stL s).getD i 0 + (stL t).getD i 0) % 4294967296 else (stL s).getD i 0
theorem mixL_len (s t : St) (j : Nat) : (mixL s t j).length = 8 := by simp [mixL]
theorem mixL_at (s t : St) {j : Nat} (h : j < 8) : (mixL s t j).getD j 0 = (stL s).getD j 0 := by
  simp only [mixL, List.getD_eq_getElem?_getD, List.getElem?_map, List.getElem?_range h, Option.map_some, Option.getD_some, Nat.lt_irrefl, if_false]
theorem mixL_set (s t : St) {j : Nat} (h : j < 8) : (mixL s t j).set j (((stL s).getD j 0 + (stL t).getD j 0) % 4294967296) = mixL s t (j + 1) := by
  apply List.ext_getElem?
  intro i
  rw [List.getElem?_set, mixL_len]
  by_cases e : j = i
  · subst e
    rw [if_pos rfl, if_pos h]
    simp [mixL, h]
  · rw [if_neg e]
    by_cases hi : i < 8
    · simp only [mixL, List.getElem?_map, List.getElem?_range hi, Option.map_some]
      by_cases hj : i < j
      · rw [if_pos hj, if_pos (by omega)]
      · rw [if_neg hj, if_neg (by omega)]
    · rw [List.getElem?_eq_none (by rw [mixL_len]; omega), List.getElem?_eq_none (by rw [mixL_len]; omega)]
theorem mixL_0 (s t : St) : row (mixL s t 0) = stW s := rfl
theorem mixL_8 (s t : St) : row (mixL s t 8) = stW (addS s t) := rfl
theorem addS_stW (s t : St) : stW (addS s t) = stW (addS s t) := rfl
set_option maxRecDepth 100000 in
set_option maxHeartbeats 4000000 in
theorem absorbed_any (A : Addr) (m : Nat) (l : List Nat) (s : St) (w : World) (hs : s.ok) (hT : TabK w) (hw2 : 1 < w.heap.size) (hl : l.length = 64) (hA : BN w w.heap.size (some A) l) (hm : 64 ≤ m) (hm2 : m ≤ 9223372036854775807) :
    Calls Tryd.prog 33 #[stV s, .slice (some A) 64 m] w (fun e w' => e = .returned (stV (absorb s l)) ∧ Below w.heap.size w w') := by
  obtain ⟨a0, b0, c0, d0, e0, f0, g0, h0⟩ := s
  have HS := hid hs
  have HT := hid hT
  have HL := hid hl
  have HA := hid hA
  clear hs hT hl hA
  have b2 := (Blk.new w 60 (stW ⟨a0, b0, c0, d0, e0, f0, g0, h0⟩)).alloc (.cells (stW ⟨0, 0, 0, 0, 0, 0, 0, 0⟩) 60)
  have b4 := Blk.new (w.alloc (.cells (stW ⟨a0, b0, c0, d0, e0, f0, g0, h0⟩) 60)) 60 (stW ⟨0, 0, 0, 0, 0, 0, 0, 0⟩)
  have WW := ((Below.refl w.heap.size w).alloc (Nat.le_refl _) (.cells (stW ⟨a0, b0, c0, d0, e0, f0, g0, h0⟩) 60)).alloc (by simp) (.cells (stW ⟨0, 0, 0, 0, 0, 0, 0, 0⟩) 60)
  rw [World.size_alloc] at b4
  unfold stV
  dsimp only
  go_enter Tryd.func33, Tryd.ntmps33
  go_wp2_with fail
  generalize hV : (w.alloc (.cells #[.int .u32 ((a0 : Nat) : Int), .int .u32 ((b0 : Nat) : Int), .int .u32 ((c0 : Nat) : Int), .int .u32 ((d0 : Nat) : Int), .int .u32 ((e0 : Nat) : Int), .int .u32 ((f0 : Nat) : Int), .int .u32 ((g0 : Nat) : Int), .int .u32 ((h0 : Nat) : Int)] 60)).alloc (.cells #[.int .u32 0, .int .u32 0, .int .u32 0, .int .u32 0, .int .u32 0, .int .u32 0, .int .u32 0, .int .u32 0] 60) = V0
  replace b2 : Blk V0 w.heap.size 60 (stW ⟨a0, b0, c0, d0, e0, f0, g0, h0⟩) := by rw [← hV]; exact b2
  replace b4 : Blk V0 (w.heap.size + 1) 60 (stW ⟨0, 0, 0, 0, 0, 0, 0, 0⟩) := by rw [← hV]; exact b4
  replace WW : Below w.heap.size w V0 := by rw [← hV]; exact WW
  clear hV
  have k0 : V0.cell? ⟨w.heap.size, 0, none⟩ = some (.int .u32 ((a0 : Nat) : Int)) := b2.cell 0
  have k1 : V0.cell? ⟨w.heap.size, 1, none⟩ = some (.int .u32 ((b0 : Nat) : Int)) := b2.cell 1
  have k2 : V0.cell? ⟨w.heap.size, 2, none⟩ = some (.int .u32 ((c0 : Nat) : Int)) := b2.cell 2
  have k3 : V0.cell? ⟨w.heap.size, 3, none⟩ = some (.int .u32 ((d0 : Nat) : Int)) := b2.cell 3
  have k4 : V0.cell? ⟨w.heap.size, 4, none⟩ = some (.int .u32 ((e0 : Nat) : Int)) := b2.cell 4
  have k5 : V0.cell? ⟨w.heap.size, 5, none⟩ = some (.int .u32 ((f0 : Nat) : Int)) := b2.cell 5
  have k6 : V0.cell? ⟨w.heap.size, 6, none⟩ = some (.int .u32 ((g0 : Nat) : Int)) := b2.cell 6
  have k7 : V0.cell? ⟨w.heap.size, 7, none⟩ = some (.int .u32 ((h0 : Nat) : Int)) := b2.cell 7
  go_quiet (fail)
  go_wp2_with fail
  generalize hV : V0.drewN nq = V1
  replace b2 : Blk V1 w.heap.size 60 (stW ⟨a0, b0, c0, d0, e0, f0, g0, h0⟩) := by rw [← hV]; exact b2
  replace b4 : Blk V1 (w.heap.size + 1) 60 (stW ⟨0, 0, 0, 0, 0, 0, 0, 0⟩) := by rw [← hV]; exact b4
  replace WW : Below w.heap.size w V1 := by rw [← hV]; exact below_drewN WW nq
  clear hV k0 k1 k2 k3 k4 k5 k6 k7
  have hA1 : BN V1 V1.heap.size (some A) l := by
    intro i hi
    obtain ⟨ad, e, h1, h2⟩ := (HA.out.below WW) i hi
    exact ⟨ad, e, Nat.lt_of_lt_of_le h1 WW.size, h2⟩
  have hc := schedule_any A m l V1 HL.out hA1 hm hm2
  clear hA1
  obtain ⟨W, hW⟩ : ∃ W, W = sched (wds l 16) 48 := ⟨_, rfl⟩
  rw [← hW] at hc
  have HW := hid hW
  have HWL : Hid (W.length = 64) := (show W.length = 64 by rw [hW, sched_len, wds_len])
  clear hW
  refine hc.mono ?_
  clear hc
  rintro e V2 ⟨rfl, hb⟩
  replace b2 := b2.below hb b2.lt
  replace b4 := b4.below hb b4.lt
  replace WW := WW.trans (hb.mono WW.size)
  clear hb
  go_wp2_with fail
  go_loopw [5, 6, 7, 8, 9, 10, 11, 12, 37] (fun va vb vc vd ve vf vg vh vi wr => ∃ (k : Nat) (T : St), k ≤ 64 ∧ Hid (T = rounds ⟨a0, b0, c0, d0, e0, f0, g0, h0⟩ W k) ∧ vi = .int .i64 ((k : Nat) : Int) ∧ va = .int .u32 ((T.a : Nat) : Int) ∧ vb = .int .u32 ((T.b : Nat) : Int) ∧ vc = .int .u32 ((T.c : Nat) : Int) ∧ vd = .int .u32 ((T.d : Nat) : Int) ∧ ve = .int .u32 ((T.e : Nat) : Int) ∧ vf = .int .u32 ((T.f : Nat) : Int) ∧ vg = .int .u32 ((T.g : Nat) : Int) ∧ vh = .int .u32 ((T.h : Nat) : Int) ∧ Below w.heap.size w wr ∧ Blk wr w.heap.size 60 (stW ⟨a0, b0, c0, d0, e0, f0, g0, h0⟩) ∧ Blk wr (w.heap.size + 1) 60 (stW ⟨0, 0, 0, 0, 0, 0, 0, 0⟩)) (fun va vb vc vd ve vf vg vh vi wr => 64 - (intOf vi).toNat)
  case atStart => exact ⟨0, ⟨a0, b0, c0, d0, e0, f0, g0, h0⟩, by omega, rfl, rfl, rfl, rfl, rfl, rfl, rfl, rfl, rfl, rfl, WW, b2, b4⟩
  case round =>
    clear WW b2 b4
    obtain ⟨k, ⟨a, b, c, d, e, f, g, h⟩, hk, HT2, rfl, rfl, rfl, rfl, rfl, rfl, rfl, rfl, rfl, WW, b2, b4⟩ := hrel
    dsimp only
    by_cases hlt : k < 64
    · have ok : St.ok ⟨a, b, c, d, e, f, g, h⟩ := by rw [HT2.out]; exact rounds_all HS.out W k
      obtain ⟨la, lb, lc, ld, le, lf, lg, lh⟩ := ok
      dsimp only at la lb lc ld le lf lg lh
      have hix := row_at (l := W) (i := k) (by rw [HWL.out]; exact hlt)
      have htab := (WW.cell (p := ⟨1, k, none⟩) hw2).trans (HT.out k hlt)
      have HR : Hid (rounds ⟨a0, b0, c0, d0, e0, f0, g0, h0⟩ W (k + 1) = rnd ⟨a, b, c, d, e, f, g, h⟩ (consts.getD k 0) (W.getD k 0)) := (show _ = _ by rw [HT2.out]; rfl)
      generalize W.getD k 0 = wk at hix HR
      generalize consts.getD k 0 = ck at htab HR
      replace hix := fun w' => index_w (row W) k wk w' hlt hix
      obtain ⟨S1, hS1⟩ : ∃ q, q = rotr e 6 ^^^ rotr e 11 ^^^ rotr e 25 := ⟨_, rfl⟩
      have E1 := x3_val (rotr e 6) (rotr e 11) (rotr e 25) (rotr_lt _ _ le) (rotr_lt _ _ le) (rotr_lt _ _ le)
      rw [← hS1] at E1
      obtain ⟨CH, hCH⟩ : ∃ q, q = (e &&& f) ^^^ ((4294967295 ^^^ e) &&& g) := ⟨_, rfl⟩
      have E2 := ch_val e f g le lf lg
      rw [← hCH] at E2
      obtain ⟨q1, hq1⟩ : ∃ q, q = (h + S1) % 4294967296 := ⟨_, rfl⟩
      have r1 := sum_val h S1
      rw [← hq1] at r1
      obtain ⟨q4, hq4⟩ : ∃ q, q = (q1 + CH + ck + wk) % 4294967296 := ⟨_, rfl⟩
      have r4 : (((q1 : Nat) : Int) + ((CH : Nat) : Int) + ((ck : Nat) : Int) + ((wk : Nat) : Int)) % 4294967296 = ((q4 : Nat) : Int) := by omega
      have hq4' : (((q1 + CH) % 4294967296 + ck) % 4294967296 + wk) % 4294967296 = q4 := by omega
      obtain ⟨S0, hS0⟩ : ∃ q, q = rotr a 2 ^^^ rotr a 13 ^^^ rotr a 22 := ⟨_, rfl⟩
      have E3 := x3_val (rotr a 2) (rotr a 13) (rotr a 22) (rotr_lt _ _ la) (rotr_lt _ _ la) (rotr_lt _ _ la)
      rw [← hS0] at E3
      obtain ⟨MJ, hMJ⟩ : ∃ q, q = (a &&& b) ^^^ (a &&& c) ^^^ (b &&& c) := ⟨_, rfl⟩
      have E4 := mj_val a b c la lb lc
      rw [← hMJ] at E4
      obtain ⟨q5, hq5⟩ : ∃ q, q = (S0 + MJ) % 4294967296 := ⟨_, rfl⟩
      have r5 := sum_val S0 MJ
      rw [← hq5] at r5
      obtain ⟨q6, hq6⟩ : ∃ q, q = (d + q4) % 4294967296 := ⟨_, rfl⟩
      have r6 := sum_val d q4
      rw [← hq6] at r6
      obtain ⟨q7, hq7⟩ : ∃ q, q = (q4 + q5) % 4294967296 := ⟨_, rfl⟩
      have r7 := sum_val q4 q5
      rw [← hq7] at r7
      have HRR : Hid (rnd ⟨a, b, c, d, e, f, g, h⟩ ck wk = ⟨q7, a, b, c, q6, e, f, g⟩) := by
        show _ = _
        unfold rnd tt uu
        dsimp only
        rw [← hS1, ← hCH, ← hq1, hq4', ← hS0, ← hMJ, ← hq5, ← hq6, ← hq7]
      clear hS1 hCH hq1 hq4 hq4' hS0 hMJ hq5 hq6 hq7
      go_wp2_with fail
      go_big_quiet (first | exact Calls.quiet_of_same (right_6 e le _) | exact Calls.quiet_of_same (right_11 e le _) | exact Calls.quiet_of_same (right_25 e le _))
      go_wp2_with fail
      refine (right_2 a la _).mono ?_
      rintro e w' ⟨rfl, rfl⟩
      go_wp2_with fail
      refine (right_13 a la _).mono ?_
      rintro e w' ⟨rfl, rfl⟩
      go_wp2_with fail
      refine (right_22 a la _).mono ?_
      rintro e w' ⟨rfl, rfl⟩
      go_wp2_with fail
      go_roundw
      case rel => exact ⟨k + 1, ⟨q7, a, b, c, q6, e, f, g⟩, by omega, (show _ = _ by rw [HR.out, HRR.out]), rfl, congrArg _ r7, rfl, rfl, rfl, congrArg _ r6, rfl, rfl, rfl, below_drewN WW nq, b2, b4⟩
      case measure => simp [intOf] <;> omega
    · rw [show k = 64 from by omega] at HT2
      have hix : ∀ (j : Nat), j < 8 → ∀ w', (Instr.index 60 (.agg #[.int .u32 ((a : Nat) : Int), .int .u32 ((b : Nat) : Int), .int .u32 ((c : Nat) : Int), .int .u32 ((d : Nat) : Int), .int .u32 ((e : Nat) : Int), .int .u32 ((f : Nat) : Int), .int .u32 ((g : Nat) : Int), .int .u32 ((h : Nat) : Int)]) (.int .i64 ((j : Nat) : Int))).run Tryd.prog w' = .ok (.int .u32 (((stL ⟨a, b, c, d, e, f, g, h⟩).getD j 0 : Nat) : Int)) w' := by
        intro j hj w'
        exact index_8 (row (stL ⟨a, b, c, d, e, f, g, h⟩)) j _ w' hj (row_at hj)
      have HIX := hid hix
      clear hix
      go_wp2_with fail
      generalize Value.int .i64 ((k : Nat) : Int) = y37
      generalize Value.bool (decide (((k : Nat) : Int) < 64)) = y38
      clear hlt hk
      rename World => wo
      rename_i KK hKK
      have HK := hid hKK
      clear hKK
      replace b2 : Blk wo w.heap.size 60 (row (mixL ⟨a0, b0, c0, d0, e0, f0, g0, h0⟩ ⟨a, b, c, d, e, f, g, h⟩ 0)) := b2
      go_loopw [108] (fun i wr => ∃ j : Nat, j ≤ 8 ∧ i = .int .i64 ((j : Nat) : Int) ∧ Below w.heap.size w wr ∧ Blk wr w.heap.size 60 (row (mixL ⟨a0, b0, c0, d0, e0, f0, g0, h0⟩ ⟨a, b, c, d, e, f, g, h⟩ j)) ∧ Blk wr (w.heap.size + 1) 60 (stW ⟨0, 0, 0, 0, 0, 0, 0, 0⟩)) (fun i wr => 8 - (intOf i).toNat)
      case atStart => exact ⟨0, by omega, rfl, WW, b2, b4⟩
      case round =>
        clear WW b2 b4
        obtain ⟨j, hj, rfl, WW, b2, b4⟩ := hrel
        by_cases hlt : j < 8
        · have hix := HIX.out j hlt
          have hrd := b2.reads (i := j) (by rw [mixL_len]; exact hlt)
          rw [mixL_at _ _ hlt] at hrd
          have hfz := b2.frozen j
          have HM : Hid (_ = _) := mixL_set ⟨a0, b0, c0, d0, e0, f0, g0, h0⟩ ⟨a, b, c, d, e, f, g, h⟩ hlt
          generalize (stL ⟨a, b, c, d, e, f, g, h⟩).getD j 0 = y at hix HM
          generalize (stL ⟨a0, b0, c0, d0, e0, f0, g0, h0⟩).getD j 0 = x at hrd HM
          have r1 := sum_val x y
          generalize (x + y) % 4294967296 = z at r1 HM
          go_wp2_with fail
          go_roundw
          case rel => exact ⟨j + 1, by omega, rfl, WW.setCell (by simp) _, b2.puts HM.out, b4.far (by simp) _⟩
          case measure => simp [intOf] <;> omega
        · rw [show j = 8 from by omega] at b2
          go_wp2_with fail
          refine HK.out _ _ ?_
          clear HK
          refine wp_seq (wp_region_lit ?_)
          refine wpList_load_row rfl 60 (.tmp 2) rfl _ rfl 60 _ (0, 0) _ b2 Tryd.underlying60 rfl (by kernel_rfl) ?_
          refine wpList_store_row rfl 60 (.tmp 4) (.tmp 119) rfl (w.heap.size + 1) _ rfl rfl 60 _ b4 (by kernel_rfl) rfl (row_one _) ?_
          refine wpList_nil ?_
          go_wp2_with fail
          exact bodyPost_ret (v := stV (addS ⟨a0, b0, c0, d0, e0, f0, g0, h0⟩ ⟨a, b, c, d, e, f, g, h⟩)) (results_cell_row rfl _ _ (w.heap.size + 1) 60 _ (0, 0) _ rfl (b4.setRow_ _) Tryd.underlying60 rfl (by kernel_rfl)) rfl ⟨by unfold absorb; rw [← HW.out, ← HT2.out]; rfl, below_setRow_ WW (by omega) _⟩
end Go.Proofs.YtenmdfhdiepfcaaDoor
