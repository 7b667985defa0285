/- Certificates: prime.count, Size. -/
import Derived.Test.YtomkmkjkeihodaaDoorPB
set_option linter.unusedVariables false
set_option linter.unusedSimpArgs false
namespace Go.Proofs.YtomkmkjkeihodaaDoor
open Go.RowKit

/-- A certificate, as a tree: words and value of its number, those of its root, and its parts. -/
inductive CT where
  | node (n a m b : Nat) (ps : List CT)
def CT.val : CT → Nat | .node _ a _ _ _ => a
def CT.wds : CT → Nat | .node n _ _ _ _ => n
def CT.ps : CT → List CT | .node _ _ _ _ ps => ps
mutual
def CT.size : CT → Nat | .node _ _ _ _ ps => 1 + sizes ps
def sizes : List CT → Nat | [] => 0 | p :: ps => p.size + sizes ps
end
theorem CT.size_pos (t : CT) : 1 ≤ t.size := by cases t; rw [CT.size]; omega
theorem sizes_app : ∀ (l m : List CT), sizes (l ++ m) = sizes l + sizes m
  | [], m => by simp [sizes]
  | p :: l, m => by rw [List.cons_append, sizes, sizes, sizes_app l m]; omega
theorem sizes_succ {ps : List CT} {j : Nat} (h : j < ps.length) : sizes (ps.take (j + 1)) = sizes (ps.take j) + ps[j].size := by
  rw [List.take_succ_eq_append_getElem h, sizes_app]
  simp [sizes]
theorem sizes_le (ps : List CT) (j : Nat) : sizes (ps.take j) ≤ sizes ps := by
  have h := sizes_app (ps.take j) (ps.drop j)
  rw [List.take_append_drop] at h
  omega
theorem size_lt {n a m b : Nat} {ps : List CT} {j : Nat} (h : j < ps.length) : ps[j].size < (CT.node n a m b ps).size := by
  have h1 := sizes_le ps (j + 1)
  rw [sizes_succ h] at h1
  rw [CT.size]
  omega
/-- The three cells of a certificate read as the tree, below block B. -/
inductive CV (w : World) (B : Nat) : Value → Value → Value → CT → Prop
  | mk {A A' P : Option Addr} {n c a m d b k e : Nat} {ps : List CT} (X Y Z : Nat → Value) (hN : Num w B A n a) (hR : Num w B A' m b) (hn : n ≤ 9223372036854775807) (hm : m ≤ 9223372036854775807) (hk : ps.length = k) (hk2 : k ≤ 9223372036854775807)
    (hP : ∀ i, i < k → ∃ ad, P = some ad ∧ ad.block < B ∧ w.cell? (ad.add (i * 3)) = some (X i) ∧ w.cell? ⟨(ad.add (i * 3)).block, (ad.add (i * 3)).off + 1, none⟩ = some (Y i) ∧ w.cell? ⟨(ad.add (i * 3)).block, (ad.add (i * 3)).off + 2, none⟩ = some (Z i)) (hT : ∀ i (h : i < ps.length), CV w B (X i) (Y i) (Z i) ps[i]) : CV w B (.slice A n c) (.slice A' m d) (.slice P k e) (.node n a m b ps)
theorem add_block (ad : Addr) (i : Nat) : (ad.add i).block = ad.block := by unfold Addr.add; split <;> rfl
theorem CV.to {w w' : World} {B B' : Nat} {x y z : Value} {t : CT} (h : CV w B x y z t) (hb : Below B w w') (hB : B ≤ B') : CV w' B' x y z t := by
  induction h with
  | mk X Y Z hN hR hn hm hk hk2 hP hT ih =>
    refine CV.mk X Y Z ((hN.below hb).more hB) ((hR.below hb).more hB) hn hm hk hk2 (fun i hi => ?_) (fun i h => ih i h)
    obtain ⟨ad, e, h1, h2, h3, h4⟩ := hP i hi
    exact ⟨ad, e, Nat.lt_of_lt_of_le h1 hB, (hb.cell (by rw [add_block]; exact h1)).trans h2, (hb.cell (by show (ad.add (i * 3)).block < _; rw [add_block]; exact h1)).trans h3, (hb.cell (by show (ad.add (i * 3)).block < _; rw [add_block]; exact h1)).trans h4⟩
theorem CV.go {w w' : World} {x y z : Value} {t : CT} (h : CV w w.heap.size x y z t) (hb : Below w.heap.size w w') : CV w' w'.heap.size x y z t := h.to hb hb.size
theorem CV.slc {w : World} {B : Nat} {x y z : Value} {t : CT} (h : CV w B x y z t) : ∃ A n c A' m d P k e, x = .slice A n c ∧ y = .slice A' m d ∧ z = .slice P k e := by
  cases h; exact ⟨_, _, _, _, _, _, _, _, _, rfl, rfl, rfl⟩
theorem box3 (w : World) (x y z : Value) : Blk (w.alloc (.cells #[x, y, z] 40)) w.heap.size 40 #[x, y, z] ∧ Below w.heap.size w (w.alloc (.cells #[x, y, z] 40)) := ⟨Blk.new _ _ _, (Below.refl _ _).alloc (Nat.le_refl _) _⟩
theorem blk3 {w : World} {g : Nat} {x y z : Value} {t : TypeId} (h : Blk w g t #[x, y, z]) : w.cell? ⟨g, 0, none⟩ = some x ∧ w.cell? ⟨g, 1, none⟩ = some y ∧ w.cell? ⟨g, 2, none⟩ = some z := ⟨(h.cell 0).trans rfl, (h.cell 1).trans rfl, (h.cell 2).trans rfl⟩
set_option maxHeartbeats 4000000 in
set_option maxRecDepth 100000 in
theorem count_any : ∀ (s : Nat) (t : CT) (hs : t.size ≤ s) (x y z : Value) (L : Nat) (w : World) (hL : L ≤ 1000000) (hV : CV w w.heap.size x y z t),
    Calls Tryd.prog 53 #[.agg #[x, y, z], .int .i64 ((L : Nat) : Int)] w (RetB (.int .i64 ((min t.size (L + 1) : Nat) : Int)) w)
  | 0, t, hs, _, _, _, _, _, _, _ => absurd hs (by have := t.size_pos; omega)
  | s + 1, t, hs, x, y, z, L, w, hL, hV => by
    have IH := hid (count_any s)
    have HV := hid hV
    rcases hV with @⟨A, A', P, n, c, a, m, d, b, k, ex, ps, X, Y, Z, hN, hR, hn, hm, hk, hk2, hP, hT⟩
    have HP := hid hP
    have HT := hid hT
    have HK := hid hk
    obtain ⟨S, hS⟩ : ∃ S, S = (CT.node n a m b ps).size := ⟨_, rfl⟩
    have HS := hid hS
    rw [CT.size] at hS
    rw [← HS.out] at hs ⊢
    have HS2 := hid hS
    clear hP hT hk hN hR hS HV
    go_enter Tryd.func53, Tryd.ntmps53
    go_wp2_with fail
    obtain ⟨V0, hV0⟩ : ∃ V, V = w.alloc (.cells #[.slice A n c, .slice A' m d, .slice P k ex] 40) := ⟨_, rfl⟩
    have WW := (box3 w (.slice A n c) (.slice A' m d) (.slice P k ex)).2
    rw [← hV0] at WW ⊢
    clear hV0
    go_loopw [5, 11] (fun nn i wr => ∃ j r : Nat, j ≤ k ∧ r ≤ L + 1 ∧ nn = .int .i64 ((r : Nat) : Int) ∧ i = .int .i64 ((j : Nat) : Int) ∧ Below w.heap.size w wr ∧ Hid (r = min (1 + sizes (ps.take j)) (L + 1))) (fun _ i _ => k - (intOf i).toNat)
    case atStart => exact ⟨0, 1, by omega, by omega, by go_num, by go_num, WW, (show 1 = _ by simp [sizes])⟩
    case round =>
      clear WW
      obtain ⟨j, r, hj, hr, rfl, rfl, WW, HJ⟩ := hrel
      by_cases hjk : j < k
      · have l2 : decide (((j : Nat) : Int) < ((k : Nat) : Int)) = true := by simp; omega
        obtain ⟨ad, e, hb, c0, c1, c2⟩ := HP.out j hjk
        have bw := (WW.mono (Nat.le_refl _))
        replace c0 := (WW.cell (by rw [add_block]; exact hb)).trans c0
        replace c1 := (WW.cell (by show (ad.add (j * 3)).block < _; rw [add_block]; exact hb)).trans c1
        replace c2 := (WW.cell (by show (ad.add (j * 3)).block < _; rw [add_block]; exact hb)).trans c2
        have hjl : j < ps.length := by rw [HK.out]; exact hjk
        have hx := HT.out j hjl
        obtain ⟨A1, n1, c1', A2, n2, c2', A3, n3, c3', e1, e2, e3⟩ := hx.slc
        rw [e1] at c0
        rw [e2] at c1
        rw [e3] at c2
        rw [e1, e2, e3] at hx
        have HX := hid hx
        subst e
        clear hb bw hx HP e1 e2 e3
        obtain ⟨q, hq⟩ : ∃ q, q = ps[j].size := ⟨_, rfl⟩
        have HQ := hid hq
        have q1 : 1 ≤ q := by rw [hq]; exact CT.size_pos _
        have hqs : q < S := by rw [hq, HS.out]; exact size_lt hjl
        clear hq
        by_cases hLr : L < r
        · have l3 : decide (L < r) = true := by simpa using hLr
          have HE : Hid (min S (L + 1) = r) := (show _ = _ by
            have h1 := HJ.out
            have h2 := sizes_le ps j
            have h3 := HS2.out
            omega)
          go_wp2_with fail
          go_ret
          exact ⟨by rw [HE.out]; rfl, WW.trans ((box3 wr _ _ _).2.mono WW.size)⟩
        · have l3 : decide (L < r) = false := by simpa using hLr
          obtain ⟨Lr, hLr2⟩ : ∃ x, x = L - r := ⟨_, rfl⟩
          have l4 : ((L : Nat) : Int) - ((r : Nat) : Int) = ((Lr : Nat) : Int) := by omega
          obtain ⟨mm, hmm⟩ : ∃ x, x = min q (Lr + 1) := ⟨_, rfl⟩
          have hm1 : r + mm ≤ L + 1 := by omega
          have hm2 : ((r : Nat) : Int) + ((mm : Nat) : Int) ≤ 1000001 := by omega
          obtain ⟨V1, hV1⟩ : ∃ V, V = wr.alloc (.cells #[.slice A1 n1 c1', .slice A2 n2 c2', .slice A3 n3 c3'] 40) := ⟨_, rfl⟩
          have hb := (box3 wr (.slice A1 n1 c1') (.slice A2 n2 c2') (.slice A3 n3 c3')).2
          rw [← hV1] at hb
          have HC := hid (IH.out ps[j] (by rw [← HQ.out]; omega) _ _ _ Lr V1 (by omega) (HX.out.go (WW.trans (hb.mono WW.size))))
          rw [← HQ.out, ← hmm] at HC
          have HJ2 : Hid (r + mm = min (1 + sizes (ps.take (j + 1))) (L + 1)) := (show _ = _ by
            have h1 := HJ.out
            rw [sizes_succ hjl, ← HQ.out]
            omega)
          clear hmm hLr2 hLr
          go_wp2_with fail
          rw [← hV1]
          refine HC.out.mono ?_
          clear HC
          rintro e V2 ⟨rfl, hb2⟩
          replace WW := (WW.trans (hb.mono WW.size)).trans (hb2.mono (WW.trans (hb.mono WW.size)).size)
          clear hb hb2 hV1
          go_wp2_with fail
          go_roundw
          case rel => exact ⟨j + 1, r + mm, by omega, by omega, by go_num, by go_num, WW, HJ2.out⟩
          case measure => simp [intOf] <;> omega
      · have l2 : decide (((j : Nat) : Int) < ((k : Nat) : Int)) = false := by simp; omega
        have HE : Hid (min S (L + 1) = r) := (show _ = _ by
          have h1 := HJ.out
          rw [List.take_of_length_le (by rw [HK.out]; omega)] at h1
          rw [h1, HS2.out])
        go_wp2_with fail
        go_ret
        exact ⟨by rw [HE.out]; rfl, WW⟩
def sizeN (t : CT) : Nat := if t.size ≤ 1000 then t.size else 0
set_option maxHeartbeats 4000000 in
set_option maxRecDepth 100000 in
theorem size_any (t : CT) (x y z : Value) (w : World) (hV : CV w w.heap.size x y z t) :
    Calls Tryd.prog 33 #[.agg #[x, y, z]] w (RetB (.int .i64 ((sizeN t : Nat) : Int)) w) := by
  obtain ⟨A1, n1, c1, A2, n2, c2, A3, n3, c3, rfl, rfl, rfl⟩ := hV.slc
  obtain ⟨V0, hV0⟩ : ∃ V, V = w.alloc (.cells #[.slice A1 n1 c1, .slice A2 n2 c2, .slice A3 n3 c3] 40) := ⟨_, rfl⟩
  obtain ⟨hB, WW⟩ := box3 w (.slice A1 n1 c1) (.slice A2 n2 c2) (.slice A3 n3 c3)
  rw [← hV0] at hB WW
  have HC := hid (count_any _ t (Nat.le_refl _) _ _ _ 1000 V0 (by omega) (hV.go WW))
  obtain ⟨q, hq⟩ : ∃ q, q = min t.size (1000 + 1) := ⟨_, rfl⟩
  have q1 : q ≤ 1001 := by omega
  rw [← hq] at HC
  have HQ : Hid (sizeN t = if q ≤ 1000 then q else 0) := (show _ = _ by unfold sizeN; split <;> split <;> omega)
  clear hV hq hB
  by_cases h : q ≤ 1000
  · have l1 : decide (((q : Nat) : Int) > 1000) = false := by simp; omega
    rw [if_pos h] at HQ
    go_enter Tryd.func33, Tryd.ntmps33
    go_wp2_with fail
    rw [← hV0]
    clear hV0
    refine HC.out.mono ?_
    clear HC
    rintro e V1 ⟨rfl, hb⟩
    replace WW := WW.trans (hb.mono WW.size)
    clear hb
    go_wp2_with fail
    go_ret
    exact ⟨by rw [HQ.out]; rfl, WW⟩
  · have l1 : decide (((q : Nat) : Int) > 1000) = true := by simp; omega
    rw [if_neg h] at HQ
    go_enter Tryd.func33, Tryd.ntmps33
    go_wp2_with fail
    rw [← hV0]
    clear hV0
    refine HC.out.mono ?_
    clear HC
    rintro e V1 ⟨rfl, hb⟩
    replace WW := WW.trans (hb.mono WW.size)
    clear hb
    go_wp2_with fail
    go_ret
    exact ⟨by rw [HQ.out]; rfl, WW⟩
end Go.Proofs.YtomkmkjkeihodaaDoor
