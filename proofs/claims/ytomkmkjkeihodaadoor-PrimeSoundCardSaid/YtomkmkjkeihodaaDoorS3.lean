/- PrimeSound: slices.Concat at certificates. -/
import Derived.Test.YtomkmkjkeihodaaDoorP18
import Derived.Lib.AppendZerosOnto
import Derived.Lib.SliceRun
import Derived.Lib.Walk
set_option linter.unusedVariables false
set_option linter.unusedSimpArgs false
namespace Go.Proofs.YtomkmkjkeihodaaDoor
open Go.RowKit

/-- A row of certificates in new memory. -/
def RetCRow (base n : Nat) (xs : List Value) (w : World) (e : Ending) (w' : World) : Prop := ∃ v, e = .returned v ∧ w'.ownsRow base 40 3 v n xs ∧ Below w.heap.size w w'
def z40 : Value := .agg #[.slice none 0 0, .slice none 0 0, .slice none 0 0]
theorem grow_zero (w : World) : Calls Tryd.prog 52 #[.slice none 0 0, .int .i64 0] w (RetCRow w.heap.size 0 [] w) := by
  go_enter Tryd.func52, Tryd.ntmps52
  go_wp2_with fail
  go_ret
  exact ⟨_, rfl, World.ownsRow_nil _ _ _ _, Below.refl _ _⟩
set_option maxHeartbeats 4000000 in
set_option maxRecDepth 100000 in
theorem grow_pos (n : Nat) (w : World) (h0 : 0 < n) (hn : n ≤ 1000000) : Calls Tryd.prog 52 #[.slice none 0 0, .int .i64 ((n : Nat) : Int)] w (RetCRow w.heap.size 0 [] w) := by
  obtain ⟨i0, hi0, hz0, hz1, hz2⟩ := info_parts info40
  obtain ⟨G, hG⟩ : ∃ G, G = grownCap w n 0 40 := ⟨_, rfl⟩
  have hGn : n ≤ grownCap w n 0 40 := grownCap_ge w _ _ _
  have hGm : grownCap w n 0 40 ≤ maxLen := grownCap_le_maxLen w n 0 40 (by unfold maxLen; omega)
  have hrz : ∀ ty, (Builtin.append_ #[38, 3] ty #[.slice none 0 0, .int .i64 ((n : Nat) : Int)]).run Tryd.prog w =
      .ok (.slice (some ⟨w.heap.size, 0, none⟩) n (grownCap w n 0 40)) (w.drew.alloc (.cells (([] : List Value).toArray ++ Builtin.zeroCells z40.cells n ++ Builtin.zeroCells z40.cells (grownCap w n 0 40 - n)) 40)) := fun ty => by
    have h := Lib.run_append_grow_zeros (P := Tryd.prog) w 38 3 ty 40 i0 z40 .i64 .i64 Tryd.underlying38 Tryd.underlying3 hi0 hz0 none 0 0 [] (by rw [hz1]; exact run_firstCells_none w.drew 3 0 0 0) n h0 (by rw [hz1]; decide) (by omega) (by omega) (by rw [hz2]; omega)
      (by rw [hz2, Nat.zero_add]; exact growslice_fits (by omega) (by omega))
    rw [Nat.zero_add] at h
    exact h
  rw [← hG] at hrz hGn hGm
  obtain ⟨V, hV⟩ : ∃ V, V = w.drew.alloc (.cells (([] : List Value).toArray ++ Builtin.zeroCells z40.cells n ++ Builtin.zeroCells z40.cells (G - n)) 40) := ⟨_, rfl⟩
  have hO : Hid (V.ownsRow w.heap.size 40 3 (.slice (some ⟨w.heap.size, 0, none⟩) 0 G) 0 []) := (show _ ∧ _ by
    refine ⟨rfl, .inr ⟨w.heap.size, G, _, rfl, Nat.le_refl _, by rw [hV]; exact heap_alloc_new w.drew _, Nat.zero_le _, hGm, ?_, by simp⟩⟩
    simp only [Array.size_append, List.size_toArray, size_zeroCells, List.length_nil]
    have : z40.cells.size = 3 := rfl
    rw [this]
    omega)
  have hB : Hid (Below w.heap.size w V) := (show Below w.heap.size w V by rw [hV]; exact ((Below.refl w.heap.size w).drew).alloc (Nat.le_refl _) _)
  rw [← hV] at hrz
  have hG63 : G ≤ 9223372036854775807 := by unfold maxLen at hGm; omega
  have HR := hid hrz
  clear hrz hV hG hGm hi0 hz0 hz1 hz2
  have l1 : decide (((n : Nat) : Int) > 0) = true := by simp; omega
  go_enter Tryd.func52, Tryd.ntmps52
  go_wp2_with (at_builtin; refine Lib.wpList_append_run _ rfl _ _ _ _ rfl _ _ rfl rfl _ _ (HR.out _) ?_)
  go_ret
  exact ⟨_, rfl, hO.out, hB.out⟩
theorem row_slc {w : World} {base n : Nat} {v : Value} {xs : List Value} (h : w.ownsRow base 40 3 v n xs) : ∃ A c, v = .slice A n c := by
  rcases h.2 with ⟨h1, h2⟩ | ⟨g, c, cur, h1, _⟩
  · exact ⟨none, 0, by rw [h1, h2]⟩
  · exact ⟨_, c, h1⟩
theorem grown_base {w V V' : World} {row : Option Nat} (h : Below w.heap.size w V) (h2 : V.grownBy V' row) (hr : ∀ g, row = some g → w.heap.size ≤ g) : Below w.heap.size w V' :=
  ⟨h2.os.trans h.os, h2.tape.trans h.tape, h2.output.trans h.output, Nat.le_trans h.size h2.size, fun k hk => (h2.block k (Nat.lt_of_lt_of_le hk h.size) (fun e => by have := hr k e.symm; omega)).trans (h.block k hk)⟩
/-- The cells of a row. -/
def RowAt (w : World) (B : Nat) (ad : Addr) (xs : List Value) : Prop := ad.block < B ∧ (∀ (j : Nat) u, xs[j]? = some u → w.cell? (ad.add j) = some u) ∧ ∀ u ∈ xs, u.oneCell' = true
theorem RowAt.below {w w' : World} {B : Nat} {ad : Addr} {xs : List Value} (h : RowAt w B ad xs) (hb : Below B w w') : RowAt w' B ad xs :=
  ⟨h.1, fun j u hu => (hb.cell (p := ad.add j) (by rw [add_block]; exact h.1)).trans (h.2.1 j u hu), h.2.2⟩
def Cc (k1 k2 : Nat) (i s : Value) : Prop := (i = .int .i64 0 ∧ s = .int .i64 0) ∨ (i = .int .i64 1 ∧ s = .int .i64 ((k1 : Nat) : Int)) ∨ (i = .int .i64 2 ∧ s = .int .i64 ((k1 + k2 : Nat) : Int))
def Cd (k1 k2 : Nat) (xs1 xs2 : List Value) (i : Value) (n : Nat) (xs : List Value) : Prop := (i = .int .i64 0 ∧ n = 0 ∧ xs = []) ∨ (i = .int .i64 1 ∧ n = k1 ∧ xs = xs1) ∨ (i = .int .i64 2 ∧ n = k1 + k2 ∧ xs = xs1 ++ xs2)
set_option maxHeartbeats 4000000 in
set_option maxRecDepth 100000 in
theorem concat_any (gb k1 k2 e1 e2 : Nat) (p1 p2 : Addr) (xs1 xs2 : List Value) (w : World) (hb : Blk w gb 38 #[.slice (some p1) k1 e1, .slice (some p2) k2 e2]) (h1 : RowAt w w.heap.size p1 xs1) (h2 : RowAt w w.heap.size p2 xs2)
    (l1 : xs1.length = k1 * 3) (l2 : xs2.length = k2 * 3) (hk1 : k1 ≤ 400000) (hk2 : k2 ≤ 400000) :
    Calls Tryd.prog 32 #[.slice (some ⟨gb, 0, none⟩) 2 2] w (RetCRow w.heap.size (k1 + k2) (xs1 ++ xs2) w) := by
  obtain ⟨i0, hi0, hz0, hz1, hz2⟩ := info_parts info40
  have HB := hid hb
  have H1 := hid h1
  have H2 := hid h2
  have L1 := hid l1
  have L2 := hid l2
  clear hb h1 h2 l1 l2
  have k0 : w.cell? ⟨gb, 0, none⟩ = some (.slice (some p1) k1 e1) := (HB.out.cell 0).trans rfl
  have k1' : w.cell? ⟨gb, 1, none⟩ = some (.slice (some p2) k2 e2) := (HB.out.cell 1).trans rfl
  have zb := HB.out.lt
  go_enter Tryd.func32, Tryd.ntmps32
  go_wp2_with fail
  go_loopw [3, 11] (fun s i wr => Cc k1 k2 i s ∧ wr = w) (fun _ i _ => 2 - (intOf i).toNat)
  case atStart => exact ⟨.inl ⟨rfl, rfl⟩, rfl⟩
  case round =>
    obtain ⟨hc, rfl⟩ := hrel
    rcases hc with ⟨rfl, rfl⟩ | ⟨rfl, rfl⟩ | ⟨rfl, rfl⟩
    · go_wp2_with fail
      go_roundw
      case rel => exact ⟨.inr (.inl ⟨rfl, by go_num⟩), trivial⟩
      case measure => simp [intOf]
    · go_wp2_with fail
      go_roundw
      case rel => exact ⟨.inr (.inr ⟨rfl, by go_num⟩), trivial⟩
      case measure => simp [intOf]
    · rename World => W0
      obtain ⟨n, hn⟩ : ∃ n, n = k1 + k2 := ⟨_, rfl⟩
      have hn1 : n ≤ 800000 := by omega
      rw [← hn]
      have HN := hid hn
      clear hn
      go_wp2_with fail
      have hc : Calls Tryd.prog 52 #[.slice none 0 0, .int .i64 ((n : Nat) : Int)] W0 (RetCRow W0.heap.size 0 [] W0) := by
        rcases Nat.eq_zero_or_pos n with h | h
        · subst h; exact grow_zero W0
        · exact grow_pos n W0 h (by omega)
      refine hc.mono ?_
      clear hc k0 k1' zb
      rintro e V1 ⟨v, rfl, ho, hb⟩
      obtain ⟨A0, c0, rfl⟩ := row_slc ho
      have HO := hid ho
      clear ho
      go_wp2_with fail
      go_loopw [6, 27] (fun v i wr => ∃ (A : Option Addr) (c m : Nat) (xs : List Value), v = .slice A m c ∧ Hid (wr.ownsRow W0.heap.size 40 3 v m xs) ∧ Hid (Cd k1 k2 xs1 xs2 i m xs) ∧ Below W0.heap.size W0 wr) (fun _ i _ => 2 - (intOf i).toNat)
      case atStart => exact ⟨A0, c0, 0, [], rfl, HO, hid (.inl ⟨rfl, rfl, rfl⟩), hb⟩
      case round =>
        clear hb HO
        obtain ⟨A, c, m, xs, rfl, HO, hcd, WW⟩ := hrel
        have k0 : wr.cell? ⟨gb, 0, none⟩ = some (.slice (some p1) k1 e1) := ((HB.out.below WW HB.out.lt).cell 0).trans rfl
        have k1' : wr.cell? ⟨gb, 1, none⟩ = some (.slice (some p2) k2 e2) := ((HB.out.below WW HB.out.lt).cell 1).trans rfl
        have R1 := hid (H1.out.below WW)
        have R2 := hid (H2.out.below WW)
        rcases hcd.out with ⟨rfl, rfl, rfl⟩ | ⟨rfl, rfl, rfl⟩ | ⟨rfl, rfl, rfl⟩
        · clear hcd
          go_wp2_with (at_builtin; refine wpList_append_own_at _ rfl _ _ 38 rfl W0.heap.size 40 i0 (.agg #[.slice none 0 0, .slice none 0 0, .slice none 0 0]) 3 72 Tryd.underlying38 hi0 hz0 hz1 hz2 rfl (by decide) (.slice A 0 c) 0 [] rfl HO.out p1 k1 _ xs1 rfl L1.out R1.out.2.1 R1.out.2.2 (by unfold maxLen; omega) (by omega) (by have := WW.size; omega) ?_; intro v1 w1 hown1 hg1 _ _; have HO1 := hid hown1; have HG1 := hid (grown_base WW hg1 (fun g hg => (World.ownsRow.lt HO.out g hg).1)); clear hown1 hg1; obtain ⟨A1, c1, rfl⟩ := row_slc HO1.out)
          go_roundw
          case rel => exact ⟨A1, c1, k1, xs1, rfl, (by have h := HO1.out; rw [Nat.zero_add] at h; exact hid h), hid (.inr (.inl ⟨by go_num, rfl, rfl⟩)), HG1.out⟩
          case measure => simp [intOf]
        · clear hcd
          go_wp2_with (at_builtin; refine wpList_append_own_at _ rfl _ _ 38 rfl W0.heap.size 40 i0 (.agg #[.slice none 0 0, .slice none 0 0, .slice none 0 0]) 3 72 Tryd.underlying38 hi0 hz0 hz1 hz2 rfl (by decide) (.slice A m c) m xs rfl HO.out p2 k2 _ xs2 rfl L2.out R2.out.2.1 R2.out.2.2 (by unfold maxLen; omega) (by omega) (by have := WW.size; omega) ?_; intro v1 w1 hown1 hg1 _ _; have HO1 := hid hown1; have HG1 := hid (grown_base WW hg1 (fun g hg => (World.ownsRow.lt HO.out g hg).1)); clear hown1 hg1; obtain ⟨A1, c1, rfl⟩ := row_slc HO1.out)
          go_roundw
          case rel => exact ⟨A1, c1, m + k2, xs ++ xs2, rfl, HO1, hid (.inr (.inr ⟨rfl, rfl, rfl⟩)), HG1.out⟩
          case measure => simp [intOf]
        · clear hcd
          have HW := hid WW
          clear WW
          go_wp2_with fail
          trace_state
          go_ret
          exact ⟨_, rfl, HO.out, HW.out⟩
end Go.Proofs.YtomkmkjkeihodaaDoor
