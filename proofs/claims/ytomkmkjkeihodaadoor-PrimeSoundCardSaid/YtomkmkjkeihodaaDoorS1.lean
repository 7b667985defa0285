/- PrimeSound: the law's few: its closure, slices.ContainsFunc. -/
import Derived.Test.YtomkmkjkeihodaaDoorP18
set_option linter.unusedVariables false
set_option linter.unusedSimpArgs false
namespace Go.Proofs.YtomkmkjkeihodaaDoor
open Go.RowKit

theorem grown_refl (w : World) (row : Option Nat) : w.grownBy w row := ⟨rfl, rfl, rfl, Nat.le_refl _, fun _ _ _ => rfl⟩
theorem grown_below {w V V' : World} {g B : Nat} (h : w.grownBy V (some g)) (hb : Below B V V') (hB : V.heap.size ≤ B) : w.grownBy V' (some g) := grown_go h (grown_of hb hB) (fun k hk => by cases hk)
theorem grown_same {w V V' : World} {g : Nat} (h : w.grownBy V (some g)) (h2 : V.grownBy V' (some g)) : w.grownBy V' (some g) := grown_go h h2 (fun k _ => .inr rfl)
/-- A call that counts down behind a pointer: it returns a bool; the counter is not negative if the bool is q. -/
def FewE (q : Bool) (g : Nat) (w : World) (e : Ending) (w' : World) : Prop := ∃ (b : Bool) (z : Int), e = .returned (.bool b) ∧ Blk w' g 3 #[.int .i64 z] ∧ -1 ≤ z ∧ z ≤ 10000 ∧ (b = q → 0 ≤ z) ∧ w.grownBy w' (some g)
def IdxE (g : Nat) (w : World) (e : Ending) (w' : World) : Prop := ∃ (i z : Int), e = .returned (.int .i64 i) ∧ Blk w' g 3 #[.int .i64 z] ∧ -1 ≤ z ∧ z ≤ 10000 ∧ (i < 0 → 0 ≤ z) ∧ w.grownBy w' (some g)
theorem clos_few (x y z : Value) (g bp : Nat) (zz : Int) (w : World) (hbp : Blk w bp 55 #[.pointer (some ⟨g, 0, none⟩)]) (hg : Blk w g 3 #[.int .i64 zz])
    (hx : ∃ A n c A' m d P k e, x = .slice A n c ∧ y = .slice A' m d ∧ z = .slice P k e)
    (hf : ∀ wr, w.grownBy wr (some g) → Blk wr g 3 #[.int .i64 zz] → Calls Tryd.prog 28 #[.agg #[x, y, z], .pointer (some ⟨g, 0, none⟩)] wr (FewE true g wr)) :
    Calls Tryd.prog 47 #[.agg #[x, y, z], .pointer (some ⟨bp, 0, none⟩)] w (FewE false g w) := by
  obtain ⟨A, n, c, A', m, d, P, k, e, rfl, rfl, rfl⟩ := hx
  obtain ⟨B, hb⟩ := box3 w (.slice A n c) (.slice A' m d) (.slice P k e)
  obtain ⟨V, hV⟩ : ∃ V, V = w.alloc (.cells #[.slice A n c, .slice A' m d, .slice P k e] 40) := ⟨_, rfl⟩
  rw [← hV] at B hb
  have GG := hid (grown_below (grown_refl w (some g)) hb (Nat.le_refl _))
  have HC := hid (hf V GG.out (hg.below hb hg.lt))
  have kp := hbp.cell0
  have zp := hbp.lt
  have HV := hid hV
  clear hf hg hb hbp B hV
  go_enter Tryd.func47, Tryd.ntmps47
  go_wp2_with fail
  rw [← HV.out]
  refine HC.out.mono ?_
  clear HC HV kp zp
  rintro e V1 ⟨b, z, rfl, hz, h1, h2, h3, h4⟩
  have H3 := hid h3
  have H4 := hid (grown_same GG.out h4)
  have HZ := hid hz
  clear h3 h4 hz GG
  go_wp2_with fail
  go_ret
  exact ⟨!b, z, rfl, HZ.out, h1, h2, fun h => H3.out (by simpa using h), H4.out⟩
set_option maxHeartbeats 4000000 in
set_option maxRecDepth 100000 in
theorem index_few (g bp B k ex : Nat) (P : Option Addr) (X Y Z : Nat → Value) (zz : Int) (w : World) (hk : k ≤ 9223372036854775807) (hB : B ≤ g) (hBs : B ≤ w.heap.size) (hg : Blk w g 3 #[.int .i64 zz]) (h0 : 0 ≤ zz) (h1 : zz ≤ 10000)
    (hbp : Blk w bp 55 #[.pointer (some ⟨g, 0, none⟩)]) (hne : bp ≠ g)
    (hP : ∀ i, i < k → ∃ ad, P = some ad ∧ ad.block < B ∧ w.cell? (ad.add (i * 3)) = some (X i) ∧ w.cell? ⟨(ad.add (i * 3)).block, (ad.add (i * 3)).off + 1, none⟩ = some (Y i) ∧ w.cell? ⟨(ad.add (i * 3)).block, (ad.add (i * 3)).off + 2, none⟩ = some (Z i))
    (hS : ∀ i, i < k → ∃ A n c A' m d P k e, X i = .slice A n c ∧ Y i = .slice A' m d ∧ Z i = .slice P k e)
    (hf : ∀ i, i < k → ∀ wr z, w.grownBy wr (some g) → Blk wr g 3 #[.int .i64 z] → 0 ≤ z → z ≤ 10000 → Calls Tryd.prog 28 #[.agg #[X i, Y i, Z i], .pointer (some ⟨g, 0, none⟩)] wr (FewE true g wr)) :
    Calls Tryd.prog 69 #[.slice P k ex, .func (.func 47) #[] #[.pointer (some ⟨bp, 0, none⟩)]] w (IdxE g w) := by
  have HP := hid hP
  have HS := hid hS
  have HF := hid hf
  have HBP := hid hbp
  have HG := hid hg
  clear hP hS hf hbp hg
  go_enter Tryd.func69, Tryd.ntmps69
  go_wp2_with fail
  go_loopw [8] (fun i wr => ∃ (j : Nat) (z : Int), j ≤ k ∧ i = .int .i64 ((j : Nat) : Int) ∧ 0 ≤ z ∧ z ≤ 10000 ∧ Hid (Blk wr g 3 #[.int .i64 z]) ∧ Hid (w.grownBy wr (some g))) (fun i _ => k - (intOf i).toNat)
  case atStart => exact ⟨0, zz, by omega, by go_num, h0, h1, HG, hid (grown_refl w (some g))⟩
  case round =>
    obtain ⟨j, z, hj, rfl, hz0, hz1, HZ, GG⟩ := hrel
    by_cases hjk : j < k
    · have l2 : decide (((j : Nat) : Int) < ((k : Nat) : Int)) = true := by simp; omega
      obtain ⟨ad, e, hb, c0, c1, c2⟩ := HP.out j hjk
      have WB := below_of_grown GG.out hB hBs
      replace c0 := (WB.cell (by rw [add_block]; exact hb)).trans c0
      replace c1 := (WB.cell (by show (ad.add (j * 3)).block < _; rw [add_block]; exact hb)).trans c1
      replace c2 := (WB.cell (by show (ad.add (j * 3)).block < _; rw [add_block]; exact hb)).trans c2
      have HC := hid (clos_few (X j) (Y j) (Z j) g bp z wr (HBP.out.grown GG.out (by simpa using hne)) HZ.out (HS.out j hjk) (fun wr' h h' => HF.out j hjk wr' z (grown_same GG.out h) h' hz0 hz1))
      obtain ⟨A1, n1, c1', A2, n2, c2', A3, n3, c3', e1, e2, e3⟩ := HS.out j hjk
      rw [e1] at c0
      rw [e2] at c1
      rw [e3] at c2
      rw [e1, e2, e3] at HC
      subst e
      clear hb e1 e2 e3 HP WB
      go_wp2_with fail
      refine HC.out.mono ?_
      clear HC c0 c1 c2
      rintro e V1 ⟨b, z', rfl, hz, h2, h3, h4, h5⟩
      have HZ2 := hid hz
      have GG2 := hid (grown_same GG.out h5)
      clear hz h5 HZ GG
      cases b
      · have h6 := h4 rfl
        clear h4
        go_wp2_with fail
        go_roundw
        case rel => exact ⟨j + 1, z', by omega, by go_num, h6, h3, HZ2, GG2⟩
        case measure => simp [intOf] <;> omega
      · clear h4
        go_wp2_with fail
        go_ret
        exact ⟨_, z', rfl, HZ2.out, h2, h3, fun h => by omega, GG2.out⟩
    · have l2 : decide (((j : Nat) : Int) < ((k : Nat) : Int)) = false := by simp; omega
      go_wp2_with fail
      go_ret
      exact ⟨_, z, rfl, HZ.out, by omega, hz1, fun _ => hz0, GG.out⟩
theorem contains_few (P : Option Addr) (k ex g bp : Nat) (w : World) (hi : Calls Tryd.prog 69 #[.slice P k ex, .func (.func 47) #[] #[.pointer (some ⟨bp, 0, none⟩)]] w (IdxE g w)) :
    Calls Tryd.prog 46 #[.slice P k ex, .func (.func 47) #[] #[.pointer (some ⟨bp, 0, none⟩)]] w (FewE false g w) := by
  have HI := hid hi
  clear hi
  go_enter Tryd.func46, Tryd.ntmps46
  go_wp2_with fail
  refine HI.out.mono ?_
  clear HI
  rintro e V1 ⟨i, z, rfl, hz, h1, h2, h3, h4⟩
  have HZ := hid hz
  have H3 := hid h3
  have H4 := hid h4
  clear hz h3 h4
  go_wp2_with fail
  go_ret
  exact ⟨_, z, rfl, HZ.out, h1, h2, fun h => H3.out (by simpa using h), H4.out⟩
theorem boxf (w : World) (x y z p : Value) : Blk ((w.alloc (.cells #[x, y, z] 40)).alloc (.cells #[p] 55)) w.heap.size 40 #[x, y, z] ∧ Blk ((w.alloc (.cells #[x, y, z] 40)).alloc (.cells #[p] 55)) (w.heap.size + 1) 55 #[p] ∧ Below w.heap.size w ((w.alloc (.cells #[x, y, z] 40)).alloc (.cells #[p] 55)) := by
  have h1 := Blk.new w 40 #[x, y, z]
  have h2 := Blk.new (w.alloc (.cells #[x, y, z] 40)) 55 #[p]
  have e : (w.alloc (.cells #[x, y, z] 40)).heap.size = w.heap.size + 1 := by simp
  rw [e] at h2
  exact ⟨h1.alloc _, h2, ((Below.refl _ _).alloc (Nat.le_refl _) _).alloc (by simp) _⟩
end Go.Proofs.YtomkmkjkeihodaaDoor
