/- the reference of layer 3: Valid, Modulus, word; same. -/
import Derived.Test.YtckajjapockonaaAwake
set_option linter.unusedVariables false
set_option linter.unusedSimpArgs false
namespace Go.Proofs.Ytckajjapockonaa
open Go.RowKit

theorem Box.drewN {V : World} {g n c a : Nat} {A : Option Addr} (h : Box V g A n c a) (k : Nat) : Box (V.drewN k) g A n c a := ⟨h.1, h.2⟩
theorem rvalid_yes (A : Option Addr) (c a B : Nat) (w : World) (hN : Num w B A (nw a) a) (hB : B ≤ w.heap.size) (h : nw a ≤ 64) :
    Calls Try.prog 23 #[.agg #[.slice A (nw a) c]] w (RetB (.bool true) w) := by
  by_cases h0 : a = 0
  · subst h0
    have e : nw 0 = 0 := rfl
    rw [e] at *
    clear hN
    go_enter Try.func23, Try.ntmps23
    go_wp2
    go_ret
    exact ⟨rfl, (Below.refl _ _).alloc (Nat.le_refl _) _⟩
  · have hp := nw_pos h0
    have ht := dig_top h0
    obtain ⟨ad, rfl, hb, hcell⟩ := hN.at_ (i := nw a - 1) (by omega)
    have hc2 := cell_alloc hb hB hcell
    clear hN h0 hcell
    generalize nw a = n at *
    generalize dig a (n - 1) = d at *
    have hd' : (((d : Nat) : Int) != 0) = true := by simp; omega
    have h1 : ((n : Int) == 0) = false := by simp; omega
    have h2 : decide ((n : Int) ≤ 64) = true := by simp; omega
    go_enter Try.func23, Try.ntmps23
    go_wp2
    go_ret
    exact ⟨rfl, (Below.refl _ _).alloc (Nat.le_refl _) _⟩

/-- Not valid: too many words, or a highest word that is 0. -/
theorem rvalid_no (A : Option Addr) (n c a B : Nat) (w : World) (hN : Num w B A n a) (hB : B ≤ w.heap.size) (h : ¬ (nw a = n ∧ n ≤ 64)) (hn : n ≤ 9223372036854775807) :
    Calls Try.prog 23 #[.agg #[.slice A n c]] w (RetB (.bool false) w) := by
  have h0 : 0 < n := by
    rcases Nat.eq_zero_or_pos n with rfl | h'
    · exact absurd ⟨nw_unique hN.lt (.inl rfl), by omega⟩ h
    · exact h'
  have h1 : ((n : Int) == 0) = false := by simp; omega
  by_cases h2 : n ≤ 64
  · have hd : dig a (n - 1) = 0 := Decidable.byContradiction fun hd => h ⟨nw_unique hN.lt (.inr hd), h2⟩
    obtain ⟨ad, rfl, hb, hcell⟩ := hN.at_ (i := n - 1) (by omega)
    rw [hd] at hcell
    have hc2 := cell_alloc hb hB hcell
    have h3 : decide ((n : Int) ≤ 64) = true := by simp; omega
    clear hN h hcell hd
    go_enter Try.func23, Try.ntmps23
    go_wp2
    go_ret
    exact ⟨rfl, (Below.refl _ _).alloc (Nat.le_refl _) _⟩
  · have h3 : decide ((n : Int) ≤ 64) = false := by simp; omega
    clear hN h
    go_enter Try.func23, Try.ntmps23
    go_wp2
    go_ret
    exact ⟨rfl, (Below.refl _ _).alloc (Nat.le_refl _) _⟩


theorem rvalid_any (A : Option Addr) (n c a B : Nat) (w : World) (hN : Num w B A n a) (hB : B ≤ w.heap.size) (hn : n ≤ 9223372036854775807) :
    Calls Try.prog 23 #[.agg #[.slice A n c]] w (RetB (.bool (okB n a)) w) := by
  cases h : okB n a
  · exact rvalid_no A n c a B w hN hB (okB_no.1 h) hn
  · obtain ⟨rfl, h2⟩ := okB_yes.1 h
    exact rvalid_yes A c a B w hN hB h2

set_option maxHeartbeats 4000000 in
theorem rmodulus_no (A : Option Addr) (n c m : Nat) (w : World) (hA : Num w w.heap.size A n m) (hn : n ≤ 9223372036854775807) (h : okB n m = false) :
    Calls Try.prog 52 #[.agg #[.slice A n c]] w (RetB (.bool (modB n m)) w) := by
  have HM : modB n m = false := by unfold modB; rw [h]; rfl
  rw [HM]
  have HH := hid h
  clear HM h
  obtain ⟨b0, bw⟩ := boxes1 w (.slice A n c)
  have XA := Box.mk b0 hA bw
  have WW := bw
  clear bw b0
  go_enter Try.func52, Try.ntmps52
  go_wp2_with fail
  generalize hV : (w.alloc (.cells #[.slice A n c] 24)) = V0 at XA WW ⊢
  clear hV
  have hbs : w.heap.size ≤ V0.heap.size := WW.size
  have hc := rvalid_any A n c m _ V0 XA.num (Nat.le_refl _) hn
  rw [HH.out] at hc
  refine hc.mono ?_
  clear hc
  rintro e V1 ⟨rfl, hb⟩
  replace XA := XA.below hb
  replace WW := WW.trans (hb.mono WW.size)
  have kXA := XA.cell
  have zXA := XA.lt
  clear hb hbs
  go_wp2_with fail
  go_ret
  exact ⟨rfl, WW⟩

set_option maxHeartbeats 4000000 in
theorem rmodulus_lo (A : Option Addr) (n c m : Nat) (w : World) (hA : Num w w.heap.size A n m) (hn : n ≤ 9223372036854775807) (h : okB n m = true) (h1 : ¬ 1 ≤ nw m) :
    Calls Try.prog 52 #[.agg #[.slice A n c]] w (RetB (.bool (modB n m)) w) := by
  have HM : modB n m = false := by unfold modB; rw [h, decide_eq_false (fun c => h1 c.1)]; rfl
  rw [HM]
  have HH := hid h
  have e1 : decide (1 ≤ ((n : Nat) : Int)) = false := by have := (okB_yes.1 h).1; simp; omega
  clear HM h h1
  obtain ⟨b0, bw⟩ := boxes1 w (.slice A n c)
  have XA := Box.mk b0 hA bw
  have WW := bw
  clear bw b0
  go_enter Try.func52, Try.ntmps52
  go_wp2_with fail
  generalize hV : (w.alloc (.cells #[.slice A n c] 24)) = V0 at XA WW ⊢
  clear hV
  have hbs : w.heap.size ≤ V0.heap.size := WW.size
  have hc := rvalid_any A n c m _ V0 XA.num (Nat.le_refl _) hn
  rw [HH.out] at hc
  refine hc.mono ?_
  clear hc
  rintro e V1 ⟨rfl, hb⟩
  replace XA := XA.below hb
  replace WW := WW.trans (hb.mono WW.size)
  have kXA := XA.cell
  have zXA := XA.lt
  clear hb hbs
  go_wp2_with fail
  go_ret
  exact ⟨rfl, WW⟩

set_option maxHeartbeats 4000000 in
theorem rmodulus_hi (A : Option Addr) (n c m : Nat) (w : World) (hA : Num w w.heap.size A n m) (hn : n ≤ 9223372036854775807) (h : okB n m = true) (h1 : 1 ≤ nw m) :
    Calls Try.prog 52 #[.agg #[.slice A n c]] w (RetB (.bool (modB n m)) w) := by
  have HM : modB n m = decide (((n : Nat) : Int) ≤ 32) := by
    have h3 := (okB_yes.1 h).1
    unfold modB
    rw [h, h3, Bool.true_and]
    by_cases h2 : n ≤ 32
    · rw [decide_eq_true (show ((n : Nat) : Int) ≤ 32 by omega), decide_eq_true ⟨by omega, h2⟩]
    · rw [decide_eq_false (show ¬ ((n : Nat) : Int) ≤ 32 by omega), decide_eq_false (fun c => h2 c.2)]
  rw [HM]
  have HH := hid h
  have e1 : decide (1 ≤ ((n : Nat) : Int)) = true := by have := (okB_yes.1 h).1; simp; omega
  have hn1 : 1 ≤ n := by have := (okB_yes.1 h).1; omega
  clear HM h h1
  obtain ⟨b0, bw⟩ := boxes1 w (.slice A n c)
  have XA := Box.mk b0 hA bw
  have WW := bw
  clear bw b0
  go_enter Try.func52, Try.ntmps52
  go_wp2_with fail
  generalize hV : (w.alloc (.cells #[.slice A n c] 24)) = V0 at XA WW ⊢
  clear hV
  have hbs : w.heap.size ≤ V0.heap.size := WW.size
  have hc := rvalid_any A n c m _ V0 XA.num (Nat.le_refl _) hn
  rw [HH.out] at hc
  refine hc.mono ?_
  clear hc
  rintro e V1 ⟨rfl, hb⟩
  replace XA := XA.below hb
  replace WW := WW.trans (hb.mono WW.size)
  have kXA := XA.cell
  have zXA := XA.lt
  clear hb hbs
  go_wp2_with fail
  go_ret
  exact ⟨rfl, WW⟩

theorem rmodulus_any (A : Option Addr) (n c m : Nat) (w : World) (hA : Num w w.heap.size A n m) (hn : n ≤ 9223372036854775807) :
    Calls Try.prog 52 #[.agg #[.slice A n c]] w (RetB (.bool (modB n m)) w) := by
  cases h : okB n m
  · exact rmodulus_no A n c m w hA hn h
  · by_cases h1 : 1 ≤ nw m
    · exact rmodulus_hi A n c m w hA hn h h1
    · exact rmodulus_lo A n c m w hA hn h h1

set_option maxHeartbeats 4000000 in
theorem same3_any (A B' : Option Addr) (n m c d a b : Nat) (w : World) (hA : Num w w.heap.size A n a) (hB : Num w w.heap.size B' m b) (hn : n ≤ 9223372036854775807) (hm : m ≤ 9223372036854775807) :
    Calls Try.prog 17 #[.agg #[.slice A n c], .agg #[.slice B' m d]] w (RetB (.bool (sameB n a m b)) w) := by
  obtain ⟨t, ht⟩ : ∃ t, t = sameB n a m b := ⟨_, rfl⟩
  have HT := hid ht
  rw [← ht]
  clear ht
  obtain ⟨b0, b1, bw⟩ := boxes2 w (.slice A n c) (.slice B' m d)
  have XA := Box.mk b0 hA bw
  have XB := Box.mk b1 hB bw
  have WW := bw
  clear bw b0 b1
  go_enter Try.func17, Try.ntmps17
  go_wp2_with fail
  generalize hV : ((w.alloc (.cells #[.slice A n c] 24)).alloc (.cells #[.slice B' m d] 24)) = V0 at XA XB WW ⊢
  clear hV
  have hbs : w.heap.size ≤ V0.heap.size := WW.size
  have hc := equal_B A B' n m c d a b V0.heap.size V0 XA.num XB.num hn hm
  rw [← HT.out] at hc
  refine hc.mono ?_
  clear hc
  rintro e V1 ⟨rfl, hb⟩
  replace XA := XA.below hb
  replace XB := XB.below hb
  replace WW := WW.trans (hb.mono WW.size)
  have kXA := XA.cell
  have zXA := XA.lt
  have kXB := XB.cell
  have zXB := XB.lt
  clear hb hbs
  go_wp2_with fail
  go_ret
  exact ⟨rfl, WW⟩

theorem word3_b (A : Option Addr) (n c a i : Nat) (x : Int) (w : World) (hA : Num w w.heap.size A n a) (hn : n ≤ 9223372036854775807) (hi : i ≤ 9223372036854775807) (hx : ((dig a i : Nat) : Int) = x) :
    Calls Try.prog 73 #[.agg #[.slice A n c], .int .i64 (i : Int)] w (RetB (.int .u64 x) w) := by
  subst hx
  have HA := hid (hA.alloc (Nat.le_refl _) (.cells #[.slice A n c] 24))
  have d1 := dig_lt a i
  have x1 : IntKind.u64.wrap ((dig a i : Nat) : Int) = ((dig a i : Nat) : Int) := by rw [IntKind.wrap_u64]; omega
  by_cases hlt : i < n
  · obtain ⟨ad, rfl, h1, h2⟩ := HA.out.at_ hlt
    have l1 : (i : Int) < (n : Int) := by omega
    clear hA
    go_enter Try.func73, Try.ntmps73
    go_wp2_with fail
    go_ret
    exact ⟨rfl, (Below.refl _ _).alloc (Nat.le_refl _) _⟩
  · have hd : dig a i = 0 := dig_above hA.lt (by omega)
    rw [hd]
    have l1 : (n : Int) ≤ (i : Int) := by omega
    clear hA
    go_enter Try.func73, Try.ntmps73
    go_wp2_with fail
    go_ret
    exact ⟨rfl, (Below.refl _ _).alloc (Nat.le_refl _) _⟩

end Go.Proofs.Ytckajjapockonaa
