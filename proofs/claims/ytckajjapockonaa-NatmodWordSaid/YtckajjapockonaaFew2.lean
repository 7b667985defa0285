/- few. -/
import Derived.Test.YtckajjapockonaaFew
set_option linter.unusedVariables false
set_option linter.unusedSimpArgs false
namespace Go.Proofs.Ytckajjapockonaa
open Go.RowKit

theorem few1_any (b : Nat) (A : Option Addr) (n c : Nat) (w : World) (hb : w.cell? ⟨b, 0, none⟩ = some (.int .i64 70)) (hn : n ≤ 9223372036854775807) : Calls Try.prog 48 #[.agg #[.slice A n c], .pointer (some ⟨b, 0, none⟩)] w (RetB (.bool (decide (70 < n))) w) := by
  have hlt := World.block_lt_of_cell? w ⟨b, 0, none⟩ hb
  by_cases h : 70 < n
  · have h1 : decide (70 < (n : Int)) = true := by simp; omega
    rw [decide_eq_true h]
    clear h
    go_enter Try.func48, Try.ntmps48
    go_wp2_with fail
    go_ret
    exact ⟨rfl, (Below.refl _ _).alloc (Nat.le_refl _) _⟩
  · have h1 : decide (70 < (n : Int)) = false := by simp; omega
    rw [decide_eq_false h]
    clear h
    go_enter Try.func48, Try.ntmps48
    go_wp2_with fail
    go_ret
    exact ⟨rfl, (Below.refl _ _).alloc (Nat.le_refl _) _⟩

theorem nats2 (V : World) (A B : Option Addr) (n c m d : Nat) (hn : n ≤ 9223372036854775807) (hm : m ≤ 9223372036854775807) :
    Nats (V.alloc (.cells #[.slice A n c, .slice B m d] 24)) (V.alloc (.cells #[.slice A n c, .slice B m d] 24)).heap.size V.heap.size 2 (fun i => if i = 0 then A else B) (fun i => if i = 0 then n else m) (fun i => if i = 0 then c else d) :=
  ⟨by simp, fun i hi => by
    have h : i = 0 ∨ i = 1 := by omega
    rcases h with rfl | rfl
    · exact ⟨((Blk.new V 24 _).cell 0).trans rfl, hn⟩
    · exact ⟨((Blk.new V 24 _).cell 1).trans rfl, hm⟩⟩
theorem nats3 (V : World) (A B E : Option Addr) (n c m d p q : Nat) (hn : n ≤ 9223372036854775807) (hm : m ≤ 9223372036854775807) (hp : p ≤ 9223372036854775807) :
    Nats (V.alloc (.cells #[.slice A n c, .slice B m d, .slice E p q] 24)) (V.alloc (.cells #[.slice A n c, .slice B m d, .slice E p q] 24)).heap.size V.heap.size 3 (fun i => if i = 0 then A else if i = 1 then B else E) (fun i => if i = 0 then n else if i = 1 then m else p) (fun i => if i = 0 then c else if i = 1 then d else q) :=
  ⟨by simp, fun i hi => by
    have h : i = 0 ∨ i = 1 ∨ i = 2 := by omega
    rcases h with rfl | rfl | rfl
    · exact ⟨((Blk.new V 24 _).cell 0).trans rfl, hn⟩
    · exact ⟨((Blk.new V 24 _).cell 1).trans rfl, hm⟩
    · exact ⟨((Blk.new V 24 _).cell 2).trans rfl, hp⟩⟩
theorem few_fn (g k : Nat) (A : Nat → Option Addr) (N C : Nat → Nat) (w : World) (hN : Nats w w.heap.size g k A N C) (hk : k ≤ 100) :
    Calls Try.prog 13 #[.int .i64 70, .slice (some ⟨g, 0, none⟩) k k] w (RetB (.bool (!anyB k fun i => decide (70 < N i))) w) := by
  have hb := (Below.refl w.heap.size w).alloc (Nat.le_refl _) (.cells #[.int .i64 70] 3)
  have hB := Blk.new w 3 #[.int .i64 70]
  have hN2 : Nats (w.alloc (.cells #[.int .i64 70] 3)) (w.alloc (.cells #[.int .i64 70] 3)).heap.size g k A N C := ⟨Nat.lt_of_lt_of_le hN.1 hb.size, (hN.below hb).2⟩
  have H := hid (contains_48 (fun i => decide (70 < N i)) g k k w.heap.size A N C _ hN2 hk (fun i hi wr hw => few1_any w.heap.size (A i) (N i) (C i) wr (by rw [hw.cell (by simp)]; exact (hB.cell 0).trans rfl) (hN.2 i hi).2))
  have HB := hid hb
  obtain ⟨t, ht⟩ : ∃ t, t = anyB k fun i => decide (70 < N i) := ⟨_, rfl⟩
  rw [← ht] at H ⊢
  clear hN hN2 hb hB ht
  go_enter Try.func13, Try.ntmps13
  go_wp2_with fail
  refine H.out.mono ?_
  rintro e w1 ⟨rfl, hb⟩
  have HB1 := hid (HB.out.trans (hb.mono HB.out.size))
  clear hb
  go_wp2_with fail
  go_ret
  exact ⟨rfl, HB1.out⟩
theorem few_3 (V : World) (A B E : Option Addr) (n c m d p q : Nat) (hn : n ≤ 9223372036854775807) (hm : m ≤ 9223372036854775807) (hp : p ≤ 9223372036854775807) :
    Calls Try.prog 13 #[.int .i64 70, .slice (some ⟨V.heap.size, 0, none⟩) 3 3] (V.alloc (.cells #[.slice A n c, .slice B m d, .slice E p q] 24)) fun e w' => e = .returned (.bool (decide (n ≤ 70 ∧ m ≤ 70 ∧ p ≤ 70))) ∧ Below V.heap.size V w' :=
  (few_fn _ 3 _ _ _ _ (nats3 V A B E n c m d p q hn hm hp) (by omega)).mono fun e w' ⟨h1, h2⟩ => ⟨by
    rw [h1]
    by_cases h : n ≤ 70 ∧ m ≤ 70 ∧ p ≤ 70
    · rw [anyB_no (fun i hi => by (try dsimp only); split <;> (try split) <;> simp <;> omega), decide_eq_true h]; rfl
    · have h5 : 70 < n ∨ 70 < m ∨ 70 < p := by omega
      rw [decide_eq_false h]
      rcases h5 with h5 | h5 | h5
      · rw [anyB_yes (i := 0) (by omega) (by simpa using h5)]; rfl
      · rw [anyB_yes (i := 1) (by omega) (by simpa using h5)]; rfl
      · rw [anyB_yes (i := 2) (by omega) (by simpa using h5)]; rfl, ((Below.refl _ _).alloc (Nat.le_refl _) _).trans (h2.mono (by simp))⟩

theorem first1_any (A : Option Addr) (n c a : Nat) (w : World) (hA : Num w w.heap.size A n a) (hn : n ≤ 9223372036854775807) :
    Calls Try.prog 53 #[.agg #[.slice A n c]] w (RetB (.bool (!okB n a)) w) := by
  obtain ⟨b0, bw⟩ := boxes1 w (.slice A n c)
  have XA := hid (Box.mk b0 hA bw)
  have WW := hid bw
  obtain ⟨t, ht⟩ : ∃ t, t = okB n a := ⟨_, rfl⟩
  have HT := hid ht
  rw [← ht]
  clear b0 bw hA ht
  go_enter Try.func53, Try.ntmps53
  go_wp2_with fail
  have hc := rvalid_any A n c a _ _ XA.out.num (Nat.le_refl _) hn
  rw [← HT.out] at hc
  refine hc.mono ?_
  clear hc
  rintro e w1 ⟨rfl, hb⟩
  have W1 := hid (WW.out.trans (hb.mono WW.out.size))
  clear hb
  go_wp2_with fail
  go_ret
  exact ⟨rfl, W1.out⟩
theorem first2_any (b : Nat) (A C' : Option Addr) (c p a m : Nat) (w : World) (hb : w.cell? ⟨b, 0, none⟩ = some (.slice C' (nw m) p)) (hA : Num w w.heap.size A (nw a) a) (hC : Num w w.heap.size C' (nw m) m) (ha : nw a ≤ 1000) (hm : nw m ≤ 1000) :
    Calls Try.prog 54 #[.agg #[.slice A (nw a) c], .pointer (some ⟨b, 0, none⟩)] w (RetB (.bool (!decide (a < m))) w) := by
  have hlt := World.block_lt_of_cell? w ⟨b, 0, none⟩ hb
  obtain ⟨b0, bw⟩ := boxes1 w (.slice A (nw a) c)
  have XA := hid (Box.mk b0 hA bw)
  have HC := hid ((hC.below bw).more bw.size)
  have WW := hid bw
  obtain ⟨t, ht⟩ : ∃ t, t = decide (a < m) := ⟨_, rfl⟩
  have HT := hid ht
  rw [← ht]
  clear b0 bw hA hC ht
  go_enter Try.func54, Try.ntmps54
  go_wp2_with fail
  have hc := less3_any A C' c p a m _ XA.out.num HC.out (by omega) (by omega)
  rw [← HT.out] at hc
  refine hc.mono ?_
  clear hc
  rintro e w1 ⟨rfl, hb⟩
  have W1 := hid (WW.out.trans (hb.mono WW.out.size))
  clear hb
  go_wp2_with fail
  go_ret
  exact ⟨rfl, W1.out⟩

end Go.Proofs.Ytckajjapockonaa
