/- number, limited, trim: zero words at the end left out. -/
import Derived.Test.YtomkmkjkeihodaaDoorFns
import Derived.OwnWalk
import Derived.Deep.DeepCutAuto
import Derived.Deep.CutBlock
set_option linter.unusedVariables false
set_option linter.unusedSimpArgs false
namespace Go.Proofs.YtomkmkjkeihodaaDoor
open Go.RowKit

/-- A value of type Nat whose words are those of a, in memory from block base on. -/
def NatV (w : World) (base : Nat) (v : Value) (a : Nat) : Prop := ∃ A c, v = .agg #[.slice A (nw a) c] ∧ Own w base A (nw a) c a

/-- The call returns the natural number a in new memory. -/
def RetNat (base a : Nat) (w : World) (e : Ending) (w' : World) : Prop := ∃ v, e = .returned v ∧ NatV w' base v a ∧ Below w.heap.size w w'

theorem number_any (A : Option Addr) (n c a base : Nat) (w : World) (hO : Own w base A n c a) (hb : base ≤ w.heap.size) :
    Calls Tryd.prog 78 #[.slice A n c] w (RetNat base a w) := by
  have hm := hO.2.2.1
  have hnc := hO.2.1
  unfold maxLen at hm
  go_enter Tryd.func78, Tryd.ntmps78
  go_wp2
  go_loop [3] (fun i => ∃ k : Nat, k ≤ n ∧ i = .int .i64 k ∧ a < 2 ^ (32 * k)) (fun i => (intOf i).toNat)
  case atStart => exact ⟨n, Nat.le_refl _, rfl, hO.1⟩
  case round =>
    obtain ⟨k, hk, rfl, ha⟩ := hrel
    by_cases hk0 : k = 0
    · subst hk0
      obtain rfl : a = 0 := by simpa using ha
      clear hO ha
      have hN : ∀ w', NatV w' base (.agg #[.slice none 0 0]) 0 := fun w' => ⟨none, 0, rfl, Own.nil _ _ _ _ (Nat.zero_le _)⟩
      have HN := hid hN
      clear hN
      go_wp2
      exact bodyPost_ret (v := .agg #[.slice none 0 0]) (by simp [results, Tryd.results78, go_sem]) rfl ⟨_, rfl, HN.out _, by exact (Below.refl _ _).alloc (Nat.le_refl _) _⟩
    · by_cases hd : dig a (k - 1) = 0
      · obtain ⟨g, cs, rfl, hg, hB, hcs⟩ := hO.2.2.2 (by omega)
        have hlt := hB.lt
        have hce := (hB.cell (k - 1)).trans (hcs (k - 1) (by omega))
        have H := hid (lt_of_dig (by rw [show k - 1 + 1 = k by omega]; exact ha) hd)
        clear hO hcs hB ha
        rw [hd] at hce
        go_wp2
        go_round
        case rel => exact ⟨k - 1, by omega, by go_num, H.out⟩
        case measure => simp [intOf]; omega
      · have hO' := hO
        obtain ⟨g, cs, rfl, hg, hB, hcs⟩ := hO.2.2.2 (by omega)
        have hlt := hB.lt
        have hce := (hB.cell (k - 1)).trans (hcs (k - 1) (by omega))
        have H := hid (nw_unique ha (.inr hd))
        have hd' : (((dig a (k - 1) : Nat) : Int) == 0) = false := by simp; omega
        have hN : ∀ w', Below w.heap.size w w' → NatV w' base (.agg #[.slice (some ⟨g, 0, none⟩) k c]) a := fun w' h => by
          have e := nw_unique ha (.inr hd)
          refine ⟨_, c, by rw [e], ?_⟩
          rw [e]
          exact ⟨ha, by omega, hO'.2.2.1, fun _ => ⟨g, cs, rfl, hg, hB.below h hlt, fun i hi => hcs i (by omega)⟩⟩
        have HN := hid hN
        clear hO hcs hB ha hN hO'
        go_wp2
        have hb : Below w.heap.size w (w.alloc (.cells #[.slice (some ⟨g, 0, none⟩) k c] 37)) := (Below.refl _ _).alloc (Nat.le_refl _) _
        exact bodyPost_ret (v := .agg #[.slice (some ⟨g, 0, none⟩) k c]) (by simp [results, Tryd.results78, go_sem]) rfl ⟨_, rfl, HN.out _ hb, hb⟩

/-- The call returns the number a in new memory, and the error number f. -/
def RetTwo (base a : Nat) (f : Int) (w : World) (e : Ending) (w' : World) : Prop := ∃ v, e = .returned (.tuple #[v, .int .i64 f]) ∧ NatV w' base v a ∧ Below w.heap.size w w'

/-- The call returns v; what was there is as it was. -/
def RetB (v : Value) (w : World) (e : Ending) (w' : World) : Prop := e = .returned v ∧ Below w.heap.size w w'

theorem bcell {B : Nat} {W w1 : World} (hb : Below B W w1) : (∀ b o, b < B → w1.cell? ⟨b, o, none⟩ = W.cell? ⟨b, o, none⟩) ∧ (∀ b o, b < B → w1.frozen? ⟨b, o, none⟩ = W.frozen? ⟨b, o, none⟩) :=
  ⟨fun b o h => hb.cell (p := ⟨b, o, none⟩) h, fun b o h => hb.frozen (p := ⟨b, o, none⟩) h⟩

theorem NatV.nil (w : World) (base : Nat) : NatV w base (.agg #[.slice none 0 0]) 0 := ⟨none, 0, rfl, Own.nil _ _ _ _ (Nat.zero_le _)⟩
theorem NatV.below {w w' : World} {B base a : Nat} {v : Value} (h : NatV w base v a) (hb : Below B w w') (hB : w.heap.size ≤ B) : NatV w' base v a := by
  obtain ⟨A, c, e, ho⟩ := h
  exact ⟨A, c, e, ho.below hb hB⟩

theorem limited_ok (A : Option Addr) (n c a base : Nat) (w : World) (hO : Own w base A n c a) (hb : base ≤ w.heap.size) (h : nw a ≤ 64) :
    Calls Tryd.prog 96 #[.slice A n c] w (RetTwo base a 0 w) := by
  have HO := hid hO
  clear hO
  go_enter Tryd.func96, Tryd.ntmps96
  go_wp2_with fail
  refine (number_any A n c a base _ (HO.out.alloc _) (by simp; omega)).mono ?_
  rintro e w1 ⟨v, rfl, ⟨A', c', rfl, hO'⟩, hb1⟩
  obtain ⟨hc, hf⟩ := bcell hb1
  have hz : w.heap.size < w1.heap.size := by have := hb1.size; simp at this; omega
  have HB := hid ((Blk.new w 37 #[.slice none 0 0]).below hb1 (by simp))
  have HO' := hid hO'
  have hb' : Below w.heap.size w w1 := ((Below.refl _ _).alloc (Nat.le_refl _) _).trans (hb1.mono (by simp))
  clear hO'
  go_wp2_with fail
  exact bodyPost_ret (v := .tuple #[.agg #[.slice A' (nw a) c'], .int .i64 0]) (by simp [results, Tryd.results96, go_sem, hc, hz]) rfl
    ⟨_, rfl, ⟨A', c', rfl, (HO'.out.box (p := ⟨w.heap.size, 0, none⟩) HB.out (by decide) _).alloc _⟩, (hb'.setCell (p := ⟨w.heap.size, 0, none⟩) (Nat.le_refl _) _).alloc (by simp [World.setCell]; omega) _⟩

theorem limited_big (A : Option Addr) (n c a base : Nat) (w : World) (hO : Own w base A n c a) (hb : base ≤ w.heap.size) (h : 64 < nw a) :
    Calls Tryd.prog 96 #[.slice A n c] w (RetTwo base 0 9 w) := by
  have HO := hid hO
  clear hO
  go_enter Tryd.func96, Tryd.ntmps96
  go_wp2_with fail
  refine (number_any A n c a base _ (HO.out.alloc _) (by simp; omega)).mono ?_
  rintro e w1 ⟨v, rfl, ⟨A', c', rfl, hO'⟩, hb1⟩
  obtain ⟨hc, hf⟩ := bcell hb1
  have hz : w.heap.size < w1.heap.size := by have := hb1.size; simp at this; omega
  have hb' : Below w.heap.size w w1 := ((Below.refl _ _).alloc (Nat.le_refl _) _).trans (hb1.mono (by simp))
  clear hO'
  go_wp2_with fail
  exact bodyPost_ret (v := .tuple #[.agg #[.slice none 0 0], .int .i64 9]) (by simp [results, Tryd.results96, go_sem, hc, hz]) rfl
    ⟨_, rfl, NatV.nil _ _, (hb'.setCell (p := ⟨w.heap.size, 0, none⟩) (Nat.le_refl _) _).alloc (by simp [World.setCell]; omega) _⟩

/-! ### Valid -/

theorem valid_yes (A : Option Addr) (c a B : Nat) (w : World) (hN : Num w B A (nw a) a) (hB : B ≤ w.heap.size) (h : nw a ≤ 64) :
    Calls Tryd.prog 48 #[.agg #[.slice A (nw a) c]] w (RetB (.bool true) w) := by
  by_cases h0 : a = 0
  · subst h0
    have e : nw 0 = 0 := rfl
    rw [e] at *
    clear hN
    go_enter Tryd.func48, Tryd.ntmps48
    go_wp2
    go_ret
    exact ⟨rfl, (Below.refl _ _).alloc (Nat.le_refl _) _⟩
  · have hp := nw_pos h0
    have ht := dig_top h0
    obtain ⟨ad, rfl, hb, hcell⟩ := hN.at_ (i := nw a - 1) (by omega)
    have hc2 := cell_alloc hb hB hcell
    clear hN h0 hcell
    generalize nw a = n at *
    generalize dig a (n - 1) = d at *
    have hd' : (((d : Nat) : Int) != 0) = true := by simp; omega
    have h1 : ((n : Int) == 0) = false := by simp; omega
    have h2 : decide ((n : Int) ≤ 64) = true := by simp; omega
    go_enter Tryd.func48, Tryd.ntmps48
    go_wp2
    go_ret
    exact ⟨rfl, (Below.refl _ _).alloc (Nat.le_refl _) _⟩

/-- Not valid: too many words, or a highest word that is 0. -/
theorem valid_no (A : Option Addr) (n c a B : Nat) (w : World) (hN : Num w B A n a) (hB : B ≤ w.heap.size) (h : ¬ (nw a = n ∧ n ≤ 64)) (hn : n ≤ 9223372036854775807) :
    Calls Tryd.prog 48 #[.agg #[.slice A n c]] w (RetB (.bool false) w) := by
  have h0 : 0 < n := by
    rcases Nat.eq_zero_or_pos n with rfl | h'
    · exact absurd ⟨nw_unique hN.lt (.inl rfl), by omega⟩ h
    · exact h'
  have h1 : ((n : Int) == 0) = false := by simp; omega
  by_cases h2 : n ≤ 64
  · have hd : dig a (n - 1) = 0 := Decidable.byContradiction fun hd => h ⟨nw_unique hN.lt (.inr hd), h2⟩
    obtain ⟨ad, rfl, hb, hcell⟩ := hN.at_ (i := n - 1) (by omega)
    rw [hd] at hcell
    have hc2 := cell_alloc hb hB hcell
    have h3 : decide ((n : Int) ≤ 64) = true := by simp; omega
    clear hN h hcell hd
    go_enter Tryd.func48, Tryd.ntmps48
    go_wp2
    go_ret
    exact ⟨rfl, (Below.refl _ _).alloc (Nat.le_refl _) _⟩
  · have h3 : decide ((n : Int) ≤ 64) = false := by simp; omega
    clear hN h
    go_enter Tryd.func48, Tryd.ntmps48
    go_wp2
    go_ret
    exact ⟨rfl, (Below.refl _ _).alloc (Nat.le_refl _) _⟩

/-- Whether a slice of n words with the number a is valid. -/
def okB (n a : Nat) : Bool := decide (nw a = n ∧ n ≤ 64)
theorem okB_yes {n a : Nat} : okB n a = true ↔ nw a = n ∧ n ≤ 64 := by unfold okB; simp
theorem okB_no {n a : Nat} : okB n a = false ↔ ¬ (nw a = n ∧ n ≤ 64) := by unfold okB; simp

theorem valid_any (A : Option Addr) (n c a B : Nat) (w : World) (hN : Num w B A n a) (hB : B ≤ w.heap.size) (hn : n ≤ 9223372036854775807) :
    Calls Tryd.prog 48 #[.agg #[.slice A n c]] w (RetB (.bool (okB n a)) w) := by
  cases h : okB n a
  · exact valid_no A n c a B w hN hB (okB_no.1 h) hn
  · obtain ⟨rfl, h2⟩ := okB_yes.1 h
    exact valid_yes A c a B w hN hB h2

end Go.Proofs.YtomkmkjkeihodaaDoor
