/- The reference's Valid, and the law's great. -/
import Derived.Test.YtohiimpjcgcaiaaRd2
set_option linter.unusedVariables false
set_option linter.unusedSimpArgs false
namespace Go.Proofs.Ytohiimpjcgcaiaa
open Go.RowKit

theorem rvalid_yes (A : Option Addr) (c a B : Nat) (w : World) (hN : Num w B A (nw a) a) (hB : B ≤ w.heap.size) (h : nw a ≤ 64) :
    Calls Try.prog 11 #[.agg #[.slice A (nw a) c]] w (RetB (.bool true) w) := by
  by_cases h0 : a = 0
  · subst h0
    have e : nw 0 = 0 := rfl
    rw [e] at *
    clear hN
    go_enter Try.func11, Try.ntmps11
    go_wp2
    go_ret
    exact ⟨rfl, (Below.refl _ _).alloc (Nat.le_refl _) _⟩
  · have hp := nw_pos h0
    have ht := dig_top h0
    obtain ⟨ad, rfl, hb, hcell⟩ := hN.at_ (i := nw a - 1) (by omega)
    have hc2 := cell_alloc hb hB hcell
    clear hN h0 hcell
    generalize nw a = n at *
    generalize dig a (n - 1) = d at *
    have hd' : (((d : Nat) : Int) != 0) = true := by simp; omega
    have h1 : ((n : Int) == 0) = false := by simp; omega
    have h2 : decide ((n : Int) ≤ 64) = true := by simp; omega
    go_enter Try.func11, Try.ntmps11
    go_wp2
    go_ret
    exact ⟨rfl, (Below.refl _ _).alloc (Nat.le_refl _) _⟩

/-- Not valid: too many words, or a highest word that is 0. -/
theorem rvalid_no (A : Option Addr) (n c a B : Nat) (w : World) (hN : Num w B A n a) (hB : B ≤ w.heap.size) (h : ¬ (nw a = n ∧ n ≤ 64)) (hn : n ≤ 9223372036854775807) :
    Calls Try.prog 11 #[.agg #[.slice A n c]] w (RetB (.bool false) w) := by
  have h0 : 0 < n := by
    rcases Nat.eq_zero_or_pos n with rfl | h'
    · exact absurd ⟨nw_unique hN.lt (.inl rfl), by omega⟩ h
    · exact h'
  have h1 : ((n : Int) == 0) = false := by simp; omega
  by_cases h2 : n ≤ 64
  · have hd : dig a (n - 1) = 0 := Decidable.byContradiction fun hd => h ⟨nw_unique hN.lt (.inr hd), h2⟩
    obtain ⟨ad, rfl, hb, hcell⟩ := hN.at_ (i := n - 1) (by omega)
    rw [hd] at hcell
    have hc2 := cell_alloc hb hB hcell
    have h3 : decide ((n : Int) ≤ 64) = true := by simp; omega
    clear hN h hcell hd
    go_enter Try.func11, Try.ntmps11
    go_wp2
    go_ret
    exact ⟨rfl, (Below.refl _ _).alloc (Nat.le_refl _) _⟩
  · have h3 : decide ((n : Int) ≤ 64) = false := by simp; omega
    clear hN h
    go_enter Try.func11, Try.ntmps11
    go_wp2
    go_ret
    exact ⟨rfl, (Below.refl _ _).alloc (Nat.le_refl _) _⟩


theorem rvalid_any (A : Option Addr) (n c a B : Nat) (w : World) (hN : Num w B A n a) (hB : B ≤ w.heap.size) (hn : n ≤ 9223372036854775807) :
    Calls Try.prog 11 #[.agg #[.slice A n c]] w (RetB (.bool (okB n a)) w) := by
  cases h : okB n a
  · exact rvalid_no A n c a B w hN hB (okB_no.1 h) hn
  · obtain ⟨rfl, h2⟩ := okB_yes.1 h
    exact rvalid_yes A c a B w hN hB h2
theorem great1_any (A : Option Addr) (n c : Nat) (w : World) (hn : n ≤ 9223372036854775807) : Calls Try.prog 10 #[.agg #[.slice A n c]] w (RetB (.bool (decide (100 < n))) w) := by
  by_cases h : 100 < n
  · have h1 : decide (100 < (n : Int)) = true := by simp; omega
    rw [decide_eq_true h]
    clear h
    go_enter Try.func10, Try.ntmps10
    go_wp2_with fail
    go_ret
    exact ⟨rfl, (Below.refl _ _).alloc (Nat.le_refl _) _⟩
  · have h1 : decide (100 < (n : Int)) = false := by simp; omega
    rw [decide_eq_false h]
    clear h
    go_enter Try.func10, Try.ntmps10
    go_wp2_with fail
    go_ret
    exact ⟨rfl, (Below.refl _ _).alloc (Nat.le_refl _) _⟩
end Go.Proofs.Ytohiimpjcgcaiaa
