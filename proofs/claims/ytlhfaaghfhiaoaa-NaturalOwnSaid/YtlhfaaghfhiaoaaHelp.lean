/- What the statements use beside the program: the reference's Valid and Same, slices.Equal, slices.Clone. -/
import Derived.Test.YtlhfaaghfhiaoaaTop3
set_option linter.unusedVariables false
set_option linter.unusedSimpArgs false
namespace Go.Proofs.Ytlhfaaghfhiaoaa
open Go.RowKit

theorem rvalid_yes (A : Option Addr) (c a B : Nat) (w : World) (hN : Num w B A (nw a) a) (hB : B ≤ w.heap.size) (h : nw a ≤ 64) :
    Calls Try.prog 13 #[.agg #[.slice A (nw a) c]] w (RetB (.bool true) w) := by
  by_cases h0 : a = 0
  · subst h0
    have e : nw 0 = 0 := rfl
    rw [e] at *
    clear hN
    go_enter Try.func13, Try.ntmps13
    go_wp2
    go_ret
    exact ⟨rfl, (Below.refl _ _).alloc (Nat.le_refl _) _⟩
  · have hp := nw_pos h0
    have ht := dig_top h0
    obtain ⟨ad, rfl, hb, hcell⟩ := hN.at_ (i := nw a - 1) (by omega)
    have hc2 := cell_alloc hb hB hcell
    clear hN h0 hcell
    generalize nw a = n at *
    generalize dig a (n - 1) = d at *
    have hd' : (((d : Nat) : Int) != 0) = true := by simp; omega
    have h1 : ((n : Int) == 0) = false := by simp; omega
    have h2 : decide ((n : Int) ≤ 64) = true := by simp; omega
    go_enter Try.func13, Try.ntmps13
    go_wp2
    go_ret
    exact ⟨rfl, (Below.refl _ _).alloc (Nat.le_refl _) _⟩

/-- Not valid: too many words, or a highest word that is 0. -/
theorem rvalid_no (A : Option Addr) (n c a B : Nat) (w : World) (hN : Num w B A n a) (hB : B ≤ w.heap.size) (h : ¬ (nw a = n ∧ n ≤ 64)) (hn : n ≤ 9223372036854775807) :
    Calls Try.prog 13 #[.agg #[.slice A n c]] w (RetB (.bool false) w) := by
  have h0 : 0 < n := by
    rcases Nat.eq_zero_or_pos n with rfl | h'
    · exact absurd ⟨nw_unique hN.lt (.inl rfl), by omega⟩ h
    · exact h'
  have h1 : ((n : Int) == 0) = false := by simp; omega
  by_cases h2 : n ≤ 64
  · have hd : dig a (n - 1) = 0 := Decidable.byContradiction fun hd => h ⟨nw_unique hN.lt (.inr hd), h2⟩
    obtain ⟨ad, rfl, hb, hcell⟩ := hN.at_ (i := n - 1) (by omega)
    rw [hd] at hcell
    have hc2 := cell_alloc hb hB hcell
    have h3 : decide ((n : Int) ≤ 64) = true := by simp; omega
    clear hN h hcell hd
    go_enter Try.func13, Try.ntmps13
    go_wp2
    go_ret
    exact ⟨rfl, (Below.refl _ _).alloc (Nat.le_refl _) _⟩
  · have h3 : decide ((n : Int) ≤ 64) = false := by simp; omega
    clear hN h
    go_enter Try.func13, Try.ntmps13
    go_wp2
    go_ret
    exact ⟨rfl, (Below.refl _ _).alloc (Nat.le_refl _) _⟩


theorem rvalid_any (A : Option Addr) (n c a B : Nat) (w : World) (hN : Num w B A n a) (hB : B ≤ w.heap.size) (hn : n ≤ 9223372036854775807) :
    Calls Try.prog 13 #[.agg #[.slice A n c]] w (RetB (.bool (okB n a)) w) := by
  cases h : okB n a
  · exact rvalid_no A n c a B w hN hB (okB_no.1 h) hn
  · obtain ⟨rfl, h2⟩ := okB_yes.1 h
    exact rvalid_yes A c a B w hN hB h2

/-- Two slices of words with the same words. -/
def sameB (n a m b : Nat) : Bool := decide (n = m ∧ a = b)
theorem sameB_yes (n a : Nat) : sameB n a n a = true := by unfold sameB; simp
theorem sameB_no {n a m b : Nat} (h : ¬ (n = m ∧ a = b)) : sameB n a m b = false := by unfold sameB; simpa using h

theorem equal_any (A B' : Option Addr) (n m c d a b B : Nat) (w : World) (hA : Num w B A n a) (hB : Num w B B' m b) (hn : n ≤ 9223372036854775807) (hm : m ≤ 9223372036854775807) :
    Calls Try.prog 40 #[.slice A n c, .slice B' m d] w (Ret (.bool (sameB n a m b)) w) := by
  by_cases hnm : n = m
  · subst hnm
    have HA := hid hA
    have HB := hid hB
    clear hA hB
    obtain ⟨t, ht⟩ : ∃ t, t = sameB n a n b := ⟨_, rfl⟩
    rw [← ht]
    have HT := hid ht
    clear ht
    go_enter Try.func40, Try.ntmps40
    go_wp2_with fail
    go_loopw [13] (fun i wr => ∃ k j : Nat, k ≤ n ∧ i = .int .i64 k ∧ a % 2 ^ (32 * k) = b % 2 ^ (32 * k) ∧ wr = w.drewN j) (fun i _ => n - (intOf i).toNat)
    case atStart => exact ⟨0, 0, by omega, rfl, by simp [Nat.mod_one], rfl⟩
    case round =>
      obtain ⟨k, j, hk, rfl, hI, rfl⟩ := hrel
      have HI := hid hI
      clear hI
      by_cases hlt : k < n
      · obtain ⟨ad, rfl, ha1, ha2⟩ := HA.out.at_ hlt
        obtain ⟨bd, rfl, hb1, hb2⟩ := HB.out.at_ hlt
        have l1 : (k : Int) < (n : Int) := by omega
        by_cases hd : dig a k = dig b k
        · have h0 : (((dig a k : Nat) : Int) != ((dig b k : Nat) : Int)) = false := by simp [hd]
          have HD := hid hd
          clear hd
          go_wp2_with fail
          go_quiet (fail)
          go_wp2_with fail
          go_roundw
          case rel => exact ⟨k + 1, _, by omega, by go_num, by rw [mod_pw_succ, mod_pw_succ, HI.out, HD.out], rfl⟩
          case measure => simp [intOf]; omega
        · have h0 : (((dig a k : Nat) : Int) != ((dig b k : Nat) : Int)) = true := by rw [bne_iff_ne]; omega
          have HD := hid hd
          clear hd
          go_wp2_with fail
          go_quiet (fail)
          go_wp2_with fail
          go_ret
          rw [HT.out, sameB_no (fun h => HD.out (by rw [h.2]))]
          exact ⟨rfl, _, World.drewN_drewN _ _ _⟩
      · go_wp2_with fail
        go_ret
        have hI := HI.out
        obtain rfl : k = n := by omega
        rw [Nat.mod_eq_of_lt HA.out.lt, Nat.mod_eq_of_lt HB.out.lt] at hI
        rw [HT.out, hI, sameB_yes]
        exact ⟨rfl, _, rfl⟩
  · rw [sameB_no (fun h => hnm h.1)]
    have h0 : ((n : Int) != (m : Int)) = true := by rw [bne_iff_ne]; omega
    clear hnm hA hB
    go_enter Try.func40, Try.ntmps40
    go_wp2_with fail
    go_ret
    exact ⟨rfl, 0, rfl⟩

theorem same_any (A B' : Option Addr) (n m c d a b : Nat) (w : World) (hA : Num w w.heap.size A n a) (hB : Num w w.heap.size B' m b) (hn : n ≤ 9223372036854775807) (hm : m ≤ 9223372036854775807) :
    Calls Try.prog 33 #[.agg #[.slice A n c], .agg #[.slice B' m d]] w (RetB (.bool (sameB n a m b)) w) := by
  obtain ⟨b0, b1, bw⟩ := boxes2 w (.slice A n c) (.slice B' m d)
  have HW := hid bw
  by_cases hnm : n = m
  · subst hnm
    have HA := hid (hA.below bw)
    have HB := hid (hB.below bw)
    clear hA hB b0 b1 bw
    obtain ⟨t, ht⟩ : ∃ t, t = sameB n a n b := ⟨_, rfl⟩
    rw [← ht]
    have HT := hid ht
    clear ht
    go_enter Try.func33, Try.ntmps33
    go_wp2_with fail
    go_loopw [5] (fun i wr => ∃ k j : Nat, k ≤ n ∧ i = .int .i64 k ∧ a % 2 ^ (32 * k) = b % 2 ^ (32 * k) ∧ wr = ((w.alloc (.cells #[.slice A n c] 24)).alloc (.cells #[.slice B' n d] 24)).drewN j) (fun i _ => n - (intOf i).toNat)
    case atStart => exact ⟨0, 0, by omega, rfl, by simp [Nat.mod_one], rfl⟩
    case round =>
      obtain ⟨k, j, hk, rfl, hI, rfl⟩ := hrel
      have HI := hid hI
      clear hI
      by_cases hlt : k < n
      · obtain ⟨ad, rfl, ha1, ha2⟩ := HA.out.at_ hlt
        obtain ⟨bd, rfl, hb1, hb2⟩ := HB.out.at_ hlt
        have l1 : (k : Int) < (n : Int) := by omega
        by_cases hd : dig a k = dig b k
        · have h0 : (((dig a k : Nat) : Int) != ((dig b k : Nat) : Int)) = false := by simp [hd]
          have HD := hid hd
          clear hd
          go_wp2_with fail
          go_quiet (fail)
          go_wp2_with fail
          go_roundw
          case rel => exact ⟨k + 1, _, by omega, by go_num, by rw [mod_pw_succ, mod_pw_succ, HI.out, HD.out], rfl⟩
          case measure => simp [intOf]; omega
        · have h0 : (((dig a k : Nat) : Int) != ((dig b k : Nat) : Int)) = true := by rw [bne_iff_ne]; omega
          have HD := hid hd
          clear hd
          go_wp2_with fail
          go_quiet (fail)
          go_wp2_with fail
          go_ret
          rw [HT.out, sameB_no (fun h => HD.out (by rw [h.2]))]
          exact ⟨rfl, below_drewN (below_drewN HW.out _) _⟩
      · go_wp2_with fail
        go_ret
        have hI := HI.out
        obtain rfl : k = n := by omega
        rw [Nat.mod_eq_of_lt HA.out.lt, Nat.mod_eq_of_lt HB.out.lt] at hI
        rw [HT.out, hI, sameB_yes]
        exact ⟨rfl, below_drewN HW.out _⟩
  · rw [sameB_no (fun h => hnm h.1)]
    have h0 : ((n : Int) != (m : Int)) = true := by rw [bne_iff_ne]; omega
    clear hnm hA hB b0 b1 bw
    go_enter Try.func33, Try.ntmps33
    go_wp2_with fail
    go_ret
    exact ⟨rfl, HW.out⟩

theorem is_any (A B' : Option Addr) (n m c d a b : Nat) (e f : Int) (w : World) (hA : Num w w.heap.size A n a) (hB : Num w w.heap.size B' m b) (hn : n ≤ 9223372036854775807) (hm : m ≤ 9223372036854775807) :
    Calls Try.prog 17 #[.agg #[.slice A n c], .int .i64 e, .agg #[.slice B' m d], .int .i64 f] w (RetB (.bool (decide (e = f) && sameB n a m b)) w) := by
  obtain ⟨b0, b1, bw⟩ := boxes2 w (.slice A n c) (.slice B' m d)
  have HW := hid bw
  have HA := hid (hA.below bw)
  have HB := hid (hB.below bw)
  clear hA hB b0 b1 bw
  obtain ⟨t, ht⟩ : ∃ t, t = sameB n a m b := ⟨_, rfl⟩
  have HT := hid ht
  rw [← ht]
  clear ht
  by_cases h : e = f
  · have h1 : (e == f) = true := by simp [h]
    rw [show decide (e = f) = true by simpa using h, Bool.true_and]
    clear h
    go_enter Try.func17, Try.ntmps17
    go_wp2_with fail
    refine (same_any A B' n m c d a b _ (HA.out.more (by simp <;> omega)) (HB.out.more (by simp <;> omega)) hn hm).mono ?_
    rintro e1 w1 ⟨rfl, hb⟩
    have HB1 := hid (HW.out.trans (hb.mono (by simp <;> omega)))
    rw [← HT.out]
    clear hb
    go_wp2_with fail
    go_ret
    exact ⟨rfl, HB1.out⟩
  · have h1 : (e == f) = false := by simpa using h
    rw [show decide (e = f) = false by simpa using h, Bool.false_and]
    clear h
    go_enter Try.func17, Try.ntmps17
    go_wp2_with fail
    go_ret
    exact ⟨rfl, HW.out⟩

end Go.Proofs.Ytlhfaaghfhiaoaa
