/- compare: the order of numbers by their words. -/
import Derived.Test.YtomkmkjkeihodaaDoorNum
set_option linter.unusedVariables false
set_option linter.unusedSimpArgs false
namespace Go.Proofs.YtomkmkjkeihodaaDoor
open Go.RowKit

/-- -1, 0, or 1. -/
def ordN (a b : Nat) : Int := if a < b then -1 else if b < a then 1 else 0
theorem ordN_lt {a b : Nat} (h : a < b) : ordN a b = -1 := by unfold ordN; rw [if_pos h]
theorem ordN_gt {a b : Nat} (h : b < a) : ordN a b = 1 := by unfold ordN; rw [if_neg (by omega), if_pos h]
theorem ordN_eq (a : Nat) : ordN a a = 0 := by unfold ordN; rw [if_neg (by omega), if_neg (by omega)]
theorem ordN_bd (a b : Nat) : -1 ≤ ordN a b ∧ ordN a b ≤ 1 := by unfold ordN; split <;> (try split) <;> omega
theorem ordN_zero {a b : Nat} : ordN a b = 0 ↔ a = b := by unfold ordN; split <;> (try split) <;> omega

theorem cmp_int (a b : Nat) (w : World) : Calls Tryd.prog 104 #[.int .i64 (a : Int), .int .i64 (b : Int)] w (Ex (.int .i64 (ordN a b)) w) := by
  have h := Tryd.cmp_Compare_int (a : Int) (b : Int) w
  have e : Lib.compareInt (a : Int) (b : Int) = ordN a b := by unfold Lib.compareInt ordN; simp
  rw [e] at h
  exact h

theorem isNaN32 (x : Int) (w : World) : Calls Tryd.prog 112 #[.int .u32 x] w (Ex (.bool false) w) := by
  have h : (x != x) = false := by simp
  go_enter Tryd.func112, Tryd.ntmps112
  go_wp2
  go_ret
  exact ⟨rfl, rfl⟩

theorem cmp_u32 (a b : Nat) (w : World) : Calls Tryd.prog 105 #[.int .u32 (a : Int), .int .u32 (b : Int)] w (Ex (.int .i64 (ordN a b)) w) := by
  have h1 := hid (isNaN32 (a : Int) w)
  have h2 := hid (isNaN32 (b : Int) w)
  rcases Nat.lt_trichotomy a b with h | h | h
  · have H := hid (ordN_lt h)
    go_enter Tryd.func105, Tryd.ntmps105
    go_wp2_with fail
    refine h1.out.mono ?_
    rintro e w' ⟨rfl, rfl⟩
    go_wp2_with fail
    refine h2.out.mono ?_
    rintro e w' ⟨rfl, rfl⟩
    go_wp2_with fail
    go_ret
    exact ⟨ret_int H.out.symm, rfl⟩
  · subst h
    have H := hid (ordN_eq a)
    go_enter Tryd.func105, Tryd.ntmps105
    go_wp2_with fail
    refine h1.out.mono ?_
    rintro e w' ⟨rfl, rfl⟩
    go_wp2_with fail
    refine h2.out.mono ?_
    rintro e w' ⟨rfl, rfl⟩
    go_wp2_with fail
    go_ret
    exact ⟨ret_int H.out.symm, rfl⟩
  · have H := hid (ordN_gt h)
    go_enter Tryd.func105, Tryd.ntmps105
    go_wp2_with fail
    refine h1.out.mono ?_
    rintro e w' ⟨rfl, rfl⟩
    go_wp2_with fail
    refine h2.out.mono ?_
    rintro e w' ⟨rfl, rfl⟩
    go_wp2_with fail
    go_ret
    exact ⟨ret_int H.out.symm, rfl⟩

theorem div_split (a t : Nat) : a / 2 ^ (32 * t) = a / 2 ^ (32 * (t + 1)) * 4294967296 + dig a t := by
  unfold dig
  rw [pw_succ, ← Nat.div_div_eq_div_mul]
  omega
theorem lt_of_div {a b P : Nat} (h : a / P < b / P) : a < b := by
  rcases Nat.lt_or_ge a b with h' | h'
  · exact h'
  · have := Nat.div_le_div_right (c := P) h'
    omega
theorem ord_dig {a b t : Nat} (h : a / 2 ^ (32 * (t + 1)) = b / 2 ^ (32 * (t + 1))) (hne : dig a t ≠ dig b t) : ordN (dig a t) (dig b t) = ordN a b := by
  have ha := div_split a t
  have hb := div_split b t
  rcases Nat.lt_or_gt_of_ne hne with hl | hl
  · rw [ordN_lt hl, ordN_lt (lt_of_div (P := 2 ^ (32 * t)) (by omega))]
  · rw [ordN_gt hl, ordN_gt (lt_of_div (P := 2 ^ (32 * t)) (by omega))]
theorem ord_len {a b : Nat} (h : nw a ≠ nw b) : ordN (nw a) (nw b) = ordN a b := by
  rcases Nat.lt_or_gt_of_ne h with hl | hl
  · rw [ordN_lt hl, ordN_lt (lt_of_nw_lt hl)]
  · rw [ordN_gt hl, ordN_gt (lt_of_nw_lt hl)]

theorem compare_any (A B' : Option Addr) (c d a b B : Nat) (w : World) (hA : Num w B A (nw a) a) (hB : Num w B B' (nw b) b) (hn : nw a ≤ 1000000) (hm : nw b ≤ 1000000) :
    Calls Tryd.prog 95 #[.slice A (nw a) c, .slice B' (nw b) d] w (Ret (.int .i64 (ordN a b)) w) := by
  have hc := hid (cmp_int (nw a) (nw b) w)
  have ob := ordN_bd (nw a) (nw b)
  by_cases hne : nw a = nw b
  · have h0 : ordN (nw a) (nw b) = 0 := ordN_zero.2 hne
    have HNE := hid hne
    have hla := lt_nw a
    have hlb := lt_nw b
    rw [← hne] at hlb
    have h1 : a / 2 ^ (32 * nw a) = b / 2 ^ (32 * nw a) := by rw [Nat.div_eq_of_lt hla, Nat.div_eq_of_lt hlb]
    have H1 := hid h1
    have hBn := hB
    rw [← hne] at hBn
    rw [h0] at hc
    rw [← hne] at hc ⊢
    have HA := hid hA
    have HB := hid hBn
    generalize hnn : nw a = n at *
    have HNN := hid hnn
    clear hnn hne h0 hla hlb h1 hA hB hBn ob HNE
    go_enter Tryd.func95, Tryd.ntmps95
    go_wp2_with fail
    refine hc.out.mono ?_
    rintro e w' ⟨rfl, rfl⟩
    go_wp2_with fail
    go_loopw [6] (fun i wr => ∃ (k j : Nat) (z : Int), k ≤ n ∧ z = (k : Int) - 1 ∧ i = .int .i64 z ∧ a / 2 ^ (32 * k) = b / 2 ^ (32 * k) ∧ wr = w'.drewN j) (fun i _ => (intOf i + 1).toNat)
    case atStart => exact ⟨n, 0, _, by omega, rfl, rfl, H1.out, rfl⟩
    case round =>
      obtain ⟨k, j, z, hk, hz, rfl, hI, rfl⟩ := hrel
      have HI := hid hI
      clear hI
      by_cases hk0 : k = 0
      · subst hk0
        obtain rfl : z = -1 := by omega
        clear hz
        have HF : Hid (ordN a b = 0) := by
          have := HI.out
          rw [show 2 ^ (32 * 0) = 1 from rfl, Nat.div_one, Nat.div_one] at this
          rw [this]; exact ordN_eq b
        go_wp2_with fail
        go_ret
        exact ⟨ret_int HF.out.symm, _, rfl⟩
      · obtain ⟨t, rfl⟩ : ∃ t, k = t + 1 := ⟨k - 1, by omega⟩
        obtain rfl : z = (t : Int) := by omega
        clear hz hk0
        obtain ⟨ad, rfl, ha1, ha2⟩ := HA.out.at_ (i := t) (by omega)
        obtain ⟨bd, rfl, hb1, hb2⟩ := HB.out.at_ (i := t) (by omega)
        have od := ordN_bd (dig a t) (dig b t)
        have ht1 : (t : Int) < (n : Int) := by omega
        have ht2 : t < n := by omega
        by_cases hd : dig a t = dig b t
        · have h0 : ordN (dig a t) (dig b t) = 0 := ordN_zero.2 hd
          have HD := hid hd
          have hc2 := hid (cmp_u32 (dig a t) (dig b t))
          rw [h0] at hc2
          clear hd h0 od
          go_wp2_with fail
          go_quiet ((go_at_call 105; exact quiet_add ((hc2.out _).mono fun _ _ h => h.ret)))
          go_wp2_with fail
          go_roundw
          case rel => exact ⟨t, _, (t : Int) - 1, by omega, rfl, rfl, by rw [div_split a t, div_split b t, HI.out, HD.out], rfl⟩
          case measure => simp [intOf]
        · have h0 : (ordN (dig a t) (dig b t) != 0) = true := by rw [bne_iff_ne]; exact fun e => hd (ordN_zero.1 e)
          have HD := hid (ord_dig HI.out hd)
          have hc2 := hid (cmp_u32 (dig a t) (dig b t))
          clear hd
          go_wp2_with fail
          go_quiet ((go_at_call 105; exact quiet_add ((hc2.out _).mono fun _ _ h => h.ret)))
          go_wp2_with fail
          go_ret
          exact ⟨ret_int HD.out, _, rfl⟩
  · have h0 : (ordN (nw a) (nw b) != 0) = true := by rw [bne_iff_ne]; exact fun e => hne (ordN_zero.1 e)
    have H := hid (ord_len hne)
    clear hne hA hB
    go_enter Tryd.func95, Tryd.ntmps95
    go_wp2_with fail
    refine hc.out.mono ?_
    rintro e w' ⟨rfl, rfl⟩
    go_wp2_with fail
    go_ret
    exact ⟨ret_int H.out, 0, rfl⟩

end Go.Proofs.YtomkmkjkeihodaaDoor
