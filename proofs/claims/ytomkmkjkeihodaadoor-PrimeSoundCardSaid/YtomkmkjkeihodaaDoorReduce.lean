/- One digit of a quotient: estimated, and corrected. -/
import Derived.Test.YtomkmkjkeihodaaDoorSegm
set_option linter.unusedVariables false
set_option linter.unusedSimpArgs false
namespace Go.Proofs.YtomkmkjkeihodaaDoor
open Go.RowKit

/-- u and v: after k words. -/
def AddAt (w wr : World) (g N o L n s v k c : Nat) : Prop :=
  ∃ s', s' + c * 2 ^ (32 * k) = s + v % 2 ^ (32 * k) ∧ Segm wr g N o L (n + 1) s' ∧ w.grownBy wr (some g)

theorem AddAt.step {w wr : World} {g N o L n s v k c r q : Nat} (h : AddAt w wr g N o L n s v k c) (hk : k < n + 1) (hr1 : r < 4294967296)
    (hr : ∀ s', Segm wr g N o L (n + 1) s' → r + q * 4294967296 = dig s' k + dig v k + c) :
    AddAt w (wr.setCell ⟨g, o + k, none⟩ (.int .u32 (r : Int))) g N o L n s v (k + 1) q := by
  obtain ⟨s', h1, h2, h3⟩ := h
  refine ⟨put s' k r, ?_, h2.set_ hk hr1, only_setCell h3 _⟩
  have hh := hr s' h2
  have hp := put_add s' k r
  rw [mod_pw_succ, pw_succ]
  generalize 2 ^ (32 * k) = P at *
  generalize dig s' k = d at *
  generalize dig v k = y at *
  have e2 : (r + q * 4294967296) * P = (d + y + c) * P := by rw [hh]
  simp only [Nat.add_mul] at *
  rw [show q * (P * 4294967296) = q * 4294967296 * P by rw [Nat.mul_comm P, Nat.mul_assoc]]
  omega
theorem AddAt.drew {w wr : World} {g N o L n s v k c : Nat} (h : AddAt w wr g N o L n s v k c) : AddAt w wr.drew g N o L n s v k c := by
  obtain ⟨s', h1, h2, h3⟩ := h
  exact ⟨s', h1, h2, only_drew h3⟩

theorem restore_any (A : Option Addr) (g N o L n c s v B cu : Nat) (w : World) (hS : Segm w g N o L (n + 1) s) (hA : Num w B A n v) (hBg : B ≤ g) (hn : n ≤ 100000) (hN : N ≤ 200000) :
    Calls Tryd.prog 117 #[.slice (some ⟨g, o, none⟩) (n + 1) cu, .slice A n c] w (RetSeg g N o L (n + 1) (fun s' b => b ≤ 1 ∧ s' + b * 2 ^ (32 * (n + 1)) = s + v) w) := by
  have hgw := hS.2.2.2.blk
  have h0 : AddAt w w g N o L n s v 0 0 := ⟨s, by simp [Nat.mod_one], hS, World.grownBy.refl _ _⟩
  have H0 := hid h0
  clear h0
  go_enter Tryd.func117, Tryd.ntmps117
  go_wp2
  go_loopw [5, 9] (fun cy i wr => ∃ k cc : Nat, k ≤ n + 1 ∧ cc ≤ 1 ∧ i = .int .i64 k ∧ cy = .int .u32 cc ∧ AddAt w wr g N o L n s v k cc) (fun _ i _ => n + 1 - (intOf i).toNat)
  case atStart => exact ⟨0, 0, by omega, by omega, rfl, rfl, H0.out⟩
  case round =>
    obtain ⟨k, cc, hk, hcc, rfl, rfl, hI⟩ := hrel
    have HI := hid hI
    obtain ⟨s', h1, h2, h3⟩ := hI
    have H2 := hid h2
    by_cases hlt : k < n + 1
    · have HA := hid (hA.only h3 hBg (by omega))
      have hcell := h2.cell (i := k) (by omega)
      have hfr := h2.frozen (o + k)
      have d1 := dig_lt v k
      have d2 := dig_lt s' k
      obtain ⟨r, hr⟩ := named ((dig s' k + dig v k + cc) % 4294967296)
      obtain ⟨q, hq⟩ := named ((dig s' k + dig v k + cc) / 4294967296)
      have hr1 : r < 4294967296 := by have := hr.out; omega
      have hq1 : q ≤ 1 := by have := hq.out; omega
      have HE := hid (show r + q * 4294967296 = dig s' k + dig v k + cc by rw [hr.out, hq.out]; omega)
      clear h1 h2 h3
      go_wp2_with fail
      go_region_with (first
        | (go_at_call 50; refine (word_nat A n c v B k _ HA.out.drew (by omega)).mono ?_; rintro e w' ⟨rfl, rfl⟩)
        | (go_at_call 107; refine (add32_nat (dig s' k) (dig v k) cc r q _ (by omega) (by omega) (by omega) hr hq).mono ?_; rintro e w' ⟨rfl, rfl⟩))
      all_goals
        go_wp2_with fail
        go_roundw
        case rel => exact ⟨k + 1, q, by omega, hq1, by go_num, rfl, (HI.out.step hlt hr1 (fun s2 h => by rw [Segm.one h H2.out]; exact HE.out)).drew⟩
        case measure => simp [intOf]; omega
    · clear h1 h2 h3
      go_wp2_with fail
      go_ret
      obtain ⟨s3, g1, g2, g3⟩ := HI.out
      obtain rfl : k = n + 1 := by omega
      rw [Nat.mod_eq_of_lt (Nat.lt_of_lt_of_le hA.lt (pw_le (by omega)))] at g1
      exact ⟨s3, cc, rfl, ⟨hcc, g1⟩, g2, g3⟩

/-- The estimate is not less than the quotient. -/
theorem estimate_ge (n s v y x : Nat) (hy : y = s / 2 ^ (32 * (n - 1))) (hx : x = v / 2 ^ (32 * (n - 1))) (hx0 : 0 < x) : s / v ≤ y / x := by
  have h1 : x * 2 ^ (32 * (n - 1)) ≤ v := by rw [hx]; exact Nat.div_mul_le_self _ _
  have hv : 0 < v := Nat.lt_of_lt_of_le (Nat.mul_pos hx0 (pw_pos _)) h1
  rw [Nat.le_div_iff_mul_le hx0, hy, Nat.le_div_iff_mul_le (pw_pos _), Nat.mul_assoc]
  exact Nat.le_trans (Nat.mul_le_mul_left _ h1) (Nat.div_mul_le_self s v)

/-- The call returns a word with P; nothing else. -/
def RetWord (P : Nat → Prop) (w : World) (e : Ending) (w' : World) : Prop := ∃ q : Nat, e = .returned (.int .u32 (q : Int)) ∧ P q ∧ ∃ n, w' = w.drewN n

theorem top_two (n s : Nat) (hn : 0 < n) (hs : s < 2 ^ (32 * (n + 1))) : s / 2 ^ (32 * (n - 1)) = dig s n * 4294967296 + dig s (n - 1) := by
  obtain ⟨m, rfl⟩ : ∃ m, n = m + 1 := ⟨n - 1, by omega⟩
  rw [show m + 1 - 1 = m by omega]
  have h1 := dig_split s m
  have h2 : s / 2 ^ (32 * (m + 1)) < 4294967296 := by rw [Nat.div_lt_iff_lt_mul (pw_pos _), Nat.mul_comm, ← pw_succ]; exact hs
  unfold dig
  rw [Nat.mod_eq_of_lt h2, pw_succ, ← Nat.div_div_eq_div_mul]
  omega
theorem top_one (n v : Nat) (hn : 0 < n) (hv : v < 2 ^ (32 * n)) : v / 2 ^ (32 * (n - 1)) = dig v (n - 1) := by
  obtain ⟨m, rfl⟩ : ∃ m, n = m + 1 := ⟨n - 1, by omega⟩
  rw [show m + 1 - 1 = m by omega]
  unfold dig
  rw [Nat.mod_eq_of_lt]
  rw [Nat.div_lt_iff_lt_mul (pw_pos _), Nat.mul_comm, ← pw_succ]
  exact hv

theorem estimate_any (A : Option Addr) (g N o L n c s v B cu : Nat) (w : World) (hS : Segm w g N o L (n + 1) s) (hA : Num w B A n v) (hn : n ≤ 100000) (hN : N ≤ 200000) (hn0 : 0 < n) (hsv : s < v * 4294967296) :
    Calls Tryd.prog 115 #[.slice (some ⟨g, o, none⟩) (n + 1) cu, .slice A n c] w (RetWord (fun q => q ≤ 4294967295 ∧ s / v ≤ q) w) := by
  have c1 := hS.cell (i := n) (by omega)
  have c2 := hS.cell (i := n - 1) (by omega)
  obtain ⟨ad, rfl, hab, hac⟩ := hA.at_ (i := n - 1) (by omega)
  have d1 := dig_lt s n
  have d2 := dig_lt s (n - 1)
  have d3 := dig_lt v (n - 1)
  have i1 : (n : Int) - 1 = ((n - 1 : Nat) : Int) := by omega
  have hq : s / v < 4294967296 := by
    rw [Nat.div_lt_iff_lt_mul (by omega), Nat.mul_comm]; exact hsv
  by_cases hge : dig v (n - 1) ≤ dig s n
  · have hd : decide (((dig v (n - 1) : Nat) : Int) ≤ ((dig s n : Nat) : Int)) = true := by simp; omega
    have H := hid (show (4294967295 ≤ 4294967295 ∧ s / v ≤ 4294967295) by omega)
    have g1 : IntKind.i64.wrap ((n : Int) - 1) = (n : Int) - 1 := IntWalk.i64_in _ (by omega)
    clear hA hS hq hsv
    go_enter Tryd.func115, Tryd.ntmps115
    go_wp2
    go_quiet (fail)
    go_wp2
    go_ret
    exact ⟨4294967295, rfl, H.out, _, rfl⟩
  · have hd : decide (((dig v (n - 1) : Nat) : Int) ≤ ((dig s n : Nat) : Int)) = false := by simp; omega
    obtain ⟨q, hq'⟩ := named ((dig s n * 4294967296 + dig s (n - 1)) / dig v (n - 1))
    obtain ⟨r, hr'⟩ := named ((dig s n * 4294967296 + dig s (n - 1)) % dig v (n - 1))
    have hq1 : q ≤ 4294967295 := by
      have : (dig s n * 4294967296 + dig s (n - 1)) / dig v (n - 1) < 4294967296 := by rw [Nat.div_lt_iff_lt_mul (by omega)]; omega
      have := hq'.out
      omega
    have H := hid (show (q ≤ 4294967295 ∧ s / v ≤ q) from ⟨hq1, by
      have := estimate_ge n s v _ _ rfl rfl (by rw [top_one n v hn0 hA.lt]; omega)
      rw [top_one n v hn0 hA.lt, top_two n s hn0 hS.2.1, ← hq'.out] at this
      exact this⟩)
    have g1 : IntKind.i64.wrap ((n : Int) - 1) = (n : Int) - 1 := IntWalk.i64_in _ (by omega)
    have hlt : dig s n < dig v (n - 1) := by omega
    clear hA hS hq hsv hge
    go_enter Tryd.func115, Tryd.ntmps115
    go_wp2
    go_quiet (fail)
    go_wp2
    go_quiet ((go_at_call 118; exact quiet_add (div32_nat (dig s n) (dig s (n - 1)) (dig v (n - 1)) q r _ hlt (by omega) (by omega) hq' hr')))
    go_wp2
    go_ret
    exact ⟨q, rfl, H.out, _, World.drewN_drewN _ _ _⟩

/-- The call returns the quotient, and leaves the remainder. -/
def RetRed (g N o L n s v : Nat) (w : World) (e : Ending) (w' : World) : Prop :=
  ∃ q : Nat, e = .returned (.int .u32 (q : Int)) ∧ q = s / v ∧ Segm w' g N o L (n + 1) (s % v) ∧ w.grownBy w' (some g)

/-- The digit q is tried: b is borrowed. -/
def TryAt (w wr : World) (g N o L n s v q b : Nat) : Prop :=
  ∃ s', s' + v * q = s + b * 2 ^ (32 * (n + 1)) ∧ s / v ≤ q ∧ Segm wr g N o L (n + 1) s' ∧ w.grownBy wr (some g)

theorem TryAt.again {w wr w' : World} {g N o L n s v q c : Nat} (h : TryAt w wr g N o L n s v q 1) (hv : 0 < v) (hc : c ≤ 1) {s' s2 : Nat} (h1 : Segm wr g N o L (n + 1) s') (h2 : s2 + c * 2 ^ (32 * (n + 1)) = s' + v) (h3 : Segm w' g N o L (n + 1) s2) (h4 : wr.grownBy w' (some g)) :
    1 ≤ q ∧ TryAt w w' g N o L n s v (q - 1) (1 - c) := by
  obtain ⟨t, e1, e2, e3, e4⟩ := h
  obtain rfl : t = s' := Segm.one e3 h1
  have hs := e3.2.1
  have hq : s / v < q := by
    rw [Nat.div_lt_iff_lt_mul hv, Nat.mul_comm]; omega
  have hq0 : 0 < q := Nat.lt_of_le_of_lt (Nat.zero_le _) hq
  obtain ⟨p, rfl⟩ : ∃ p, q = p + 1 := ⟨q - 1, by omega⟩
  rw [Nat.mul_add, Nat.mul_one] at e1
  refine ⟨by omega, s2, ?_, by rw [show p + 1 - 1 = p by omega]; exact Nat.le_of_lt_succ hq, h3, only_trans e4 h4⟩
  rw [show p + 1 - 1 = p by omega]
  generalize 2 ^ (32 * (n + 1)) = M at *
  have : (1 - c) * M + c * M = M := by rw [← Nat.add_mul, show 1 - c + c = 1 by omega, Nat.one_mul]
  omega

theorem TryAt.done {w wr : World} {g N o L n s v q : Nat} (h : TryAt w wr g N o L n s v q 0) (hv : 0 < v) : q = s / v ∧ Segm wr g N o L (n + 1) (s % v) ∧ w.grownBy wr (some g) := by
  obtain ⟨t, e1, e2, e3, e4⟩ := h
  have hq : q ≤ s / v := by rw [Nat.le_div_iff_mul_le hv, Nat.mul_comm]; omega
  obtain rfl : q = s / v := by omega
  have := Nat.div_add_mod s v
  rw [show s % v = t by omega]
  exact ⟨rfl, e3, e4⟩

theorem reduce_any (A : Option Addr) (g N o L n c s v B cu : Nat) (w : World) (hS : Segm w g N o L (n + 1) s) (hA : Num w B A n v) (hBg : B ≤ g) (hn : n ≤ 100000) (hN : N ≤ 200000) (hn0 : 0 < n) (hsv : s < v * 4294967296) :
    Calls Tryd.prog 111 #[.slice (some ⟨g, o, none⟩) (n + 1) cu, .slice A n c] w (RetRed g N o L n s v w) := by
  have hgw := hS.2.2.2.blk
  have hv : 0 < v := by omega
  have HS := hid hS
  have HA := hid hA
  clear hS hA
  go_enter Tryd.func111, Tryd.ntmps111
  go_wp2_with fail
  refine (estimate_any A g N o L n c s v B cu _ HS.out HA.out hn hN hn0 hsv).mono ?_
  rintro e w1 ⟨q, rfl, ⟨hq1, hq2⟩, j, rfl⟩
  have HQ := hid hq2
  clear hq2
  go_wp2_with fail
  refine (subtract_any A g N o L n c c s v q B cu _ (HS.out.drewN j) (HA.out.drewN j) hBg hn hN hq1).mono ?_
  rintro e w1 ⟨s1, b1, rfl, ⟨hb1, e1⟩, hS1, hg1⟩
  have h0 : TryAt w w1 g N o L n s v q b1 := ⟨s1, e1, HQ.out, hS1, ⟨hg1.os, hg1.tape, hg1.output, hg1.size, hg1.block⟩⟩
  have H0 := hid h0
  clear h0 e1 hS1 hg1
  go_wp2_with fail
  go_loopw [5, 6] (fun qq bb wr => ∃ q b : Nat, q ≤ 4294967295 ∧ b ≤ 1 ∧ qq = .int .u32 q ∧ bb = .int .u32 b ∧ TryAt w wr g N o L n s v q b) (fun qq _ _ => (intOf qq).toNat)
  case atStart => exact ⟨q, b1, hq1, hb1, rfl, rfl, H0.out⟩
  case round =>
    obtain ⟨q, b, hq, hb, rfl, rfl, hI⟩ := hrel
    have HI := hid hI
    obtain ⟨s', e1, e2, e3, e4⟩ := hI
    by_cases hb0 : b = 0
    · have HB := hid hb0
      have ht : (((b : Nat) : Int) != 0) = false := by simp; omega
      clear e1 e2 e3 e4 hb0
      go_wp2_with fail
      go_ret
      have hI := HI.out
      rw [HB.out] at hI
      obtain ⟨i1, i2, i3⟩ := hI.done hv
      exact ⟨q, rfl, i1, i2, i3⟩
    · have hb1 : b = 1 := by omega
      have HB := hid hb1
      have ht : (((b : Nat) : Int) != 0) = true := by simp; omega
      have H3 := hid e3
      have HA' := hid (HA.out.only e4 hBg (by omega))
      have hq0 : 1 ≤ q := by
        rcases Nat.eq_zero_or_pos q with h | h
        · subst h
          have h5 : s' < 2 ^ (32 * (n + 1)) := e3.2.1
          rw [hb1, Nat.one_mul, Nat.mul_zero, Nat.add_zero] at e1
          rw [e1] at h5
          exact absurd h5 (Nat.not_lt.2 (Nat.le_add_left _ _))
        · exact h
      have hb2 : 1 ≤ b := by omega
      clear e1 e2 e3 e4 hb0 hb1
      go_wp2_with fail
      refine (restore_any A g N o L n c s' v B cu _ H3.out HA'.out hBg hn hN).mono ?_
      rintro e w2 ⟨s2, c2, rfl, ⟨hc2, f1⟩, f2, f3⟩
      have hI := HI.out
      rw [HB.out] at hI
      have HN := hid (hI.again hv hc2 H3.out f1 f2 f3).2
      clear hI
      clear f1 f2 f3
      go_wp2_with fail
      go_roundw
      case rel => exact ⟨q - 1, b - c2, by omega, by omega, by go_num, by go_num, by rw [HB.out]; exact HN.out⟩
      case measure => simp [intOf]; omega

end Go.Proofs.YtomkmkjkeihodaaDoor
