/- PrimeDivides: the walk. -/
import Derived.Test.YtomkmkjkeihodaaDoorP18
import Derived.Test.YtomkmkjkeihodaaDoorPmB
set_option linter.unusedVariables false
set_option linter.unusedSimpArgs false
namespace Go.Proofs.YtomkmkjkeihodaaDoor
open Go.RowKit

/-- What trial division shows. -/
theorem pr_trial {k d : Nat} (h2 : 2 ≤ k) (hn : ∀ e, 2 ≤ e → e < d → k % e ≠ 0) (hd : k < d * d) : Pr k := by
  refine pr_of_least h2 fun e e1 e2 he => ?_
  obtain ⟨c, rfl⟩ := Nat.dvd_of_mod_eq_zero he
  have hc : 2 ≤ c := by
    rcases Nat.lt_or_ge c 2 with h | h
    · obtain rfl | rfl : c = 0 ∨ c = 1 := by omega
      · simp at h2
      · rw [Nat.mul_one] at e2; omega
    · exact h
  rcases Nat.lt_or_ge e d with h | h
  · exact hn e e1 h he
  · rcases Nat.lt_or_ge c d with h3 | h3
    · exact hn c hc h3 (Nat.mul_mod_left e c)
    · have := Nat.mul_le_mul h h3
      omega
theorem cast_bne (r : Nat) : (((r : Nat) : Int) != 0) = !(r == 0) := by
  rw [bne, Bool.eq_iff_iff]; simp
theorem cast_le2 (k : Nat) : decide (2 ≤ ((k : Nat) : Int)) = decide (2 ≤ k) := by
  rw [decide_eq_decide]; omega
theorem sq_lt {d k : Nat} (hd : 2 ≤ d) (h : d * d ≤ k) : d < k := by
  have := Nat.mul_le_mul_right d hd
  omega
theorem not_isB {k : Nat} (hk : k < 1048576) (h : ¬ Pr k) : isB k = false := by
  cases hb : isB k with
  | false => rfl
  | true => exact absurd (pr_of_isB hk hb) h
set_option maxHeartbeats 4000000 in
set_option maxRecDepth 100000 in
theorem divides_walk (n : Nat) (w : World) (hn : n ≤ 4294967295) (hT : Tabs w) : Calls Tryd.prog 7 #[.int .u32 ((n : Nat) : Int)] w (RetB (.bool true) w) := by
  have HT := hid hT
  clear hT
  obtain ⟨k, hk⟩ : ∃ k, k = n % 1048576 := ⟨_, rfl⟩
  have hk1 : k < 1048576 := by rw [hk]; exact Nat.mod_lt _ (by decide)
  have tk : Int.tmod ((n : Nat) : Int) 1048576 = ((k : Nat) : Int) := by rw [hk]; rfl
  have tk2 : ((n : Nat) : Int) % 1048576 = ((k : Nat) : Int) := by omega
  clear hk
  go_enter Tryd.func7, Tryd.ntmps7
  go_wp2_with fail
  refine (awake_any w HT.out).mono ?_
  rintro e V1 ⟨rfl, hb⟩
  have WW := hb
  clear hb
  have HT1 := hid (HT.out.below WW (Nat.le_refl _))
  go_wp2_with fail
  go_loopw [4, 5] (fun is d wr => ∃ (b : Bool) (x : Nat), is = .bool b ∧ d = .int .i64 ((x : Nat) : Int) ∧ 2 ≤ x ∧ x ≤ 1024 ∧ Hid (b = true → 2 ≤ k ∧ ∀ e, 2 ≤ e → e < x → k % e ≠ 0) ∧ Hid (b = false → ¬ Pr k) ∧ wr = V1) (fun is d _ => 1025 - (intOf d).toNat)
  case atStart => exact ⟨decide (2 ≤ k), 2, by rw [cast_le2], by go_num, by decide, by decide, (show _ → _ from fun h => ⟨of_decide_eq_true h, fun e h1 h2 => by omega⟩), (show _ → _ from fun h hp => by have := hp.1; have := of_decide_eq_false h; omega), rfl⟩
  case round =>
    obtain ⟨b, x, rfl, rfl, hx2, hx, HY, HN, rfl⟩ := hrel
    obtain ⟨xx, hxx⟩ : ∃ y, y = x * x := ⟨_, rfl⟩
    have hxb : xx ≤ 1048576 := by rw [hxx]; exact Nat.mul_le_mul hx hx
    have l1 : ((x : Nat) : Int) * ((x : Nat) : Int) = ((xx : Nat) : Int) := by rw [hxx]; simp
    have HXX := hid hxx
    clear hxx
    have hb1 : ((xx : Nat) : Int) ≤ 1048576 := by omega
    by_cases hgo : xx ≤ k ∧ b = true
    · obtain ⟨hle, rfl⟩ := hgo
      have l2 : decide (((xx : Nat) : Int) ≤ ((k : Nat) : Int)) = true := by simp; omega
      obtain ⟨r, hr⟩ : ∃ r, r = k % x := ⟨_, rfl⟩
      have tr : Int.tmod ((k : Nat) : Int) ((x : Nat) : Int) = ((r : Nat) : Int) := by rw [hr]; rfl
      have hz : decide (((x : Nat) : Int) = 0) = false := by simp; omega
      have hx1024 : x < 1024 := by
        rcases Nat.lt_or_ge x 1024 with h | h
        · exact h
        · have := Nat.mul_le_mul h h; have := HXX.out; omega
      have HR := hid hr
      have HLE := hid hle
      clear hr hle
      go_wp2_with fail
      go_roundw
      case rel => exact ⟨!(r == 0), x + 1, by rw [cast_bne], by go_num, by omega, by omega, (show _ → _ from fun h => by
        have hr0 : r ≠ 0 := by simpa using h
        obtain ⟨h2, h3⟩ := HY.out rfl
        refine ⟨h2, fun e e1 e2 => ?_⟩
        rcases Nat.lt_or_ge e x with h4 | h4
        · exact h3 e e1 h4
        · obtain rfl : e = x := by omega
          rw [← HR.out]; exact hr0), (show _ → _ from fun h hp => by
        have hr0 : r = 0 := by simpa using h
        rw [HR.out] at hr0
        have h5 := sq_lt hx2 (by rw [← HXX.out]; exact HLE.out)
        rcases hp.2 x (Nat.dvd_of_mod_eq_zero hr0) with e | e <;> omega), trivial⟩
      case measure => simp [intOf] <;> omega
    · have HB : Hid (isB k = b) := (show _ = _ by
        cases b with
        | false => exact not_isB hk1 (HN.out rfl)
        | true =>
          obtain ⟨h2, h3⟩ := HY.out rfl
          exact isB_of_pr (pr_trial h2 h3 (by have := HXX.out; simp at hgo; omega)) (by omega))
      by_cases hle : xx ≤ k
      · have l2 : decide (((xx : Nat) : Int) ≤ ((k : Nat) : Int)) = true := by simp; omega
        obtain rfl : b = false := by cases b with | false => rfl | true => exact absurd ⟨hle, rfl⟩ hgo
        clear HY HN hgo
        go_wp2_with fail
        have hc := is_any k wr (by omega) HT1.out
        rw [HB.out] at hc
        refine hc.mono ?_
        clear hc
        rintro e V2 ⟨rfl, hb⟩
        have HT2 := hid (HT1.out.below hb (Nat.le_refl _))
        replace WW := WW.trans (hb.mono WW.size)
        clear hb
        go_wp2_with fail
        have hneg : Calls Tryd.prog 13 #[.int .i64 (-((k : Nat) : Int))] V2 (RetB (.bool false) V2) := by
          rcases Nat.eq_zero_or_pos k with h | h
          · subst h; have h := is_any 0 V2 (by decide) HT2.out; exact h
          · exact is_neg _ V2 (by omega) (by omega)
        refine hneg.mono ?_
        clear hneg
        rintro e V3 ⟨rfl, hb⟩
        have HT3 := hid (HT2.out.below hb (Nat.le_refl _))
        replace WW := WW.trans (hb.mono WW.size)
        clear hb
        go_wp2_with fail
        refine (next_any k V3 (by omega) HT3.out).mono ?_
        rintro e V4 ⟨p, rfl, hp, hpb, hb⟩
        have HT4 := hid (HT3.out.below hb (Nat.le_refl _))
        replace WW := WW.trans (hb.mono WW.size)
        have hle2 := next_le hk1 hp
        have hkp := hp.1
        have HP := hid hp
        have l5 : decide (p ≤ k) = false := by simp; omega
        have l6 : decide (((p : Nat) : Int) > 2 * ((k : Nat) : Int) + 2) = false := by simp; omega
        clear hb hp hpb
        go_wp2_with fail
        have hc := is_any p V4 (by omega) HT4.out
        rw [HP.out.2.1] at hc
        refine hc.mono ?_
        clear hc
        rintro e V5 ⟨rfl, hb⟩
        have HT5 := hid (HT4.out.below hb (Nat.le_refl _))
        replace WW := WW.trans (hb.mono WW.size)
        clear hb
        go_wp2_with fail
        clear HT1 HT2 HT3 HT4
        go_loopw [8] (fun m wz => ∃ y : Nat, k < y ∧ y ≤ p ∧ m = .int .i64 ((y : Nat) : Int) ∧ Below V5.heap.size V5 wz) (fun m _ => p - (intOf m).toNat)
        case atStart => exact ⟨k + 1, by omega, by omega, by go_num, Below.refl _ _⟩
        case round =>
          obtain ⟨y, hy1, hy2, rfl, WZ⟩ := hrel
          by_cases hyp : y < p
          · have l7 : decide (((y : Nat) : Int) < ((p : Nat) : Int)) = true := by simp; omega
            have hc := is_any y wr (by omega) (HT5.out.below WZ (Nat.le_refl _))
            rw [HP.out.2.2 y hy1 hyp] at hc
            have HC := hid hc
            clear hc
            go_wp2_with fail
            refine HC.out.mono ?_
            clear HC
            rintro e V6 ⟨rfl, hb⟩
            replace WZ := WZ.trans (hb.mono WZ.size)
            clear hb
            go_wp2_with fail
            go_roundw
            case rel => exact ⟨y + 1, by omega, by omega, by go_num, WZ⟩
            case measure => simp [intOf] <;> omega
          · have l7 : decide (((y : Nat) : Int) < ((p : Nat) : Int)) = false := by simp; omega
            go_wp2_with fail
            go_ret
            exact ⟨rfl, WW.trans (WZ.mono WW.size)⟩
      · have l2 : decide (((xx : Nat) : Int) ≤ ((k : Nat) : Int)) = false := by simp; omega
        clear HY HN hgo
        go_wp2_with fail
        have hc := is_any k wr (by omega) HT1.out
        rw [HB.out] at hc
        refine hc.mono ?_
        clear hc
        rintro e V2 ⟨rfl, hb⟩
        have HT2 := hid (HT1.out.below hb (Nat.le_refl _))
        replace WW := WW.trans (hb.mono WW.size)
        clear hb
        go_wp2_with fail
        have hneg : Calls Tryd.prog 13 #[.int .i64 (-((k : Nat) : Int))] V2 (RetB (.bool false) V2) := by
          rcases Nat.eq_zero_or_pos k with h | h
          · subst h; have h := is_any 0 V2 (by decide) HT2.out; exact h
          · exact is_neg _ V2 (by omega) (by omega)
        refine hneg.mono ?_
        clear hneg
        rintro e V3 ⟨rfl, hb⟩
        have HT3 := hid (HT2.out.below hb (Nat.le_refl _))
        replace WW := WW.trans (hb.mono WW.size)
        clear hb
        go_wp2_with fail
        refine (next_any k V3 (by omega) HT3.out).mono ?_
        rintro e V4 ⟨p, rfl, hp, hpb, hb⟩
        have HT4 := hid (HT3.out.below hb (Nat.le_refl _))
        replace WW := WW.trans (hb.mono WW.size)
        have hle2 := next_le hk1 hp
        have hkp := hp.1
        have HP := hid hp
        have l5 : decide (p ≤ k) = false := by simp; omega
        have l6 : decide (((p : Nat) : Int) > 2 * ((k : Nat) : Int) + 2) = false := by simp; omega
        clear hb hp hpb
        go_wp2_with fail
        have hc := is_any p V4 (by omega) HT4.out
        rw [HP.out.2.1] at hc
        refine hc.mono ?_
        clear hc
        rintro e V5 ⟨rfl, hb⟩
        have HT5 := hid (HT4.out.below hb (Nat.le_refl _))
        replace WW := WW.trans (hb.mono WW.size)
        clear hb
        go_wp2_with fail
        clear HT1 HT2 HT3 HT4
        go_loopw [8] (fun m wz => ∃ y : Nat, k < y ∧ y ≤ p ∧ m = .int .i64 ((y : Nat) : Int) ∧ Below V5.heap.size V5 wz) (fun m _ => p - (intOf m).toNat)
        case atStart => exact ⟨k + 1, by omega, by omega, by go_num, Below.refl _ _⟩
        case round =>
          obtain ⟨y, hy1, hy2, rfl, WZ⟩ := hrel
          by_cases hyp : y < p
          · have l7 : decide (((y : Nat) : Int) < ((p : Nat) : Int)) = true := by simp; omega
            have hc := is_any y wr (by omega) (HT5.out.below WZ (Nat.le_refl _))
            rw [HP.out.2.2 y hy1 hyp] at hc
            have HC := hid hc
            clear hc
            go_wp2_with fail
            refine HC.out.mono ?_
            clear HC
            rintro e V6 ⟨rfl, hb⟩
            replace WZ := WZ.trans (hb.mono WZ.size)
            clear hb
            go_wp2_with fail
            go_roundw
            case rel => exact ⟨y + 1, by omega, by omega, by go_num, WZ⟩
            case measure => simp [intOf] <;> omega
          · have l7 : decide (((y : Nat) : Int) < ((p : Nat) : Int)) = false := by simp; omega
            go_wp2_with fail
            go_ret
            exact ⟨rfl, WW.trans (WZ.mono WW.size)⟩
end Go.Proofs.YtomkmkjkeihodaaDoor
