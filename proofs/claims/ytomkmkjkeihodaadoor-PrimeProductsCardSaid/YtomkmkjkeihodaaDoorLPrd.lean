/- PrimeProducts: the walk. -/
import Derived.Test.YtomkmkjkeihodaaDoorLSrt
import Derived.Test.YtomkmkjkeihodaaDoorPmB
set_option linter.unusedVariables false
set_option linter.unusedSimpArgs false
namespace Go.Proofs.YtomkmkjkeihodaaDoor
open Go.RowKit

theorem lpr_step {l : List Nat} {n k : Nat} (h : lpr l = n) (h0 : 0 < n) (hk : k < l.length) : lpr (l.take (k + 1)) = lpr (l.take k) * l[k] ∧ lpr (l.take k) * l[k] ≤ n ∧ n % l[k] = 0 ∧ 0 < l[k] ∧ lpr (l.take k) ≤ n / l[k] := by
  have e1 : lpr (l.take (k + 1)) = lpr (l.take k) * l[k] := by
    rw [List.take_succ_eq_append_getElem hk, lpr_app]; simp [lpr]
  have e2 : lpr (l.take (k + 1)) * lpr (l.drop (k + 1)) = n := by rw [← lpr_app, List.take_append_drop, h]
  rw [e1] at e2
  have p1 : 0 < lpr (l.take k) * l[k] := by
    rcases Nat.eq_zero_or_pos (lpr (l.take k) * l[k]) with h | h
    · rw [h] at e2; omega
    · exact h
  have p2 : 0 < lpr (l.drop (k + 1)) := by
    rcases Nat.eq_zero_or_pos (lpr (l.drop (k + 1))) with h | h
    · rw [h] at e2; omega
    · exact h
  have hle : lpr (l.take k) * l[k] ≤ n := by rw [← e2]; exact Nat.le_mul_of_pos_right _ p2
  have hp : 0 < l[k] := by
    rcases Nat.eq_zero_or_pos l[k] with h | h
    · rw [h] at p1; omega
    · exact h
  refine ⟨e1, hle, ?_, hp, (Nat.le_div_iff_mul_le hp).2 hle⟩
  exact Nat.mod_eq_zero_of_dvd ⟨lpr (l.take k) * lpr (l.drop (k + 1)), by rw [← e2]; ac_rfl⟩
theorem fac_none {n : Nat} (h1 : 1 ≤ n) (h : facS n = none) : isB n = false := by
  cases hb : isB n with
  | false => rfl
  | true =>
    unfold facS at h
    rw [fac_prime (isB_two hb) hb] at h
    cases h
theorem factors_err (z : Int) (w : World) (h : z < 1 ∨ 2305843009213693951 < z) (h0 : -9223372036854775808 ≤ z) (h1 : z ≤ 9223372036854775807) :
    Calls Tryd.prog 16 #[.int .i64 z] w (RetB (.tuple #[.slice none 0 0, .int .i64 2]) w) := by
  rcases h with h | h
  · have l1 : decide (z < 1) = true := decide_eq_true h
    go_enter Tryd.func16, Tryd.ntmps16
    go_wp2_with fail
    go_ret2
    exact ⟨rfl, Below.refl _ _⟩
  · have l1 : decide (z < 1) = false := by simp; omega
    have l2 : decide (z ≥ 2305843009213693952) = true := by simp; omega
    go_enter Tryd.func16, Tryd.ntmps16
    go_wp2_with fail
    go_ret2
    exact ⟨rfl, Below.refl _ _⟩
set_option maxHeartbeats 4000000 in
set_option maxRecDepth 100000 in
theorem products_err (z : Int) (w : World) (h : z < 1 ∨ 2305843009213693951 < z) (h0 : -9223372036854775808 ≤ z) (h1 : z ≤ 9223372036854775807) (hT : Tabs w) : Calls Tryd.prog 8 #[.int .i64 z] w (RetB (.bool true) w) := by
  have HT := hid hT
  clear hT
  have HC := fun V => hid (factors_err z V h h0 h1)
  clear h
  go_enter Tryd.func8, Tryd.ntmps8
  go_wp2_with fail
  refine (awake_any w HT.out).mono ?_
  rintro e V1 ⟨rfl, WW⟩
  go_wp2_with fail
  refine (HC V1).out.mono ?_
  clear HC
  rintro e V2 ⟨rfl, hb⟩
  replace WW := WW.trans (hb.mono WW.size)
  clear hb
  go_wp2_with fail
  go_ret
  exact ⟨rfl, WW⟩
set_option maxHeartbeats 4000000 in
set_option maxRecDepth 100000 in
theorem products_walk (n : Nat) (w : World) (h1 : 1 ≤ n) (hn : n ≤ 2305843009213693951) (hT : Tabs w) : Calls Tryd.prog 8 #[.int .i64 ((n : Nat) : Int)] w (RetB (.bool true) w) := by
  have HT := hid hT
  clear hT
  go_enter Tryd.func8, Tryd.ntmps8
  go_wp2_with fail
  refine (awake_any w HT.out).mono ?_
  rintro e V1 ⟨rfl, WW⟩
  have HT1 := hid (HT.out.below WW (Nat.le_refl _))
  go_wp2_with fail
  refine (factors_any n V1 h1 hn HT1.out).mono ?_
  rintro e V2 h
  rcases h with ⟨l, v, hf, rfl, ho, hl, hb⟩ | ⟨hf, rfl, hb⟩
  rotate_left
  · have HT2 := hid (HT1.out.below hb (Nat.le_refl _))
    replace WW := WW.trans (hb.mono WW.size)
    have HB := hid (fac_none h1 hf)
    clear hb hf
    go_wp2_with fail
    have hc := is_any n V2 (by omega) HT2.out
    rw [HB.out] at hc
    refine hc.mono ?_
    clear hc
    rintro e V3 ⟨rfl, hb⟩
    replace WW := WW.trans (hb.mono WW.size)
    clear hb
    go_wp2_with fail
    go_ret
    exact ⟨rfl, WW⟩
  have HT2 := hid (HT1.out.below hb (Nat.le_refl _))
  replace WW := WW.trans (hb.mono WW.size)
  obtain ⟨s1, s2, s3⟩ := facS_spec hf h1 (by omega)
  have HS1 := hid s1
  have HS2 := hid s2
  have HS3 := hid s3
  have HI : Hid (IsInts V2 v l) := (show IsInts V2 v l by obtain ⟨A, c, rfl⟩ := ho.slc; exact ⟨A, c, rfl, ho.reads⟩)
  clear hb hf s1 s2 s3
  obtain ⟨A, c, rfl⟩ := ho.slc
  clear ho
  obtain ⟨m, hm⟩ : ∃ m, m = l.length := ⟨_, rfl⟩
  have HM := hid hm
  rw [← hm] at hl HI ⊢
  clear hm
  go_wp2_with fail
  go_loopw [5, 35] (fun x i wr => ∃ (k : Nat) (y : Nat), k ≤ m ∧ x = .int .i64 ((y : Nat) : Int) ∧ i = .int .i64 ((k : Nat) : Int) ∧ Below V2.heap.size V2 wr ∧ Hid (y = lpr (l.take k))) (fun _ i _ => m - (intOf i).toNat)
  case atStart => exact ⟨0, 1, by omega, by go_num, by go_num, Below.refl _ _, (show _ = _ from rfl)⟩
  case round =>
    obtain ⟨k, y, hk, rfl, rfl, WZ, HY⟩ := hrel
    by_cases hkm : k < m
    · have l2 : decide (((k : Nat) : Int) < ((m : Nat) : Int)) = true := by simp; omega
      have hkl : k < l.length := by rw [← HM.out]; exact hkm
      obtain ⟨B, c2, ev, hI⟩ := HI.out
      obtain ⟨rfl, rfl⟩ : B = A ∧ c2 = c := by injection ev with e1 e2 e3; exact ⟨e1.symm, e3.symm⟩
      obtain ⟨ad, e, hb, hc⟩ := hI k hkl
      clear ev
      replace hc := (WZ.cell (p := ad.add k) (by show (ad.add k).block < _; unfold Addr.add; split <;> exact hb)).trans hc
      obtain ⟨q1, q2, q3, _⟩ := HS2.out l[k] (List.getElem_mem _)
      obtain ⟨t1, t2, t3, t4, t5⟩ := lpr_step HS1.out (by omega) hkl
      unfold ivl at hc
      rw [← HY.out] at t1 t2 t5
      obtain ⟨q, hq⟩ : ∃ q, q = l[k] := ⟨_, rfl⟩
      rw [← hq] at hc q1 q2 q3 t1 t2 t3 t4 t5
      have HQ1 := hid q1
      clear hq q1
      obtain ⟨z, hz⟩ : ∃ z, z = y * q := ⟨_, rfl⟩
      have l3 : ((y : Nat) : Int) * ((q : Nat) : Int) = ((z : Nat) : Int) := by rw [hz]; simp
      rw [← hz] at t1 t2
      have HT1' := hid t1
      clear hz t1
      obtain ⟨d, hd⟩ : ∃ d, d = n / q := ⟨_, rfl⟩
      have hd1 : d ≤ n := by rw [hd]; exact Nat.div_le_self _ _
      have tq : Int.tdiv ((n : Nat) : Int) ((q : Nat) : Int) = ((d : Nat) : Int) := by rw [hd]; rfl
      rw [← hd] at t5
      clear hd
      have l4 : decide (((y : Nat) : Int) > ((d : Nat) : Int)) = false := by simp; omega
      have hz0 : decide (((q : Nat) : Int) = 0) = false := by simp; omega
      have tr : Int.tmod ((n : Nat) : Int) ((q : Nat) : Int) = 0 := by
        have : ((n % q : Nat) : Int) = 0 := by rw [t3]; rfl
        exact this
      clear t3
      have hyn : y ≤ n := by omega
      subst e
      go_wp2_with fail
      have hc2 := is_any q wr (by omega) (HT2.out.below WZ (Nat.le_refl _))
      rw [HQ1.out] at hc2
      refine hc2.mono ?_
      clear hc2
      rintro e V3 ⟨rfl, hb2⟩
      replace WZ := WZ.trans (hb2.mono WZ.size)
      clear hb2
      go_wp2_with fail
      go_roundw
      case rel => exact ⟨k + 1, z, by omega, by go_num, by go_num, WZ, (show _ = _ from HT1'.out.symm)⟩
      case measure => simp [intOf] <;> omega
    · have l2 : decide (((k : Nat) : Int) < ((m : Nat) : Int)) = false := by simp; omega
      have hy : y = n := by rw [HY.out, List.take_of_length_le (by rw [← HM.out]; omega)]; exact HS1.out
      subst hy
      have hIs := HI.out.below WZ
      have hc := sorted_any _ l wr hIs (by rw [← HM.out]; omega) (fun q hq => by have := (HS2.out q hq).2.2.1; omega) HS3.out
      have HC := hid hc
      clear hc hIs
      go_wp2_with fail
      refine HC.out.mono ?_
      clear HC
      rintro e V3 ⟨rfl, hb2⟩
      replace WZ := WZ.trans (hb2.mono WZ.size)
      clear hb2
      go_wp2_with fail
      go_ret
      exact ⟨rfl, WW.trans (WZ.mono WW.size)⟩
/-- For every int. -/
theorem products_any (z : Int) (w : World) (h0 : -9223372036854775808 ≤ z) (h1 : z ≤ 9223372036854775807) (hT : Tabs w) : Calls Tryd.prog 8 #[.int .i64 z] w (RetB (.bool true) w) := by
  by_cases h : z < 1 ∨ 2305843009213693951 < z
  · exact products_err z w h h0 h1 hT
  · obtain ⟨n, rfl⟩ : ∃ n : Nat, z = ((n : Nat) : Int) := ⟨z.toNat, by omega⟩
    exact products_walk n w (by omega) (by omega) hT
end Go.Proofs.YtomkmkjkeihodaaDoor
