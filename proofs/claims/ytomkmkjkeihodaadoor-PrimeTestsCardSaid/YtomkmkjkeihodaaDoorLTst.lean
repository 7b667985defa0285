/- PrimeTests: the walk. -/
import Derived.Test.YtomkmkjkeihodaaDoorQ4
set_option linter.unusedVariables false
set_option linter.unusedSimpArgs false
namespace Go.Proofs.YtomkmkjkeihodaaDoor
open Go.RowKit

set_option maxHeartbeats 4000000 in
set_option maxRecDepth 100000 in
theorem tests_walk (z : Int) (b : Bool) (w : World) (h : z < 0 ∨ 2305843009213693950 < z) (h0 : -9223372036854775808 ≤ z) (h1 : z ≤ 9223372036854775807) (hT : Tabs w)
    (c1 : ∀ V, Tabs V → Calls Tryd.prog 13 #[.int .i64 z] V (RetB (.bool b) V)) (c2 : ∀ V, Calls Tryd.prog 14 #[.int .i64 z] V (RetB (.bool b) V)) : Calls Tryd.prog 3 #[.int .i64 z] w (RetB (.bool true) w) := by
  have HT := hid hT
  have C1 := hid c1
  have C2 := hid c2
  have C0 := hid (fun V => next_err z V h h0 h1)
  clear hT c1 c2
  have HZ := hid h
  clear h
  go_enter Tryd.func3, Tryd.ntmps3
  go_wp2_with fail
  refine (awake_any w HT.out).mono ?_
  rintro e V1 ⟨rfl, WW⟩
  go_wp2_with fail
  refine (C0.out V1).mono ?_
  rintro e V2 ⟨rfl, hb⟩
  replace WW := WW.trans (hb.mono WW.size)
  clear hb
  go_wp2_with fail
  refine (C1.out V2 (HT.out.below WW (Nat.le_refl _))).mono ?_
  rintro e V3 ⟨rfl, hb⟩
  replace WW := WW.trans (hb.mono WW.size)
  clear hb
  go_wp2_with fail
  refine (C2.out V3).mono ?_
  rintro e V4 ⟨rfl, hb⟩
  replace WW := WW.trans (hb.mono WW.size)
  clear hb
  have h := HZ.out
  by_cases hz : z < 0
  · have l1 : decide (z < 0) = true := decide_eq_true hz
    clear h
    go_wp2_with fail
    go_ret
    exact ⟨rfl, WW⟩
  · have l1 : decide (z < 0) = false := decide_eq_false hz
    have l2 : decide (z > 2305843009213693950) = true := by simp; omega
    clear h
    go_wp2_with fail
    go_ret
    exact ⟨rfl, WW⟩
set_option maxHeartbeats 4000000 in
set_option maxRecDepth 100000 in
theorem tests_ok (n : Nat) (w : World) (hn : n ≤ 2305843009213693950) (hT : Tabs w) : Calls Tryd.prog 3 #[.int .i64 ((n : Nat) : Int)] w (RetB (.bool true) w) := by
  have HT := hid hT
  clear hT
  go_enter Tryd.func3, Tryd.ntmps3
  go_wp2_with fail
  refine (awake_any w HT.out).mono ?_
  rintro e V1 ⟨rfl, WW⟩
  go_wp2_with fail
  refine (next_any n V1 hn (HT.out.below WW (Nat.le_refl _))).mono ?_
  rintro e V2 ⟨p, rfl, hp, hpb, hb⟩
  have HP := hid hp
  replace WW := WW.trans (hb.mono WW.size)
  clear hb hp
  go_wp2_with fail
  refine (is_any n V2 (by omega) (HT.out.below WW (Nat.le_refl _))).mono ?_
  rintro e V3 ⟨rfl, hb⟩
  replace WW := WW.trans (hb.mono WW.size)
  clear hb
  go_wp2_with fail
  refine (ris_any n V3 (by omega)).mono ?_
  rintro e V4 ⟨rfl, hb⟩
  replace WW := WW.trans (hb.mono WW.size)
  clear hb
  obtain ⟨b, hb⟩ : ∃ b, b = isB n := ⟨_, rfl⟩
  rw [← hb]
  clear hb
  have l1 : decide (((n : Nat) : Int) < 0) = false := by simp
  have l2 : decide (((n : Nat) : Int) > 2305843009213693950) = false := by simp; omega
  go_wp2_with fail
  refine (rnext_any n V4 hn).mono ?_
  rintro e V5 ⟨q, rfl, hq, hqb, hb⟩
  obtain rfl := HP.out.unique hq
  replace WW := WW.trans (hb.mono WW.size)
  clear hb hq
  go_wp2_with fail
  go_ret
  exact ⟨rfl, WW⟩
/-- For every int. -/
theorem tests_any (z : Int) (w : World) (h0 : -9223372036854775808 ≤ z) (h1 : z ≤ 9223372036854775807) (hT : Tabs w) : Calls Tryd.prog 3 #[.int .i64 z] w (RetB (.bool true) w) := by
  by_cases hz : z < 0
  · exact tests_walk z false w (.inl hz) h0 h1 hT (fun V _ => is_neg z V hz h0) (fun V => ris_neg z V hz h0)
  · obtain ⟨n, rfl⟩ : ∃ n : Nat, z = ((n : Nat) : Int) := ⟨z.toNat, by omega⟩
    by_cases hn : n ≤ 2305843009213693950
    · exact tests_ok n w hn hT
    · exact tests_walk _ (isB n) w (.inr (by omega)) h0 h1 hT (fun V hV => is_any n V (by omega) hV) (fun V => ris_any n V (by omega))
end Go.Proofs.YtomkmkjkeihodaaDoor
