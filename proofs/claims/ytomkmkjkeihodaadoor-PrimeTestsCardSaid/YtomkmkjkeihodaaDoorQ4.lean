/- The reference's Is, Next. -/
import Derived.Test.YtomkmkjkeihodaaDoorQ3
set_option linter.unusedVariables false
set_option linter.unusedSimpArgs false
namespace Go.Proofs.YtomkmkjkeihodaaDoor
open Go.RowKit

theorem big_of {n : Nat} (h2 : 2 ≤ n) (hN : ∀ i, i < 12 → n % wits.getD i 0 ≠ 0) : 37 < n ∧ n % 2 = 1 := by
  refine ⟨?_, ?_⟩
  · rcases Nat.lt_or_ge 37 n with h | h
    · exact h
    · exfalso
      have H : ∀ m : Fin 38, 2 ≤ m.1 → ∃ k : Fin 12, m.1 % wits.getD k.1 0 = 0 := by decide
      obtain ⟨k, hk⟩ := H ⟨n, by omega⟩ (by show 2 ≤ n; omega)
      exact hN k.1 k.2 hk
  · have := hN 0 (by decide)
    have e : wits.getD 0 0 = 2 := rfl
    rw [e] at this
    omega
set_option maxHeartbeats 4000000 in
set_option maxRecDepth 100000 in
theorem ris_any (n : Nat) (w : World) (hn : n ≤ 9223372036854775807) : Calls Tryd.prog 14 #[.int .i64 ((n : Nat) : Int)] w (RetB (.bool (isB n)) w) := by
  by_cases h2 : n < 2
  · have l1 : decide (((n : Nat) : Int) < 2) = true := by simp; omega
    have HB : Hid (isB n = false) := (show _ = _ by unfold isB; rw [decide_eq_false (by omega)]; rfl)
    go_enter Tryd.func14, Tryd.ntmps14
    go_wp2_with fail
    go_ret
    exact ⟨by rw [HB.out]; rfl, Below.refl _ _⟩
  have l1 : decide (((n : Nat) : Int) < 2) = false := by simp; omega
  have WW := Below.refl w.heap.size w
  go_enter Tryd.func14, Tryd.ntmps14
  go_wp2_with fail
  have bw := (Below.refl w.heap.size w).alloc (Nat.le_refl _) (.cells #[.int .i64 2, .int .i64 3, .int .i64 5, .int .i64 7, .int .i64 11, .int .i64 13, .int .i64 17, .int .i64 19, .int .i64 23, .int .i64 29, .int .i64 31, .int .i64 37] 3)
  have BS := Blk.new w 3 #[.int .i64 2, .int .i64 3, .int .i64 5, .int .i64 7, .int .i64 11, .int .i64 13, .int .i64 17, .int .i64 19, .int .i64 23, .int .i64 29, .int .i64 31, .int .i64 37]
  replace WW := WW.trans (bw.mono WW.size)
  clear bw
  generalize hV : w.alloc (.cells #[.int .i64 2, .int .i64 3, .int .i64 5, .int .i64 7, .int .i64 11, .int .i64 13, .int .i64 17, .int .i64 19, .int .i64 23, .int .i64 29, .int .i64 31, .int .i64 37] 3) = V1 at BS WW ⊢
  clear hV
  have zBS := BS.lt
  obtain ⟨gb, hgb⟩ : ∃ x, x = w.heap.size := ⟨_, rfl⟩
  rw [← hgb] at BS
  (try rw [← hgb])
  clear hgb
  obtain ⟨ad, had⟩ : ∃ ad : Addr, ad = ⟨gb, 0, none⟩ := ⟨_, rfl⟩
  rw [← had]
  have HAD := hid had
  clear had
  go_wp2_with fail
  go_loopw [4] (fun i wr => ∃ (k : Nat), k ≤ 12 ∧ i = .int .i64 ((k : Nat) : Int) ∧ Hid (∀ i, i < k → n % wits.getD i 0 ≠ 0) ∧ Below w.heap.size w wr ∧ Blk wr (gb) 3 #[.int .i64 2, .int .i64 3, .int .i64 5, .int .i64 7, .int .i64 11, .int .i64 13, .int .i64 17, .int .i64 19, .int .i64 23, .int .i64 29, .int .i64 31, .int .i64 37]) (fun i wr => 12 - (intOf i).toNat)
  case atStart => exact ⟨0, by decide, by go_num, (show ∀ i, i < 0 → _ from fun i h => absurd h (by omega)), WW, BS⟩
  case round =>
    clear WW  zBS BS
    obtain ⟨k, hk, rfl, HM, WW, BS⟩ := hrel
    have zBS := BS.lt
    by_cases hk12 : k < 12
    · have l2 : decide (((k : Nat) : Int) < 12) = true := by simp; omega
      have hk3 : ((k : Nat) : Int) < 12 := by omega
      obtain ⟨a, ha⟩ : ∃ a, a = wits.getD k 0 := ⟨_, rfl⟩
      obtain ⟨ha2, ha37⟩ := wit_bd hk12
      rw [← ha] at ha2 ha37
      have HA := hid ha
      clear ha
      have ck := wcell BS HAD hk12 HA
      obtain ⟨r, hr⟩ : ∃ r, r = n % a := ⟨_, rfl⟩
      have tr : Int.tmod ((n : Nat) : Int) ((a : Nat) : Int) = ((r : Nat) : Int) := by rw [hr]; rfl
      have hz : decide (((a : Nat) : Int) = 0) = false := by simp; omega
      have HR := hid hr
      clear hr
      by_cases hr0 : r = 0
      · have HB : Hid (isB n = (n == a)) := (show _ = _ by rw [isB_hit (by omega) hk12 HM.out (by rw [← HA.out, ← HR.out]; exact hr0), ← HA.out])
        have l4 : (((n : Nat) : Int) == ((a : Nat) : Int)) = (n == a) := by rw [Bool.eq_iff_iff]; simp; omega
        have l3 : (((r : Nat) : Int) == 0) = true := by rw [hr0]; rfl
        clear hr0
        go_wp2_with fail
        go_ret
        exact ⟨by rw [HB.out]; simp, WW⟩
      · have l3 : (((r : Nat) : Int) == 0) = false := by simp; omega
        have HR0 := hid hr0
        clear hr0
        go_wp2_with fail
        go_roundw
        case rel => exact ⟨k + 1, by omega, by go_num, (show ∀ i, i < k + 1 → _ by
          intro i hi
          rcases Nat.lt_or_ge i k with h | h
          · exact HM.out i h
          · obtain rfl : i = k := by omega
            rw [← HA.out, ← HR.out]; exact HR0.out), WW, BS⟩
        case measure => simp [intOf] <;> omega
    · have l2 : decide (((k : Nat) : Int) < 12) = false := by simp; omega
      have HM12 : ∀ i, i < 12 → n % wits.getD i 0 ≠ 0 := fun i hi => HM.out i (by omega)
      have HMR : Hid (isB n = wits.all (mrB n)) := (show _ = _ from isB_mr (by omega) HM12)
      obtain ⟨h37, hodd⟩ := big_of (by omega) HM12
      clear HM12
      have HODD := hid hodd
      clear hodd HM
      by_cases hbig : 2305843009213693952 ≤ n
      · have l5 : decide (((n : Nat) : Int) ≥ 2305843009213693952) = true := by simp; omega
        go_wp2_with fail
        have hbs : w.heap.size ≤ wr.heap.size := WW.size
        have hc := large_any n wr hbig hn HODD.out
        rw [← HMR.out] at hc
        refine hc.mono ?_
        clear hc
        rintro e V2 ⟨rfl, hb⟩
        clear  zBS
        replace BS := BS.below hb BS.lt
        replace WW := WW.trans (hb.mono WW.size)
        have zBS := BS.lt
        clear hb hbs
        go_wp2_with fail
        go_ret
        exact ⟨rfl, WW⟩
      · have l5 : decide (((n : Nat) : Int) ≥ 2305843009213693952) = false := by simp; omega
        have l6 : decide (2305843009213693952 ≤ n) = false := by simp; omega
        have hn2 : n ≤ 2305843009213693951 := by omega
        go_wp2_with fail
        clear l2 l5 l6 hk
        go_loopw [5] (fun i wr => ∃ (k : Nat), k ≤ 12 ∧ i = .int .i64 ((k : Nat) : Int) ∧ Hid (∀ i, i < k → mrB n (wits.getD i 0) = true) ∧ Below w.heap.size w wr ∧ Blk wr (gb) 3 #[.int .i64 2, .int .i64 3, .int .i64 5, .int .i64 7, .int .i64 11, .int .i64 13, .int .i64 17, .int .i64 19, .int .i64 23, .int .i64 29, .int .i64 31, .int .i64 37]) (fun i wr => 12 - (intOf i).toNat)
        case atStart => exact ⟨0, by decide, by go_num, (show ∀ i, i < 0 → _ from fun i h => absurd h (by omega)), WW, BS⟩
        case round =>
          clear WW  zBS BS
          obtain ⟨k, hk, rfl, HM, WW, BS⟩ := hrel
          have zBS := BS.lt
          by_cases hk12 : k < 12
          · have l2 : decide (((k : Nat) : Int) < 12) = true := by simp; omega
            have hk3 : ((k : Nat) : Int) < 12 := by omega
            obtain ⟨a, ha⟩ : ∃ a, a = wits.getD k 0 := ⟨_, rfl⟩
            obtain ⟨ha2, ha37⟩ := wit_bd hk12
            rw [← ha] at ha2 ha37
            have HA := hid ha
            clear ha
            have ck := wcell BS HAD hk12 HA
            go_wp2_with fail
            have hbs : w.heap.size ≤ wr.heap.size := WW.size
            have hc := strong_any n a wr (by omega) hn2 (by omega) HODD.out
            refine hc.mono ?_
            clear hc
            rintro e V2 ⟨rfl, hb⟩
            clear  zBS
            replace BS := BS.below hb BS.lt
            replace WW := WW.trans (hb.mono WW.size)
            have zBS := BS.lt
            clear hb hbs
            cases hb : mrB n a
            · have HB : Hid (isB n = false) := (show _ = _ by rw [HMR.out]; exact wits_no hk12 HA.out hb)
              clear hb ck
              go_wp2_with fail
              go_ret
              exact ⟨by rw [HB.out]; rfl, WW⟩
            · have HB := hid hb
              clear hb ck
              go_wp2_with fail
              go_roundw
              case rel => exact ⟨k + 1, by omega, by go_num, hid (wits_more HM.out HA.out HB.out), WW, BS⟩
              case measure => simp [intOf] <;> omega
          · have l2 : decide (((k : Nat) : Int) < 12) = false := by simp; omega
            have HB : Hid (isB n = true) := (show _ = _ by rw [HMR.out]; exact wits_all fun i hi => HM.out i (by omega))
            go_wp2_with fail
            go_ret
            exact ⟨by rw [HB.out]; rfl, WW⟩

set_option maxHeartbeats 4000000 in
set_option maxRecDepth 100000 in
theorem ris_neg (z : Int) (w : World) (h : z < 0) (h0 : -9223372036854775808 ≤ z) : Calls Tryd.prog 14 #[.int .i64 z] w (RetB (.bool false) w) := by
  have l1 : decide (z < 2) = true := by simp; omega
  go_enter Tryd.func14, Tryd.ntmps14
  go_wp2_with fail
  go_ret
  exact ⟨rfl, Below.refl _ _⟩
/-- What the reference's Next returns. -/
def RetN (n : Nat) (w : World) (e : Ending) (w' : World) : Prop := ∃ p : Nat, e = .returned (.int .i64 ((p : Nat) : Int)) ∧ NextIs n p ∧ p ≤ 2305843009213693951 ∧ Below w.heap.size w w'
set_option maxHeartbeats 4000000 in
set_option maxRecDepth 100000 in
theorem rnext_any (n : Nat) (w : World) (hn : n ≤ 2305843009213693950) :
    Calls Tryd.prog 15 #[.int .i64 ((n : Nat) : Int)] w (RetN n w) := by
  go_enter Tryd.func15, Tryd.ntmps15
  go_wp2_with fail
  go_loopw [0] (fun p wr => ∃ q : Nat, n < q ∧ q ≤ 2305843009213693951 ∧ p = .int .i64 ((q : Nat) : Int) ∧ Hid (∀ m, n < m → m < q → isB m = false) ∧ Below w.heap.size w wr) (fun p wr => 2305843009213693952 - (intOf p).toNat)
  case atStart => exact ⟨n + 1, by omega, by omega, by go_num, (show ∀ m, _ from fun m h1 h2 => by omega), Below.refl _ _⟩
  case round =>
    obtain ⟨q, hq1, hq2, rfl, HM, hWW⟩ := hrel
    have HC := hid (ris_any q wr (by omega))
    cases hb : isB q
    · rw [hb] at HC
      have hqt : q ≠ 2305843009213693951 := fun e => by rw [e, isB_top] at hb; cases hb
      have HB := hid hb
      clear hb
      go_wp2_with fail
      refine HC.out.mono ?_
      clear HC
      rintro e V1 ⟨rfl, hb⟩
      have HWW := hid (hWW.trans (hb.mono hWW.size))
      clear hb hWW
      go_wp2_with fail
      go_roundw
      case rel => exact ⟨q + 1, by omega, by omega, by go_num, (show ∀ m, _ from fun m h1 h2 => by
        rcases Nat.lt_or_ge m q with h | h
        · exact HM.out m h1 h
        · obtain rfl : m = q := by omega
          exact HB.out), HWW.out⟩
      case measure => simp [intOf] <;> omega
    · rw [hb] at HC
      have HB := hid hb
      clear hb
      go_wp2_with fail
      refine HC.out.mono ?_
      clear HC
      rintro e V1 ⟨rfl, hb⟩
      replace hWW := hWW.trans (hb.mono hWW.size)
      clear hb
      go_wp2_with fail
      exact bodyPost_ret (v := .int .i64 ((q : Nat) : Int)) (by simp [results, Tryd.results15, go_sem]) rfl ⟨q, rfl, ⟨hq1, HB.out, HM.out⟩, hq2, hWW⟩
end Go.Proofs.YtomkmkjkeihodaaDoor
