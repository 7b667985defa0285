/- NaturalShifts: the walk. -/
import Derived.Test.YtlhfaaghfhiaoaaLShiftsZ
import Derived.Test.YtlhfaaghfhiaoaaLShiftsB
set_option linter.unusedVariables false
set_option linter.unusedSimpArgs false
namespace Go.Proofs.Ytlhfaaghfhiaoaa
open Go.RowKit

set_option maxHeartbeats 8000000 in
set_option maxRecDepth 100000 in
theorem naturalShifts_walk (A : Option Addr) (n c a : Nat) (x y : Int) (w : World) (hA : Num w w.heap.size A n a) (hn : n ≤ 9223372036854775807) (hx : 0 ≤ x ∧ x ≤ 65535) (hy : 0 ≤ y ∧ y ≤ 65535) :
    Calls Try.prog 8 #[.agg #[.slice A n c], .int .u16 x, .int .u16 y] w (RetB (.bool true) w) := by
  by_cases hg : 100 < n
  · have HG := hid (decide_eq_true hg)
    clear hg
    obtain ⟨b0, bw⟩ := boxes1 w (.slice A n c)
    have XA := Box.mk b0 hA bw
    have WW := bw
    clear bw b0
    go_enter Try.func8, Try.ntmps8
    go_wp2_with fail
    generalize hV : (w.alloc (.cells #[.slice A n c] 24)) = V0 at XA WW ⊢
    clear hV
    have hc := awake_any V0
    refine hc.mono ?_
    clear hc
    rintro e V1 ⟨rfl, hb⟩
    replace XA := XA.below hb
    replace WW := WW.trans (hb.mono WW.size)
    have kXA := XA.cell
    have zXA := XA.lt
    clear hb
    go_wp2_with fail
    have hc := great_1 V1 A _ c hn
    rw [HG.out] at hc
    refine hc.mono ?_
    clear hc
    rintro e V2 ⟨rfl, hb⟩
    clear kXA zXA
    replace XA := XA.below hb
    replace WW := WW.trans (hb.mono WW.size)
    have kXA := XA.cell
    have zXA := XA.lt
    clear hb
    go_wp2_with fail
    go_ret
    exact ⟨rfl, WW⟩
  · have HG := hid (decide_eq_false hg)
    clear hg
    cases h1 : okB n a
    · have H1 := hid h1
      clear h1
      obtain ⟨b0, bw⟩ := boxes1 w (.slice A n c)
      have XA := Box.mk b0 hA bw
      have WW := bw
      clear bw b0
      go_enter Try.func8, Try.ntmps8
      go_wp2_with fail
      generalize hV : (w.alloc (.cells #[.slice A n c] 24)) = V0 at XA WW ⊢
      clear hV
      have hc := awake_any V0
      refine hc.mono ?_
      clear hc
      rintro e V1 ⟨rfl, hb⟩
      replace XA := XA.below hb
      replace WW := WW.trans (hb.mono WW.size)
      have kXA := XA.cell
      have zXA := XA.lt
      clear hb
      go_wp2_with fail
      have hc := great_1 V1 A _ c hn
      rw [HG.out] at hc
      refine hc.mono ?_
      clear hc
      rintro e V2 ⟨rfl, hb⟩
      clear kXA zXA
      replace XA := XA.below hb
      replace WW := WW.trans (hb.mono WW.size)
      have kXA := XA.cell
      have zXA := XA.lt
      clear hb
      go_wp2_with fail
      have hc := rvalid_any A _ c a _ V2 XA.num (Nat.le_refl _) hn
      rw [H1.out] at hc
      refine hc.mono ?_
      clear hc
      rintro e V3 ⟨rfl, hb⟩
      clear kXA zXA
      replace XA := XA.below hb
      replace WW := WW.trans (hb.mono WW.size)
      have kXA := XA.cell
      have zXA := XA.lt
      clear hb
      go_wp2_with fail
      go_ret
      exact ⟨rfl, WW⟩
    · obtain ⟨hna, hn1⟩ := okB_yes.1 h1
      subst hna
      have H1 := hid h1
      clear h1
      obtain ⟨xn, rfl⟩ := Int.eq_ofNat_of_zero_le hx.1
      obtain ⟨i, rfl⟩ := Int.eq_ofNat_of_zero_le hy.1
      obtain ⟨k, hk⟩ : ∃ k : Nat, ((xn : Nat) : Int) % 2100 = (k : Int) := ⟨xn % 2100, by omega⟩
      have hk1 : k < 2100 := by omega
      by_cases ha0 : a = 0
      · exact shifts_Z A c a xn i k w hA hn1 HG H1 (by omega) (by omega) hk hk1 ha0
      · exact shifts_B A c a xn i k w hA hn1 HG H1 (by omega) (by omega) hk hk1 ha0

end Go.Proofs.Ytlhfaaghfhiaoaa
