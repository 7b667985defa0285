/- equal: a number has the value of two words of 64 bits. -/
import Derived.Test.YtlhfaaghfhiaoaaLaw
set_option linter.unusedVariables false
set_option linter.unusedSimpArgs false
namespace Go.Proofs.Ytlhfaaghfhiaoaa
open Go.RowKit

theorem words_four (lo hi : Nat) (h1 : lo < 18446744073709551616) (h2 : hi < 18446744073709551616) :
    #[Value.int .u32 (((lo : Nat) : Int) % 4294967296), Value.int .u32 (((lo : Nat) : Int) / 4294967296), Value.int .u32 (((hi : Nat) : Int) % 4294967296), Value.int .u32 (((hi : Nat) : Int) / 4294967296)] = words 4 (lo + hi * 18446744073709551616) := by
  have e0 : dig (lo + hi * 18446744073709551616) 0 = lo % 4294967296 := by unfold dig; rw [show 2 ^ (32 * 0) = 1 from rfl]; omega
  have e1 : dig (lo + hi * 18446744073709551616) 1 = lo / 4294967296 := by unfold dig; rw [show 2 ^ (32 * 1) = 4294967296 from rfl]; omega
  have e2 : dig (lo + hi * 18446744073709551616) 2 = hi % 4294967296 := by unfold dig; rw [show 2 ^ (32 * 2) = 18446744073709551616 from rfl]; omega
  have e3 : dig (lo + hi * 18446744073709551616) 3 = hi / 4294967296 := by unfold dig; rw [show 2 ^ (32 * 3) = 79228162514264337593543950336 from rfl]; omega
  unfold words
  simp [List.range, List.range.loop, e0, e1, e2, e3]

theorem two_lt (lo hi : Nat) (h1 : lo < 18446744073709551616) (h2 : hi < 18446744073709551616) : lo + hi * 18446744073709551616 < 2 ^ (32 * 4) := by
  rw [show 2 ^ (32 * 4) = 340282366920938463463374607431768211456 from rfl]; omega

theorem equal_yes (A : Option Addr) (c a lo hi : Nat) (w : World) (hA : Num w w.heap.size A (nw a) a) (h1 : lo ≤ 18446744073709551615) (h2 : hi ≤ 18446744073709551615) (ha : a = lo + hi * 18446744073709551616) :
    Calls Try.prog 38 #[.agg #[.slice A (nw a) c], .int .u64 (lo : Int), .int .u64 (hi : Int)] w (RetB (.bool true) w) := by
  have HW4 := hid (words_four lo hi (by omega) (by omega))
  have hlt := two_lt lo hi (by omega) (by omega)
  rw [← ha] at hlt
  have hn4 : nw a ≤ 4 := nw_le hlt
  rw [← ha] at HW4
  have HLT := hid hlt
  clear ha hlt
  obtain ⟨b0, bw⟩ := boxes1 w (.slice A (nw a) c)
  have XA := Box.mk b0 hA bw
  have WW := bw
  clear b0 bw hA
  go_enter Try.func38, Try.ntmps38
  go_wp2_with fail
  rw [HW4.out]
  have bw := (Below.refl (w.alloc (.cells #[.slice A (nw a) c] 24)).heap.size _).alloc (Nat.le_refl _) (.cells (words 4 a) 62)
  have BW := Blk.new (w.alloc (.cells #[.slice A (nw a) c] 24)) 62 (words 4 a)
  replace XA := XA.below bw
  replace WW := WW.trans (bw.mono WW.size)
  have hs : (w.alloc (.cells #[.slice A (nw a) c] 24)).heap.size = w.heap.size + 1 := by simp
  rw [hs] at BW
  clear bw hs HW4
  generalize hV : (w.alloc (.cells #[.slice A (nw a) c] 24)).alloc (.cells (words 4 a) 62) = V at XA WW BW ⊢
  clear hV
  have kX := XA.cell
  have HX := hid XA.num
  have HB := hid BW
  have HWW := hid WW
  clear XA WW BW
  go_loopw [28] (fun i wr => ∃ k j : Nat, k ≤ 4 ∧ i = .int .i64 k ∧ wr = V.drewN j) (fun i _ => 4 - (intOf i).toNat)
  case atStart => exact ⟨0, 0, by omega, rfl, rfl⟩
  case round =>
    obtain ⟨k, j, hk, rfl, rfl⟩ := hrel
    by_cases hlt : k < 4
    · have c1 := (HB.out.cell k).trans (words_at hlt)
      have d1 := dig_lt a k
      by_cases hkn : k < nw a
      · obtain ⟨ad, rfl, ha1, ha2⟩ := HX.out.at_ hkn
        have h0 : (((dig a k : Nat) : Int) != ((dig a k : Nat) : Int)) = false := by simp
        go_wp2_with fail
        go_roundw
        case rel => exact ⟨k + 1, j, by omega, by go_num, rfl⟩
        case measure => simp [intOf]; omega
      · have hz : dig a k = 0 := dig_above (lt_nw a) (by omega)
        rw [hz] at c1
        clear d1
        go_wp2_with fail
        go_roundw
        case rel => exact ⟨k + 1, j, by omega, by go_num, rfl⟩
        case measure => simp [intOf]; omega
    · by_cases h0 : a = 0
      · have hz : ((nw a : Nat) : Int) = 0 := by rw [h0]; rfl
        clear h0
        go_wp2_with fail
        go_ret
        exact ⟨rfl, below_drewN HWW.out _⟩
      · have hp := nw_pos h0
        have hz : (((nw a : Nat) : Int) == 0) = false := by simp; omega
        have ht := dig_top h0
        have h1 : (((dig a (nw a - 1) : Nat) : Int) != 0) = true := by rw [bne_iff_ne]; omega
        obtain ⟨ad, rfl, ha1, ha2⟩ := HX.out.at_ (i := nw a - 1) (by omega)
        have g1 : IntKind.i64.wrap ((nw a : Int) - 1) = (nw a : Int) - 1 := IntWalk.i64_in _ (by omega)
        clear h0 ht
        go_wp2_with fail
        go_ret
        exact ⟨rfl, below_drewN HWW.out _⟩

theorem equal_yes0 (A : Option Addr) (c a lo : Nat) (w : World) (hA : Num w w.heap.size A (nw a) a) (h1 : lo ≤ 18446744073709551615) (ha : a = lo) :
    Calls Try.prog 38 #[.agg #[.slice A (nw a) c], .int .u64 (lo : Int), .int .u64 0] w (RetB (.bool true) w) :=
  equal_yes A c a lo 0 w hA h1 (by omega) (by omega)

theorem Box.drew {V : World} {g n c a : Nat} {A : Option Addr} (h : Box V g A n c a) : Box V.drew g A n c a := ⟨h.1, h.2⟩
theorem Box.drewN {V : World} {g n c a : Nat} {A : Option Addr} (h : Box V g A n c a) (k : Nat) : Box (V.drewN k) g A n c a := ⟨h.1, h.2⟩

end Go.Proofs.Ytlhfaaghfhiaoaa
