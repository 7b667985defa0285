/- P1, P2, P3, P4: merged. -/
import Derived.Test.YtomkmkjkeihodaaDoorNpow
import Derived.Test.YtomkmkjkeihodaaDoorTop3
import Derived.Test.YtomkmkjkeihodaaDoorWA
import Derived.Shelf.Spec.TrailingZeros
set_option linter.unusedVariables false
set_option linter.unusedSimpArgs false
namespace Go.Proofs.YtomkmkjkeihodaaDoor
open Go.RowKit

theorem RetB.of_ret {v : Value} {w : World} {e : Ending} {w' : World} (h : Ret v w e w') : RetB v w e w' := by
  obtain ⟨h1, n, rfl⟩ := h
  exact ⟨h1, below_drewN (Below.refl _ _) n⟩
theorem nw_i63 {a : Nat} (h : a ≤ 9223372036854775807) : nw a ≤ 64 := Nat.le_trans (nw_mono h) (by decide)
theorem bl_i63 {a : Nat} (h : a ≤ 9223372036854775807) : bl a ≤ 63 := bl_le (by show a < 9223372036854775808; omega)
theorem intS_small {a : Nat} (h : a ≤ 9223372036854775807) : intS (nw a) a = ((a : Int), 0) := intS_ok (okB_yes.2 ⟨rfl, nw_i63 h⟩) (bl_i63 h)
theorem powV_small {a e m : Nat} (h0 : 0 < m) (ha : a < m) (hm : m ≤ 9223372036854775807) (he : e ≤ 9223372036854775807) : powV (nw a) a (nw e) e (nw m) m = (a ^ e % m, 0) := by
  have h1 : modB (nw m) m = true := by
    have h2 := nw_pos (a := m) (by omega)
    have h3 : nw m ≤ 32 := Nat.le_trans (nw_mono hm) (by decide)
    unfold modB
    rw [okB_yes.2 ⟨rfl, nw_i63 hm⟩]
    simp
    omega
  have h2 : chkS (nw a) a 0 0 (nw m) m = 0 := by
    unfold chkS
    rw [okB_yes.2 ⟨rfl, nw_i63 (a := a) (by omega)⟩, h1, show okB 0 0 = true from by decide]
    simp [ha, h0]
  rw [powV_yes (okB_yes.2 ⟨rfl, nw_i63 he⟩), h2, modS_ok]
set_option maxHeartbeats 4000000 in
theorem pnum_any (x : Nat) (w : World) (hx : x ≤ 9223372036854775807) :
    Calls Tryd.prog 41 #[.int .i64 ((x : Nat) : Int)] w (RetNat w.heap.size x w) := by
  obtain ⟨b0, bw⟩ := boxes1 w (.slice none 0 0)
  have XR := VB.mk (B := w.heap.size) (a := 0) b0 (.inr (Own.nil _ _ _ _ (Nat.zero_le _))) bw (Nat.le_refl _) (by omega)
  have WW := bw
  clear bw b0
  go_enter Tryd.func41, Tryd.ntmps41
  go_wp2_with fail
  generalize hV : (w.alloc (.cells #[.slice none 0 0] 37)) = V0 at XR WW ⊢
  clear hV
  have hbs : w.heap.size ≤ V0.heap.size := WW.size
  have hc := (show Calls Tryd.prog 62 #[.int .i64 ((x : Nat) : Int)] V0 (RetTwo V0.heap.size x 0 V0) by have h := of_any ((x : Nat) : Int) V0 (by omega) (by omega); rw [ofS_nat] at h; exact h)
  refine hc.mono ?_
  clear hc
  rintro e V1 ⟨v, rfl, hv, hb⟩
  replace XR := XR.below hb
  replace WW := WW.trans (hb.mono WW.size)
  obtain ⟨D1, d1, rfl, ho⟩ := hv
  have O1 := ho.weak (b := w.heap.size) hbs
  clear ho
  have kXR := XR.cell
  have zXR := XR.lt
  clear hb hbs
  have fXR := XR.1.frozen 0
  go_wp2_with fail
  have hw2 := WW.setCell (p := ⟨w.heap.size, 0, none⟩) (by simp) (.slice D1 (nw x) d1)
  have g1 := (XR.1.set_ 0 (.slice D1 (nw x) d1)).alloc (.cells #[.slice D1 (nw x) d1] 37)
  have hk := (g1.cell 0).trans rfl
  have hz := g1.lt
  have ho := (O1.box (p := ⟨w.heap.size, 0, none⟩) XR.1 (by decide) (.slice D1 (nw x) d1)).alloc (.cells #[.slice D1 (nw x) d1] 37)
  exact bodyPost_ret (v := .agg #[.slice D1 (nw x) d1]) (by simp [results, Tryd.results41, go_sem, hk]) rfl ⟨_, rfl, ⟨D1, d1, rfl, ho⟩, hw2.alloc hw2.size _⟩

set_option maxHeartbeats 4000000 in
set_option maxRecDepth 100000 in
theorem ppower_any (a e m : Nat) (w : World) (h0 : 0 < m) (ha : a < m) (hm : m ≤ 9223372036854775807) (he : e ≤ 9223372036854775807) :
    Calls Tryd.prog 55 #[.int .i64 ((a : Nat) : Int), .int .i64 ((e : Nat) : Int), .int .i64 ((m : Nat) : Int)] w (RetB (.int .i64 ((a ^ e % m : Nat) : Int)) w) := by
  have hr1 : a ^ e % m < m := Nat.mod_lt _ h0
  obtain ⟨r, hr⟩ : ∃ r, r = a ^ e % m := ⟨_, rfl⟩
  rw [← hr] at hr1 ⊢
  have HR := hid hr
  clear hr
  by_cases hw : m < 2305843009213693952
  · have hc : Calls Tryd.prog 71 #[.int .i64 ((a : Nat) : Int), .int .i64 ((e : Nat) : Int), .int .i64 ((m : Nat) : Int)] w (Ret (.tuple #[.int .i64 ((r : Nat) : Int), .int .i64 0]) w) := by
      have h := Wd.pow_ok ((a : Nat) : Int) ((e : Nat) : Int) ((m : Nat) : Int) w (by omega) (by omega) (by omega) (by omega) (by omega) (by omega)
      have e1 : ((a : Nat) : Int) ^ (((e : Nat) : Int)).toNat % ((m : Nat) : Int) = ((r : Nat) : Int) := by rw [HR.out, Int.toNat_natCast, Int.natCast_emod, Int.natCast_pow]
      rw [e1] at h
      exact h
    have HC := hid hc
    clear hc
    have l1 : decide (((m : Nat) : Int) < 2305843009213693952) = true := by simp; omega
    go_enter Tryd.func55, Tryd.ntmps55
    go_wp2_with fail
    refine HC.out.mono ?_
    clear HC
    rintro e w' ⟨rfl, n, rfl⟩
    go_wp2_with fail
    go_ret
    exact ⟨rfl, below_drewN (Below.refl _ _) n⟩
  · have l1 : decide (((m : Nat) : Int) < 2305843009213693952) = false := by simp; omega
    have WW := Below.refl w.heap.size w
    go_enter Tryd.func55, Tryd.ntmps55
    go_wp2_with fail
    obtain ⟨V0, hV⟩ : ∃ V, V = w := ⟨_, rfl⟩
    rw [← hV]
    replace WW : Below w.heap.size w V0 := by rw [hV]; exact WW
    clear hV
    have hbs : w.heap.size ≤ V0.heap.size := WW.size
    have hc := pnum_any a V0 (by omega)
    refine hc.mono ?_
    clear hc
    rintro e V1 ⟨v, rfl, hv, hb⟩
    replace WW := WW.trans (hb.mono WW.size)
    obtain ⟨D1, d1, rfl, ho⟩ := hv
    have O1 := ho.weak (b := w.heap.size) hbs
    clear ho
    clear hb hbs
    go_wp2_with fail
    have hbs : w.heap.size ≤ V1.heap.size := WW.size
    have hc := pnum_any e V1 (by omega)
    refine hc.mono ?_
    clear hc
    rintro e V2 ⟨v, rfl, hv, hb⟩
    replace O1 := O1.below hb (Nat.le_refl _)
    replace WW := WW.trans (hb.mono WW.size)
    obtain ⟨D2, d2, rfl, ho⟩ := hv
    have O2 := ho.weak (b := w.heap.size) hbs
    clear ho
    clear hb hbs
    go_wp2_with fail
    have hbs : w.heap.size ≤ V2.heap.size := WW.size
    have hc := pnum_any m V2 (by omega)
    refine hc.mono ?_
    clear hc
    rintro e V3 ⟨v, rfl, hv, hb⟩
    replace O1 := O1.below hb (Nat.le_refl _)
    replace O2 := O2.below hb (Nat.le_refl _)
    replace WW := WW.trans (hb.mono WW.size)
    obtain ⟨D3, d3, rfl, ho⟩ := hv
    have O3 := ho.weak (b := w.heap.size) hbs
    clear ho
    clear hb hbs
    go_wp2_with fail
    have hbs : w.heap.size ≤ V3.heap.size := WW.size
    have hc := (show Calls Tryd.prog 72 #[.agg #[.slice D1 (nw a) d1], .agg #[.slice D2 (nw e) d2], .agg #[.slice D3 (nw m) d3]] V3 (RetTwo V3.heap.size r 0 V3) by have h := npow_any D1 D2 D3 _ _ _ d1 d2 d3 a e m V3 (O1.num.more (Nat.le_refl _)) (O2.num.more (Nat.le_refl _)) (O3.num.more (Nat.le_refl _)) (by have := nw_i63 (a := a) (by omega); omega) (by have := nw_i63 (a := e) (by omega); omega) (by have := nw_i63 (a := m) (by omega); omega); rw [powV_small h0 ha hm he, ← HR.out] at h; exact h)
    refine hc.mono ?_
    clear hc
    rintro e V4 ⟨v, rfl, hv, hb⟩
    replace O1 := O1.below hb (Nat.le_refl _)
    replace O2 := O2.below hb (Nat.le_refl _)
    replace O3 := O3.below hb (Nat.le_refl _)
    replace WW := WW.trans (hb.mono WW.size)
    obtain ⟨D4, d4, rfl, ho⟩ := hv
    have O4 := ho.weak (b := w.heap.size) hbs
    clear ho
    clear hb hbs
    go_wp2_with fail
    obtain ⟨b0, bw⟩ := boxes1 V4 (.slice D4 (nw r) d4)
    have hbs := WW.size
    have XP := VB.mk (B := w.heap.size) (a := r) b0 (.inr O4) bw hbs (by omega)
    replace O1 := O1.below bw (Nat.le_refl _)
    replace O2 := O2.below bw (Nat.le_refl _)
    replace O3 := O3.below bw (Nat.le_refl _)
    replace O4 := O4.below bw (Nat.le_refl _)
    replace WW := WW.trans (bw.mono WW.size)
    clear bw hbs b0
    generalize hV : (V4.alloc (.cells #[.slice D4 (nw r) d4] 37)) = V5 at XP O1 O2 O3 O4 WW ⊢
    clear hV
    have kXP := XP.cell
    have zXP := XP.lt
    have hbs : w.heap.size ≤ V5.heap.size := WW.size
    have hc := (show Calls Tryd.prog 29 #[.agg #[.slice D4 (nw r) d4]] V5 (RetII ((r : Nat) : Int) 0 V5) by have h := int_any D4 (nw r) d4 r V5 XP.num (by have := nw_i63 (a := r) (by omega); omega); rw [intS_small (by omega)] at h; exact h)
    refine hc.mono ?_
    clear hc
    rintro e V6 ⟨rfl, hb⟩
    clear kXP zXP
    replace XP := XP.below hb
    replace O1 := O1.below hb (Nat.le_refl _)
    replace O2 := O2.below hb (Nat.le_refl _)
    replace O3 := O3.below hb (Nat.le_refl _)
    replace O4 := O4.below hb (Nat.le_refl _)
    replace WW := WW.trans (hb.mono WW.size)
    have kXP := XP.cell
    have zXP := XP.lt
    clear hb hbs
    go_wp2_with fail
    go_ret
    exact ⟨rfl, WW⟩

end Go.Proofs.YtomkmkjkeihodaaDoor

namespace Go.Proofs.YtomkmkjkeihodaaDoor
open Go.RowKit

/-- The library's table of trailing zeros, and the program's witnesses, lie in their variables. -/
def Tab (w : World) : Prop := ∀ j, j < 64 → w.cell? ⟨1, j, none⟩ = some (.int .u8 (Lib.deBruijn64tab.getD j 0))
def wits : List Nat := [2, 3, 5, 7, 11, 13, 17, 19, 23, 29, 31, 37]
def Wit (w : World) : Prop := ∀ j, j < 12 → w.cell? ⟨0, j, none⟩ = some (.int .i64 ((wits.getD j 0 : Nat) : Int))
def Tabs (w : World) : Prop := Tab w ∧ Wit w
theorem Tabs.below {w w' : World} {B : Nat} (h : Tabs w) (hb : Below B w w') (hB : w.heap.size ≤ B) : Tabs w' := by
  have h1 := World.block_lt_of_cell? w ⟨1, 0, none⟩ (h.1 0 (by decide))
  have h2 := World.block_lt_of_cell? w ⟨0, 0, none⟩ (h.2 0 (by decide))
  exact ⟨fun j hj => (hb.cell (p := ⟨1, j, none⟩) (Nat.lt_of_lt_of_le h1 hB)).trans (h.1 j hj), fun j hj => (hb.cell (p := ⟨0, j, none⟩) (Nat.lt_of_lt_of_le h2 hB)).trans (h.2 j hj)⟩

theorem tz_core (x k idx : Nat) (w : World) (hx0 : ((x : Int) == 0) = false)
    (key : IntKind.u64.wrap (bits BinOp.and IntKind.u64 (x : Int) (IntKind.u64.wrap (-(x : Int))) * 285870213051353865) / 288230376151711744 = (idx : Int))
    (hi : idx < 64) (hk : k < 64) (hcell : w.cell? ⟨1, idx, none⟩ = some (.int .u8 k)) :
    Calls Tryd.prog 54 #[.int .u64 x] w (Ret (.int .i64 k) w) := by
  go_enter Tryd.func54, Tryd.ntmps54
  go_wp2_with (simp only [key])
  go_ret
  exact ⟨rfl, 0, rfl⟩

/-- The number of twos. -/
theorem tz_any (x : Nat) (w : World) (h0 : 0 < x) (h1 : x < 18446744073709551616) (hT : Tab w) :
    Calls Tryd.prog 54 #[.int .u64 x] w (Ret (.int .i64 (Lib.ctz 64 x)) w) := by
  obtain ⟨hlow, hk⟩ := Lib.lowest_bit 64 x (by omega) h1
  obtain ⟨hi, htab⟩ := Lib.deBruijn64_at _ hk
  have hcell := hT _ hi
  rw [htab] at hcell
  exact tz_core x _ _ w (by simp; omega) (tz64_key x _ h1 (by omega) hlow) hi hk hcell
theorem ctz_spec (x : Nat) (h0 : 0 < x) (h1 : x < 18446744073709551616) : ∃ o : Nat, x = 2 ^ Lib.ctz 64 x * o ∧ o % 2 = 1 ∧ Lib.ctz 64 x < 64 := by
  obtain ⟨m, hm, hk⟩ := Lib.ctzFrom_spec 64 x h0 h1
  have e : Lib.ctz 64 x = Lib.ctzFrom 64 x := by simp [Lib.ctz]; omega
  rw [e]
  exact ⟨2 * m + 1, hm, by omega, hk⟩

/-- The test of Miller and Rabin. -/
def mrB (n a : Nat) : Bool := (a ^ ((n - 1) / 2 ^ Lib.ctz 64 (n - 1)) % n == 1) || (List.range (Lib.ctz 64 (n - 1))).any fun i => a ^ ((n - 1) / 2 ^ Lib.ctz 64 (n - 1) * 2 ^ i) % n == n - 1
set_option maxHeartbeats 4000000 in
set_option maxRecDepth 100000 in
theorem passes_any (n a : Nat) (w : World) (h3 : 3 ≤ n) (hn : n ≤ 9223372036854775807) (ha : a < n) (hT : Tab w) :
    Calls Tryd.prog 34 #[.int .i64 ((n : Nat) : Int), .int .i64 ((a : Nat) : Int)] w (RetB (.bool (mrB n a)) w) := by
  obtain ⟨s, hs⟩ : ∃ s, s = Lib.ctz 64 (n - 1) := ⟨_, rfl⟩
  obtain ⟨o, ho, _, hs64⟩ := ctz_spec (n - 1) (by omega) (by omega)
  rw [← hs] at ho hs64
  obtain ⟨d, hd⟩ : ∃ d, d = (n - 1) / 2 ^ s := ⟨_, rfl⟩
  have hMR : mrB n a = ((a ^ d % n == 1) || (List.range s).any fun i => a ^ (d * 2 ^ i) % n == n - 1) := by unfold mrB; rw [← hs, ← hd]
  have HMR := hid hMR
  have hdn : d ≤ n - 1 := by rw [hd]; exact Nat.div_le_self _ _
  have HTZ := hid (tz_any (n - 1) w (by omega) (by omega) hT)
  rw [← hs] at HTZ
  have e1 : (((n - 1 : Nat)) : Int) = ((n : Nat) : Int) - 1 := by omega
  have HD : Hid ((((n : Nat) : Int) - 1) / 2 ^ s = ((d : Nat) : Int)) := (show _ = _ by rw [hd, ← e1]; simp)
  clear hMR hs ho hd hT
  rw [e1] at HTZ
  clear e1
  go_enter Tryd.func34, Tryd.ntmps34
  go_wp2_with fail
  refine HTZ.out.mono ?_
  clear HTZ
  rintro e w' ⟨rfl, n1, rfl⟩
  have hD := HD.out
  go_wp2_with fail
  clear hD
  have hWW : Below w.heap.size w (w.drewN n1) := below_drewN (Below.refl _ _) n1
  have hc := ppower_any a d n (w.drewN n1) (by omega) ha hn (by omega)
  obtain ⟨x0, hx0⟩ : ∃ x, x = a ^ d % n := ⟨_, rfl⟩
  have hx0n : x0 < n := by rw [hx0]; exact Nat.mod_lt _ (by omega)
  rw [← hx0] at hc
  have HX0 := hid hx0
  clear hx0
  refine hc.mono ?_
  clear hc
  rintro e V1 ⟨rfl, hb⟩
  replace hWW := hWW.trans (hb.mono hWW.size)
  clear hb
  by_cases h1 : x0 = 1
  · have HB : Hid (mrB n a = true) := (show _ = _ by rw [HMR.out, ← HX0.out, h1]; rfl)
    have l1 : (((x0 : Nat) : Int) == 1) = true := by rw [h1]; rfl
    clear h1
    go_wp2_with fail
    go_ret
    exact ⟨by rw [HB.out]; rfl, hWW⟩
  · have HB : Hid (mrB n a = (List.range s).any fun i => a ^ (d * 2 ^ i) % n == n - 1) := (show _ = _ by rw [HMR.out, ← HX0.out, beq_false_of_ne h1, Bool.false_or])
    have l1 : (((x0 : Nat) : Int) == 1) = false := by simp; omega
    clear h1 HMR
    go_wp2_with fail
    go_loopw [6, 21] (fun x i wr => ∃ k y : Nat, k ≤ s ∧ i = .int .i64 ((k : Nat) : Int) ∧ x = .int .i64 ((y : Nat) : Int) ∧ y < n ∧ Hid (y = a ^ (d * 2 ^ k) % n) ∧ Hid (∀ i, i < k → a ^ (d * 2 ^ i) % n ≠ n - 1) ∧ Below w.heap.size w wr) (fun x i wr => s - (intOf i).toNat)
    case atStart => exact ⟨0, x0, Nat.zero_le _, by go_num, rfl, hx0n, (show x0 = _ by rw [HX0.out]; simp), (show ∀ i, i < 0 → _ from fun i h => absurd h (by omega)), hWW⟩
    case round =>
      clear hWW
      obtain ⟨k, y, hk, rfl, rfl, hyn, HY, HN, hWW⟩ := hrel
      by_cases hks : k < s
      · have l2 : decide (((k : Nat) : Int) < ((s : Nat) : Int)) = true := by simpa using hks
        by_cases hy : y = n - 1
        · have l3 : (((y : Nat) : Int) == ((n : Nat) : Int) - 1) = true := by simp; omega
          have HT : Hid (mrB n a = true) := (show _ = _ by rw [HB.out, List.any_eq_true]; exact ⟨k, List.mem_range.2 hks, by rw [← HY.out, hy]; simp⟩)
          clear hy
          go_wp2_with fail
          go_ret
          exact ⟨by rw [HT.out]; rfl, hWW⟩
        · have l3 : (((y : Nat) : Int) == ((n : Nat) : Int) - 1) = false := by simp; omega
          have hc := ppower_any y 2 n wr (by omega) hyn hn (by omega)
          obtain ⟨z, hz⟩ : ∃ z, z = y ^ 2 % n := ⟨_, rfl⟩
          have hzn : z < n := by rw [hz]; exact Nat.mod_lt _ (by omega)
          rw [← hz] at hc
          have HZ : Hid (z = a ^ (d * 2 ^ (k + 1)) % n) := (show _ = _ by rw [hz, HY.out, ← Nat.pow_mod, ← Nat.pow_mul, Nat.mul_assoc, ← Nat.pow_succ])
          have HYN := hid hy
          have HC := hid hc
          clear hz hc hy
          go_wp2_with fail
          refine HC.out.mono ?_
          clear HC
          rintro e V2 ⟨rfl, hb⟩
          have HWW := hid (hWW.trans (hb.mono hWW.size))
          clear hb hWW
          go_wp2_with fail
          go_roundw
          case rel => exact ⟨k + 1, z, by omega, by go_num, rfl, hzn, HZ, (show ∀ i, i < k + 1 → _ by
            intro i hi
            rcases Nat.lt_or_ge i k with h | h
            · exact HN.out i h
            · obtain rfl : i = k := by omega
              rw [← HY.out]; exact HYN.out), HWW.out⟩
          case measure => simp [intOf] <;> omega
      · obtain rfl : k = s := by omega
        have l2 : decide (((k : Nat) : Int) < ((k : Nat) : Int)) = false := by simp
        have HT : Hid (mrB n a = false) := (show _ = _ by
          rw [HB.out, List.any_eq_false]
          intro i hi
          have := HN.out i (List.mem_range.1 hi)
          simpa using this)
        go_wp2_with fail
        go_ret
        exact ⟨by rw [HT.out]; rfl, hWW⟩
end Go.Proofs.YtomkmkjkeihodaaDoor

namespace Go.Proofs.YtomkmkjkeihodaaDoor
open Go.RowKit

/-- Is a number a prime, as the program says it. -/
def isB (n : Nat) : Bool := decide (2 ≤ n) && (match wits.find? (fun a => n % a == 0) with | some a => n == a | none => wits.all (mrB n))
set_option maxRecDepth 100000 in
theorem index_wit (k : Nat) (hk : k < 12) (w : World) : (Instr.index 61 (.agg #[.int .i64 2, .int .i64 3, .int .i64 5, .int .i64 7, .int .i64 11, .int .i64 13, .int .i64 17, .int .i64 19, .int .i64 23, .int .i64 29, .int .i64 31, .int .i64 37]) (.int .i64 ((k : Nat) : Int))).run Tryd.prog w = .ok (.int .i64 ((wits.getD k 0 : Nat) : Int)) w := by
  obtain rfl | rfl | rfl | rfl | rfl | rfl | rfl | rfl | rfl | rfl | rfl | rfl : k = 0 ∨ k = 1 ∨ k = 2 ∨ k = 3 ∨ k = 4 ∨ k = 5 ∨ k = 6 ∨ k = 7 ∨ k = 8 ∨ k = 9 ∨ k = 10 ∨ k = 11 := by omega
  all_goals rfl
theorem rem_yes {n a : Nat} (h : n % a = 0) : ((((n : Nat) : Int) % ((a : Nat) : Int)) == 0) = true := by rw [← Int.natCast_emod, h]; rfl
theorem rem_no {n a : Nat} (h : ¬ n % a = 0) : ((((n : Nat) : Int) % ((a : Nat) : Int)) == 0) = false := by rw [← Int.natCast_emod]; simp; omega
theorem wit_bd {k : Nat} (hk : k < 12) : 2 ≤ wits.getD k 0 ∧ wits.getD k 0 ≤ 37 := by
  have H : ∀ k : Fin 12, 2 ≤ wits.getD k.1 0 ∧ wits.getD k.1 0 ≤ 37 := by decide
  exact H ⟨k, hk⟩
theorem wit_mem {a : Nat} (h : a ∈ wits) : ∃ k, k < 12 ∧ wits.getD k 0 = a := by
  obtain ⟨k, hk, e⟩ := List.getElem_of_mem h
  exact ⟨k, hk, by rw [List.getD_eq_getElem?_getD, List.getElem?_eq_getElem hk, e]; rfl⟩
theorem find_first {p : Nat → Bool} : ∀ (l : List Nat) (k : Nat) (hk : k < l.length), (∀ i, i < k → p (l.getD i 0) = false) → p (l.getD k 0) = true → l.find? p = some (l.getD k 0)
  | [], k, hk, _, _ => absurd hk (by simp)
  | x :: l, 0, hk, _, h => by simp at h ⊢; exact .inl h
  | x :: l, k + 1, hk, hn, h => by
    have h0 := hn 0 (by omega)
    simp at h0
    rw [List.find?_cons, h0]
    have := find_first l k (by simpa using hk) (fun i hi => by have := hn (i + 1) (by omega); simpa using this) (by simpa using h)
    simpa using this
theorem isB_hit {n k : Nat} (h2 : 2 ≤ n) (hk : k < 12) (hN : ∀ i, i < k → n % wits.getD i 0 ≠ 0) (h : n % wits.getD k 0 = 0) : isB n = (n == wits.getD k 0) := by
  unfold isB
  rw [find_first wits k hk (fun i hi => by simpa using hN i hi) (by simpa using h)]
  simp [h2]
theorem isB_mr {n : Nat} (h2 : 2 ≤ n) (hN : ∀ i, i < 12 → n % wits.getD i 0 ≠ 0) : isB n = wits.all (mrB n) := by
  have e : wits.find? (fun a => n % a == 0) = none := by
    rw [List.find?_eq_none]
    intro a ha
    obtain ⟨k, hk, rfl⟩ := wit_mem ha
    simpa using hN k hk
  unfold isB
  rw [e]
  simp [h2]
set_option maxHeartbeats 4000000 in
set_option maxRecDepth 100000 in
theorem is_any (n : Nat) (w : World) (hn : n ≤ 9223372036854775807) (hT : Tabs w) :
    Calls Tryd.prog 13 #[.int .i64 ((n : Nat) : Int)] w (RetB (.bool (isB n)) w) := by
  have q0 : w.cell? ⟨0, 0, none⟩ = some (.int .i64 2) := hT.2 0 (by decide)
  have q1 : w.cell? ⟨0, 1, none⟩ = some (.int .i64 3) := hT.2 1 (by decide)
  have q2 : w.cell? ⟨0, 2, none⟩ = some (.int .i64 5) := hT.2 2 (by decide)
  have q3 : w.cell? ⟨0, 3, none⟩ = some (.int .i64 7) := hT.2 3 (by decide)
  have q4 : w.cell? ⟨0, 4, none⟩ = some (.int .i64 11) := hT.2 4 (by decide)
  have q5 : w.cell? ⟨0, 5, none⟩ = some (.int .i64 13) := hT.2 5 (by decide)
  have q6 : w.cell? ⟨0, 6, none⟩ = some (.int .i64 17) := hT.2 6 (by decide)
  have q7 : w.cell? ⟨0, 7, none⟩ = some (.int .i64 19) := hT.2 7 (by decide)
  have q8 : w.cell? ⟨0, 8, none⟩ = some (.int .i64 23) := hT.2 8 (by decide)
  have q9 : w.cell? ⟨0, 9, none⟩ = some (.int .i64 29) := hT.2 9 (by decide)
  have q10 : w.cell? ⟨0, 10, none⟩ = some (.int .i64 31) := hT.2 10 (by decide)
  have q11 : w.cell? ⟨0, 11, none⟩ = some (.int .i64 37) := hT.2 11 (by decide)
  by_cases h2 : n < 2
  · have l1 : decide (((n : Nat) : Int) < 2) = true := by simp; omega
    have HB : Hid (isB n = false) := (show _ = _ by unfold isB; rw [decide_eq_false (by omega)]; rfl)
    go_enter Tryd.func13, Tryd.ntmps13
    go_wp2_with fail
    go_ret
    exact ⟨by rw [HB.out]; rfl, Below.refl _ _⟩
  · have l1 : decide (((n : Nat) : Int) < 2) = false := by simp; omega
    go_enter Tryd.func13, Tryd.ntmps13
    go_wp2_with fail
    go_loopw [10] (fun i wr => ∃ k : Nat, k ≤ 12 ∧ i = .int .i64 ((k : Nat) : Int) ∧ wr = w ∧ Hid (∀ i, i < k → n % wits.getD i 0 ≠ 0)) (fun i wr => 12 - (intOf i).toNat)
    case atStart => exact ⟨0, by decide, by go_num, rfl, (show ∀ i, i < 0 → _ from fun i h => absurd h (by omega))⟩
    case round =>
      obtain ⟨k, hk, rfl, rfl, HN⟩ := hrel
      by_cases hk12 : k < 12
      · have l2 : decide (((k : Nat) : Int) < 12) = true := by simp; omega
        have hix := index_wit k hk12
        obtain ⟨a, ha⟩ : ∃ a, a = wits.getD k 0 := ⟨_, rfl⟩
        obtain ⟨ha2, ha37⟩ := wit_bd hk12
        rw [← ha] at hix ha2 ha37
        have HA := hid ha
        clear ha
        by_cases hd : n % a = 0
        · have HB : Hid (isB n = (n == a)) := (show _ = _ by rw [isB_hit (by omega) hk12 HN.out (by rw [← HA.out]; exact hd), ← HA.out])
          have l3 := rem_yes hd
          have l4 : (((n : Nat) : Int) == ((a : Nat) : Int)) = (n == a) := by rw [Bool.eq_iff_iff]; simp; omega
          clear hd
          go_wp2_with fail
          go_ret
          exact ⟨by rw [HB.out]; simp, Below.refl _ _⟩
        · have l3 := rem_no hd
          have HND := hid hd
          clear hd
          go_wp2_with fail
          go_roundw
          case rel => exact ⟨k + 1, by omega, by go_num, trivial, (show ∀ i, i < k + 1 → _ by
            intro i hi
            rcases Nat.lt_or_ge i k with h | h
            · exact HN.out i h
            · obtain rfl : i = k := by omega
              rw [← HA.out]; exact HND.out)⟩
          case measure => simp [intOf] <;> omega
      · have l2 : decide (((k : Nat) : Int) < 12) = false := by simp; omega
        have HN12 : ∀ i, i < 12 → n % wits.getD i 0 ≠ 0 := fun i hi => HN.out i (by omega)
        have HM : Hid (isB n = wits.all (mrB n)) := isB_mr (by omega) HN12
        have hn37 : 37 < n := by
          rcases Nat.lt_or_ge 37 n with h | h
          · exact h
          · exfalso
            have H : ∀ m : Fin 38, 2 ≤ m.1 → ∃ k : Fin 12, m.1 % wits.getD k.1 0 = 0 := by decide
            obtain ⟨k, hk⟩ := H ⟨n, by omega⟩ (by show 2 ≤ n; omega)
            exact HN12 k.1 k.2 hk
        have hTT := hid hT
        clear HN HN12
        go_wp2_with fail
        clear q0 q1 q2 q3 q4 q5 q6 q7 q8 q9 q10 q11 hT
        rename World => w1
        go_loopw [22] (fun i wr' => ∃ k : Nat, k ≤ 12 ∧ i = .int .i64 ((k : Nat) : Int) ∧ Below w1.heap.size w1 wr' ∧ Hid (∀ i, i < k → mrB n (wits.getD i 0) = true)) (fun i _ => 12 - (intOf i).toNat)
        case atStart => exact ⟨0, by decide, by go_num, Below.refl _ _, (show ∀ i, i < 0 → _ from fun i h => absurd h (by omega))⟩
        case round =>
          obtain ⟨k, hk, rfl, hWW, HN⟩ := hrel
          by_cases hk12 : k < 12
          · have l2 : decide (((k : Nat) : Int) < 12) = true := by simp; omega
            have hix := index_wit k hk12
            obtain ⟨a, ha⟩ : ∃ a, a = wits.getD k 0 := ⟨_, rfl⟩
            obtain ⟨ha2, ha37⟩ := wit_bd hk12
            rw [← ha] at hix ha2 ha37
            have HA := hid ha
            clear ha
            have HC := hid (passes_any n a wr (by omega) hn (by omega) (hTT.out.below hWW (Nat.le_refl _)).1)
            cases hb : mrB n a
            · have HB : Hid (isB n = false) := (show _ = _ by
                rw [HM.out, List.all_eq_false]
                exact ⟨a, by rw [HA.out, List.getD_eq_getElem?_getD, List.getElem?_eq_getElem (show k < wits.length from hk12)]; exact List.getElem_mem _, by rw [hb]; decide⟩)
              rw [hb] at HC
              clear hb
              go_wp2_with fail
              refine HC.out.mono ?_
              clear HC
              rintro e V1 ⟨rfl, hb⟩
              replace hWW := hWW.trans (hb.mono hWW.size)
              clear hb
              go_wp2_with fail
              go_ret
              exact ⟨by rw [HB.out]; rfl, hWW⟩
            · rw [hb] at HC
              have HMB := hid hb
              clear hb
              go_wp2_with fail
              refine HC.out.mono ?_
              clear HC
              rintro e V1 ⟨rfl, hb⟩
              have HWW := hid (hWW.trans (hb.mono hWW.size))
              clear hb hWW
              go_wp2_with fail
              go_roundw
              case rel => exact ⟨k + 1, by omega, by go_num, HWW.out, (show ∀ i, i < k + 1 → _ by
                intro i hi
                rcases Nat.lt_or_ge i k with h | h
                · exact HN.out i h
                · obtain rfl : i = k := by omega
                  rw [← HA.out]; exact HMB.out)⟩
              case measure => simp [intOf] <;> omega
          · obtain rfl : k = 12 := by omega
            have l2 : decide ((((12 : Nat)) : Int) < 12) = false := rfl
            have HB : Hid (isB n = true) := (show _ = _ by
              rw [HM.out, List.all_eq_true]
              intro a ha
              obtain ⟨k, hk, rfl⟩ := wit_mem ha
              exact HN.out k hk)
            go_wp2_with fail
            go_ret
            exact ⟨by rw [HB.out]; rfl, hWW⟩
theorem is_neg (z : Int) (w : World) (h : z < 0) (h0 : -9223372036854775808 ≤ z) : Calls Tryd.prog 13 #[.int .i64 z] w (RetB (.bool false) w) := by
  have l1 : decide (z < 2) = true := by simp; omega
  go_enter Tryd.func13, Tryd.ntmps13
  go_wp2_with fail
  go_ret
  exact ⟨rfl, Below.refl _ _⟩
end Go.Proofs.YtomkmkjkeihodaaDoor

namespace Go.Proofs.YtomkmkjkeihodaaDoor
open Go.RowKit

/-- A power modulo m, quickly. -/
def pmod : Nat → Nat → Nat → Nat → Nat
  | 0, _, _, m => 1 % m
  | f + 1, a, e, m => if e = 0 then 1 % m else if e % 2 = 1 then a * pmod f (a * a % m) (e / 2) m % m else pmod f (a * a % m) (e / 2) m
theorem pmod_eq : ∀ (f a e m : Nat), e < 2 ^ f → pmod f a e m = a ^ e % m
  | 0, a, e, m, h => by
    have : e = 0 := by simpa using h
    subst this; simp [pmod]
  | f + 1, a, e, m, h => by
    have h2 : e / 2 < 2 ^ f := by rw [Nat.pow_succ] at h; omega
    have ih := pmod_eq f (a * a % m) (e / 2) m h2
    have e2 : (a * a) ^ (e / 2) = a ^ (2 * (e / 2)) := by rw [Nat.pow_mul, Nat.pow_two]
    unfold pmod
    by_cases h0 : e = 0
    · subst h0; simp
    · rw [if_neg h0, ih, ← Nat.pow_mod, e2]
      by_cases h1 : e % 2 = 1
      · rw [if_pos h1, Nat.mul_mod_mod, Nat.mul_comm, ← Nat.pow_succ, show (2 * (e / 2)).succ = e by omega]
      · rw [if_neg h1, show 2 * (e / 2) = e by omega]
/-- The test, quickly. -/
def mrF (n a : Nat) : Bool :=
  let s := Lib.ctz 64 (n - 1)
  let d := (n - 1) / 2 ^ s
  (pmod 64 a d n == 1) || (List.range s).any fun i => pmod 64 a (d * 2 ^ i) n == n - 1
theorem mrF_eq {n a : Nat} (h0 : 1 < n) (h : n ≤ 9223372036854775807) : mrF n a = mrB n a := by
  obtain ⟨o, ho, _, hs64⟩ := ctz_spec (n - 1) (by omega) (by omega)
  have hd : (n - 1) / 2 ^ Lib.ctz 64 (n - 1) ≤ n - 1 := Nat.div_le_self _ _
  unfold mrF mrB
  dsimp only
  rw [pmod_eq 64 _ _ _ (by omega)]
  congr 1
  have hi : ∀ i, i < Lib.ctz 64 (n - 1) → pmod 64 a ((n - 1) / 2 ^ Lib.ctz 64 (n - 1) * 2 ^ i) n = a ^ ((n - 1) / 2 ^ Lib.ctz 64 (n - 1) * 2 ^ i) % n := by
    intro i hi
    refine pmod_eq 64 _ _ _ ?_
    have h1 : (n - 1) / 2 ^ Lib.ctz 64 (n - 1) * 2 ^ i ≤ (n - 1) / 2 ^ Lib.ctz 64 (n - 1) * 2 ^ Lib.ctz 64 (n - 1) := Nat.mul_le_mul_left _ (Nat.pow_le_pow_right (by decide) (by omega))
    have h2 := Nat.div_mul_le_self (n - 1) (2 ^ Lib.ctz 64 (n - 1))
    omega
  rw [Bool.eq_iff_iff, List.any_eq_true, List.any_eq_true]
  constructor
  · rintro ⟨i, h1, h2⟩
    exact ⟨i, h1, by rw [← hi i (List.mem_range.1 h1)]; exact h2⟩
  · rintro ⟨i, h1, h2⟩
    exact ⟨i, h1, by rw [hi i (List.mem_range.1 h1)]; exact h2⟩
theorem isB_top : isB 2305843009213693951 = true := by
  rw [isB_mr (by decide) (fun i hi => by
    have H : ∀ i : Fin 12, 2305843009213693951 % wits.getD i.1 0 ≠ 0 := by decide +kernel
    exact H ⟨i, hi⟩), List.all_eq_true]
  intro a ha
  rw [← mrF_eq (by decide) (by decide)]
  have H : wits.all (mrF 2305843009213693951) = true := by decide +kernel
  exact List.all_eq_true.1 H a ha
/-- p is the next prime after n, as the program says primes. -/
def NextIs (n p : Nat) : Prop := n < p ∧ isB p = true ∧ ∀ m, n < m → m < p → isB m = false
theorem NextIs.unique {n p q : Nat} (h : NextIs n p) (h' : NextIs n q) : p = q := by
  rcases Nat.lt_trichotomy p q with h1 | h1 | h1
  · have := h'.2.2 p h.1 h1; rw [h.2.1] at this; cases this
  · exact h1
  · have := h.2.2 q h'.1 h1; rw [h'.2.1] at this; cases this
def RetNext (n : Nat) (w : World) (e : Ending) (w' : World) : Prop := ∃ p, e = .returned (.tuple #[.int .i64 ((p : Nat) : Int), .int .i64 0]) ∧ NextIs n p ∧ p ≤ 2305843009213693951 ∧ Below w.heap.size w w'
set_option maxHeartbeats 4000000 in
set_option maxRecDepth 100000 in
theorem next_any (n : Nat) (w : World) (hn : n ≤ 2305843009213693950) (hT : Tabs w) :
    Calls Tryd.prog 12 #[.int .i64 ((n : Nat) : Int)] w (RetNext n w) := by
  have HT := hid hT
  clear hT
  have l1 : decide (((n : Nat) : Int) < 0) = false := by simp
  have l2 : decide (((n : Nat) : Int) > 2305843009213693950) = false := by simp; omega
  go_enter Tryd.func12, Tryd.ntmps12
  go_wp2_with fail
  go_loopw [4] (fun p wr => ∃ q : Nat, n < q ∧ q ≤ 2305843009213693951 ∧ p = .int .i64 ((q : Nat) : Int) ∧ Hid (∀ m, n < m → m < q → isB m = false) ∧ Below w.heap.size w wr) (fun p wr => 2305843009213693952 - (intOf p).toNat)
  case atStart => exact ⟨n + 1, by omega, by omega, by go_num, (show ∀ m, _ from fun m h1 h2 => by omega), Below.refl _ _⟩
  case round =>
    obtain ⟨q, hq1, hq2, rfl, HM, hWW⟩ := hrel
    have HC := hid (is_any q wr (by omega) (HT.out.below hWW (Nat.le_refl _)))
    cases hb : isB q
    · rw [hb] at HC
      have hqt : q ≠ 2305843009213693951 := fun e => by rw [e, isB_top] at hb; cases hb
      have HB := hid hb
      clear hb
      go_wp2_with fail
      refine HC.out.mono ?_
      clear HC
      rintro e V1 ⟨rfl, hb⟩
      have HWW := hid (hWW.trans (hb.mono hWW.size))
      clear hb hWW
      go_wp2_with fail
      go_roundw
      case rel => exact ⟨q + 1, by omega, by omega, by go_num, (show ∀ m, _ from fun m h1 h2 => by
        rcases Nat.lt_or_ge m q with h | h
        · exact HM.out m h1 h
        · obtain rfl : m = q := by omega
          exact HB.out), HWW.out⟩
      case measure => simp [intOf] <;> omega
    · rw [hb] at HC
      have HB := hid hb
      clear hb
      go_wp2_with fail
      refine HC.out.mono ?_
      clear HC
      rintro e V1 ⟨rfl, hb⟩
      replace hWW := hWW.trans (hb.mono hWW.size)
      clear hb
      go_wp2_with fail
      exact bodyPost_ret (v := .tuple #[.int .i64 ((q : Nat) : Int), .int .i64 0]) (by simp [results, Tryd.results12, go_sem]) rfl ⟨q, rfl, ⟨hq1, HB.out, HM.out⟩, hq2, hWW⟩
theorem next_err (z : Int) (w : World) (h : z < 0 ∨ 2305843009213693950 < z) (h0 : -9223372036854775808 ≤ z) (h1 : z ≤ 9223372036854775807) :
    Calls Tryd.prog 12 #[.int .i64 z] w (RetB (.tuple #[.int .i64 0, .int .i64 2]) w) := by
  by_cases hz : z < 0
  · have l1 : decide (z < 0) = true := by simpa using hz
    go_enter Tryd.func12, Tryd.ntmps12
    go_wp2_with fail
    exact bodyPost_ret (v := .tuple #[.int .i64 0, .int .i64 2]) (by simp [results, Tryd.results12, go_sem]) rfl ⟨rfl, Below.refl _ _⟩
  · have l1 : decide (z < 0) = false := by simpa using hz
    have l2 : decide (z > 2305843009213693950) = true := by simp; omega
    go_enter Tryd.func12, Tryd.ntmps12
    go_wp2_with fail
    exact bodyPost_ret (v := .tuple #[.int .i64 0, .int .i64 2]) (by simp [results, Tryd.results12, go_sem]) rfl ⟨rfl, Below.refl _ _⟩
end Go.Proofs.YtomkmkjkeihodaaDoor
