/- awake: the examples of the chapter. -/
import Derived.Test.YtlhfaaghfhiaoaaApp
import Derived.KernelRfl
set_option linter.unusedVariables false
set_option linter.unusedSimpArgs false
namespace Go.Proofs.Ytlhfaaghfhiaoaa
open Go.RowKit

theorem words_X : words 2 18446744073709551615 = #[.int .u32 4294967295, .int .u32 4294967295] := by kernel_rfl
theorem words_P : words 4 340282366920938463426481119284349108225 = #[.int .u32 1, .int .u32 0, .int .u32 4294967294, .int .u32 4294967295] := by kernel_rfl
theorem words_Y : words 2 10000000000 = #[.int .u32 1410065408, .int .u32 2] := by kernel_rfl
theorem words_Z : words 1 3 = #[.int .u32 3] := by kernel_rfl
theorem words_Q : words 1 3333333333 = #[.int .u32 3333333333] := by kernel_rfl
theorem words_R : words 1 1 = #[.int .u32 1] := by kernel_rfl

/-- The numbers of the examples, behind names. -/
structure Lits (X P Y Z Q R : Nat) : Prop where
  x : words 2 X = #[.int .u32 4294967295, .int .u32 4294967295]
  p : words 4 P = #[.int .u32 1, .int .u32 0, .int .u32 4294967294, .int .u32 4294967295]
  y : words 2 Y = #[.int .u32 1410065408, .int .u32 2]
  z : words 1 Z = #[.int .u32 3]
  q : words 1 Q = #[.int .u32 3333333333]
  r : words 1 R = #[.int .u32 1]
  nx : X < 2 ^ (32 * 2) ∧ okB 2 X = true
  np : P < 2 ^ (32 * 4) ∧ nw P = 4
  ny : Y < 2 ^ (32 * 2) ∧ okB 2 Y = true
  nz : Z < 2 ^ (32 * 1) ∧ okB 1 Z = true
  nq : Q < 2 ^ (32 * 1) ∧ nw Q = 1
  nr : R < 2 ^ (32 * 1) ∧ nw R = 1
  mul : limS (X * X) = (P, 0)
  div : divS Y Z = (Q, R, 0)

theorem nw_lit {a n : Nat} (h : a < 2 ^ (32 * n)) (h1 : dig a (n - 1) ≠ 0) : nw a = n := nw_unique h (.inr h1)
theorem lits : ∃ X P Y Z Q R, Lits X P Y Z Q R := by
  have hp : nw 340282366920938463426481119284349108225 = 4 := nw_lit (by decide) (by decide)
  have hx : nw 18446744073709551615 = 2 := nw_lit (by decide) (by decide)
  have hy : nw 10000000000 = 2 := nw_lit (by decide) (by decide)
  have hz : nw 3 = 1 := nw_lit (by decide) (by decide)
  have hq : nw 3333333333 = 1 := nw_lit (by decide) (by decide)
  have hr : nw 1 = 1 := nw_lit (by decide) (by decide)
  refine ⟨_, _, _, _, _, _, words_X, words_P, words_Y, words_Z, words_Q, words_R, ⟨by decide, okB_yes.2 ⟨hx, by omega⟩⟩, ⟨by decide, hp⟩, ⟨by decide, okB_yes.2 ⟨hy, by omega⟩⟩, ⟨by decide, okB_yes.2 ⟨hz, by omega⟩⟩, ⟨by decide, hq⟩, ⟨by decide, hr⟩, ?_, ?_⟩
  · have e : 18446744073709551615 * 18446744073709551615 = 340282366920938463426481119284349108225 := by decide
    unfold limS
    rw [e, if_pos (by rw [hp]; omega)]
  · unfold divS
    rw [if_neg (by decide)]

theorem num_blk {w : World} {g n a B : Nat} (h : Blk w g 62 (words n a)) (ha : a < 2 ^ (32 * n)) (hB : g < B) : Num w B (some ⟨g, 0, none⟩) n a := Row.num ⟨ha, h⟩ hB

theorem equal_B (A B' : Option Addr) (n m c d a b B : Nat) (w : World) (hA : Num w B A n a) (hB : Num w B B' m b) (hn : n ≤ 9223372036854775807) (hm : m ≤ 9223372036854775807) :
    Calls Try.prog 40 #[.slice A n c, .slice B' m d] w (RetB (.bool (sameB n a m b)) w) :=
  (equal_any A B' n m c d a b B w hA hB hn hm).mono fun _ _ ⟨h, j, hj⟩ => ⟨h, by rw [hj]; exact below_drewN (Below.refl _ _) j⟩

theorem awake_any (w : World) : Calls Try.prog 11 #[] w (RetB (.bool true) w) := by
  obtain ⟨X, P, Y, Z, Q, R, L⟩ := lits
  have HL := hid L
  clear L
  go_enter Try.func11, Try.ntmps11
  go_wp2_with fail
  rw [← HL.out.x]
  have N1 : Num ((w.alloc (.cells (words 2 X) 62)).alloc (.cells #[.slice (some ⟨w.heap.size, 0, none⟩) 2 2] 24)) ((w.alloc (.cells (words 2 X) 62)).alloc (.cells #[.slice (some ⟨w.heap.size, 0, none⟩) 2 2] 24)).heap.size (some ⟨w.heap.size, 0, none⟩) 2 X :=
    num_blk ((Blk.new w 62 (words 2 X)).alloc _) HL.out.nx.1 (by simp <;> omega)
  have hm := mul_any (some ⟨w.heap.size, 0, none⟩) (some ⟨w.heap.size, 0, none⟩) 2 2 2 2 X X _ N1 N1 (by omega) (by omega)
  rw [bothS_yes HL.out.nx.2 HL.out.nx.2, HL.out.mul] at hm
  refine hm.mono ?_
  clear hm N1
  rintro e w1 ⟨v, rfl, ⟨A3, c3, rfl, ho⟩, hb⟩
  have W1 := hid ((((Below.refl w.heap.size w).alloc (Nat.le_refl _) (.cells (words 2 X) 62)).alloc (by simp) (.cells #[.slice (some ⟨w.heap.size, 0, none⟩) 2 2] 24)).trans (hb.mono (by simp <;> omega)))
  have HP := hid ho.num
  clear ho hb
  rw [HL.out.np.2] at *
  go_wp2_with fail
  rw [← HL.out.y, ← HL.out.z]
  obtain ⟨W, hW⟩ : ∃ W, W = ((w1.alloc (.cells #[.slice A3 4 c3] 24)).alloc (.cells (words 2 Y) 62)).alloc (.cells (words 1 Z) 62) := ⟨_, rfl⟩
  have hsz : (w1.alloc (.cells #[.slice A3 4 c3] 24)).heap.size = w1.heap.size + 1 := by simp
  have hsz2 : ((w1.alloc (.cells #[.slice A3 4 c3] 24)).alloc (.cells (words 2 Y) 62)).heap.size = w1.heap.size + 1 + 1 := by simp
  have hWs : W.heap.size = w1.heap.size + 1 + 1 + 1 := by rw [hW]; simp
  have bY : Blk W (w1.heap.size + 1) 62 (words 2 Y) := by rw [hW, ← hsz]; exact (Blk.new _ 62 _).alloc _
  have bZ : Blk W (w1.heap.size + 1 + 1) 62 (words 1 Z) := by rw [hW, ← hsz2]; exact Blk.new _ 62 _
  have bP : Blk W w1.heap.size 24 #[.slice A3 4 c3] := by rw [hW]; exact ((Blk.new _ 24 _).alloc _).alloc _
  have bW : Below w1.heap.size w1 W := by rw [hW]; exact (((Below.refl _ _).alloc (Nat.le_refl _) _).alloc (by simp) _).alloc (by simp <;> omega) _
  rw [← hW]
  clear hW hsz hsz2
  have hd := div_any (some ⟨w1.heap.size + 1, 0, none⟩) (some ⟨w1.heap.size + 1 + 1, 0, none⟩) 2 1 2 1 Y Z W (num_blk bY HL.out.ny.1 (by omega)) (num_blk bZ HL.out.nz.1 (by omega)) (by omega) (by omega)
  rw [bothD_yes HL.out.ny.2 HL.out.nz.2, HL.out.div] at hd
  refine hd.mono ?_
  clear hd
  rintro e w2 ⟨v, u, rfl, ⟨A4, c4, rfl, ho⟩, ⟨A5, c5, rfl, ho5⟩, hb⟩
  have W2 := hid (W1.out.trans ((bW.trans (hb.mono (by omega))).mono W1.out.size))
  have HP2 := hid ((HP.out.below bW).below (hb.mono (by omega)))
  have BP2 := hid (bP.below hb (by omega))
  have cP := BP2.out.cell0
  have hz : w1.heap.size < w2.heap.size := by have := hb.size; omega
  have HQ := hid ho.num
  have HR := hid ho5.num
  clear ho ho5 hb bY bZ bP bW hWs
  rw [HL.out.nq.2, HL.out.nr.2] at *
  go_wp2_with fail
  rw [← HL.out.p]
  obtain ⟨V, hV⟩ : ∃ V, V = ((w2.alloc (.cells #[.slice A4 1 c4] 24)).alloc (.cells #[.slice A5 1 c5] 24)).alloc (.cells (words 4 P) 62) := ⟨_, rfl⟩
  have hs1 : (w2.alloc (.cells #[.slice A4 1 c4] 24)).heap.size = w2.heap.size + 1 := by simp
  have hs2 : ((w2.alloc (.cells #[.slice A4 1 c4] 24)).alloc (.cells #[.slice A5 1 c5] 24)).heap.size = w2.heap.size + 1 + 1 := by simp
  have hVs : V.heap.size = w2.heap.size + 1 + 1 + 1 := by rw [hV]; simp
  have b4 : Blk V w2.heap.size 24 #[.slice A4 1 c4] := by rw [hV]; exact ((Blk.new _ 24 _).alloc _).alloc _
  have b5 : Blk V (w2.heap.size + 1) 24 #[.slice A5 1 c5] := by rw [hV, ← hs1]; exact (Blk.new _ 24 _).alloc _
  have bP : Blk V (w2.heap.size + 1 + 1) 62 (words 4 P) := by rw [hV, ← hs2]; exact Blk.new _ 62 _
  have bV : Below w2.heap.size w2 V := by rw [hV]; exact (((Below.refl _ _).alloc (Nat.le_refl _) _).alloc (by simp) _).alloc (by simp <;> omega) _
  rw [← hV]
  clear hV hs1 hs2
  have hz0 : w1.heap.size ≤ w2.heap.size := by omega
  have he := equal_B A3 (some ⟨w2.heap.size + 1 + 1, 0, none⟩) 4 4 c3 4 P P V.heap.size V ((HP2.out.below (bV.mono hz0)).more (by omega)) (num_blk bP HL.out.np.1 (by omega)) (by omega) (by omega)
  rw [sameB_yes] at he
  refine he.mono ?_
  clear he
  rintro e V1 ⟨rfl, hb⟩
  have W3 := hid (W2.out.trans ((bV.trans (hb.mono (by omega))).mono W2.out.size))
  have B4 := hid (b4.below hb (by omega))
  have B5 := hid (b5.below hb (by omega))
  have c4' := B4.out.cell0
  have c5' := B5.out.cell0
  have HQ1 := hid ((HQ.out.below bV).below (hb.mono (by omega)))
  have HR1 := hid ((HR.out.below bV).below (hb.mono (by omega)))
  have hz1 : w2.heap.size + 1 + 1 + 1 ≤ V1.heap.size := by have := hb.size; omega
  clear hb b4 b5 bP bV hVs
  go_wp2_with fail
  rw [← HL.out.q]
  have nb1 := (Below.refl V1.heap.size V1).alloc (Nat.le_refl _) (.cells (words 1 Q) 62)
  have he := equal_B A4 (some ⟨V1.heap.size, 0, none⟩) 1 1 c4 1 Q Q (V1.alloc (.cells (words 1 Q) 62)).heap.size _ ((HQ1.out.below (nb1.mono (by omega))).more (by simp <;> omega)) (num_blk (Blk.new V1 62 (words 1 Q)) HL.out.nq.1 (by simp)) (by omega) (by omega)
  rw [sameB_yes] at he
  refine he.mono ?_
  clear he
  rintro e V2 ⟨rfl, hb⟩
  have W4 := hid (W3.out.trans ((nb1.trans (hb.mono (by simp))).mono W3.out.size))
  have hb' := hid (nb1.trans (hb.mono (by simp)))
  have c5'' := (B5.out.below hb'.out (by omega)).cell0
  have HR2 := hid (HR1.out.below (hb'.out.mono (by omega)))
  have hz2 : V1.heap.size ≤ V2.heap.size := hb'.out.size
  have hz3 : w2.heap.size + 1 < V2.heap.size := by omega
  clear hb nb1
  go_wp2_with fail
  rw [← HL.out.r]
  have nb2 := (Below.refl V2.heap.size V2).alloc (Nat.le_refl _) (.cells (words 1 R) 62)
  have he := equal_B A5 (some ⟨V2.heap.size, 0, none⟩) 1 1 c5 1 R R (V2.alloc (.cells (words 1 R) 62)).heap.size _ ((HR2.out.below (nb2.mono (by omega))).more (by simp <;> omega)) (num_blk (Blk.new V2 62 (words 1 R)) HL.out.nr.1 (by simp)) (by omega) (by omega)
  rw [sameB_yes] at he
  refine he.mono ?_
  clear he
  rintro e V3 ⟨rfl, hb⟩
  have W5 := hid (W4.out.trans ((nb2.trans (hb.mono (by simp))).mono W4.out.size))
  clear hb nb2
  go_wp2_with fail
  go_ret
  exact ⟨rfl, W5.out⟩

end Go.Proofs.Ytlhfaaghfhiaoaa
