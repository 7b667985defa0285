/- The exported functions of package natural: what each call returns. -/
import Derived.Test.YtomkmkjkeihodaaDoorProd
import Derived.Test.YtomkmkjkeihodaaDoorDiv
import Derived.Test.YtomkmkjkeihodaaDoorCmp
set_option linter.unusedVariables false
set_option linter.unusedSimpArgs false
namespace Go.Proofs.YtomkmkjkeihodaaDoor
open Go.RowKit

/-- What a result that may be too big is: the number and the error number. -/
def limS (a : Nat) : Nat × Int := if nw a ≤ 64 then (a, 0) else (0, 9)
theorem limited_any (A : Option Addr) (n c a base : Nat) (w : World) (hO : Own w base A n c a) (hb : base ≤ w.heap.size) :
    Calls Tryd.prog 96 #[.slice A n c] w (RetTwo base (limS a).1 (limS a).2 w) := by
  unfold limS
  by_cases h : nw a ≤ 64
  · rw [if_pos h]; exact limited_ok A n c a base w hO hb h
  · rw [if_neg h]; exact limited_big A n c a base w hO hb (by omega)

/-- Two numbers, both valid: the result; else 0 with the error number 1. -/
def bothS (n a m b : Nat) (x : Nat × Int) : Nat × Int := if okB n a && okB m b then x else (0, 1)
theorem bothS_yes {n a m b : Nat} (h1 : okB n a = true) (h2 : okB m b = true) (x : Nat × Int) : bothS n a m b x = x := by unfold bothS; rw [h1, h2]; rfl
theorem bothS_no1 {n a m b : Nat} (h1 : okB n a = false) (x : Nat × Int) : bothS n a m b x = (0, 1) := by unfold bothS; rw [h1]; rfl
theorem bothS_no2 {n a m b : Nat} (h1 : okB m b = false) (x : Nat × Int) : bothS n a m b x = (0, 1) := by unfold bothS; rw [h1, Bool.and_false]; rfl

theorem Blk.cell0 {w : World} {g : Nat} {t : TypeId} {v : Value} (h : Blk w g t #[v]) : w.cell? ⟨g, 0, none⟩ = some v := (h.cell 0).trans rfl

theorem boxes1 (w : World) (x : Value) : Blk (w.alloc (.cells #[x] 37)) w.heap.size 37 #[x] ∧ Below w.heap.size w (w.alloc (.cells #[x] 37)) := ⟨Blk.new _ _ _, (Below.refl _ _).alloc (Nat.le_refl _) _⟩
theorem boxes2 (w : World) (x y : Value) : Blk ((w.alloc (.cells #[x] 37)).alloc (.cells #[y] 37)) w.heap.size 37 #[x] ∧ Blk ((w.alloc (.cells #[x] 37)).alloc (.cells #[y] 37)) (w.heap.size + 1) 37 #[y] ∧
    Below w.heap.size w ((w.alloc (.cells #[x] 37)).alloc (.cells #[y] 37)) := by
  obtain ⟨h1, h2⟩ := boxes1 w x
  have e : (w.alloc (.cells #[x] 37)).heap.size = w.heap.size + 1 := by simp
  exact ⟨h1.alloc _, by rw [← e]; exact Blk.new _ _ _, h2.alloc (by omega) _⟩
theorem boxes3 (w : World) (x y z : Value) : Blk (((w.alloc (.cells #[x] 37)).alloc (.cells #[y] 37)).alloc (.cells #[z] 37)) w.heap.size 37 #[x] ∧ Blk (((w.alloc (.cells #[x] 37)).alloc (.cells #[y] 37)).alloc (.cells #[z] 37)) (w.heap.size + 1) 37 #[y] ∧
    Blk (((w.alloc (.cells #[x] 37)).alloc (.cells #[y] 37)).alloc (.cells #[z] 37)) (w.heap.size + 1 + 1) 37 #[z] ∧ Below w.heap.size w (((w.alloc (.cells #[x] 37)).alloc (.cells #[y] 37)).alloc (.cells #[z] 37)) := by
  obtain ⟨h1, h2, h3⟩ := boxes2 w x y
  have e : ((w.alloc (.cells #[x] 37)).alloc (.cells #[y] 37)).heap.size = w.heap.size + 1 + 1 := by simp
  exact ⟨h1.alloc _, h2.alloc _, by rw [← e]; exact Blk.new _ _ _, h3.alloc (by omega) _⟩
theorem boxes4 (w : World) (x y z u : Value) : Blk ((((w.alloc (.cells #[x] 37)).alloc (.cells #[y] 37)).alloc (.cells #[z] 37)).alloc (.cells #[u] 37)) w.heap.size 37 #[x] ∧ Blk ((((w.alloc (.cells #[x] 37)).alloc (.cells #[y] 37)).alloc (.cells #[z] 37)).alloc (.cells #[u] 37)) (w.heap.size + 1) 37 #[y] ∧
    Blk ((((w.alloc (.cells #[x] 37)).alloc (.cells #[y] 37)).alloc (.cells #[z] 37)).alloc (.cells #[u] 37)) (w.heap.size + 1 + 1) 37 #[z] ∧ Blk ((((w.alloc (.cells #[x] 37)).alloc (.cells #[y] 37)).alloc (.cells #[z] 37)).alloc (.cells #[u] 37)) (w.heap.size + 1 + 1 + 1) 37 #[u] ∧
    Below w.heap.size w ((((w.alloc (.cells #[x] 37)).alloc (.cells #[y] 37)).alloc (.cells #[z] 37)).alloc (.cells #[u] 37)) := by
  obtain ⟨h1, h2, h3, h4⟩ := boxes3 w x y z
  have e : (((w.alloc (.cells #[x] 37)).alloc (.cells #[y] 37)).alloc (.cells #[z] 37)).heap.size = w.heap.size + 1 + 1 + 1 := by simp
  exact ⟨h1.alloc _, h2.alloc _, h3.alloc _, by rw [← e]; exact Blk.new _ _ _, h4.alloc (by omega) _⟩

def subS (a b : Nat) : Nat × Int := if a < b then (0, 2) else (a - b, 0)
theorem subS_no {a b : Nat} (h : a < b) : subS a b = (0, 2) := by unfold subS; rw [if_pos h]
theorem subS_yes {a b : Nat} (h : ¬ a < b) : subS a b = (a - b, 0) := by unfold subS; rw [if_neg h]
/-- The order of two numbers, 0 where one is not valid. -/
def bothC (n a m b : Nat) : Int := if okB n a && okB m b then ordN a b else 0
theorem bothC_yes {n a m b : Nat} (h1 : okB n a = true) (h2 : okB m b = true) : bothC n a m b = ordN a b := by unfold bothC; rw [h1, h2]; rfl
theorem bothC_no1 {n a m b : Nat} (h1 : okB n a = false) : bothC n a m b = 0 := by unfold bothC; rw [h1]; rfl
theorem bothC_no2 {n a m b : Nat} (h1 : okB m b = false) : bothC n a m b = 0 := by unfold bothC; rw [h1, Bool.and_false]; rfl
def divS (a b : Nat) : Nat × Nat × Int := if b = 0 then (0, 0, 10) else (a / b, a % b, 0)
theorem divS_no {a b : Nat} (h : b = 0) : divS a b = (0, 0, 10) := by unfold divS; rw [if_pos h]
theorem divS_yes {a b : Nat} (h : ¬ b = 0) : divS a b = (a / b, a % b, 0) := by unfold divS; rw [if_neg h]
def bothD (n a m b : Nat) (x : Nat × Nat × Int) : Nat × Nat × Int := if okB n a && okB m b then x else (0, 0, 1)
theorem bothD_yes {n a m b : Nat} (h1 : okB n a = true) (h2 : okB m b = true) (x : Nat × Nat × Int) : bothD n a m b x = x := by unfold bothD; rw [h1, h2]; rfl
theorem bothD_no1 {n a m b : Nat} (h1 : okB n a = false) (x : Nat × Nat × Int) : bothD n a m b x = (0, 0, 1) := by unfold bothD; rw [h1]; rfl
theorem bothD_no2 {n a m b : Nat} (h1 : okB m b = false) (x : Nat × Nat × Int) : bothD n a m b x = (0, 0, 1) := by unfold bothD; rw [h1, Bool.and_false]; rfl
/-- The call returns two numbers in new memory, and the error number f. -/
def RetThree (base q r : Nat) (f : Int) (w : World) (e : Ending) (w' : World) : Prop := ∃ v u, e = .returned (.tuple #[v, u, .int .i64 f]) ∧ NatV w' base v q ∧ NatV w' base u r ∧ Below w.heap.size w w'

theorem mul_any (A B' : Option Addr) (n m c d a b : Nat) (w : World) (hA : Num w w.heap.size A n a) (hB : Num w w.heap.size B' m b) (hn : n ≤ 9223372036854775807) (hm : m ≤ 9223372036854775807) :
    Calls Tryd.prog 80 #[.agg #[.slice A n c], .agg #[.slice B' m d]] w (RetTwo w.heap.size (bothS n a m b (limS (a * b))).1 (bothS n a m b (limS (a * b))).2 w) := by
  obtain ⟨b0, b1, b2, bw⟩ := boxes3 w (.slice A n c) (.slice B' m d) (.slice none 0 0)
  have B0_0 := hid b0
  have B1_0 := hid b1
  have B2_0 := hid b2
  have W_0 := hid bw
  have HA_0 := hid (hA.below bw)
  have HB_0 := hid (hB.below bw)
  clear bw b0 b1 b2 hA hB
  cases h1 : okB n a
  · rw [bothS_no1 h1]
    have H1 := hid h1
    clear h1
    go_enter Tryd.func80, Tryd.ntmps80
    go_wp2_with fail
    refine (valid_any A _ c a w.heap.size _ HA_0.out (by simp <;> omega) hn).mono ?_
    rintro e w1 ⟨rfl, hb⟩
    have z1 : w.heap.size + 3 ≤ w1.heap.size := by have := hb.size; simp at this; omega
    have B0_1 := hid (B0_0.out.below hb (by simp <;> omega))
    have c0_1 := B0_1.out.cell0
    have f0_1 := B0_1.out.frozen 0
    have B1_1 := hid (B1_0.out.below hb (by simp <;> omega))
    have c1_1 := B1_1.out.cell0
    have f1_1 := B1_1.out.frozen 0
    have B2_1 := hid (B2_0.out.below hb (by simp <;> omega))
    have c2_1 := B2_1.out.cell0
    have f2_1 := B2_1.out.frozen 0
    have HA_1 := hid (HA_0.out.below (hb.mono (by simp <;> omega)))
    have HB_1 := hid (HB_0.out.below (hb.mono (by simp <;> omega)))
    have W_1 := hid (W_0.out.trans (hb.mono (by simp <;> omega)))
    clear hb
    rw [H1.out]
    go_wp2_with fail
    exact bodyPost_ret (v := .tuple #[.agg #[.slice none 0 0], .int .i64 1]) (by simp [results, Tryd.results80, go_sem, c2_1]) rfl ⟨_, rfl, NatV.nil _ _, W_1.out.setCell (show w.heap.size ≤ w.heap.size + 1 + 1 by omega) _⟩
  · cases h2 : okB m b
    · rw [bothS_no2 h2]
      have H1 := hid h1
      have H2 := hid h2
      clear h1 h2
      go_enter Tryd.func80, Tryd.ntmps80
      go_wp2_with fail
      refine (valid_any A _ c a w.heap.size _ HA_0.out (by simp <;> omega) hn).mono ?_
      rintro e w1 ⟨rfl, hb⟩
      have z1 : w.heap.size + 3 ≤ w1.heap.size := by have := hb.size; simp at this; omega
      have B0_1 := hid (B0_0.out.below hb (by simp <;> omega))
      have c0_1 := B0_1.out.cell0
      have f0_1 := B0_1.out.frozen 0
      have B1_1 := hid (B1_0.out.below hb (by simp <;> omega))
      have c1_1 := B1_1.out.cell0
      have f1_1 := B1_1.out.frozen 0
      have B2_1 := hid (B2_0.out.below hb (by simp <;> omega))
      have c2_1 := B2_1.out.cell0
      have f2_1 := B2_1.out.frozen 0
      have HA_1 := hid (HA_0.out.below (hb.mono (by simp <;> omega)))
      have HB_1 := hid (HB_0.out.below (hb.mono (by simp <;> omega)))
      have W_1 := hid (W_0.out.trans (hb.mono (by simp <;> omega)))
      clear hb
      rw [H1.out]
      go_wp2_with fail
      refine (valid_any B' _ d b w.heap.size _ HB_1.out (by omega) hm).mono ?_
      rintro e w2 ⟨rfl, hb⟩
      have z2 : w.heap.size + 3 ≤ w2.heap.size := Nat.le_trans z1 hb.size
      have B0_2 := hid (B0_1.out.below hb (by omega))
      have c0_2 := B0_2.out.cell0
      have f0_2 := B0_2.out.frozen 0
      have B1_2 := hid (B1_1.out.below hb (by omega))
      have c1_2 := B1_2.out.cell0
      have f1_2 := B1_2.out.frozen 0
      have B2_2 := hid (B2_1.out.below hb (by omega))
      have c2_2 := B2_2.out.cell0
      have f2_2 := B2_2.out.frozen 0
      have HA_2 := hid (HA_1.out.below (hb.mono (by omega)))
      have HB_2 := hid (HB_1.out.below (hb.mono (by omega)))
      have W_2 := hid (W_1.out.trans (hb.mono (by omega)))
      clear hb
      rw [H2.out]
      go_wp2_with fail
      exact bodyPost_ret (v := .tuple #[.agg #[.slice none 0 0], .int .i64 1]) (by simp [results, Tryd.results80, go_sem, c2_2]) rfl ⟨_, rfl, NatV.nil _ _, W_2.out.setCell (show w.heap.size ≤ w.heap.size + 1 + 1 by omega) _⟩
    · rw [bothS_yes h1 h2]
      have H1 := hid h1
      have H2 := hid h2
      have hn1 : n ≤ 64 := (okB_yes.1 h1).2
      have hm1 : m ≤ 64 := (okB_yes.1 h2).2
      have hna : nw a = n := (okB_yes.1 h1).1
      have hmb : nw b = m := (okB_yes.1 h2).1
      clear h1 h2
      clear hna hmb
      go_enter Tryd.func80, Tryd.ntmps80
      go_wp2_with fail
      refine (valid_any A _ c a w.heap.size _ HA_0.out (by simp <;> omega) hn).mono ?_
      rintro e w1 ⟨rfl, hb⟩
      have z1 : w.heap.size + 3 ≤ w1.heap.size := by have := hb.size; simp at this; omega
      have B0_1 := hid (B0_0.out.below hb (by simp <;> omega))
      have c0_1 := B0_1.out.cell0
      have f0_1 := B0_1.out.frozen 0
      have B1_1 := hid (B1_0.out.below hb (by simp <;> omega))
      have c1_1 := B1_1.out.cell0
      have f1_1 := B1_1.out.frozen 0
      have B2_1 := hid (B2_0.out.below hb (by simp <;> omega))
      have c2_1 := B2_1.out.cell0
      have f2_1 := B2_1.out.frozen 0
      have HA_1 := hid (HA_0.out.below (hb.mono (by simp <;> omega)))
      have HB_1 := hid (HB_0.out.below (hb.mono (by simp <;> omega)))
      have W_1 := hid (W_0.out.trans (hb.mono (by simp <;> omega)))
      clear hb
      rw [H1.out]
      go_wp2_with fail
      refine (valid_any B' _ d b w.heap.size _ HB_1.out (by omega) hm).mono ?_
      rintro e w2 ⟨rfl, hb⟩
      have z2 : w.heap.size + 3 ≤ w2.heap.size := Nat.le_trans z1 hb.size
      have B0_2 := hid (B0_1.out.below hb (by omega))
      have c0_2 := B0_2.out.cell0
      have f0_2 := B0_2.out.frozen 0
      have B1_2 := hid (B1_1.out.below hb (by omega))
      have c1_2 := B1_2.out.cell0
      have f1_2 := B1_2.out.frozen 0
      have B2_2 := hid (B2_1.out.below hb (by omega))
      have c2_2 := B2_2.out.cell0
      have f2_2 := B2_2.out.frozen 0
      have HA_2 := hid (HA_1.out.below (hb.mono (by omega)))
      have HB_2 := hid (HB_1.out.below (hb.mono (by omega)))
      have W_2 := hid (W_1.out.trans (hb.mono (by omega)))
      clear hb
      rw [H2.out]
      go_wp2_with fail
      refine (product_any A B' n m c d a b w.heap.size _ HA_2.out HB_2.out (by omega) (by omega) (by omega)).mono ?_
      rintro e w3 ⟨A3, n3, c3, rfl, ho, hb⟩
      have z3 : w.heap.size + 3 ≤ w3.heap.size := Nat.le_trans z2 hb.size
      have B0_3 := hid (B0_2.out.below hb (by omega))
      have c0_3 := B0_3.out.cell0
      have f0_3 := B0_3.out.frozen 0
      have B1_3 := hid (B1_2.out.below hb (by omega))
      have c1_3 := B1_3.out.cell0
      have f1_3 := B1_3.out.frozen 0
      have B2_3 := hid (B2_2.out.below hb (by omega))
      have c2_3 := B2_3.out.cell0
      have f2_3 := B2_3.out.frozen 0
      have HA_3 := hid (HA_2.out.below (hb.mono (by omega)))
      have HB_3 := hid (HB_2.out.below (hb.mono (by omega)))
      have HO_3 := hid ho
      clear ho
      have W_3 := hid (W_2.out.trans (hb.mono (by omega)))
      clear hb
      go_wp2_with fail
      refine (limited_any A3 n3 c3 (a * b) w.heap.size _ (HO_3.out.weak (by omega)) (by omega)).mono ?_
      rintro e w4 ⟨v, rfl, ⟨A4, c4, rfl, ho4⟩, hb⟩
      have z4 : w.heap.size + 3 ≤ w4.heap.size := Nat.le_trans z3 hb.size
      have B0_4 := hid (B0_3.out.below hb (by omega))
      have c0_4 := B0_4.out.cell0
      have f0_4 := B0_4.out.frozen 0
      have B1_4 := hid (B1_3.out.below hb (by omega))
      have c1_4 := B1_4.out.cell0
      have f1_4 := B1_4.out.frozen 0
      have B2_4 := hid (B2_3.out.below hb (by omega))
      have c2_4 := B2_4.out.cell0
      have f2_4 := B2_4.out.frozen 0
      have HA_4 := hid (HA_3.out.below (hb.mono (by omega)))
      have HB_4 := hid (HB_3.out.below (hb.mono (by omega)))
      have HO_4 := hid (HO_3.out.below hb (Nat.le_refl _))
      have HP_4 := hid ho4
      clear ho4
      have W_4 := hid (W_3.out.trans (hb.mono (by omega)))
      clear hb
      go_wp2_with fail
      exact bodyPost_ret (v := .tuple #[.agg #[.slice A4 (nw ((limS (a * b)).1)) c4], .int .i64 (limS (a * b)).2]) (by simp [results, Tryd.results80, go_sem, c2_4]) rfl ⟨_, rfl, ⟨_, _, rfl, HP_4.out.box (p := ⟨w.heap.size + 1 + 1, 0, none⟩) B2_4.out (by decide) _⟩, W_4.out.setCell (show w.heap.size ≤ w.heap.size + 1 + 1 by omega) _⟩

theorem sub_any (A B' : Option Addr) (n m c d a b : Nat) (w : World) (hA : Num w w.heap.size A n a) (hB : Num w w.heap.size B' m b) (hn : n ≤ 9223372036854775807) (hm : m ≤ 9223372036854775807) :
    Calls Tryd.prog 98 #[.agg #[.slice A n c], .agg #[.slice B' m d]] w (RetTwo w.heap.size (bothS n a m b (subS a b)).1 (bothS n a m b (subS a b)).2 w) := by
  obtain ⟨b0, b1, b2, bw⟩ := boxes3 w (.slice A n c) (.slice B' m d) (.slice none 0 0)
  have B0_0 := hid b0
  have B1_0 := hid b1
  have B2_0 := hid b2
  have W_0 := hid bw
  have HA_0 := hid (hA.below bw)
  have HB_0 := hid (hB.below bw)
  clear bw b0 b1 b2 hA hB
  cases h1 : okB n a
  · rw [bothS_no1 h1]
    have H1 := hid h1
    clear h1
    go_enter Tryd.func98, Tryd.ntmps98
    go_wp2_with fail
    refine (valid_any A _ c a w.heap.size _ HA_0.out (by simp <;> omega) hn).mono ?_
    rintro e w1 ⟨rfl, hb⟩
    have z1 : w.heap.size + 3 ≤ w1.heap.size := by have := hb.size; simp at this; omega
    have B0_1 := hid (B0_0.out.below hb (by simp <;> omega))
    have c0_1 := B0_1.out.cell0
    have f0_1 := B0_1.out.frozen 0
    have B1_1 := hid (B1_0.out.below hb (by simp <;> omega))
    have c1_1 := B1_1.out.cell0
    have f1_1 := B1_1.out.frozen 0
    have B2_1 := hid (B2_0.out.below hb (by simp <;> omega))
    have c2_1 := B2_1.out.cell0
    have f2_1 := B2_1.out.frozen 0
    have HA_1 := hid (HA_0.out.below (hb.mono (by simp <;> omega)))
    have HB_1 := hid (HB_0.out.below (hb.mono (by simp <;> omega)))
    have W_1 := hid (W_0.out.trans (hb.mono (by simp <;> omega)))
    clear hb
    rw [H1.out]
    go_wp2_with fail
    exact bodyPost_ret (v := .tuple #[.agg #[.slice none 0 0], .int .i64 1]) (by simp [results, Tryd.results98, go_sem, c2_1]) rfl ⟨_, rfl, NatV.nil _ _, W_1.out.setCell (show w.heap.size ≤ w.heap.size + 1 + 1 by omega) _⟩
  · cases h2 : okB m b
    · rw [bothS_no2 h2]
      have H1 := hid h1
      have H2 := hid h2
      clear h1 h2
      go_enter Tryd.func98, Tryd.ntmps98
      go_wp2_with fail
      refine (valid_any A _ c a w.heap.size _ HA_0.out (by simp <;> omega) hn).mono ?_
      rintro e w1 ⟨rfl, hb⟩
      have z1 : w.heap.size + 3 ≤ w1.heap.size := by have := hb.size; simp at this; omega
      have B0_1 := hid (B0_0.out.below hb (by simp <;> omega))
      have c0_1 := B0_1.out.cell0
      have f0_1 := B0_1.out.frozen 0
      have B1_1 := hid (B1_0.out.below hb (by simp <;> omega))
      have c1_1 := B1_1.out.cell0
      have f1_1 := B1_1.out.frozen 0
      have B2_1 := hid (B2_0.out.below hb (by simp <;> omega))
      have c2_1 := B2_1.out.cell0
      have f2_1 := B2_1.out.frozen 0
      have HA_1 := hid (HA_0.out.below (hb.mono (by simp <;> omega)))
      have HB_1 := hid (HB_0.out.below (hb.mono (by simp <;> omega)))
      have W_1 := hid (W_0.out.trans (hb.mono (by simp <;> omega)))
      clear hb
      rw [H1.out]
      go_wp2_with fail
      refine (valid_any B' _ d b w.heap.size _ HB_1.out (by omega) hm).mono ?_
      rintro e w2 ⟨rfl, hb⟩
      have z2 : w.heap.size + 3 ≤ w2.heap.size := Nat.le_trans z1 hb.size
      have B0_2 := hid (B0_1.out.below hb (by omega))
      have c0_2 := B0_2.out.cell0
      have f0_2 := B0_2.out.frozen 0
      have B1_2 := hid (B1_1.out.below hb (by omega))
      have c1_2 := B1_2.out.cell0
      have f1_2 := B1_2.out.frozen 0
      have B2_2 := hid (B2_1.out.below hb (by omega))
      have c2_2 := B2_2.out.cell0
      have f2_2 := B2_2.out.frozen 0
      have HA_2 := hid (HA_1.out.below (hb.mono (by omega)))
      have HB_2 := hid (HB_1.out.below (hb.mono (by omega)))
      have W_2 := hid (W_1.out.trans (hb.mono (by omega)))
      clear hb
      rw [H2.out]
      go_wp2_with fail
      exact bodyPost_ret (v := .tuple #[.agg #[.slice none 0 0], .int .i64 1]) (by simp [results, Tryd.results98, go_sem, c2_2]) rfl ⟨_, rfl, NatV.nil _ _, W_2.out.setCell (show w.heap.size ≤ w.heap.size + 1 + 1 by omega) _⟩
    · rw [bothS_yes h1 h2]
      have H1 := hid h1
      have H2 := hid h2
      have hn1 : n ≤ 64 := (okB_yes.1 h1).2
      have hm1 : m ≤ 64 := (okB_yes.1 h2).2
      have hna : nw a = n := (okB_yes.1 h1).1
      have hmb : nw b = m := (okB_yes.1 h2).1
      clear h1 h2
      subst hna hmb
      by_cases hlt : a < b
      · rw [subS_no hlt]
        have HC := hid (ordN_lt hlt)
        clear hlt
        go_enter Tryd.func98, Tryd.ntmps98
        go_wp2_with fail
        refine (valid_any A _ c a w.heap.size _ HA_0.out (by simp <;> omega) hn).mono ?_
        rintro e w1 ⟨rfl, hb⟩
        have z1 : w.heap.size + 3 ≤ w1.heap.size := by have := hb.size; simp at this; omega
        have B0_1 := hid (B0_0.out.below hb (by simp <;> omega))
        have c0_1 := B0_1.out.cell0
        have f0_1 := B0_1.out.frozen 0
        have B1_1 := hid (B1_0.out.below hb (by simp <;> omega))
        have c1_1 := B1_1.out.cell0
        have f1_1 := B1_1.out.frozen 0
        have B2_1 := hid (B2_0.out.below hb (by simp <;> omega))
        have c2_1 := B2_1.out.cell0
        have f2_1 := B2_1.out.frozen 0
        have HA_1 := hid (HA_0.out.below (hb.mono (by simp <;> omega)))
        have HB_1 := hid (HB_0.out.below (hb.mono (by simp <;> omega)))
        have W_1 := hid (W_0.out.trans (hb.mono (by simp <;> omega)))
        clear hb
        rw [H1.out]
        go_wp2_with fail
        refine (valid_any B' _ d b w.heap.size _ HB_1.out (by omega) hm).mono ?_
        rintro e w2 ⟨rfl, hb⟩
        have z2 : w.heap.size + 3 ≤ w2.heap.size := Nat.le_trans z1 hb.size
        have B0_2 := hid (B0_1.out.below hb (by omega))
        have c0_2 := B0_2.out.cell0
        have f0_2 := B0_2.out.frozen 0
        have B1_2 := hid (B1_1.out.below hb (by omega))
        have c1_2 := B1_2.out.cell0
        have f1_2 := B1_2.out.frozen 0
        have B2_2 := hid (B2_1.out.below hb (by omega))
        have c2_2 := B2_2.out.cell0
        have f2_2 := B2_2.out.frozen 0
        have HA_2 := hid (HA_1.out.below (hb.mono (by omega)))
        have HB_2 := hid (HB_1.out.below (hb.mono (by omega)))
        have W_2 := hid (W_1.out.trans (hb.mono (by omega)))
        clear hb
        rw [H2.out]
        go_wp2_with fail
        refine (compare_any A B' c d a b w.heap.size _ HA_2.out HB_2.out (by omega) (by omega)).mono ?_
        rintro e w3 ⟨rfl, jj, rfl⟩
        have hb := below_drewN (Below.refl w2.heap.size w2) jj
        obtain ⟨w3, hw3⟩ : ∃ x, x = w2.drewN jj := ⟨_, rfl⟩
        rw [← hw3] at hb ⊢
        clear hw3
        have z3 : w.heap.size + 3 ≤ w3.heap.size := Nat.le_trans z2 hb.size
        have B0_3 := hid (B0_2.out.below hb (by omega))
        have c0_3 := B0_3.out.cell0
        have f0_3 := B0_3.out.frozen 0
        have B1_3 := hid (B1_2.out.below hb (by omega))
        have c1_3 := B1_3.out.cell0
        have f1_3 := B1_3.out.frozen 0
        have B2_3 := hid (B2_2.out.below hb (by omega))
        have c2_3 := B2_3.out.cell0
        have f2_3 := B2_3.out.frozen 0
        have HA_3 := hid (HA_2.out.below (hb.mono (by omega)))
        have HB_3 := hid (HB_2.out.below (hb.mono (by omega)))
        have W_3 := hid (W_2.out.trans (hb.mono (by omega)))
        clear hb
        rw [HC.out]
        go_wp2_with fail
        exact bodyPost_ret (v := .tuple #[.agg #[.slice none 0 0], .int .i64 2]) (by simp [results, Tryd.results98, go_sem, c2_3]) rfl ⟨_, rfl, NatV.nil _ _, W_3.out.setCell (show w.heap.size ≤ w.heap.size + 1 + 1 by omega) _⟩
      · rw [subS_yes hlt]
        have hge : 0 ≤ ordN a b := by unfold ordN; rw [if_neg hlt]; split <;> omega
        have HLE := hid (Nat.le_of_not_lt hlt)
        clear hlt
        go_enter Tryd.func98, Tryd.ntmps98
        go_wp2_with fail
        refine (valid_any A _ c a w.heap.size _ HA_0.out (by simp <;> omega) hn).mono ?_
        rintro e w1 ⟨rfl, hb⟩
        have z1 : w.heap.size + 3 ≤ w1.heap.size := by have := hb.size; simp at this; omega
        have B0_1 := hid (B0_0.out.below hb (by simp <;> omega))
        have c0_1 := B0_1.out.cell0
        have f0_1 := B0_1.out.frozen 0
        have B1_1 := hid (B1_0.out.below hb (by simp <;> omega))
        have c1_1 := B1_1.out.cell0
        have f1_1 := B1_1.out.frozen 0
        have B2_1 := hid (B2_0.out.below hb (by simp <;> omega))
        have c2_1 := B2_1.out.cell0
        have f2_1 := B2_1.out.frozen 0
        have HA_1 := hid (HA_0.out.below (hb.mono (by simp <;> omega)))
        have HB_1 := hid (HB_0.out.below (hb.mono (by simp <;> omega)))
        have W_1 := hid (W_0.out.trans (hb.mono (by simp <;> omega)))
        clear hb
        rw [H1.out]
        go_wp2_with fail
        refine (valid_any B' _ d b w.heap.size _ HB_1.out (by omega) hm).mono ?_
        rintro e w2 ⟨rfl, hb⟩
        have z2 : w.heap.size + 3 ≤ w2.heap.size := Nat.le_trans z1 hb.size
        have B0_2 := hid (B0_1.out.below hb (by omega))
        have c0_2 := B0_2.out.cell0
        have f0_2 := B0_2.out.frozen 0
        have B1_2 := hid (B1_1.out.below hb (by omega))
        have c1_2 := B1_2.out.cell0
        have f1_2 := B1_2.out.frozen 0
        have B2_2 := hid (B2_1.out.below hb (by omega))
        have c2_2 := B2_2.out.cell0
        have f2_2 := B2_2.out.frozen 0
        have HA_2 := hid (HA_1.out.below (hb.mono (by omega)))
        have HB_2 := hid (HB_1.out.below (hb.mono (by omega)))
        have W_2 := hid (W_1.out.trans (hb.mono (by omega)))
        clear hb
        rw [H2.out]
        go_wp2_with fail
        refine (compare_any A B' c d a b w.heap.size _ HA_2.out HB_2.out (by omega) (by omega)).mono ?_
        rintro e w3 ⟨rfl, jj, rfl⟩
        have hb := below_drewN (Below.refl w2.heap.size w2) jj
        obtain ⟨w3, hw3⟩ : ∃ x, x = w2.drewN jj := ⟨_, rfl⟩
        rw [← hw3] at hb ⊢
        clear hw3
        have z3 : w.heap.size + 3 ≤ w3.heap.size := Nat.le_trans z2 hb.size
        have B0_3 := hid (B0_2.out.below hb (by omega))
        have c0_3 := B0_3.out.cell0
        have f0_3 := B0_3.out.frozen 0
        have B1_3 := hid (B1_2.out.below hb (by omega))
        have c1_3 := B1_3.out.cell0
        have f1_3 := B1_3.out.frozen 0
        have B2_3 := hid (B2_2.out.below hb (by omega))
        have c2_3 := B2_3.out.cell0
        have f2_3 := B2_3.out.frozen 0
        have HA_3 := hid (HA_2.out.below (hb.mono (by omega)))
        have HB_3 := hid (HB_2.out.below (hb.mono (by omega)))
        have W_3 := hid (W_2.out.trans (hb.mono (by omega)))
        clear hb
        go_wp2_with fail
        refine (difference_any A B' (nw a) (nw b) c d a b w.heap.size _ HA_3.out HB_3.out (by omega) (by omega) (by omega) HLE.out).mono ?_
        rintro e w4 ⟨A3, n3, c3, rfl, ho, hb⟩
        have z4 : w.heap.size + 3 ≤ w4.heap.size := Nat.le_trans z3 hb.size
        have B0_4 := hid (B0_3.out.below hb (by omega))
        have c0_4 := B0_4.out.cell0
        have f0_4 := B0_4.out.frozen 0
        have B1_4 := hid (B1_3.out.below hb (by omega))
        have c1_4 := B1_4.out.cell0
        have f1_4 := B1_4.out.frozen 0
        have B2_4 := hid (B2_3.out.below hb (by omega))
        have c2_4 := B2_4.out.cell0
        have f2_4 := B2_4.out.frozen 0
        have HA_4 := hid (HA_3.out.below (hb.mono (by omega)))
        have HB_4 := hid (HB_3.out.below (hb.mono (by omega)))
        have HO_4 := hid ho
        clear ho
        have W_4 := hid (W_3.out.trans (hb.mono (by omega)))
        clear hb
        go_wp2_with fail
        refine (number_any A3 n3 c3 (a - b) w.heap.size _ (HO_4.out.weak (by omega)) (by omega)).mono ?_
        rintro e w5 ⟨v, rfl, ⟨A4, c4, rfl, ho4⟩, hb⟩
        have z5 : w.heap.size + 3 ≤ w5.heap.size := Nat.le_trans z4 hb.size
        have B0_5 := hid (B0_4.out.below hb (by omega))
        have c0_5 := B0_5.out.cell0
        have f0_5 := B0_5.out.frozen 0
        have B1_5 := hid (B1_4.out.below hb (by omega))
        have c1_5 := B1_5.out.cell0
        have f1_5 := B1_5.out.frozen 0
        have B2_5 := hid (B2_4.out.below hb (by omega))
        have c2_5 := B2_5.out.cell0
        have f2_5 := B2_5.out.frozen 0
        have HA_5 := hid (HA_4.out.below (hb.mono (by omega)))
        have HB_5 := hid (HB_4.out.below (hb.mono (by omega)))
        have HO_5 := hid (HO_4.out.below hb (Nat.le_refl _))
        have HP_5 := hid ho4
        clear ho4
        have W_5 := hid (W_4.out.trans (hb.mono (by omega)))
        clear hb
        go_wp2_with fail
        exact bodyPost_ret (v := .tuple #[.agg #[.slice A4 (nw (a - b)) c4], .int .i64 0]) (by simp [results, Tryd.results98, go_sem, c2_5]) rfl ⟨_, rfl, ⟨_, _, rfl, HP_5.out.box (p := ⟨w.heap.size + 1 + 1, 0, none⟩) B2_5.out (by decide) _⟩, W_5.out.setCell (show w.heap.size ≤ w.heap.size + 1 + 1 by omega) _⟩

theorem cmp_any (A B' : Option Addr) (n m c d a b : Nat) (w : World) (hA : Num w w.heap.size A n a) (hB : Num w w.heap.size B' m b) (hn : n ≤ 9223372036854775807) (hm : m ≤ 9223372036854775807) :
    Calls Tryd.prog 79 #[.agg #[.slice A n c], .agg #[.slice B' m d]] w (RetB (.int .i64 (bothC n a m b)) w) := by
  obtain ⟨b0, b1, bw⟩ := boxes2 w (.slice A n c) (.slice B' m d)
  have B0_0 := hid b0
  have B1_0 := hid b1
  have W_0 := hid bw
  have HA_0 := hid (hA.below bw)
  have HB_0 := hid (hB.below bw)
  clear bw b0 b1 hA hB
  cases h1 : okB n a
  · rw [bothC_no1 h1]
    have H1 := hid h1
    clear h1
    go_enter Tryd.func79, Tryd.ntmps79
    go_wp2_with fail
    refine (valid_any A _ c a w.heap.size _ HA_0.out (by simp <;> omega) hn).mono ?_
    rintro e w1 ⟨rfl, hb⟩
    have z1 : w.heap.size + 2 ≤ w1.heap.size := by have := hb.size; simp at this; omega
    have B0_1 := hid (B0_0.out.below hb (by simp <;> omega))
    have c0_1 := B0_1.out.cell0
    have f0_1 := B0_1.out.frozen 0
    have B1_1 := hid (B1_0.out.below hb (by simp <;> omega))
    have c1_1 := B1_1.out.cell0
    have f1_1 := B1_1.out.frozen 0
    have HA_1 := hid (HA_0.out.below (hb.mono (by simp <;> omega)))
    have HB_1 := hid (HB_0.out.below (hb.mono (by simp <;> omega)))
    have W_1 := hid (W_0.out.trans (hb.mono (by simp <;> omega)))
    clear hb
    rw [H1.out]
    go_wp2_with fail
    go_ret
    exact ⟨rfl, W_1.out⟩
  · cases h2 : okB m b
    · rw [bothC_no2 h2]
      have H1 := hid h1
      have H2 := hid h2
      clear h1 h2
      go_enter Tryd.func79, Tryd.ntmps79
      go_wp2_with fail
      refine (valid_any A _ c a w.heap.size _ HA_0.out (by simp <;> omega) hn).mono ?_
      rintro e w1 ⟨rfl, hb⟩
      have z1 : w.heap.size + 2 ≤ w1.heap.size := by have := hb.size; simp at this; omega
      have B0_1 := hid (B0_0.out.below hb (by simp <;> omega))
      have c0_1 := B0_1.out.cell0
      have f0_1 := B0_1.out.frozen 0
      have B1_1 := hid (B1_0.out.below hb (by simp <;> omega))
      have c1_1 := B1_1.out.cell0
      have f1_1 := B1_1.out.frozen 0
      have HA_1 := hid (HA_0.out.below (hb.mono (by simp <;> omega)))
      have HB_1 := hid (HB_0.out.below (hb.mono (by simp <;> omega)))
      have W_1 := hid (W_0.out.trans (hb.mono (by simp <;> omega)))
      clear hb
      rw [H1.out]
      go_wp2_with fail
      refine (valid_any B' _ d b w.heap.size _ HB_1.out (by omega) hm).mono ?_
      rintro e w2 ⟨rfl, hb⟩
      have z2 : w.heap.size + 2 ≤ w2.heap.size := Nat.le_trans z1 hb.size
      have B0_2 := hid (B0_1.out.below hb (by omega))
      have c0_2 := B0_2.out.cell0
      have f0_2 := B0_2.out.frozen 0
      have B1_2 := hid (B1_1.out.below hb (by omega))
      have c1_2 := B1_2.out.cell0
      have f1_2 := B1_2.out.frozen 0
      have HA_2 := hid (HA_1.out.below (hb.mono (by omega)))
      have HB_2 := hid (HB_1.out.below (hb.mono (by omega)))
      have W_2 := hid (W_1.out.trans (hb.mono (by omega)))
      clear hb
      rw [H2.out]
      go_wp2_with fail
      go_ret
      exact ⟨rfl, W_2.out⟩
    · rw [bothC_yes h1 h2]
      have H1 := hid h1
      have H2 := hid h2
      have hn1 : n ≤ 64 := (okB_yes.1 h1).2
      have hm1 : m ≤ 64 := (okB_yes.1 h2).2
      have hna : nw a = n := (okB_yes.1 h1).1
      have hmb : nw b = m := (okB_yes.1 h2).1
      clear h1 h2
      subst hna hmb
      go_enter Tryd.func79, Tryd.ntmps79
      go_wp2_with fail
      refine (valid_any A _ c a w.heap.size _ HA_0.out (by simp <;> omega) hn).mono ?_
      rintro e w1 ⟨rfl, hb⟩
      have z1 : w.heap.size + 2 ≤ w1.heap.size := by have := hb.size; simp at this; omega
      have B0_1 := hid (B0_0.out.below hb (by simp <;> omega))
      have c0_1 := B0_1.out.cell0
      have f0_1 := B0_1.out.frozen 0
      have B1_1 := hid (B1_0.out.below hb (by simp <;> omega))
      have c1_1 := B1_1.out.cell0
      have f1_1 := B1_1.out.frozen 0
      have HA_1 := hid (HA_0.out.below (hb.mono (by simp <;> omega)))
      have HB_1 := hid (HB_0.out.below (hb.mono (by simp <;> omega)))
      have W_1 := hid (W_0.out.trans (hb.mono (by simp <;> omega)))
      clear hb
      rw [H1.out]
      go_wp2_with fail
      refine (valid_any B' _ d b w.heap.size _ HB_1.out (by omega) hm).mono ?_
      rintro e w2 ⟨rfl, hb⟩
      have z2 : w.heap.size + 2 ≤ w2.heap.size := Nat.le_trans z1 hb.size
      have B0_2 := hid (B0_1.out.below hb (by omega))
      have c0_2 := B0_2.out.cell0
      have f0_2 := B0_2.out.frozen 0
      have B1_2 := hid (B1_1.out.below hb (by omega))
      have c1_2 := B1_2.out.cell0
      have f1_2 := B1_2.out.frozen 0
      have HA_2 := hid (HA_1.out.below (hb.mono (by omega)))
      have HB_2 := hid (HB_1.out.below (hb.mono (by omega)))
      have W_2 := hid (W_1.out.trans (hb.mono (by omega)))
      clear hb
      rw [H2.out]
      go_wp2_with fail
      refine (compare_any A B' c d a b w.heap.size _ HA_2.out HB_2.out (by omega) (by omega)).mono ?_
      rintro e w3 ⟨rfl, jj, rfl⟩
      have hb := below_drewN (Below.refl w2.heap.size w2) jj
      obtain ⟨w3, hw3⟩ : ∃ x, x = w2.drewN jj := ⟨_, rfl⟩
      rw [← hw3] at hb ⊢
      clear hw3
      have z3 : w.heap.size + 2 ≤ w3.heap.size := Nat.le_trans z2 hb.size
      have B0_3 := hid (B0_2.out.below hb (by omega))
      have c0_3 := B0_3.out.cell0
      have f0_3 := B0_3.out.frozen 0
      have B1_3 := hid (B1_2.out.below hb (by omega))
      have c1_3 := B1_3.out.cell0
      have f1_3 := B1_3.out.frozen 0
      have HA_3 := hid (HA_2.out.below (hb.mono (by omega)))
      have HB_3 := hid (HB_2.out.below (hb.mono (by omega)))
      have W_3 := hid (W_2.out.trans (hb.mono (by omega)))
      clear hb
      go_wp2_with fail
      go_ret
      exact ⟨rfl, W_3.out⟩

theorem div_any (A B' : Option Addr) (n m c d a b : Nat) (w : World) (hA : Num w w.heap.size A n a) (hB : Num w w.heap.size B' m b) (hn : n ≤ 9223372036854775807) (hm : m ≤ 9223372036854775807) :
    Calls Tryd.prog 83 #[.agg #[.slice A n c], .agg #[.slice B' m d]] w (RetThree w.heap.size (bothD n a m b (divS a b)).1 (bothD n a m b (divS a b)).2.1 (bothD n a m b (divS a b)).2.2 w) := by
  obtain ⟨b0, b1, b2, b3, bw⟩ := boxes4 w (.slice A n c) (.slice B' m d) (.slice none 0 0) (.slice none 0 0)
  have B0_0 := hid b0
  have B1_0 := hid b1
  have B2_0 := hid b2
  have B3_0 := hid b3
  have W_0 := hid bw
  have HA_0 := hid (hA.below bw)
  have HB_0 := hid (hB.below bw)
  clear bw b0 b1 b2 b3 hA hB
  cases h1 : okB n a
  · rw [bothD_no1 h1]
    have H1 := hid h1
    clear h1
    go_enter Tryd.func83, Tryd.ntmps83
    go_wp2_with fail
    refine (valid_any A _ c a w.heap.size _ HA_0.out (by simp <;> omega) hn).mono ?_
    rintro e w1 ⟨rfl, hb⟩
    have z1 : w.heap.size + 4 ≤ w1.heap.size := by have := hb.size; simp at this; omega
    have B0_1 := hid (B0_0.out.below hb (by simp <;> omega))
    have c0_1 := B0_1.out.cell0
    have f0_1 := B0_1.out.frozen 0
    have B1_1 := hid (B1_0.out.below hb (by simp <;> omega))
    have c1_1 := B1_1.out.cell0
    have f1_1 := B1_1.out.frozen 0
    have B2_1 := hid (B2_0.out.below hb (by simp <;> omega))
    have c2_1 := B2_1.out.cell0
    have f2_1 := B2_1.out.frozen 0
    have B3_1 := hid (B3_0.out.below hb (by simp <;> omega))
    have c3_1 := B3_1.out.cell0
    have f3_1 := B3_1.out.frozen 0
    have HA_1 := hid (HA_0.out.below (hb.mono (by simp <;> omega)))
    have HB_1 := hid (HB_0.out.below (hb.mono (by simp <;> omega)))
    have W_1 := hid (W_0.out.trans (hb.mono (by simp <;> omega)))
    clear hb
    rw [H1.out]
    go_wp2_with fail
    exact bodyPost_ret (v := .tuple #[.agg #[.slice none 0 0], .agg #[.slice none 0 0], .int .i64 1]) (by simp [results, Tryd.results83, go_sem, c2_1, c3_1]) rfl ⟨_, _, rfl, NatV.nil _ _, NatV.nil _ _, (W_1.out.setCell (show w.heap.size ≤ w.heap.size + 1 + 1 by omega) _).setCell (show w.heap.size ≤ w.heap.size + 1 + 1 + 1 by omega) _⟩
  · cases h2 : okB m b
    · rw [bothD_no2 h2]
      have H1 := hid h1
      have H2 := hid h2
      clear h1 h2
      go_enter Tryd.func83, Tryd.ntmps83
      go_wp2_with fail
      refine (valid_any A _ c a w.heap.size _ HA_0.out (by simp <;> omega) hn).mono ?_
      rintro e w1 ⟨rfl, hb⟩
      have z1 : w.heap.size + 4 ≤ w1.heap.size := by have := hb.size; simp at this; omega
      have B0_1 := hid (B0_0.out.below hb (by simp <;> omega))
      have c0_1 := B0_1.out.cell0
      have f0_1 := B0_1.out.frozen 0
      have B1_1 := hid (B1_0.out.below hb (by simp <;> omega))
      have c1_1 := B1_1.out.cell0
      have f1_1 := B1_1.out.frozen 0
      have B2_1 := hid (B2_0.out.below hb (by simp <;> omega))
      have c2_1 := B2_1.out.cell0
      have f2_1 := B2_1.out.frozen 0
      have B3_1 := hid (B3_0.out.below hb (by simp <;> omega))
      have c3_1 := B3_1.out.cell0
      have f3_1 := B3_1.out.frozen 0
      have HA_1 := hid (HA_0.out.below (hb.mono (by simp <;> omega)))
      have HB_1 := hid (HB_0.out.below (hb.mono (by simp <;> omega)))
      have W_1 := hid (W_0.out.trans (hb.mono (by simp <;> omega)))
      clear hb
      rw [H1.out]
      go_wp2_with fail
      refine (valid_any B' _ d b w.heap.size _ HB_1.out (by omega) hm).mono ?_
      rintro e w2 ⟨rfl, hb⟩
      have z2 : w.heap.size + 4 ≤ w2.heap.size := Nat.le_trans z1 hb.size
      have B0_2 := hid (B0_1.out.below hb (by omega))
      have c0_2 := B0_2.out.cell0
      have f0_2 := B0_2.out.frozen 0
      have B1_2 := hid (B1_1.out.below hb (by omega))
      have c1_2 := B1_2.out.cell0
      have f1_2 := B1_2.out.frozen 0
      have B2_2 := hid (B2_1.out.below hb (by omega))
      have c2_2 := B2_2.out.cell0
      have f2_2 := B2_2.out.frozen 0
      have B3_2 := hid (B3_1.out.below hb (by omega))
      have c3_2 := B3_2.out.cell0
      have f3_2 := B3_2.out.frozen 0
      have HA_2 := hid (HA_1.out.below (hb.mono (by omega)))
      have HB_2 := hid (HB_1.out.below (hb.mono (by omega)))
      have W_2 := hid (W_1.out.trans (hb.mono (by omega)))
      clear hb
      rw [H2.out]
      go_wp2_with fail
      exact bodyPost_ret (v := .tuple #[.agg #[.slice none 0 0], .agg #[.slice none 0 0], .int .i64 1]) (by simp [results, Tryd.results83, go_sem, c2_2, c3_2]) rfl ⟨_, _, rfl, NatV.nil _ _, NatV.nil _ _, (W_2.out.setCell (show w.heap.size ≤ w.heap.size + 1 + 1 by omega) _).setCell (show w.heap.size ≤ w.heap.size + 1 + 1 + 1 by omega) _⟩
    · rw [bothD_yes h1 h2]
      have H1 := hid h1
      have H2 := hid h2
      have hn1 : n ≤ 64 := (okB_yes.1 h1).2
      have hm1 : m ≤ 64 := (okB_yes.1 h2).2
      have hna : nw a = n := (okB_yes.1 h1).1
      have hmb : nw b = m := (okB_yes.1 h2).1
      clear h1 h2
      subst hna hmb
      by_cases hz : b = 0
      · rw [divS_no hz]
        have HZ := hid hz
        have hz' : ((nw b : Nat) : Int) = 0 := by rw [hz]; rfl
        clear hz
        go_enter Tryd.func83, Tryd.ntmps83
        go_wp2_with fail
        refine (valid_any A _ c a w.heap.size _ HA_0.out (by simp <;> omega) hn).mono ?_
        rintro e w1 ⟨rfl, hb⟩
        have z1 : w.heap.size + 4 ≤ w1.heap.size := by have := hb.size; simp at this; omega
        have B0_1 := hid (B0_0.out.below hb (by simp <;> omega))
        have c0_1 := B0_1.out.cell0
        have f0_1 := B0_1.out.frozen 0
        have B1_1 := hid (B1_0.out.below hb (by simp <;> omega))
        have c1_1 := B1_1.out.cell0
        have f1_1 := B1_1.out.frozen 0
        have B2_1 := hid (B2_0.out.below hb (by simp <;> omega))
        have c2_1 := B2_1.out.cell0
        have f2_1 := B2_1.out.frozen 0
        have B3_1 := hid (B3_0.out.below hb (by simp <;> omega))
        have c3_1 := B3_1.out.cell0
        have f3_1 := B3_1.out.frozen 0
        have HA_1 := hid (HA_0.out.below (hb.mono (by simp <;> omega)))
        have HB_1 := hid (HB_0.out.below (hb.mono (by simp <;> omega)))
        have W_1 := hid (W_0.out.trans (hb.mono (by simp <;> omega)))
        clear hb
        rw [H1.out]
        go_wp2_with fail
        refine (valid_any B' _ d b w.heap.size _ HB_1.out (by omega) hm).mono ?_
        rintro e w2 ⟨rfl, hb⟩
        have z2 : w.heap.size + 4 ≤ w2.heap.size := Nat.le_trans z1 hb.size
        have B0_2 := hid (B0_1.out.below hb (by omega))
        have c0_2 := B0_2.out.cell0
        have f0_2 := B0_2.out.frozen 0
        have B1_2 := hid (B1_1.out.below hb (by omega))
        have c1_2 := B1_2.out.cell0
        have f1_2 := B1_2.out.frozen 0
        have B2_2 := hid (B2_1.out.below hb (by omega))
        have c2_2 := B2_2.out.cell0
        have f2_2 := B2_2.out.frozen 0
        have B3_2 := hid (B3_1.out.below hb (by omega))
        have c3_2 := B3_2.out.cell0
        have f3_2 := B3_2.out.frozen 0
        have HA_2 := hid (HA_1.out.below (hb.mono (by omega)))
        have HB_2 := hid (HB_1.out.below (hb.mono (by omega)))
        have W_2 := hid (W_1.out.trans (hb.mono (by omega)))
        clear hb
        rw [H2.out]
        go_wp2_with fail
        exact bodyPost_ret (v := .tuple #[.agg #[.slice none 0 0], .agg #[.slice none 0 0], .int .i64 10]) (by simp [results, Tryd.results83, go_sem, c2_2, c3_2]) rfl ⟨_, _, rfl, NatV.nil _ _, NatV.nil _ _, (W_2.out.setCell (show w.heap.size ≤ w.heap.size + 1 + 1 by omega) _).setCell (show w.heap.size ≤ w.heap.size + 1 + 1 + 1 by omega) _⟩
      · rw [divS_yes hz]
        have hp := nw_pos hz
        have HT := hid (dig_top hz)
        have hz' : (((nw b : Nat) : Int) == 0) = false := by simp; omega
        clear hz
        go_enter Tryd.func83, Tryd.ntmps83
        go_wp2_with fail
        refine (valid_any A _ c a w.heap.size _ HA_0.out (by simp <;> omega) hn).mono ?_
        rintro e w1 ⟨rfl, hb⟩
        have z1 : w.heap.size + 4 ≤ w1.heap.size := by have := hb.size; simp at this; omega
        have B0_1 := hid (B0_0.out.below hb (by simp <;> omega))
        have c0_1 := B0_1.out.cell0
        have f0_1 := B0_1.out.frozen 0
        have B1_1 := hid (B1_0.out.below hb (by simp <;> omega))
        have c1_1 := B1_1.out.cell0
        have f1_1 := B1_1.out.frozen 0
        have B2_1 := hid (B2_0.out.below hb (by simp <;> omega))
        have c2_1 := B2_1.out.cell0
        have f2_1 := B2_1.out.frozen 0
        have B3_1 := hid (B3_0.out.below hb (by simp <;> omega))
        have c3_1 := B3_1.out.cell0
        have f3_1 := B3_1.out.frozen 0
        have HA_1 := hid (HA_0.out.below (hb.mono (by simp <;> omega)))
        have HB_1 := hid (HB_0.out.below (hb.mono (by simp <;> omega)))
        have W_1 := hid (W_0.out.trans (hb.mono (by simp <;> omega)))
        clear hb
        rw [H1.out]
        go_wp2_with fail
        refine (valid_any B' _ d b w.heap.size _ HB_1.out (by omega) hm).mono ?_
        rintro e w2 ⟨rfl, hb⟩
        have z2 : w.heap.size + 4 ≤ w2.heap.size := Nat.le_trans z1 hb.size
        have B0_2 := hid (B0_1.out.below hb (by omega))
        have c0_2 := B0_2.out.cell0
        have f0_2 := B0_2.out.frozen 0
        have B1_2 := hid (B1_1.out.below hb (by omega))
        have c1_2 := B1_2.out.cell0
        have f1_2 := B1_2.out.frozen 0
        have B2_2 := hid (B2_1.out.below hb (by omega))
        have c2_2 := B2_2.out.cell0
        have f2_2 := B2_2.out.frozen 0
        have B3_2 := hid (B3_1.out.below hb (by omega))
        have c3_2 := B3_2.out.cell0
        have f3_2 := B3_2.out.frozen 0
        have HA_2 := hid (HA_1.out.below (hb.mono (by omega)))
        have HB_2 := hid (HB_1.out.below (hb.mono (by omega)))
        have W_2 := hid (W_1.out.trans (hb.mono (by omega)))
        clear hb
        rw [H2.out]
        go_wp2_with fail
        refine (divide_any A B' (nw a) (nw b) c d a b w.heap.size _ HA_2.out HB_2.out (by omega) (by omega) (by omega) hp HT.out).mono ?_
        rintro e w3 ⟨A3, n3, c3, A5, n5, c5, rfl, ho, hq, hb⟩
        have z3 : w.heap.size + 4 ≤ w3.heap.size := Nat.le_trans z2 hb.size
        have B0_3 := hid (B0_2.out.below hb (by omega))
        have c0_3 := B0_3.out.cell0
        have f0_3 := B0_3.out.frozen 0
        have B1_3 := hid (B1_2.out.below hb (by omega))
        have c1_3 := B1_3.out.cell0
        have f1_3 := B1_3.out.frozen 0
        have B2_3 := hid (B2_2.out.below hb (by omega))
        have c2_3 := B2_3.out.cell0
        have f2_3 := B2_3.out.frozen 0
        have B3_3 := hid (B3_2.out.below hb (by omega))
        have c3_3 := B3_3.out.cell0
        have f3_3 := B3_3.out.frozen 0
        have HA_3 := hid (HA_2.out.below (hb.mono (by omega)))
        have HB_3 := hid (HB_2.out.below (hb.mono (by omega)))
        have HO_3 := hid ho
        clear ho
        have HQ_3 := hid hq
        clear hq
        have W_3 := hid (W_2.out.trans (hb.mono (by omega)))
        clear hb
        go_wp2_with fail
        refine (number_any A3 n3 c3 (a / b) w.heap.size _ (HO_3.out.weak (by omega)) (by omega)).mono ?_
        rintro e w4 ⟨v, rfl, ⟨A4, c4, rfl, ho4⟩, hb⟩
        have z4 : w.heap.size + 4 ≤ w4.heap.size := Nat.le_trans z3 hb.size
        have B0_4 := hid (B0_3.out.below hb (by omega))
        have c0_4 := B0_4.out.cell0
        have f0_4 := B0_4.out.frozen 0
        have B1_4 := hid (B1_3.out.below hb (by omega))
        have c1_4 := B1_4.out.cell0
        have f1_4 := B1_4.out.frozen 0
        have B2_4 := hid (B2_3.out.below hb (by omega))
        have c2_4 := B2_4.out.cell0
        have f2_4 := B2_4.out.frozen 0
        have B3_4 := hid (B3_3.out.below hb (by omega))
        have c3_4 := B3_4.out.cell0
        have f3_4 := B3_4.out.frozen 0
        have HA_4 := hid (HA_3.out.below (hb.mono (by omega)))
        have HB_4 := hid (HB_3.out.below (hb.mono (by omega)))
        have HO_4 := hid (HO_3.out.below hb (Nat.le_refl _))
        have HQ_4 := hid (HQ_3.out.below hb (Nat.le_refl _))
        have HP_4 := hid ho4
        clear ho4
        have W_4 := hid (W_3.out.trans (hb.mono (by omega)))
        clear hb
        go_wp2_with fail
        refine (number_any A5 n5 c5 (a % b) w.heap.size _ (HQ_4.out.weak (by omega)) (by omega)).mono ?_
        rintro e w5 ⟨v, rfl, ⟨A6, c6, rfl, ho6⟩, hb⟩
        have z5 : w.heap.size + 4 ≤ w5.heap.size := Nat.le_trans z4 hb.size
        have B0_5 := hid (B0_4.out.below hb (by omega))
        have c0_5 := B0_5.out.cell0
        have f0_5 := B0_5.out.frozen 0
        have B1_5 := hid (B1_4.out.below hb (by omega))
        have c1_5 := B1_5.out.cell0
        have f1_5 := B1_5.out.frozen 0
        have B2_5 := hid (B2_4.out.below hb (by omega))
        have c2_5 := B2_5.out.cell0
        have f2_5 := B2_5.out.frozen 0
        have B3_5 := hid (B3_4.out.below hb (by omega))
        have c3_5 := B3_5.out.cell0
        have f3_5 := B3_5.out.frozen 0
        have HA_5 := hid (HA_4.out.below (hb.mono (by omega)))
        have HB_5 := hid (HB_4.out.below (hb.mono (by omega)))
        have HO_5 := hid (HO_4.out.below hb (Nat.le_refl _))
        have HQ_5 := hid (HQ_4.out.below hb (Nat.le_refl _))
        have HP_5 := hid (HP_4.out.below hb (Nat.le_refl _))
        have HR_5 := hid ho6
        clear ho6
        have W_5 := hid (W_4.out.trans (hb.mono (by omega)))
        clear hb
        go_wp2_with fail
        have B3x := B3_5.out.far (p := ⟨w.heap.size + 1 + 1, 0, none⟩) (show w.heap.size + 1 + 1 + 1 ≠ w.heap.size + 1 + 1 by omega) (.slice A4 (nw (a / b)) c4)
        exact bodyPost_ret (v := .tuple #[.agg #[.slice A4 (nw (a / b)) c4], .agg #[.slice A6 (nw (a % b)) c6], .int .i64 0]) (by simp [results, Tryd.results83, go_sem, c2_5, c3_5]) rfl ⟨_, _, rfl, ⟨_, _, rfl, (HP_5.out.box (p := ⟨w.heap.size + 1 + 1, 0, none⟩) B2_5.out (by decide) _).box (p := ⟨w.heap.size + 1 + 1 + 1, 0, none⟩) B3x (by decide) _⟩, ⟨_, _, rfl, (HR_5.out.box (p := ⟨w.heap.size + 1 + 1, 0, none⟩) B2_5.out (by decide) _).box (p := ⟨w.heap.size + 1 + 1 + 1, 0, none⟩) B3x (by decide) _⟩, (W_5.out.setCell (show w.heap.size ≤ w.heap.size + 1 + 1 by omega) _).setCell (show w.heap.size ≤ w.heap.size + 1 + 1 + 1 by omega) _⟩

end Go.Proofs.YtomkmkjkeihodaaDoor
