/- The reference's large. -/
import Derived.Test.YtomkmkjkeihodaaDoorQ2
import Derived.Test.YtomkmkjkeihodaaDoorRfB
set_option linter.unusedVariables false
set_option linter.unusedSimpArgs false
namespace Go.Proofs.YtomkmkjkeihodaaDoor
open Go.RowKit

def oq35_12_0 : Oper := { dst := some 35, op := Op.move (Operand.tmp 8), type := 28, pos := "ref.go:68", after := #[], guard := none }
def oq35_12_1 : Oper := { dst := some 36, op := Op.move (Operand.tmp 9), type := 3, pos := "ref.go:68", after := #[], guard := none }
def oq35_12_2 : Oper := { dst := some 37, op := Op.indexAddr 28 (Operand.tmp 35) (Operand.tmp 36), type := 0, pos := "ref.go:68", after := #[{ on := 0, ground := Ground.data }, { on := 1, ground := Ground.data }], guard := none }
def oq35_12_3 : Oper := { dst := some 38, op := Op.load 3 (Operand.tmp 37), type := 3, pos := "ref.go:68", after := #[{ on := 2, ground := Ground.data }], guard := none }
def oq35_12_4 : Oper := { dst := some 39, op := Op.call { callee := Callee.value (Operand.func 31), args := #[Operand.tmp 38], argTypes := #[3] }, type := 37, pos := "ref.go:68", after := #[{ on := 3, ground := Ground.data }], guard := none }
def oq35_12_5 : Oper := { dst := some 40, op := Op.move (Operand.tmp 6), type := 3, pos := "ref.go:68", after := #[], guard := none }
def oq35_12_6 : Oper := { dst := some 41, op := Op.call { callee := Callee.value (Operand.func 31), args := #[Operand.tmp 40], argTypes := #[3] }, type := 37, pos := "ref.go:68", after := #[{ on := 5, ground := Ground.data }, { on := 4, ground := Ground.chain }], guard := none }
def oq35_12_7 : Oper := { dst := some 42, op := Op.load 37 (Operand.tmp 3), type := 37, pos := "ref.go:68", after := #[], guard := none }
def oq35_12_8 : Oper := { dst := some 43, op := Op.call { callee := Callee.value (Operand.func 56), args := #[Operand.tmp 39, Operand.tmp 41, Operand.tmp 42], argTypes := #[37, 37, 37] }, type := 37, pos := "ref.go:68", after := #[{ on := 4, ground := Ground.data }, { on := 6, ground := Ground.data }, { on := 7, ground := Ground.data }, { on := 6, ground := Ground.chain }], guard := none }
def oq35_12_9 : Oper := { dst := some 10, op := Op.alloc 37, type := 0, pos := "ref.go:68", after := #[], guard := none }
def oq35_12_10 : Oper := { dst := none, op := Op.store 37 (Operand.tmp 10) (Operand.tmp 43), type := 0, pos := "ref.go:68", after := #[{ on := 9, ground := Ground.data }, { on := 8, ground := Ground.data }, { on := 8, ground := Ground.chain }, { on := 0, ground := Ground.phase }, { on := 1, ground := Ground.phase }, { on := 2, ground := Ground.phase }, { on := 3, ground := Ground.phase }, { on := 4, ground := Ground.phase }, { on := 5, ground := Ground.phase }, { on := 6, ground := Ground.phase }, { on := 7, ground := Ground.phase }, { on := 8, ground := Ground.phase }, { on := 9, ground := Ground.phase }], guard := none }
theorem wp_landT {P : Program} {c : Code} {Q : Exit → Act → World → Prop} {a : Act} {w : World} {F : Nat → Option Addr → Nat → Option Addr → Nat → Option Addr → Nat → Act} (R : Nat → Option Addr → Nat → Option Addr → Nat → Option Addr → Nat → World → Prop)
    (hreg : c.wp P (fun e a1 w1 => e = Exit.normal ∧ ∃ x0 x1 x2 x3 x4 x5 x6, a1 = F x0 x1 x2 x3 x4 x5 x6 ∧ R x0 x1 x2 x3 x4 x5 x6 w1) a w) (himp : ∀ x0 x1 x2 x3 x4 x5 x6 w1, R x0 x1 x2 x3 x4 x5 x6 w1 → Q Exit.normal (F x0 x1 x2 x3 x4 x5 x6) w1) : c.wp P Q a w :=
  Code.wp_mono (fun e a1 w1 h => by obtain ⟨rfl, x0, x1, x2, x3, x4, x5, x6, rfl, hR⟩ := h; exact himp _ _ _ _ _ _ _ w1 hR) hreg
theorem rof_1 (w : World) : Calls Tryd.prog 31 #[.int .i64 1] w (RetNat w.heap.size 1 w) := rof_any 1 w (by decide)
theorem sameR_nw (a b : Nat) : sameR (nw a) a (nw b) b = decide (a = b) := by
  unfold sameR
  rw [decide_eq_decide]
  exact ⟨fun h => h.2, fun h => ⟨by rw [h], h⟩⟩
/-- The law's list of witnesses. -/
def witV : Array Value := #[.int .i64 2, .int .i64 3, .int .i64 5, .int .i64 7, .int .i64 11, .int .i64 13, .int .i64 17, .int .i64 19, .int .i64 23, .int .i64 29, .int .i64 31, .int .i64 37]
theorem witV_at {k : Nat} (hk : k < 12) : witV[k]? = some (.int .i64 ((wits.getD k 0 : Nat) : Int)) := by
  obtain rfl | rfl | rfl | rfl | rfl | rfl | rfl | rfl | rfl | rfl | rfl | rfl : k = 0 ∨ k = 1 ∨ k = 2 ∨ k = 3 ∨ k = 4 ∨ k = 5 ∨ k = 6 ∨ k = 7 ∨ k = 8 ∨ k = 9 ∨ k = 10 ∨ k = 11 := by omega
  all_goals rfl
theorem wcell {w : World} {gb k a : Nat} {ad : Addr} (h : Blk w gb 3 #[.int .i64 2, .int .i64 3, .int .i64 5, .int .i64 7, .int .i64 11, .int .i64 13, .int .i64 17, .int .i64 19, .int .i64 23, .int .i64 29, .int .i64 31, .int .i64 37]) (had : Hid (ad = ⟨gb, 0, none⟩)) (hk : k < 12) (ha : Hid (a = wits.getD k 0)) : w.cell? (ad.add k) = some (.int .i64 ((a : Nat) : Int)) := by
  rw [had.out, add_zero0, ha.out]
  exact (h.cell k).trans (witV_at hk)
theorem wits_no {n k a : Nat} (hk : k < 12) (ha : a = wits.getD k 0) (h : mrB n a = false) : wits.all (mrB n) = false := by
  rw [List.all_eq_false]
  exact ⟨a, by rw [ha, List.getD_eq_getElem?_getD, List.getElem?_eq_getElem (show k < wits.length from hk)]; exact List.getElem_mem _, by rw [h]; decide⟩
theorem wits_all {n : Nat} (h : ∀ i, i < 12 → mrB n (wits.getD i 0) = true) : wits.all (mrB n) = true := by
  rw [List.all_eq_true]
  intro a ha
  obtain ⟨k, hk, rfl⟩ := wit_mem ha
  exact h k hk
theorem wits_more {n k a : Nat} (hN : ∀ i, i < k → mrB n (wits.getD i 0) = true) (ha : a = wits.getD k 0) (h : mrB n a = true) : ∀ i, i < k + 1 → mrB n (wits.getD i 0) = true := by
  intro i hi
  rcases Nat.lt_or_ge i k with h1 | h1
  · exact hN i h1
  · obtain rfl : i = k := by omega
    rw [← ha]; exact h
set_option maxHeartbeats 4000000 in
set_option maxRecDepth 100000 in
theorem large_any (n : Nat) (w : World) (h3 : 2305843009213693952 ≤ n) (hn : n ≤ 9223372036854775807) (hodd : n % 2 = 1) :
    Calls Tryd.prog 35 #[.int .i64 ((n : Nat) : Int)] w (RetB (.bool (wits.all (mrB n))) w) := by
  obtain ⟨c, hc⟩ : ∃ c, c = Lib.ctz 64 (n - 1) := ⟨_, rfl⟩
  obtain ⟨N, hNn⟩ : ∃ N, N = n - 1 := ⟨_, rfl⟩
  obtain ⟨o, ho, ho2, hc64⟩ := ctz_spec (n - 1) (by omega) (by omega)
  rw [← hc, ← hNn] at ho
  rw [← hc] at hc64
  have HN := hid ho
  have HO := hid ho2
  have HC := hid hc
  have HNn := hid hNn
  have e1 : ((n : Nat) : Int) - 1 = ((N : Nat) : Int) := by omega
  have hN0 : N < n := by omega
  have hN1 : 1 ≤ N := by omega
  have hc1 : 0 < c := by
    rcases Nat.eq_zero_or_pos c with h | h
    · rw [h, Nat.pow_zero, Nat.one_mul] at ho; omega
    · exact h
  have nwn := nw_i63 hn
  have nwN := nw_i63 (a := N) (by omega)
  have h41 : 41 ≤ n := by omega
  clear ho ho2 hc hNn hodd h3
  have WW := Below.refl w.heap.size w
  go_enter Tryd.func35, Tryd.ntmps35
  go_wp2_with fail
  obtain ⟨V0, hV⟩ : ∃ V, V = w := ⟨_, rfl⟩
  rw [← hV]
  replace WW : Below w.heap.size w V0 := by rw [hV]; exact WW
  clear hV
  have hbs : w.heap.size ≤ V0.heap.size := WW.size
  have hc := rof_any n V0 (by omega)
  refine hc.mono ?_
  clear hc
  rintro e V1 ⟨v, rfl, hv, hb⟩
  replace WW := WW.trans (hb.mono WW.size)
  obtain ⟨D1, d1, rfl, ho⟩ := hv
  have O1 := ho.weak (b := w.heap.size) hbs
  clear ho
  clear hb hbs
  go_wp2_with fail
  obtain ⟨b0, bw⟩ := boxes1 V1 (.slice D1 (nw n) d1)
  have hbs := WW.size
  have M := VB.mk (B := w.heap.size) (a := n) b0 (.inr O1) bw hbs (by omega)
  replace O1 := O1.below bw (Nat.le_refl _)
  replace WW := WW.trans (bw.mono WW.size)
  clear bw hbs b0
  generalize hV : (V1.alloc (.cells #[.slice D1 (nw n) d1] 37)) = V2 at M O1 WW ⊢
  clear hV
  have kM := M.cell
  have zM := M.lt
  go_wp2_with fail
  clear O1
  have hbs : w.heap.size ≤ V2.heap.size := WW.size
  have hc := rof_any N V2 (by omega)
  refine hc.mono ?_
  clear hc
  rintro e V3 ⟨v, rfl, hv, hb⟩
  clear kM zM
  replace M := M.below hb
  replace WW := WW.trans (hb.mono WW.size)
  obtain ⟨D2, d2, rfl, ho⟩ := hv
  have O2 := ho.weak (b := w.heap.size) hbs
  clear ho
  have kM := M.cell
  have zM := M.lt
  clear hb hbs
  go_wp2_with fail
  obtain ⟨b0, bw⟩ := boxes1 V3 (.slice D2 (nw N) d2)
  have hbs := WW.size
  clear kM zM
  have qM4 := M.lt
  have L := VB.mk (B := w.heap.size) (a := N) b0 (.inr O2) bw hbs (by omega)
  replace M := M.below bw
  replace O2 := O2.below bw (Nat.le_refl _)
  replace WW := WW.trans (bw.mono WW.size)
  clear bw hbs b0
  generalize hV : (V3.alloc (.cells #[.slice D2 (nw N) d2] 37)) = V4 at M L O2 WW ⊢
  clear hV
  have kM := M.cell
  have zM := M.lt
  have kL := L.cell
  have zL := L.lt
  go_wp2_with fail
  clear O2
  have hbs : w.heap.size ≤ V4.heap.size := WW.size
  have hc := rof_1 V4
  refine hc.mono ?_
  clear hc
  rintro e V5 ⟨v, rfl, hv, hb⟩
  clear kM zM kL zL
  replace M := M.below hb
  replace L := L.below hb
  replace WW := WW.trans (hb.mono WW.size)
  obtain ⟨D3, d3, rfl, ho⟩ := hv
  have O3 := ho.weak (b := w.heap.size) hbs
  clear ho
  have kM := M.cell
  have zM := M.lt
  have kL := L.cell
  have zL := L.lt
  clear hb hbs
  go_wp2_with fail
  obtain ⟨b0, bw⟩ := boxes1 V5 (.slice D3 (nw 1) d3)
  have hbs := WW.size
  clear kM zM kL zL
  have qM6 := M.lt
  have qL6 := L.lt
  have E := VB.mk (B := w.heap.size) (a := 1) b0 (.inr O3) bw hbs (by omega)
  replace M := M.below bw
  replace L := L.below bw
  replace O3 := O3.below bw (Nat.le_refl _)
  replace WW := WW.trans (bw.mono WW.size)
  clear bw hbs b0
  generalize hV : (V5.alloc (.cells #[.slice D3 (nw 1) d3] 37)) = V6 at M L E O3 WW ⊢
  clear hV
  have kM := M.cell
  have zM := M.lt
  have kL := L.cell
  have zL := L.lt
  have kE := E.cell
  have zE := E.lt
  go_wp2_with fail
  clear O3
  go_loopw [6, 7] (fun d s wr => ∃ k y : Nat, k ≤ c ∧ y ≤ N ∧ d = .int .i64 ((y : Nat) : Int) ∧ s = .int .i64 ((k : Nat) : Int) ∧ Hid (y = N / 2 ^ k) ∧ wr = V6) (fun _ s _ => c - (intOf s).toNat)
  case atStart => exact ⟨0, N, by omega, by omega, by go_num, by go_num, (show N = _ by simp), rfl⟩
  case round =>
    obtain ⟨k, y, hk, hyN, rfl, rfl, HY, rfl⟩ := hrel
    have HX := hid (half_more HN.out HO.out hk HY.out)
    by_cases hy : y % 2 = 0
    · have l1 : ((((y : Nat) : Int) % 2) == 0) = true := by
        have : ((y : Nat) : Int) % 2 = 0 := by omega
        rw [this]; rfl
      have hkc := (HX.out.2.1 hy).1
      have HH := hid (HX.out.2.1 hy).2
      obtain ⟨y2, hy2⟩ : ∃ z, z = y / 2 := ⟨_, rfl⟩
      have l2 : ((y : Nat) : Int) / 2 = ((y2 : Nat) : Int) := by omega
      rw [← hy2] at HH
      clear hy hy2 HX
      go_wp2_with fail
      go_roundw
      case rel => exact ⟨k + 1, y2, by omega, by omega, by go_num, by go_num, HH, trivial⟩
      case measure => simp [intOf] <;> omega
    · have l1 : ((((y : Nat) : Int) % 2) == 0) = false := by
        have : ((y : Nat) : Int) % 2 = 1 := by omega
        rw [this]; rfl
      obtain rfl := HX.out.2.2 hy
      clear hy HX
      rename World => Vt
      have HDn : Hid (y = (n - 1) / 2 ^ k) := (show _ = _ by rw [← HNn.out]; exact HY.out)
      go_wp2_with fail
      clear kM zM kL zL kE zE
      have qM7 := M.lt
      have qL7 := L.lt
      have qE7 := E.lt
      have bw := (Below.refl Vt.heap.size Vt).alloc (Nat.le_refl _) (.cells #[.int .i64 2, .int .i64 3, .int .i64 5, .int .i64 7, .int .i64 11, .int .i64 13, .int .i64 17, .int .i64 19, .int .i64 23, .int .i64 29, .int .i64 31, .int .i64 37] 3)
      have BS := Blk.new Vt 3 #[.int .i64 2, .int .i64 3, .int .i64 5, .int .i64 7, .int .i64 11, .int .i64 13, .int .i64 17, .int .i64 19, .int .i64 23, .int .i64 29, .int .i64 31, .int .i64 37]
      replace M := M.below bw
      replace L := L.below bw
      replace E := E.below bw
      replace WW := WW.trans (bw.mono WW.size)
      clear bw
      generalize hV : Vt.alloc (.cells #[.int .i64 2, .int .i64 3, .int .i64 5, .int .i64 7, .int .i64 11, .int .i64 13, .int .i64 17, .int .i64 19, .int .i64 23, .int .i64 29, .int .i64 31, .int .i64 37] 3) = V7 at M L E BS WW ⊢
      clear hV
      have kM := M.cell
      have zM := M.lt
      have kL := L.cell
      have zL := L.lt
      have kE := E.cell
      have zE := E.lt
      have zBS := BS.lt
      obtain ⟨gb, hgb⟩ : ∃ x, x = Vt.heap.size := ⟨_, rfl⟩
      rw [← hgb] at BS ⊢
      clear hgb
      obtain ⟨ad, had⟩ : ∃ ad : Addr, ad = ⟨gb, 0, none⟩ := ⟨_, rfl⟩
      rw [← had]
      have HAD := hid had
      clear had
      go_wp2_with fail
      obtain ⟨s, hs⟩ : ∃ s, s = k := ⟨_, rfl⟩
      rw [← hs] at hc64 HN HC hc1 HDn HY ⊢
      clear hs hk l1
      go_loopw [9] (fun i wr => ∃ (k : Nat), k ≤ 12 ∧ i = .int .i64 ((k : Nat) : Int) ∧ Hid (∀ i, i < k → mrB n (wits.getD i 0) = true) ∧ Below w.heap.size w wr ∧ VB w.heap.size wr (V1.heap.size) D1 (nw n) d1 n ∧ VB w.heap.size wr (V3.heap.size) D2 (nw N) d2 N ∧ VB w.heap.size wr (V5.heap.size) D3 (nw 1) d3 1 ∧ Blk wr (gb) 3 #[.int .i64 2, .int .i64 3, .int .i64 5, .int .i64 7, .int .i64 11, .int .i64 13, .int .i64 17, .int .i64 19, .int .i64 23, .int .i64 29, .int .i64 31, .int .i64 37]) (fun i wr => 12 - (intOf i).toNat)
      case atStart => exact ⟨0, by decide, by go_num, (show ∀ i, i < 0 → _ from fun i h => absurd h (by omega)), WW, M, L, E, BS⟩
      case round =>
        clear WW kM zM kL zL kE zE  zBS M L E BS
        obtain ⟨k, hk, rfl, HM, WW, M, L, E, BS⟩ := hrel
        have kM := M.cell
        have zM := M.lt
        have kL := L.cell
        have zL := L.lt
        have kE := E.cell
        have zE := E.lt
        have zBS := BS.lt
        by_cases hk12 : k < 12
        · have l2 : decide (((k : Nat) : Int) < 12) = true := by simp; omega
          have hk3 : ((k : Nat) : Int) < 12 := by omega
          obtain ⟨a, ha⟩ : ∃ a, a = wits.getD k 0 := ⟨_, rfl⟩
          obtain ⟨ha2, ha37⟩ := wit_bd hk12
          rw [← ha] at ha2 ha37
          have HA := hid ha
          clear ha
          obtain ⟨x0, hx0⟩ : ∃ x, x = a ^ y % n := ⟨_, rfl⟩
          have hx0n : x0 < n := by rw [hx0]; exact Nat.mod_lt _ (by omega)
          have HX0 := hid hx0
          have nwa := nw_i63 (a := a) (by omega)
          have nwy := nw_i63 (a := y) (by omega)
          have nwx := nw_i63 (a := x0) (by omega)
          clear hx0
          go_wp2_with fail
          clear kM zM kL zL kE zE  zBS
          apply wp_landT (R := fun gX D11 d11 D12 d12 D13 d13 w1 => Below w.heap.size w w1 ∧ VB w.heap.size w1 (V1.heap.size) D1 (nw n) d1 n ∧ VB w.heap.size w1 (V3.heap.size) D2 (nw N) d2 N ∧ VB w.heap.size w1 (V5.heap.size) D3 (nw 1) d3 1 ∧ VB w.heap.size w1 (gX) D13 (nw x0) d13 x0 ∧ Own w1 w.heap.size D11 (nw a) d11 a ∧ Own w1 w.heap.size D12 (nw y) d12 y ∧ Own w1 w.heap.size D13 (nw x0) d13 x0 ∧ Blk w1 (gb) 3 #[.int .i64 2, .int .i64 3, .int .i64 5, .int .i64 7, .int .i64 11, .int .i64 13, .int .i64 17, .int .i64 19, .int .i64 23, .int .i64 29, .int .i64 31, .int .i64 37] ∧ V1.heap.size < gX ∧ V3.heap.size < gX ∧ V5.heap.size < gX ∧ gb < gX)
          case hreg =>
            refine wp_region_noPanic ?_
            have hst : (fun w' => w'.cell? ⟨V1.heap.size, 0, none⟩ = some (.slice D1 (nw n) d1) ∧ w'.cell? (ad.add k) = some (.int .i64 ((a : Nat) : Int))) wr.drew := ⟨M.cell, wcell BS HAD hk12 HA⟩
            replace WW := WW.drew
            replace M := M.drew
            replace L := L.drew
            replace E := E.drew
            replace BS : Blk wr.drew (gb) 3 #[.int .i64 2, .int .i64 3, .int .i64 5, .int .i64 7, .int .i64 11, .int .i64 13, .int .i64 17, .int .i64 19, .int .i64 23, .int .i64 29, .int .i64 31, .int .i64 37] := BS
            have qq0 := E.lt
            refine region_L 18 (fun w' => w'.cell? ⟨V1.heap.size, 0, none⟩ = some (.slice D1 (nw n) d1) ∧ w'.cell? (ad.add k) = some (.int .i64 ((a : Nat) : Int))) (by kernel_rfl) hst (fun hHeld => ?_)
            clear hst
            generalize hV : wr.drew = U7x0 at hHeld WW qq0 M L E BS ⊢
            clear hV
            refine AnyL_take (i := 0) (oi := oq35_12_0) (v := ?_) rfl (by kernel_rfl) (by kernel_rfl) (by kernel_rfl) (by kernel_rfl) (fun _ _ _ h => h) (Or.inl ⟨by rfl, ?_⟩) (by assumption) ?_
            rotate_left
            · (delta oq35_12_0; intro ws hSw; (try dsimp only at hSw); (try go_simp); (try with_reducible rfl))
            (try simp only [oq35_12_0, Act.put, List.setIfInBounds_toArray, List.set_cons_zero, List.set_cons_succ])
            refine AnyL_take (i := 1) (oi := oq35_12_1) (v := ?_) rfl (by kernel_rfl) (by kernel_rfl) (by kernel_rfl) (by kernel_rfl) (fun _ _ _ h => h) (Or.inl ⟨by rfl, ?_⟩) (by assumption) ?_
            rotate_left
            · (delta oq35_12_1; intro ws hSw; (try dsimp only at hSw); (try go_simp); (try with_reducible rfl))
            (try simp only [oq35_12_1, Act.put, List.setIfInBounds_toArray, List.set_cons_zero, List.set_cons_succ])
            refine AnyL_take (i := 2) (oi := oq35_12_2) (v := ?_) rfl (by kernel_rfl) (by kernel_rfl) (by kernel_rfl) (by kernel_rfl) (fun _ _ _ h => h) (Or.inl ⟨by rfl, ?_⟩) (by assumption) ?_
            rotate_left
            · (delta oq35_12_2; intro ws hSw; (try dsimp only at hSw); (try go_simp); (try with_reducible rfl))
            (try simp only [oq35_12_2, Act.put, List.setIfInBounds_toArray, List.set_cons_zero, List.set_cons_succ])
            refine AnyL_take (i := 3) (oi := oq35_12_3) (v := ?_) rfl (by kernel_rfl) (by kernel_rfl) (by kernel_rfl) (by kernel_rfl) (fun _ _ _ h => h) (Or.inl ⟨by rfl, ?_⟩) (by assumption) ?_
            rotate_left
            · (delta oq35_12_3; intro ws hSw; (try dsimp only at hSw); (try go_simp); (try with_reducible rfl))
            (try simp only [oq35_12_3, Act.put, List.setIfInBounds_toArray, List.set_cons_zero, List.set_cons_succ])
            refine AnyL_take (i := 5) (oi := oq35_12_5) (v := ?_) rfl (by kernel_rfl) (by kernel_rfl) (by kernel_rfl) (by kernel_rfl) (fun _ _ _ h => h) (Or.inl ⟨by rfl, ?_⟩) (by assumption) ?_
            rotate_left
            · (delta oq35_12_5; intro ws hSw; (try dsimp only at hSw); (try go_simp); (try with_reducible rfl))
            (try simp only [oq35_12_5, Act.put, List.setIfInBounds_toArray, List.set_cons_zero, List.set_cons_succ])
            refine AnyL_take (i := 7) (oi := oq35_12_7) (v := ?_) rfl (by kernel_rfl) (by kernel_rfl) (by kernel_rfl) (by kernel_rfl) (fun _ _ _ h => h) (Or.inl ⟨by rfl, ?_⟩) (by assumption) ?_
            rotate_left
            · (delta oq35_12_7; intro ws hSw; (try dsimp only at hSw); (try go_simp); (try with_reducible rfl))
            (try simp only [oq35_12_7, Act.put, List.setIfInBounds_toArray, List.set_cons_zero, List.set_cons_succ])
            refine AnyL_ready (rs := [4, 9]) (by kernel_rfl) (by simp) ?_
            refine ReadyL.cons (o := oq35_12_4) rfl (fun K hK => ?_) ?_
            · delta oq35_12_4
              go_simp
              have hbs : w.heap.size ≤ U7x0.heap.size := WW.size
              have hc := rof_any a U7x0 (by omega)
              refine hc.mono ?_
              clear hc
              rintro e V9 ⟨v, rfl, hv, hb⟩
              replace M := M.below hb
              replace L := L.below hb
              replace E := E.below hb
              replace BS := BS.below hb BS.lt
              replace WW := WW.trans (hb.mono WW.size)
              have sz9 := hb.size
              obtain ⟨D11, d11, rfl, ho⟩ := hv
              have O11 := ho.weak (b := w.heap.size) hbs
              clear ho
              clear hb hbs
              refine hK.out _ _ (⟨M.cell, wcell BS HAD hk12 HA⟩) (fun hHeld2 => ?_)
              clear hK K hHeld
              have hHeld := hHeld2
              clear hHeld2
              (try simp only [oq35_12_4, Act.put, List.setIfInBounds_toArray, List.set_cons_zero, List.set_cons_succ])
              refine AnyL_ready (rs := [6, 9]) (by kernel_rfl) (by simp) ?_
              refine ReadyL.cons (o := oq35_12_6) rfl (fun K hK => ?_) ?_
              · delta oq35_12_6
                go_simp
                have hbs : w.heap.size ≤ V9.heap.size := WW.size
                have hc := rof_any y V9 (by omega)
                refine hc.mono ?_
                clear hc
                rintro e V10 ⟨v, rfl, hv, hb⟩
                replace M := M.below hb
                replace L := L.below hb
                replace E := E.below hb
                replace O11 := O11.below hb (Nat.le_refl _)
                replace BS := BS.below hb BS.lt
                replace WW := WW.trans (hb.mono WW.size)
                have sz10 := hb.size
                obtain ⟨D12, d12, rfl, ho⟩ := hv
                have O12 := ho.weak (b := w.heap.size) hbs
                clear ho
                clear hb hbs
                refine hK.out _ _ (⟨M.cell, wcell BS HAD hk12 HA⟩) (fun hHeld2 => ?_)
                clear hK K hHeld
                have hHeld := hHeld2
                clear hHeld2
                (try simp only [oq35_12_6, Act.put, List.setIfInBounds_toArray, List.set_cons_zero, List.set_cons_succ])
                refine AnyL_ready (rs := [8, 9]) (by kernel_rfl) (by simp) ?_
                refine ReadyL.cons (o := oq35_12_8) rfl (fun K hK => ?_) ?_
                · delta oq35_12_8
                  go_simp
                  have hbs : w.heap.size ≤ V10.heap.size := WW.size
                  have hc := rpow3_any D11 D12 D1 d11 d12 d1 a y n V10 O11.num O12.num M.num (by omega) (by omega) (by omega) (by omega)
                  rw [← HX0.out] at hc
                  refine hc.mono ?_
                  clear hc
                  rintro e V11 ⟨v, rfl, hv, hb⟩
                  replace M := M.below hb
                  replace L := L.below hb
                  replace E := E.below hb
                  replace O11 := O11.below hb (Nat.le_refl _)
                  replace O12 := O12.below hb (Nat.le_refl _)
                  replace BS := BS.below hb BS.lt
                  replace WW := WW.trans (hb.mono WW.size)
                  have sz11 := hb.size
                  obtain ⟨D13, d13, rfl, ho⟩ := hv
                  have O13 := ho.weak (b := w.heap.size) hbs
                  clear ho
                  clear hb hbs
                  refine hK.out _ _ (⟨M.cell, wcell BS HAD hk12 HA⟩) (fun hHeld2 => ?_)
                  clear hK K hHeld
                  have hHeld := hHeld2
                  clear hHeld2
                  (try simp only [oq35_12_8, Act.put, List.setIfInBounds_toArray, List.set_cons_zero, List.set_cons_succ])
                  refine AnyL_ready (rs := [9]) (by kernel_rfl) (by simp) ?_
                  refine ReadyL.cons (o := oq35_12_9) rfl (fun K hK => ?_) ReadyL.nil
                  delta oq35_12_9
                  have lqM : V1.heap.size < V11.heap.size := M.lt
                  have lqL : V3.heap.size < V11.heap.size := L.lt
                  have lqE : V5.heap.size < V11.heap.size := E.lt
                  have lqBS : gb < V11.heap.size := BS.lt
                  go_simp
                  have ba := (Below.refl V11.heap.size V11).alloc (Nat.le_refl _) (.cells #[.slice none 0 0] 37)
                  replace M := M.below ba
                  replace L := L.below ba
                  replace E := E.below ba
                  replace O11 := O11.below ba (Nat.le_refl _)
                  replace O12 := O12.below ba (Nat.le_refl _)
                  replace O13 := O13.below ba (Nat.le_refl _)
                  replace BS := BS.below ba BS.lt
                  have bn := Blk.new V11 37 #[.slice none 0 0]
                  have X := VB.mk (B := w.heap.size) (a := 0) bn (.inr (Own.nil _ _ _ _ (Nat.zero_le _))) ba WW.size WW.size
                  replace WW := WW.trans (ba.mono WW.size)
                  have sz12 : V11.heap.size < (V11.alloc (.cells #[.slice none 0 0] 37)).heap.size := bn.lt
                  refine hK.out _ _ (⟨M.cell, wcell BS HAD hk12 HA⟩) (fun hHeld2 => ?_)
                  clear hK K hHeld
                  (try simp only [oq35_12_9, Act.put, List.setIfInBounds_toArray, List.set_cons_zero, List.set_cons_succ])
                  generalize hV : V11.alloc (.cells #[.slice none 0 0] 37) = V12 at hHeld2 sz12 WW M L E X O11 O12 O13 BS ⊢
                  clear hV ba bn
                  have hHeld := hHeld2
                  clear hHeld2
                  obtain ⟨gX, hg⟩ : ∃ x, x = V11.heap.size := ⟨_, rfl⟩
                  have mXM : V1.heap.size < gX := by omega
                  have mXL : V3.heap.size < gX := by omega
                  have mXE : V5.heap.size < gX := by omega
                  have mXBS : gb < gX := by omega
                  rw [← hg] at X sz12 ⊢
                  clear hg lqM lqL lqE lqBS
                  refine AnyL_ready (rs := [10]) (by kernel_rfl) (by simp) ?_
                  refine ReadyL.cons (o := oq35_12_10) rfl (fun K hK => ?_) ReadyL.nil
                  delta oq35_12_10
                  have fz := X.1.frozen 0
                  have cz := X.cell
                  have lz := X.lt
                  go_simp
                  have Xn := X.set_ (A' := D13) (n' := (nw x0)) (c' := d13) (a' := x0) (.inr O13)
                  replace M := M.far (p := ⟨gX, 0, none⟩) X.1 X.2.2 (by simp <;> omega) (.slice D13 (nw x0) d13)
                  replace L := L.far (p := ⟨gX, 0, none⟩) X.1 X.2.2 (by simp <;> omega) (.slice D13 (nw x0) d13)
                  replace E := E.far (p := ⟨gX, 0, none⟩) X.1 X.2.2 (by simp <;> omega) (.slice D13 (nw x0) d13)
                  replace O11 := O11.box (p := ⟨gX, 0, none⟩) X.1 (by decide) (.slice D13 (nw x0) d13)
                  replace O12 := O12.box (p := ⟨gX, 0, none⟩) X.1 (by decide) (.slice D13 (nw x0) d13)
                  replace O13 := O13.box (p := ⟨gX, 0, none⟩) X.1 (by decide) (.slice D13 (nw x0) d13)
                  replace BS := BS.far (p := ⟨gX, 0, none⟩) (by simp <;> omega) (.slice D13 (nw x0) d13)
                  replace X := Xn
                  clear Xn
                  replace WW := WW.setCell (p := ⟨gX, 0, none⟩) X.2.2 (.slice D13 (nw x0) d13)
                  refine hK.out _ _ (⟨M.cell, wcell BS HAD hk12 HA⟩) (fun hHeld2 => ?_)
                  clear hK K hHeld
                  (try simp only [oq35_12_10, Act.put, List.setIfInBounds_toArray, List.set_cons_zero, List.set_cons_succ])
                  generalize hV : V12.setCell ⟨gX, 0, none⟩ (.slice D13 (nw x0) d13) = V13 at hHeld2 WW M L E X O11 O12 O13 BS ⊢
                  clear hV fz cz lz
                  have hHeld := hHeld2
                  clear hHeld2
                  refine AnyL_done (by kernel_rfl) ?_ _
                  clear hHeld
                  refine NoPanic.normal ?_
                  exact ⟨rfl, gX, D11, d11, D12, d12, D13, d13, rfl, WW, M, L, E, X, O11, O12, O13, BS, (by first | exact mXM | omega), (by first | exact mXL | omega), (by first | exact mXE | omega), (by first | exact mXBS | omega)⟩
                refine ReadyL.cons (o := oq35_12_9) rfl (fun K hK => ?_) ReadyL.nil
                · delta oq35_12_9
                  have lqM : V1.heap.size < V10.heap.size := M.lt
                  have lqL : V3.heap.size < V10.heap.size := L.lt
                  have lqE : V5.heap.size < V10.heap.size := E.lt
                  have lqBS : gb < V10.heap.size := BS.lt
                  go_simp
                  have ba := (Below.refl V10.heap.size V10).alloc (Nat.le_refl _) (.cells #[.slice none 0 0] 37)
                  replace M := M.below ba
                  replace L := L.below ba
                  replace E := E.below ba
                  replace O11 := O11.below ba (Nat.le_refl _)
                  replace O12 := O12.below ba (Nat.le_refl _)
                  replace BS := BS.below ba BS.lt
                  have bn := Blk.new V10 37 #[.slice none 0 0]
                  have X := VB.mk (B := w.heap.size) (a := 0) bn (.inr (Own.nil _ _ _ _ (Nat.zero_le _))) ba WW.size WW.size
                  replace WW := WW.trans (ba.mono WW.size)
                  have sz11 : V10.heap.size < (V10.alloc (.cells #[.slice none 0 0] 37)).heap.size := bn.lt
                  refine hK.out _ _ (⟨M.cell, wcell BS HAD hk12 HA⟩) (fun hHeld2 => ?_)
                  clear hK K hHeld
                  (try simp only [oq35_12_9, Act.put, List.setIfInBounds_toArray, List.set_cons_zero, List.set_cons_succ])
                  generalize hV : V10.alloc (.cells #[.slice none 0 0] 37) = V11 at hHeld2 sz11 WW M L E X O11 O12 BS ⊢
                  clear hV ba bn
                  have hHeld := hHeld2
                  clear hHeld2
                  obtain ⟨gX, hg⟩ : ∃ x, x = V10.heap.size := ⟨_, rfl⟩
                  have mXM : V1.heap.size < gX := by omega
                  have mXL : V3.heap.size < gX := by omega
                  have mXE : V5.heap.size < gX := by omega
                  have mXBS : gb < gX := by omega
                  rw [← hg] at X sz11 ⊢
                  clear hg lqM lqL lqE lqBS
                  refine AnyL_ready (rs := [8]) (by kernel_rfl) (by simp) ?_
                  refine ReadyL.cons (o := oq35_12_8) rfl (fun K hK => ?_) ReadyL.nil
                  delta oq35_12_8
                  go_simp
                  have hbs : w.heap.size ≤ V11.heap.size := WW.size
                  have hc := rpow3_any D11 D12 D1 d11 d12 d1 a y n V11 O11.num O12.num M.num (by omega) (by omega) (by omega) (by omega)
                  rw [← HX0.out] at hc
                  refine hc.mono ?_
                  clear hc
                  rintro e V12 ⟨v, rfl, hv, hb⟩
                  replace M := M.below hb
                  replace L := L.below hb
                  replace E := E.below hb
                  replace X := X.below hb
                  replace O11 := O11.below hb (Nat.le_refl _)
                  replace O12 := O12.below hb (Nat.le_refl _)
                  replace BS := BS.below hb BS.lt
                  replace WW := WW.trans (hb.mono WW.size)
                  have sz12 := hb.size
                  obtain ⟨D13, d13, rfl, ho⟩ := hv
                  have O13 := ho.weak (b := w.heap.size) hbs
                  clear ho
                  clear hb hbs
                  refine hK.out _ _ (⟨M.cell, wcell BS HAD hk12 HA⟩) (fun hHeld2 => ?_)
                  clear hK K hHeld
                  have hHeld := hHeld2
                  clear hHeld2
                  (try simp only [oq35_12_8, Act.put, List.setIfInBounds_toArray, List.set_cons_zero, List.set_cons_succ])
                  refine AnyL_ready (rs := [10]) (by kernel_rfl) (by simp) ?_
                  refine ReadyL.cons (o := oq35_12_10) rfl (fun K hK => ?_) ReadyL.nil
                  delta oq35_12_10
                  have fz := X.1.frozen 0
                  have cz := X.cell
                  have lz := X.lt
                  go_simp
                  have Xn := X.set_ (A' := D13) (n' := (nw x0)) (c' := d13) (a' := x0) (.inr O13)
                  replace M := M.far (p := ⟨gX, 0, none⟩) X.1 X.2.2 (by simp <;> omega) (.slice D13 (nw x0) d13)
                  replace L := L.far (p := ⟨gX, 0, none⟩) X.1 X.2.2 (by simp <;> omega) (.slice D13 (nw x0) d13)
                  replace E := E.far (p := ⟨gX, 0, none⟩) X.1 X.2.2 (by simp <;> omega) (.slice D13 (nw x0) d13)
                  replace O11 := O11.box (p := ⟨gX, 0, none⟩) X.1 (by decide) (.slice D13 (nw x0) d13)
                  replace O12 := O12.box (p := ⟨gX, 0, none⟩) X.1 (by decide) (.slice D13 (nw x0) d13)
                  replace O13 := O13.box (p := ⟨gX, 0, none⟩) X.1 (by decide) (.slice D13 (nw x0) d13)
                  replace BS := BS.far (p := ⟨gX, 0, none⟩) (by simp <;> omega) (.slice D13 (nw x0) d13)
                  replace X := Xn
                  clear Xn
                  replace WW := WW.setCell (p := ⟨gX, 0, none⟩) X.2.2 (.slice D13 (nw x0) d13)
                  refine hK.out _ _ (⟨M.cell, wcell BS HAD hk12 HA⟩) (fun hHeld2 => ?_)
                  clear hK K hHeld
                  (try simp only [oq35_12_10, Act.put, List.setIfInBounds_toArray, List.set_cons_zero, List.set_cons_succ])
                  generalize hV : V12.setCell ⟨gX, 0, none⟩ (.slice D13 (nw x0) d13) = V13 at hHeld2 WW M L E X O11 O12 O13 BS ⊢
                  clear hV fz cz lz
                  have hHeld := hHeld2
                  clear hHeld2
                  refine AnyL_done (by kernel_rfl) ?_ _
                  clear hHeld
                  refine NoPanic.normal ?_
                  exact ⟨rfl, gX, D11, d11, D12, d12, D13, d13, rfl, WW, M, L, E, X, O11, O12, O13, BS, (by first | exact mXM | omega), (by first | exact mXL | omega), (by first | exact mXE | omega), (by first | exact mXBS | omega)⟩
              refine ReadyL.cons (o := oq35_12_9) rfl (fun K hK => ?_) ReadyL.nil
              · delta oq35_12_9
                have lqM : V1.heap.size < V9.heap.size := M.lt
                have lqL : V3.heap.size < V9.heap.size := L.lt
                have lqE : V5.heap.size < V9.heap.size := E.lt
                have lqBS : gb < V9.heap.size := BS.lt
                go_simp
                have ba := (Below.refl V9.heap.size V9).alloc (Nat.le_refl _) (.cells #[.slice none 0 0] 37)
                replace M := M.below ba
                replace L := L.below ba
                replace E := E.below ba
                replace O11 := O11.below ba (Nat.le_refl _)
                replace BS := BS.below ba BS.lt
                have bn := Blk.new V9 37 #[.slice none 0 0]
                have X := VB.mk (B := w.heap.size) (a := 0) bn (.inr (Own.nil _ _ _ _ (Nat.zero_le _))) ba WW.size WW.size
                replace WW := WW.trans (ba.mono WW.size)
                have sz10 : V9.heap.size < (V9.alloc (.cells #[.slice none 0 0] 37)).heap.size := bn.lt
                refine hK.out _ _ (⟨M.cell, wcell BS HAD hk12 HA⟩) (fun hHeld2 => ?_)
                clear hK K hHeld
                (try simp only [oq35_12_9, Act.put, List.setIfInBounds_toArray, List.set_cons_zero, List.set_cons_succ])
                generalize hV : V9.alloc (.cells #[.slice none 0 0] 37) = V10 at hHeld2 sz10 WW M L E X O11 BS ⊢
                clear hV ba bn
                have hHeld := hHeld2
                clear hHeld2
                obtain ⟨gX, hg⟩ : ∃ x, x = V9.heap.size := ⟨_, rfl⟩
                have mXM : V1.heap.size < gX := by omega
                have mXL : V3.heap.size < gX := by omega
                have mXE : V5.heap.size < gX := by omega
                have mXBS : gb < gX := by omega
                rw [← hg] at X sz10 ⊢
                clear hg lqM lqL lqE lqBS
                refine AnyL_ready (rs := [6]) (by kernel_rfl) (by simp) ?_
                refine ReadyL.cons (o := oq35_12_6) rfl (fun K hK => ?_) ReadyL.nil
                delta oq35_12_6
                go_simp
                have hbs : w.heap.size ≤ V10.heap.size := WW.size
                have hc := rof_any y V10 (by omega)
                refine hc.mono ?_
                clear hc
                rintro e V11 ⟨v, rfl, hv, hb⟩
                replace M := M.below hb
                replace L := L.below hb
                replace E := E.below hb
                replace X := X.below hb
                replace O11 := O11.below hb (Nat.le_refl _)
                replace BS := BS.below hb BS.lt
                replace WW := WW.trans (hb.mono WW.size)
                have sz11 := hb.size
                obtain ⟨D12, d12, rfl, ho⟩ := hv
                have O12 := ho.weak (b := w.heap.size) hbs
                clear ho
                clear hb hbs
                refine hK.out _ _ (⟨M.cell, wcell BS HAD hk12 HA⟩) (fun hHeld2 => ?_)
                clear hK K hHeld
                have hHeld := hHeld2
                clear hHeld2
                (try simp only [oq35_12_6, Act.put, List.setIfInBounds_toArray, List.set_cons_zero, List.set_cons_succ])
                refine AnyL_ready (rs := [8]) (by kernel_rfl) (by simp) ?_
                refine ReadyL.cons (o := oq35_12_8) rfl (fun K hK => ?_) ReadyL.nil
                delta oq35_12_8
                go_simp
                have hbs : w.heap.size ≤ V11.heap.size := WW.size
                have hc := rpow3_any D11 D12 D1 d11 d12 d1 a y n V11 O11.num O12.num M.num (by omega) (by omega) (by omega) (by omega)
                rw [← HX0.out] at hc
                refine hc.mono ?_
                clear hc
                rintro e V12 ⟨v, rfl, hv, hb⟩
                replace M := M.below hb
                replace L := L.below hb
                replace E := E.below hb
                replace X := X.below hb
                replace O11 := O11.below hb (Nat.le_refl _)
                replace O12 := O12.below hb (Nat.le_refl _)
                replace BS := BS.below hb BS.lt
                replace WW := WW.trans (hb.mono WW.size)
                have sz12 := hb.size
                obtain ⟨D13, d13, rfl, ho⟩ := hv
                have O13 := ho.weak (b := w.heap.size) hbs
                clear ho
                clear hb hbs
                refine hK.out _ _ (⟨M.cell, wcell BS HAD hk12 HA⟩) (fun hHeld2 => ?_)
                clear hK K hHeld
                have hHeld := hHeld2
                clear hHeld2
                (try simp only [oq35_12_8, Act.put, List.setIfInBounds_toArray, List.set_cons_zero, List.set_cons_succ])
                refine AnyL_ready (rs := [10]) (by kernel_rfl) (by simp) ?_
                refine ReadyL.cons (o := oq35_12_10) rfl (fun K hK => ?_) ReadyL.nil
                delta oq35_12_10
                have fz := X.1.frozen 0
                have cz := X.cell
                have lz := X.lt
                go_simp
                have Xn := X.set_ (A' := D13) (n' := (nw x0)) (c' := d13) (a' := x0) (.inr O13)
                replace M := M.far (p := ⟨gX, 0, none⟩) X.1 X.2.2 (by simp <;> omega) (.slice D13 (nw x0) d13)
                replace L := L.far (p := ⟨gX, 0, none⟩) X.1 X.2.2 (by simp <;> omega) (.slice D13 (nw x0) d13)
                replace E := E.far (p := ⟨gX, 0, none⟩) X.1 X.2.2 (by simp <;> omega) (.slice D13 (nw x0) d13)
                replace O11 := O11.box (p := ⟨gX, 0, none⟩) X.1 (by decide) (.slice D13 (nw x0) d13)
                replace O12 := O12.box (p := ⟨gX, 0, none⟩) X.1 (by decide) (.slice D13 (nw x0) d13)
                replace O13 := O13.box (p := ⟨gX, 0, none⟩) X.1 (by decide) (.slice D13 (nw x0) d13)
                replace BS := BS.far (p := ⟨gX, 0, none⟩) (by simp <;> omega) (.slice D13 (nw x0) d13)
                replace X := Xn
                clear Xn
                replace WW := WW.setCell (p := ⟨gX, 0, none⟩) X.2.2 (.slice D13 (nw x0) d13)
                refine hK.out _ _ (⟨M.cell, wcell BS HAD hk12 HA⟩) (fun hHeld2 => ?_)
                clear hK K hHeld
                (try simp only [oq35_12_10, Act.put, List.setIfInBounds_toArray, List.set_cons_zero, List.set_cons_succ])
                generalize hV : V12.setCell ⟨gX, 0, none⟩ (.slice D13 (nw x0) d13) = V13 at hHeld2 WW M L E X O11 O12 O13 BS ⊢
                clear hV fz cz lz
                have hHeld := hHeld2
                clear hHeld2
                refine AnyL_done (by kernel_rfl) ?_ _
                clear hHeld
                refine NoPanic.normal ?_
                exact ⟨rfl, gX, D11, d11, D12, d12, D13, d13, rfl, WW, M, L, E, X, O11, O12, O13, BS, (by first | exact mXM | omega), (by first | exact mXL | omega), (by first | exact mXE | omega), (by first | exact mXBS | omega)⟩
            refine ReadyL.cons (o := oq35_12_9) rfl (fun K hK => ?_) ReadyL.nil
            · delta oq35_12_9
              have lqM : V1.heap.size < U7x0.heap.size := M.lt
              have lqL : V3.heap.size < U7x0.heap.size := L.lt
              have lqE : V5.heap.size < U7x0.heap.size := E.lt
              have lqBS : gb < U7x0.heap.size := BS.lt
              go_simp
              have ba := (Below.refl U7x0.heap.size U7x0).alloc (Nat.le_refl _) (.cells #[.slice none 0 0] 37)
              replace M := M.below ba
              replace L := L.below ba
              replace E := E.below ba
              replace BS := BS.below ba BS.lt
              have bn := Blk.new U7x0 37 #[.slice none 0 0]
              have X := VB.mk (B := w.heap.size) (a := 0) bn (.inr (Own.nil _ _ _ _ (Nat.zero_le _))) ba WW.size WW.size
              replace WW := WW.trans (ba.mono WW.size)
              have sz9 : U7x0.heap.size < (U7x0.alloc (.cells #[.slice none 0 0] 37)).heap.size := bn.lt
              refine hK.out _ _ (⟨M.cell, wcell BS HAD hk12 HA⟩) (fun hHeld2 => ?_)
              clear hK K hHeld
              (try simp only [oq35_12_9, Act.put, List.setIfInBounds_toArray, List.set_cons_zero, List.set_cons_succ])
              generalize hV : U7x0.alloc (.cells #[.slice none 0 0] 37) = V9 at hHeld2 sz9 WW M L E X BS ⊢
              clear hV ba bn
              have hHeld := hHeld2
              clear hHeld2
              obtain ⟨gX, hg⟩ : ∃ x, x = U7x0.heap.size := ⟨_, rfl⟩
              have mXM : V1.heap.size < gX := by omega
              have mXL : V3.heap.size < gX := by omega
              have mXE : V5.heap.size < gX := by omega
              have mXBS : gb < gX := by omega
              rw [← hg] at X sz9 ⊢
              clear hg lqM lqL lqE lqBS
              refine AnyL_ready (rs := [4]) (by kernel_rfl) (by simp) ?_
              refine ReadyL.cons (o := oq35_12_4) rfl (fun K hK => ?_) ReadyL.nil
              delta oq35_12_4
              go_simp
              have hbs : w.heap.size ≤ V9.heap.size := WW.size
              have hc := rof_any a V9 (by omega)
              refine hc.mono ?_
              clear hc
              rintro e V10 ⟨v, rfl, hv, hb⟩
              replace M := M.below hb
              replace L := L.below hb
              replace E := E.below hb
              replace X := X.below hb
              replace BS := BS.below hb BS.lt
              replace WW := WW.trans (hb.mono WW.size)
              have sz10 := hb.size
              obtain ⟨D11, d11, rfl, ho⟩ := hv
              have O11 := ho.weak (b := w.heap.size) hbs
              clear ho
              clear hb hbs
              refine hK.out _ _ (⟨M.cell, wcell BS HAD hk12 HA⟩) (fun hHeld2 => ?_)
              clear hK K hHeld
              have hHeld := hHeld2
              clear hHeld2
              (try simp only [oq35_12_4, Act.put, List.setIfInBounds_toArray, List.set_cons_zero, List.set_cons_succ])
              refine AnyL_ready (rs := [6]) (by kernel_rfl) (by simp) ?_
              refine ReadyL.cons (o := oq35_12_6) rfl (fun K hK => ?_) ReadyL.nil
              delta oq35_12_6
              go_simp
              have hbs : w.heap.size ≤ V10.heap.size := WW.size
              have hc := rof_any y V10 (by omega)
              refine hc.mono ?_
              clear hc
              rintro e V11 ⟨v, rfl, hv, hb⟩
              replace M := M.below hb
              replace L := L.below hb
              replace E := E.below hb
              replace X := X.below hb
              replace O11 := O11.below hb (Nat.le_refl _)
              replace BS := BS.below hb BS.lt
              replace WW := WW.trans (hb.mono WW.size)
              have sz11 := hb.size
              obtain ⟨D12, d12, rfl, ho⟩ := hv
              have O12 := ho.weak (b := w.heap.size) hbs
              clear ho
              clear hb hbs
              refine hK.out _ _ (⟨M.cell, wcell BS HAD hk12 HA⟩) (fun hHeld2 => ?_)
              clear hK K hHeld
              have hHeld := hHeld2
              clear hHeld2
              (try simp only [oq35_12_6, Act.put, List.setIfInBounds_toArray, List.set_cons_zero, List.set_cons_succ])
              refine AnyL_ready (rs := [8]) (by kernel_rfl) (by simp) ?_
              refine ReadyL.cons (o := oq35_12_8) rfl (fun K hK => ?_) ReadyL.nil
              delta oq35_12_8
              go_simp
              have hbs : w.heap.size ≤ V11.heap.size := WW.size
              have hc := rpow3_any D11 D12 D1 d11 d12 d1 a y n V11 O11.num O12.num M.num (by omega) (by omega) (by omega) (by omega)
              rw [← HX0.out] at hc
              refine hc.mono ?_
              clear hc
              rintro e V12 ⟨v, rfl, hv, hb⟩
              replace M := M.below hb
              replace L := L.below hb
              replace E := E.below hb
              replace X := X.below hb
              replace O11 := O11.below hb (Nat.le_refl _)
              replace O12 := O12.below hb (Nat.le_refl _)
              replace BS := BS.below hb BS.lt
              replace WW := WW.trans (hb.mono WW.size)
              have sz12 := hb.size
              obtain ⟨D13, d13, rfl, ho⟩ := hv
              have O13 := ho.weak (b := w.heap.size) hbs
              clear ho
              clear hb hbs
              refine hK.out _ _ (⟨M.cell, wcell BS HAD hk12 HA⟩) (fun hHeld2 => ?_)
              clear hK K hHeld
              have hHeld := hHeld2
              clear hHeld2
              (try simp only [oq35_12_8, Act.put, List.setIfInBounds_toArray, List.set_cons_zero, List.set_cons_succ])
              refine AnyL_ready (rs := [10]) (by kernel_rfl) (by simp) ?_
              refine ReadyL.cons (o := oq35_12_10) rfl (fun K hK => ?_) ReadyL.nil
              delta oq35_12_10
              have fz := X.1.frozen 0
              have cz := X.cell
              have lz := X.lt
              go_simp
              have Xn := X.set_ (A' := D13) (n' := (nw x0)) (c' := d13) (a' := x0) (.inr O13)
              replace M := M.far (p := ⟨gX, 0, none⟩) X.1 X.2.2 (by simp <;> omega) (.slice D13 (nw x0) d13)
              replace L := L.far (p := ⟨gX, 0, none⟩) X.1 X.2.2 (by simp <;> omega) (.slice D13 (nw x0) d13)
              replace E := E.far (p := ⟨gX, 0, none⟩) X.1 X.2.2 (by simp <;> omega) (.slice D13 (nw x0) d13)
              replace O11 := O11.box (p := ⟨gX, 0, none⟩) X.1 (by decide) (.slice D13 (nw x0) d13)
              replace O12 := O12.box (p := ⟨gX, 0, none⟩) X.1 (by decide) (.slice D13 (nw x0) d13)
              replace O13 := O13.box (p := ⟨gX, 0, none⟩) X.1 (by decide) (.slice D13 (nw x0) d13)
              replace BS := BS.far (p := ⟨gX, 0, none⟩) (by simp <;> omega) (.slice D13 (nw x0) d13)
              replace X := Xn
              clear Xn
              replace WW := WW.setCell (p := ⟨gX, 0, none⟩) X.2.2 (.slice D13 (nw x0) d13)
              refine hK.out _ _ (⟨M.cell, wcell BS HAD hk12 HA⟩) (fun hHeld2 => ?_)
              clear hK K hHeld
              (try simp only [oq35_12_10, Act.put, List.setIfInBounds_toArray, List.set_cons_zero, List.set_cons_succ])
              generalize hV : V12.setCell ⟨gX, 0, none⟩ (.slice D13 (nw x0) d13) = V13 at hHeld2 WW M L E X O11 O12 O13 BS ⊢
              clear hV fz cz lz
              have hHeld := hHeld2
              clear hHeld2
              refine AnyL_done (by kernel_rfl) ?_ _
              clear hHeld
              refine NoPanic.normal ?_
              exact ⟨rfl, gX, D11, d11, D12, d12, D13, d13, rfl, WW, M, L, E, X, O11, O12, O13, BS, (by first | exact mXM | omega), (by first | exact mXL | omega), (by first | exact mXE | omega), (by first | exact mXBS | omega)⟩
          rintro gX D11 d11 D12 d12 D13 d13 V57 ⟨WW, M, L, E, X, O11, O12, O13, BS, mXM, mXL, mXE, mXBS⟩
          have kM := M.cell
          have zM := M.lt
          have kL := L.cell
          have zL := L.lt
          have kE := E.cell
          have zE := E.lt
          have kX := X.cell
          have zX := X.lt
          have zBS := BS.lt
          clear O11 O12
          go_wp2_with fail
          have hbs : w.heap.size ≤ V57.heap.size := WW.size
          have hc := rsame_any D13 D3 _ _ d13 d3 x0 1 V57 X.num E.num (by omega) (by decide)
          rw [sameR_nw] at hc
          refine hc.mono ?_
          clear hc
          rintro e V58 ⟨rfl, hb⟩
          clear kM zM kL zL kE zE kX zX  zBS
          replace M := M.below hb
          replace L := L.below hb
          replace E := E.below hb
          replace X := X.below hb
          replace O13 := O13.below hb (Nat.le_refl _)
          replace BS := BS.below hb BS.lt
          replace WW := WW.trans (hb.mono WW.size)
          have kM := M.cell
          have zM := M.lt
          have kL := L.cell
          have zL := L.lt
          have kE := E.cell
          have zE := E.lt
          have kX := X.cell
          have zX := X.lt
          have zBS := BS.lt
          clear hb hbs
          by_cases h1 : x0 = 1
          · have HB := hid (mr_one HX0.out h1 HDn.out HC.out)
            have l3 : decide (x0 = 1) = true := decide_eq_true h1
            clear h1
            go_wp2_with fail
            go_loopw [11, 12] (fun b j wr => ∃ (z : Nat), b = .bool true ∧ j = .int .i64 ((z : Nat) : Int) ∧ Below w.heap.size w wr ∧ VB w.heap.size wr (V1.heap.size) D1 (nw n) d1 n ∧ VB w.heap.size wr (V3.heap.size) D2 (nw N) d2 N ∧ VB w.heap.size wr (V5.heap.size) D3 (nw 1) d3 1 ∧ VB w.heap.size wr (gX) D13 (nw x0) d13 x0 ∧ Own wr w.heap.size D13 (nw x0) d13 x0 ∧ Blk wr (gb) 3 #[.int .i64 2, .int .i64 3, .int .i64 5, .int .i64 7, .int .i64 11, .int .i64 13, .int .i64 17, .int .i64 19, .int .i64 23, .int .i64 29, .int .i64 31, .int .i64 37]) (fun b j wr => 0)
            case atStart => exact ⟨1, by go_num, by go_num, WW, M, L, E, X, O13, BS⟩
            case round =>
              clear WW kM zM kL zL kE zE kX zX  zBS M L E X O13 BS
              obtain ⟨z, rfl, rfl, WW, M, L, E, X, OO, BS⟩ := hrel
              have kM := M.cell
              have zM := M.lt
              have kL := L.cell
              have zL := L.lt
              have kE := E.cell
              have zE := E.lt
              have kX := X.cell
              have zX := X.lt
              have zBS := BS.lt
              cases hrs : decide (z < s)
              · go_wp2_with fail
                go_roundw
                case rel => exact ⟨k + 1, by omega, by go_num, hid (wits_more HM.out HA.out HB.out), WW, M, L, E, BS⟩
                case measure => simp [intOf] <;> omega
              · go_wp2_with fail
                go_roundw
                case rel => exact ⟨k + 1, by omega, by go_num, hid (wits_more HM.out HA.out HB.out), WW, M, L, E, BS⟩
                case measure => simp [intOf] <;> omega
          · have H1 := hid h1
            have l3 : decide (x0 = 1) = false := decide_eq_false h1
            clear h1
            go_wp2_with fail
            have hbs : w.heap.size ≤ V58.heap.size := WW.size
            have hc := rsame_any D13 D2 _ _ d13 d2 x0 N V58 X.num L.num (by omega) (by omega)
            rw [sameR_nw] at hc
            refine hc.mono ?_
            clear hc
            rintro e V59 ⟨rfl, hb⟩
            clear kM zM kL zL kE zE kX zX  zBS
            replace M := M.below hb
            replace L := L.below hb
            replace E := E.below hb
            replace X := X.below hb
            replace O13 := O13.below hb (Nat.le_refl _)
            replace BS := BS.below hb BS.lt
            replace WW := WW.trans (hb.mono WW.size)
            have kM := M.cell
            have zM := M.lt
            have kL := L.cell
            have zL := L.lt
            have kE := E.cell
            have zE := E.lt
            have kX := X.cell
            have zX := X.lt
            have zBS := BS.lt
            clear hb hbs
            by_cases h2 : x0 = N
            · have HB := hid (mr_yes (a := a) (x := x0) (k := 0) hc1 (by rw [HX0.out]; simp) (by rw [h2, HNn.out]) HDn.out HC.out)
              have l4 : decide (x0 = N) = true := decide_eq_true h2
              clear h2
              go_wp2_with fail
              go_loopw [11, 12] (fun b j wr => ∃ (z : Nat), b = .bool true ∧ j = .int .i64 ((z : Nat) : Int) ∧ Below w.heap.size w wr ∧ VB w.heap.size wr (V1.heap.size) D1 (nw n) d1 n ∧ VB w.heap.size wr (V3.heap.size) D2 (nw N) d2 N ∧ VB w.heap.size wr (V5.heap.size) D3 (nw 1) d3 1 ∧ VB w.heap.size wr (gX) D13 (nw x0) d13 x0 ∧ Own wr w.heap.size D13 (nw x0) d13 x0 ∧ Blk wr (gb) 3 #[.int .i64 2, .int .i64 3, .int .i64 5, .int .i64 7, .int .i64 11, .int .i64 13, .int .i64 17, .int .i64 19, .int .i64 23, .int .i64 29, .int .i64 31, .int .i64 37]) (fun b j wr => 0)
              case atStart => exact ⟨1, by go_num, by go_num, WW, M, L, E, X, O13, BS⟩
              case round =>
                clear WW kM zM kL zL kE zE kX zX  zBS M L E X O13 BS
                obtain ⟨z, rfl, rfl, WW, M, L, E, X, OO, BS⟩ := hrel
                have kM := M.cell
                have zM := M.lt
                have kL := L.cell
                have zL := L.lt
                have kE := E.cell
                have zE := E.lt
                have kX := X.cell
                have zX := X.lt
                have zBS := BS.lt
                cases hrs : decide (z < s)
                · go_wp2_with fail
                  go_roundw
                  case rel => exact ⟨k + 1, by omega, by go_num, hid (wits_more HM.out HA.out HB.out), WW, M, L, E, BS⟩
                  case measure => simp [intOf] <;> omega
                · go_wp2_with fail
                  go_roundw
                  case rel => exact ⟨k + 1, by omega, by go_num, hid (wits_more HM.out HA.out HB.out), WW, M, L, E, BS⟩
                  case measure => simp [intOf] <;> omega
            · have l4 : decide (x0 = N) = false := decide_eq_false h2
              have H2 : Hid (∀ i, i < 1 → a ^ (y * 2 ^ i) % n ≠ n - 1) := (show ∀ i, _ → _ from fun i hi => by
                obtain rfl : i = 0 := by omega
                rw [Nat.pow_zero, Nat.mul_one, ← HX0.out, ← HNn.out]; exact h2)
              clear h2
              go_wp2_with fail
              go_loopw [11, 12] (fun b j wr => ∃ (r z : Nat) (q : Bool) (O : Option Addr) (oc : Nat), 1 ≤ r ∧ r ≤ s ∧ b = .bool q ∧ j = .int .i64 ((r : Nat) : Int) ∧ z < n ∧ Hid (q = true → mrB n a = true) ∧ Hid (q = false → z = a ^ (y * 2 ^ (r - 1)) % n ∧ ∀ i, i < r → a ^ (y * 2 ^ i) % n ≠ n - 1) ∧ Below w.heap.size w wr ∧ VB w.heap.size wr (V1.heap.size) D1 (nw n) d1 n ∧ VB w.heap.size wr (V3.heap.size) D2 (nw N) d2 N ∧ VB w.heap.size wr (V5.heap.size) D3 (nw 1) d3 1 ∧ VB w.heap.size wr (gX) O (nw z) oc z ∧ Own wr w.heap.size O (nw z) oc z ∧ Blk wr (gb) 3 #[.int .i64 2, .int .i64 3, .int .i64 5, .int .i64 7, .int .i64 11, .int .i64 13, .int .i64 17, .int .i64 19, .int .i64 23, .int .i64 29, .int .i64 31, .int .i64 37]) (fun b j wr => s - (intOf j).toNat)
              case atStart => exact ⟨1, x0, false, D13, d13, by omega, by omega, by go_num, by go_num, hx0n, (show _ → _ from fun h => by cases h), (show _ → _ from fun _ => ⟨by rw [HX0.out]; simp, H2.out⟩), WW, M, L, E, X, O13, BS⟩
              case round =>
                clear WW kM zM kL zL kE zE kX zX  zBS M L E X O13 BS
                obtain ⟨r, z, q, O, oc, hr1, hr2, rfl, rfl, hz, HT, HF, WW, M, L, E, X, OO, BS⟩ := hrel
                have kM := M.cell
                have zM := M.lt
                have kL := L.cell
                have zL := L.lt
                have kE := E.cell
                have zE := E.lt
                have kX := X.cell
                have zX := X.lt
                have zBS := BS.lt
                have nwz := nw_i63 (a := z) (by omega)
                cases q
                · obtain ⟨hz2, hz3⟩ := HF.out rfl
                  have HZ := hid hz2
                  have HM3 := hid hz3
                  clear hz2 hz3 HT HF
                  by_cases hrs : r < s
                  · have l3 : decide (((r : Nat) : Int) < ((s : Nat) : Int)) = true := by simp; omega
                    obtain ⟨u, hu⟩ : ∃ u, u = z * z % n := ⟨_, rfl⟩
                    have hun : u < n := by rw [hu]; exact Nat.mod_lt _ (by omega)
                    have HU0 := hid hu
                    have nwu := nw_i63 (a := u) (by omega)
                    have HU : Hid (u = a ^ (y * 2 ^ r) % n) := (show _ = _ by
                      have := mr_sq HZ.out
                      rw [show r - 1 + 1 = r by omega] at this
                      rw [hu]; exact this)
                    clear hu
                    go_wp2_with fail
                    have hbs : w.heap.size ≤ wr.heap.size := WW.size
                    have hc := rmul3_any O O D1 oc oc d1 z z n wr X.num X.num M.num (by omega) (by omega) (by omega) (by omega)
                    rw [← HU0.out] at hc
                    refine hc.mono ?_
                    clear hc
                    rintro e V60 ⟨v, rfl, hv, hb⟩
                    clear kM zM kL zL kE zE kX zX  zBS
                    replace M := M.below hb
                    replace L := L.below hb
                    replace E := E.below hb
                    replace X := X.below hb
                    replace OO := OO.below hb (Nat.le_refl _)
                    replace BS := BS.below hb BS.lt
                    replace WW := WW.trans (hb.mono WW.size)
                    obtain ⟨D20, d20, rfl, ho⟩ := hv
                    have O20 := ho.weak (b := w.heap.size) hbs
                    clear ho
                    have kM := M.cell
                    have zM := M.lt
                    have kL := L.cell
                    have zL := L.lt
                    have kE := E.cell
                    have zE := E.lt
                    have kX := X.cell
                    have zX := X.lt
                    have zBS := BS.lt
                    clear hb hbs
                    have fX := X.1.frozen 0
                    have Xn := X.set_ (A' := D20) (n' := (nw u)) (c' := d20) (a' := u) (.inr O20)
                    replace M := M.far (p := ⟨gX, 0, none⟩) X.1 X.2.2 (by simp <;> omega) (.slice D20 (nw u) d20)
                    replace L := L.far (p := ⟨gX, 0, none⟩) X.1 X.2.2 (by simp <;> omega) (.slice D20 (nw u) d20)
                    replace E := E.far (p := ⟨gX, 0, none⟩) X.1 X.2.2 (by simp <;> omega) (.slice D20 (nw u) d20)
                    replace OO := OO.box (p := ⟨gX, 0, none⟩) X.1 (by decide) (.slice D20 (nw u) d20)
                    replace O20 := O20.box (p := ⟨gX, 0, none⟩) X.1 (by decide) (.slice D20 (nw u) d20)
                    replace BS := BS.far (p := ⟨gX, 0, none⟩) (by simp <;> omega) (.slice D20 (nw u) d20)
                    replace X := Xn
                    clear Xn
                    replace WW := WW.setCell (p := ⟨gX, 0, none⟩) X.2.2 (.slice D20 (nw u) d20)
                    go_wp2_with fail
                    clear kM zM kL zL kE zE kX zX  zBS fX
                    generalize hV : V60.setCell ⟨gX, 0, none⟩ (.slice D20 (nw u) d20) = V61 at M L E X OO O20 BS WW ⊢
                    clear hV
                    have kM := M.cell
                    have zM := M.lt
                    have kL := L.cell
                    have zL := L.lt
                    have kE := E.cell
                    have zE := E.lt
                    have kX := X.cell
                    have zX := X.lt
                    have zBS := BS.lt
                    have hbs : w.heap.size ≤ V61.heap.size := WW.size
                    have hc := rsame_any D20 D2 _ _ d20 d2 u N V61 X.num L.num (by omega) (by omega)
                    rw [sameR_nw] at hc
                    refine hc.mono ?_
                    clear hc
                    rintro e V62 ⟨rfl, hb⟩
                    clear kM zM kL zL kE zE kX zX  zBS
                    replace M := M.below hb
                    replace L := L.below hb
                    replace E := E.below hb
                    replace X := X.below hb
                    replace OO := OO.below hb (Nat.le_refl _)
                    replace O20 := O20.below hb (Nat.le_refl _)
                    replace BS := BS.below hb BS.lt
                    replace WW := WW.trans (hb.mono WW.size)
                    have kM := M.cell
                    have zM := M.lt
                    have kL := L.cell
                    have zL := L.lt
                    have kE := E.cell
                    have zE := E.lt
                    have kX := X.cell
                    have zX := X.lt
                    have zBS := BS.lt
                    clear hb hbs
                    go_wp2_with fail
                    go_roundw
                    case rel => exact ⟨r + 1, u, (decide (u = N)), D20, d20, by omega, by omega, by go_num, by go_num, hun, (show _ → _ from fun h => mr_yes hrs HU.out (by rw [of_decide_eq_true h, HNn.out]) HDn.out HC.out), (show _ → _ from fun h => ⟨by rw [Nat.add_sub_cancel]; exact HU.out, fun i hi => by
                      rcases Nat.lt_or_ge i r with h4 | h4
                      · exact HM3.out i h4
                      · obtain rfl : i = r := by omega
                        rw [← HU.out, ← HNn.out]; exact of_decide_eq_false h⟩), WW, M, L, E, X, O20, BS⟩
                    case measure => simp [intOf] <;> omega
                  · have l3 : decide (((r : Nat) : Int) < ((s : Nat) : Int)) = false := by simp; omega
                    have HB : Hid (wits.all (mrB n) = false) := (show _ = _ from wits_no hk12 HA.out (mr_no HX0.out H1.out (fun i hi => HM3.out i (by omega)) HDn.out HC.out))
                    go_wp2_with fail
                    go_ret
                    exact ⟨by rw [HB.out]; rfl, WW⟩
                · have HB := hid (HT.out rfl)
                  clear HT HF
                  cases hrs : decide (r < s)
                  · go_wp2_with fail
                    go_roundw
                    case rel => exact ⟨k + 1, by omega, by go_num, hid (wits_more HM.out HA.out HB.out), WW, M, L, E, BS⟩
                    case measure => simp [intOf] <;> omega
                  · go_wp2_with fail
                    go_roundw
                    case rel => exact ⟨k + 1, by omega, by go_num, hid (wits_more HM.out HA.out HB.out), WW, M, L, E, BS⟩
                    case measure => simp [intOf] <;> omega
        · have l2 : decide (((k : Nat) : Int) < 12) = false := by simp; omega
          have HB : Hid (wits.all (mrB n) = true) := (show _ = _ from wits_all fun i hi => HM.out i (by omega))
          go_wp2_with fail
          go_ret
          exact ⟨by rw [HB.out]; rfl, WW⟩

end Go.Proofs.YtomkmkjkeihodaaDoor
