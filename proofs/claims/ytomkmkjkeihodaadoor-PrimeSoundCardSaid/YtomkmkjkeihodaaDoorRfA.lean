/- Rf0, Rf1, Rf2, Rf3, Rf4, Rf5: merged. -/
import Derived.Test.YtomkmkjkeihodaaDoorOf3
import Derived.Deep.RegionHeld3
import Derived.KernelRfl
set_option linter.unusedVariables false
set_option linter.unusedSimpArgs false
namespace Go.Proofs.YtomkmkjkeihodaaDoor
open Go.RowKit

theorem Box.drew {V : World} {g n c a : Nat} {A : Option Addr} (h : Box V g A n c a) : Box V.drew g A n c a := ⟨h.1, h.2⟩
theorem Own.drew {w : World} {base n c a : Nat} {A : Option Addr} (h : Own w base A n c a) : Own w.drew base A n c a := h
theorem boxes5 (w : World) (x y z u v : Value) : Blk (((((w.alloc (.cells #[x] 37)).alloc (.cells #[y] 37)).alloc (.cells #[z] 37)).alloc (.cells #[u] 37)).alloc (.cells #[v] 37)) w.heap.size 37 #[x] ∧ Blk (((((w.alloc (.cells #[x] 37)).alloc (.cells #[y] 37)).alloc (.cells #[z] 37)).alloc (.cells #[u] 37)).alloc (.cells #[v] 37)) (w.heap.size + 1) 37 #[y] ∧
    Blk (((((w.alloc (.cells #[x] 37)).alloc (.cells #[y] 37)).alloc (.cells #[z] 37)).alloc (.cells #[u] 37)).alloc (.cells #[v] 37)) (w.heap.size + 1 + 1) 37 #[z] ∧ Blk (((((w.alloc (.cells #[x] 37)).alloc (.cells #[y] 37)).alloc (.cells #[z] 37)).alloc (.cells #[u] 37)).alloc (.cells #[v] 37)) (w.heap.size + 1 + 1 + 1) 37 #[u] ∧
    Blk (((((w.alloc (.cells #[x] 37)).alloc (.cells #[y] 37)).alloc (.cells #[z] 37)).alloc (.cells #[u] 37)).alloc (.cells #[v] 37)) (w.heap.size + 1 + 1 + 1 + 1) 37 #[v] ∧ Below w.heap.size w (((((w.alloc (.cells #[x] 37)).alloc (.cells #[y] 37)).alloc (.cells #[z] 37)).alloc (.cells #[u] 37)).alloc (.cells #[v] 37)) := by
  obtain ⟨h1, h2, h3, h4, h5⟩ := boxes4 w x y z u
  have e : ((((w.alloc (.cells #[x] 37)).alloc (.cells #[y] 37)).alloc (.cells #[z] 37)).alloc (.cells #[u] 37)).heap.size = w.heap.size + 1 + 1 + 1 + 1 := by simp
  exact ⟨h1.alloc _, h2.alloc _, h3.alloc _, h4.alloc _, by rw [← e]; exact Blk.new _ _ _, h5.alloc (by omega) _⟩
theorem wp_land {P : Program} {c : Code} {Q : Exit → Act → World → Prop} {a : Act} {w : World} {AA : Act} (R : World → Prop)
    (hreg : c.wp P (fun e a1 w1 => e = Exit.normal ∧ a1 = AA ∧ R w1) a w) (himp : ∀ w1, R w1 → Q Exit.normal AA w1) : c.wp P Q a w :=
  Code.wp_mono (fun e a1 w1 h => by obtain ⟨rfl, rfl, hR⟩ := h; exact himp w1 hR) hreg
theorem wp_landV {P : Program} {c : Code} {Q : Exit → Act → World → Prop} {a : Act} {w : World} {F : Nat → Nat → Option Addr → Nat → Option Addr → Nat → Option Addr → Nat → Nat → Act} (R : Nat → Nat → Option Addr → Nat → Option Addr → Nat → Option Addr → Nat → Nat → World → Prop)
    (hreg : c.wp P (fun e a1 w1 => e = Exit.normal ∧ ∃ x0 x1 x2 x3 x4 x5 x6 x7 x8, a1 = F x0 x1 x2 x3 x4 x5 x6 x7 x8 ∧ R x0 x1 x2 x3 x4 x5 x6 x7 x8 w1) a w) (himp : ∀ x0 x1 x2 x3 x4 x5 x6 x7 x8 w1, R x0 x1 x2 x3 x4 x5 x6 x7 x8 w1 → Q Exit.normal (F x0 x1 x2 x3 x4 x5 x6 x7 x8) w1) : c.wp P Q a w :=
  Code.wp_mono (fun e a1 w1 h => by obtain ⟨rfl, x0, x1, x2, x3, x4, x5, x6, x7, x8, rfl, hR⟩ := h; exact himp _ _ _ _ _ _ _ _ _ w1 hR) hreg
theorem wp_landW {P : Program} {c : Code} {Q : Exit → Act → World → Prop} {a : Act} {w : World} {F : Nat → Option Addr → Nat → Option Addr → Nat → Option Addr → Nat → Act} (R : Nat → Option Addr → Nat → Option Addr → Nat → Option Addr → Nat → World → Prop)
    (hreg : c.wp P (fun e a1 w1 => e = Exit.normal ∧ ∃ x0 x1 x2 x3 x4 x5 x6, a1 = F x0 x1 x2 x3 x4 x5 x6 ∧ R x0 x1 x2 x3 x4 x5 x6 w1) a w) (himp : ∀ x0 x1 x2 x3 x4 x5 x6 w1, R x0 x1 x2 x3 x4 x5 x6 w1 → Q Exit.normal (F x0 x1 x2 x3 x4 x5 x6) w1) : c.wp P Q a w :=
  Code.wp_mono (fun e a1 w1 h => by obtain ⟨rfl, x0, x1, x2, x3, x4, x5, x6, rfl, hR⟩ := h; exact himp _ _ _ _ _ _ _ w1 hR) hreg
theorem wpAnyH_name {P : Program} {md : Region.Mode} {ops : Array Oper} {Q : Exit → Act → World → Prop} {S : World → Prop} {fuel : Nat} {listed : Array Bool} {a : Act} {w : World} (Fc : World → Prop) (hf : Fc w)
    (h : ∀ W', Fc W' → wpAnyH P md ops Q S fuel listed a W') : wpAnyH P md ops Q S fuel listed a w := h w hf
theorem wp_landG {P : Program} {c : Code} {Q : Exit → Act → World → Prop} {a : Act} {w : World} {F : Nat → Option Addr → Nat → Option Addr → Nat → Act} (R : Nat → Option Addr → Nat → World → Prop)
    (hreg : c.wp P (fun e a1 w1 => e = Exit.normal ∧ ∃ g1 D d X x, a1 = F g1 D d X x ∧ R g1 X x w1) a w) (himp : ∀ g1 D d X x w1, R g1 X x w1 → Q Exit.normal (F g1 D d X x) w1) : c.wp P Q a w :=
  Code.wp_mono (fun e a1 w1 h => by obtain ⟨rfl, g1, D, d, X, x, rfl, hR⟩ := h; exact himp _ _ _ _ _ w1 hR) hreg
theorem nw_lit {a n : Nat} (h : a < 2 ^ (32 * n)) (h1 : dig a (n - 1) ≠ 0) : nw a = n := nw_unique h (.inr h1)
end Go.Proofs.YtomkmkjkeihodaaDoor

namespace Go.Proofs.YtomkmkjkeihodaaDoor
open Go.RowKit

theorem Box.drewN {V : World} {g n c a : Nat} {A : Option Addr} (h : Box V g A n c a) (k : Nat) : Box (V.drewN k) g A n c a := ⟨h.1, h.2⟩
theorem word3_b (A : Option Addr) (n c a i : Nat) (x : Int) (w : World) (hA : Num w w.heap.size A n a) (hn : n ≤ 9223372036854775807) (hi : i ≤ 9223372036854775807) (hx : ((dig a i : Nat) : Int) = x) :
    Calls Tryd.prog 103 #[.agg #[.slice A n c], .int .i64 (i : Int)] w (RetB (.int .u64 x) w) := by
  subst hx
  have HA := hid (hA.alloc (Nat.le_refl _) (.cells #[.slice A n c] 37))
  have d1 := dig_lt a i
  have x1 : IntKind.u64.wrap ((dig a i : Nat) : Int) = ((dig a i : Nat) : Int) := by rw [IntKind.wrap_u64]; omega
  by_cases hlt : i < n
  · obtain ⟨ad, rfl, h1, h2⟩ := HA.out.at_ hlt
    have l1 : (i : Int) < (n : Int) := by omega
    clear hA
    go_enter Tryd.func103, Tryd.ntmps103
    go_wp2_with fail
    go_ret
    exact ⟨rfl, (Below.refl _ _).alloc (Nat.le_refl _) _⟩
  · have hd : dig a i = 0 := dig_above hA.lt (by omega)
    rw [hd]
    have l1 : (n : Int) ≤ (i : Int) := by omega
    clear hA
    go_enter Tryd.func103, Tryd.ntmps103
    go_wp2_with fail
    go_ret
    exact ⟨rfl, (Below.refl _ _).alloc (Nat.le_refl _) _⟩

end Go.Proofs.YtomkmkjkeihodaaDoor

namespace Go.Proofs.YtomkmkjkeihodaaDoor
open Go.RowKit

set_option maxHeartbeats 4000000 in
theorem less3_same (A B' : Option Addr) (n c d a b : Nat) (w : World) (hA : Num w w.heap.size A n a) (hB : Num w w.heap.size B' n b) (hn : n ≤ 1000000) :
    Calls Tryd.prog 93 #[.agg #[.slice A n c], .agg #[.slice B' n d]] w (RetB (.bool (decide (a < b))) w) := by
    obtain ⟨b0, b1, bw⟩ := boxes2 w (.slice A n c) (.slice B' n d)
    have HXA := hid (Box.mk b0 hA bw)
    have HXB := hid (Box.mk b1 hB bw)
    have HWW := hid bw
    have HE : Hid (a / 2 ^ (32 * n) = b / 2 ^ (32 * n)) := (show a / 2 ^ (32 * n) = b / 2 ^ (32 * n) by rw [Nat.div_eq_of_lt hA.lt, Nat.div_eq_of_lt hB.lt])
    clear b0 b1 bw hA hB
    obtain ⟨t0, ht0⟩ : ∃ t, t = decide (a < b) := ⟨_, rfl⟩
    have HT0 := hid ht0
    rw [← ht0]
    clear ht0
    go_enter Tryd.func93, Tryd.ntmps93
    go_wp2_with fail
    generalize hV : (w.alloc (.cells #[.slice A n c] 37)).alloc (.cells #[.slice B' n d] 37) = V at HXA HXB HWW ⊢
    clear hV
    go_loopw [5] (fun i wr => ∃ (k j : Nat) (z : Int), k ≤ n ∧ z = (k : Int) - 1 ∧ i = .int .i64 z ∧ a / 2 ^ (32 * k) = b / 2 ^ (32 * k) ∧ wr = V.drewN j) (fun i _ => (intOf i + 1).toNat)
    case atStart => exact ⟨n, 0, _, by omega, rfl, rfl, HE.out, rfl⟩
    case round =>
      obtain ⟨k, jj, z, hk, hz, rfl, hI, rfl⟩ := hrel
      have HI := hid hI
      clear hI HE
      by_cases hk0 : k = 0
      · subst hk0
        obtain rfl : z = -1 := by omega
        clear hz
        have HF : Hid (t0 = false) := (show t0 = false by
          have := HI.out
          rw [show 2 ^ (32 * 0) = 1 from rfl, Nat.div_one, Nat.div_one] at this
          rw [HT0.out, this]; simp)
        go_wp2_with fail
        go_ret
        exact ⟨by rw [HF.out]; rfl, below_drewN HWW.out _⟩
      · obtain ⟨t, rfl⟩ : ∃ t, k = t + 1 := ⟨k - 1, by omega⟩
        obtain rfl : z = (t : Int) := by omega
        clear hz hk0
        have ht2 : t < n := by omega
        have ht1 : (t : Int) < (n : Int) := by omega
        have kA := (HXA.out.drewN jj).cell
        have kB := (HXB.out.drewN jj).cell
        obtain ⟨ad, rfl, ha1, ha2⟩ := (HXA.out.drewN jj).num.at_ ht2
        obtain ⟨bd, rfl, hb1, hb2⟩ := (HXB.out.drewN jj).num.at_ ht2
        have o1 := div_split a t
        have o2 := div_split b t
        have o3 := HI.out
        have d1 := dig_lt a t
        have d2 := dig_lt b t
        by_cases hd : dig a t = dig b t
        · have h0 : (((dig a t : Nat) : Int) != ((dig b t : Nat) : Int)) = false := by simp [hd]
          have HK : Hid (a / 2 ^ (32 * t) = b / 2 ^ (32 * t)) := (show a / 2 ^ (32 * t) = b / 2 ^ (32 * t) by omega)
          rw [← hd] at hb2
          clear hd o1 o2 o3 h0
          go_wp2_with fail
          refine wp_region_held_drew (S := (fun w' => w'.cell? ⟨w.heap.size, 0, none⟩ = some (.slice (some ad) n c) ∧ w'.cell? ⟨w.heap.size + 1, 0, none⟩ = some (.slice (some bd) n d) ∧ w'.cell? (ad.add t) = some (.int .u32 ((dig a t : Nat) : Int)) ∧ w'.cell? (bd.add t) = some (.int .u32 ((dig a t : Nat) : Int)))) (by kernel_rfl) (⟨kA, kB, ha2, hb2⟩) (fun hHeld => ?_)
          refine wpAnyH_take (i := 0) (oi := { dst := some 28, op := Op.fieldAddr 37 (Operand.tmp 2) 0, type := 0, pos := "ref.go:38", after := #[], guard := none }) (v := ?_) rfl (by kernel_rfl) (by kernel_rfl) (by kernel_rfl) (fun _ _ _ h => h) (Or.inl ⟨by rfl, ?_⟩) (by assumption) ?_
          rotate_left
          · (intro ws hSw; (try dsimp only at hSw); (try go_simp); (try with_reducible rfl))
          (try simp only [Act.put, List.setIfInBounds_toArray, List.set_cons_zero, List.set_cons_succ])
          refine wpAnyH_take (i := 1) (oi := { dst := some 29, op := Op.load 35 (Operand.tmp 28), type := 35, pos := "ref.go:38", after := #[{ on := 0, ground := Ground.data }], guard := none }) (v := ?_) rfl (by kernel_rfl) (by kernel_rfl) (by kernel_rfl) (fun _ _ _ h => h) (Or.inl ⟨by rfl, ?_⟩) (by assumption) ?_
          rotate_left
          · (intro ws hSw; (try dsimp only at hSw); (try go_simp); (try with_reducible rfl))
          (try simp only [Act.put, List.setIfInBounds_toArray, List.set_cons_zero, List.set_cons_succ])
          refine wpAnyH_take (i := 2) (oi := { dst := some 30, op := Op.move (Operand.tmp 5), type := 3, pos := "ref.go:38", after := #[], guard := none }) (v := ?_) rfl (by kernel_rfl) (by kernel_rfl) (by kernel_rfl) (fun _ _ _ h => h) (Or.inl ⟨by rfl, ?_⟩) (by assumption) ?_
          rotate_left
          · (intro ws hSw; (try dsimp only at hSw); (try go_simp); (try with_reducible rfl))
          (try simp only [Act.put, List.setIfInBounds_toArray, List.set_cons_zero, List.set_cons_succ])
          refine wpAnyH_take (i := 3) (oi := { dst := some 31, op := Op.indexAddr 35 (Operand.tmp 29) (Operand.tmp 30), type := 0, pos := "ref.go:38", after := #[{ on := 1, ground := Ground.data }, { on := 2, ground := Ground.data }], guard := none }) (v := ?_) rfl (by kernel_rfl) (by kernel_rfl) (by kernel_rfl) (fun _ _ _ h => h) (Or.inl ⟨by rfl, ?_⟩) (by assumption) ?_
          rotate_left
          · (intro ws hSw; (try dsimp only at hSw); (try go_simp); (try with_reducible rfl))
          (try simp only [Act.put, List.setIfInBounds_toArray, List.set_cons_zero, List.set_cons_succ])
          refine wpAnyH_take (i := 4) (oi := { dst := some 32, op := Op.load 48 (Operand.tmp 31), type := 48, pos := "ref.go:38", after := #[{ on := 3, ground := Ground.data }], guard := none }) (v := ?_) rfl (by kernel_rfl) (by kernel_rfl) (by kernel_rfl) (fun _ _ _ h => h) (Or.inl ⟨by rfl, ?_⟩) (by assumption) ?_
          rotate_left
          · (intro ws hSw; (try dsimp only at hSw); (try go_simp); (try with_reducible rfl))
          (try simp only [Act.put, List.setIfInBounds_toArray, List.set_cons_zero, List.set_cons_succ])
          refine wpAnyH_take (i := 5) (oi := { dst := some 33, op := Op.fieldAddr 37 (Operand.tmp 3) 0, type := 0, pos := "ref.go:38", after := #[], guard := none }) (v := ?_) rfl (by kernel_rfl) (by kernel_rfl) (by kernel_rfl) (fun _ _ _ h => h) (Or.inl ⟨by rfl, ?_⟩) (by assumption) ?_
          rotate_left
          · (intro ws hSw; (try dsimp only at hSw); (try go_simp); (try with_reducible rfl))
          (try simp only [Act.put, List.setIfInBounds_toArray, List.set_cons_zero, List.set_cons_succ])
          refine wpAnyH_take (i := 6) (oi := { dst := some 34, op := Op.load 35 (Operand.tmp 33), type := 35, pos := "ref.go:38", after := #[{ on := 5, ground := Ground.data }], guard := none }) (v := ?_) rfl (by kernel_rfl) (by kernel_rfl) (by kernel_rfl) (fun _ _ _ h => h) (Or.inl ⟨by rfl, ?_⟩) (by assumption) ?_
          rotate_left
          · (intro ws hSw; (try dsimp only at hSw); (try go_simp); (try with_reducible rfl))
          (try simp only [Act.put, List.setIfInBounds_toArray, List.set_cons_zero, List.set_cons_succ])
          refine wpAnyH_take (i := 7) (oi := { dst := some 35, op := Op.move (Operand.tmp 5), type := 3, pos := "ref.go:38", after := #[], guard := none }) (v := ?_) rfl (by kernel_rfl) (by kernel_rfl) (by kernel_rfl) (fun _ _ _ h => h) (Or.inl ⟨by rfl, ?_⟩) (by assumption) ?_
          rotate_left
          · (intro ws hSw; (try dsimp only at hSw); (try go_simp); (try with_reducible rfl))
          (try simp only [Act.put, List.setIfInBounds_toArray, List.set_cons_zero, List.set_cons_succ])
          refine wpAnyH_take (i := 8) (oi := { dst := some 36, op := Op.indexAddr 35 (Operand.tmp 34) (Operand.tmp 35), type := 0, pos := "ref.go:38", after := #[{ on := 6, ground := Ground.data }, { on := 7, ground := Ground.data }], guard := none }) (v := ?_) rfl (by kernel_rfl) (by kernel_rfl) (by kernel_rfl) (fun _ _ _ h => h) (Or.inl ⟨by rfl, ?_⟩) (by assumption) ?_
          rotate_left
          · (intro ws hSw; (try dsimp only at hSw); (try go_simp); (try with_reducible rfl))
          (try simp only [Act.put, List.setIfInBounds_toArray, List.set_cons_zero, List.set_cons_succ])
          refine wpAnyH_take (i := 9) (oi := { dst := some 37, op := Op.load 48 (Operand.tmp 36), type := 48, pos := "ref.go:38", after := #[{ on := 8, ground := Ground.data }], guard := none }) (v := ?_) rfl (by kernel_rfl) (by kernel_rfl) (by kernel_rfl) (fun _ _ _ h => h) (Or.inl ⟨by rfl, ?_⟩) (by assumption) ?_
          rotate_left
          · (intro ws hSw; (try dsimp only at hSw); (try go_simp); (try with_reducible rfl))
          (try simp only [Act.put, List.setIfInBounds_toArray, List.set_cons_zero, List.set_cons_succ])
          refine wpAnyH_take (i := 10) (oi := { dst := some 38, op := Op.binOp BinOp.neq 48 (Operand.tmp 32) (Operand.tmp 37) 48, type := 4, pos := "ref.go:38", after := #[{ on := 4, ground := Ground.data }, { on := 9, ground := Ground.data }], guard := none }) (v := ?_) rfl (by kernel_rfl) (by kernel_rfl) (by kernel_rfl) (fun _ _ _ h => h) (Or.inl ⟨by rfl, ?_⟩) (by assumption) ?_
          rotate_left
          · (intro ws hSw; (try dsimp only at hSw); (try go_simp); (try with_reducible rfl))
          (try simp only [Act.put, List.setIfInBounds_toArray, List.set_cons_zero, List.set_cons_succ])
          refine wpAnyH_done (by kernel_rfl) ?_ _
          clear hHeld
          go_wp2_with fail
          go_roundw
          case rel => exact ⟨t, _, _, by omega, rfl, by go_num, HK.out, rfl⟩
          case measure => simp [intOf] <;> omega
        · have h0 : (((dig a t : Nat) : Int) != ((dig b t : Nat) : Int)) = true := by rw [bne_iff_ne]; omega
          have HF : Hid (t0 = decide (((dig a t : Nat) : Int) < ((dig b t : Nat) : Int))) := (show t0 = _ by
            rw [HT0.out]
            have h5 := ord_dig o3 hd
            unfold ordN at h5
            by_cases h6 : dig a t < dig b t
            · rw [if_pos h6] at h5
              rw [decide_eq_true (show ((dig a t : Nat) : Int) < ((dig b t : Nat) : Int) by omega)]
              by_cases h7 : a < b
              · exact decide_eq_true h7
              · rw [if_neg h7] at h5; split at h5 <;> omega
            · rw [if_neg h6, if_pos (show dig b t < dig a t by omega)] at h5
              rw [decide_eq_false (show ¬ ((dig a t : Nat) : Int) < ((dig b t : Nat) : Int) by omega)]
              by_cases h7 : a < b
              · rw [if_pos h7] at h5; omega
              · exact decide_eq_false h7)
          obtain ⟨X, hX⟩ : ∃ X : Int, ((dig a t : Nat) : Int) = X := ⟨_, rfl⟩
          obtain ⟨Y, hY⟩ : ∃ Y : Int, ((dig b t : Nat) : Int) = Y := ⟨_, rfl⟩
          rw [hX] at ha2 h0 HF
          rw [hY] at hb2 h0 HF
          clear hd o1 o2 o3 d1 d2 hX hY
          go_wp2_with fail
          refine wp_region_held_drew (S := (fun w' => w'.cell? ⟨w.heap.size, 0, none⟩ = some (.slice (some ad) n c) ∧ w'.cell? ⟨w.heap.size + 1, 0, none⟩ = some (.slice (some bd) n d) ∧ w'.cell? (ad.add t) = some (.int .u32 X) ∧ w'.cell? (bd.add t) = some (.int .u32 Y))) (by kernel_rfl) (⟨kA, kB, ha2, hb2⟩) (fun hHeld => ?_)
          refine wpAnyH_take (i := 0) (oi := { dst := some 28, op := Op.fieldAddr 37 (Operand.tmp 2) 0, type := 0, pos := "ref.go:38", after := #[], guard := none }) (v := ?_) rfl (by kernel_rfl) (by kernel_rfl) (by kernel_rfl) (fun _ _ _ h => h) (Or.inl ⟨by rfl, ?_⟩) (by assumption) ?_
          rotate_left
          · (intro ws hSw; (try dsimp only at hSw); (try go_simp); (try with_reducible rfl))
          (try simp only [Act.put, List.setIfInBounds_toArray, List.set_cons_zero, List.set_cons_succ])
          refine wpAnyH_take (i := 1) (oi := { dst := some 29, op := Op.load 35 (Operand.tmp 28), type := 35, pos := "ref.go:38", after := #[{ on := 0, ground := Ground.data }], guard := none }) (v := ?_) rfl (by kernel_rfl) (by kernel_rfl) (by kernel_rfl) (fun _ _ _ h => h) (Or.inl ⟨by rfl, ?_⟩) (by assumption) ?_
          rotate_left
          · (intro ws hSw; (try dsimp only at hSw); (try go_simp); (try with_reducible rfl))
          (try simp only [Act.put, List.setIfInBounds_toArray, List.set_cons_zero, List.set_cons_succ])
          refine wpAnyH_take (i := 2) (oi := { dst := some 30, op := Op.move (Operand.tmp 5), type := 3, pos := "ref.go:38", after := #[], guard := none }) (v := ?_) rfl (by kernel_rfl) (by kernel_rfl) (by kernel_rfl) (fun _ _ _ h => h) (Or.inl ⟨by rfl, ?_⟩) (by assumption) ?_
          rotate_left
          · (intro ws hSw; (try dsimp only at hSw); (try go_simp); (try with_reducible rfl))
          (try simp only [Act.put, List.setIfInBounds_toArray, List.set_cons_zero, List.set_cons_succ])
          refine wpAnyH_take (i := 3) (oi := { dst := some 31, op := Op.indexAddr 35 (Operand.tmp 29) (Operand.tmp 30), type := 0, pos := "ref.go:38", after := #[{ on := 1, ground := Ground.data }, { on := 2, ground := Ground.data }], guard := none }) (v := ?_) rfl (by kernel_rfl) (by kernel_rfl) (by kernel_rfl) (fun _ _ _ h => h) (Or.inl ⟨by rfl, ?_⟩) (by assumption) ?_
          rotate_left
          · (intro ws hSw; (try dsimp only at hSw); (try go_simp); (try with_reducible rfl))
          (try simp only [Act.put, List.setIfInBounds_toArray, List.set_cons_zero, List.set_cons_succ])
          refine wpAnyH_take (i := 4) (oi := { dst := some 32, op := Op.load 48 (Operand.tmp 31), type := 48, pos := "ref.go:38", after := #[{ on := 3, ground := Ground.data }], guard := none }) (v := ?_) rfl (by kernel_rfl) (by kernel_rfl) (by kernel_rfl) (fun _ _ _ h => h) (Or.inl ⟨by rfl, ?_⟩) (by assumption) ?_
          rotate_left
          · (intro ws hSw; (try dsimp only at hSw); (try go_simp); (try with_reducible rfl))
          (try simp only [Act.put, List.setIfInBounds_toArray, List.set_cons_zero, List.set_cons_succ])
          refine wpAnyH_take (i := 5) (oi := { dst := some 33, op := Op.fieldAddr 37 (Operand.tmp 3) 0, type := 0, pos := "ref.go:38", after := #[], guard := none }) (v := ?_) rfl (by kernel_rfl) (by kernel_rfl) (by kernel_rfl) (fun _ _ _ h => h) (Or.inl ⟨by rfl, ?_⟩) (by assumption) ?_
          rotate_left
          · (intro ws hSw; (try dsimp only at hSw); (try go_simp); (try with_reducible rfl))
          (try simp only [Act.put, List.setIfInBounds_toArray, List.set_cons_zero, List.set_cons_succ])
          refine wpAnyH_take (i := 6) (oi := { dst := some 34, op := Op.load 35 (Operand.tmp 33), type := 35, pos := "ref.go:38", after := #[{ on := 5, ground := Ground.data }], guard := none }) (v := ?_) rfl (by kernel_rfl) (by kernel_rfl) (by kernel_rfl) (fun _ _ _ h => h) (Or.inl ⟨by rfl, ?_⟩) (by assumption) ?_
          rotate_left
          · (intro ws hSw; (try dsimp only at hSw); (try go_simp); (try with_reducible rfl))
          (try simp only [Act.put, List.setIfInBounds_toArray, List.set_cons_zero, List.set_cons_succ])
          refine wpAnyH_take (i := 7) (oi := { dst := some 35, op := Op.move (Operand.tmp 5), type := 3, pos := "ref.go:38", after := #[], guard := none }) (v := ?_) rfl (by kernel_rfl) (by kernel_rfl) (by kernel_rfl) (fun _ _ _ h => h) (Or.inl ⟨by rfl, ?_⟩) (by assumption) ?_
          rotate_left
          · (intro ws hSw; (try dsimp only at hSw); (try go_simp); (try with_reducible rfl))
          (try simp only [Act.put, List.setIfInBounds_toArray, List.set_cons_zero, List.set_cons_succ])
          refine wpAnyH_take (i := 8) (oi := { dst := some 36, op := Op.indexAddr 35 (Operand.tmp 34) (Operand.tmp 35), type := 0, pos := "ref.go:38", after := #[{ on := 6, ground := Ground.data }, { on := 7, ground := Ground.data }], guard := none }) (v := ?_) rfl (by kernel_rfl) (by kernel_rfl) (by kernel_rfl) (fun _ _ _ h => h) (Or.inl ⟨by rfl, ?_⟩) (by assumption) ?_
          rotate_left
          · (intro ws hSw; (try dsimp only at hSw); (try go_simp); (try with_reducible rfl))
          (try simp only [Act.put, List.setIfInBounds_toArray, List.set_cons_zero, List.set_cons_succ])
          refine wpAnyH_take (i := 9) (oi := { dst := some 37, op := Op.load 48 (Operand.tmp 36), type := 48, pos := "ref.go:38", after := #[{ on := 8, ground := Ground.data }], guard := none }) (v := ?_) rfl (by kernel_rfl) (by kernel_rfl) (by kernel_rfl) (fun _ _ _ h => h) (Or.inl ⟨by rfl, ?_⟩) (by assumption) ?_
          rotate_left
          · (intro ws hSw; (try dsimp only at hSw); (try go_simp); (try with_reducible rfl))
          (try simp only [Act.put, List.setIfInBounds_toArray, List.set_cons_zero, List.set_cons_succ])
          refine wpAnyH_take (i := 10) (oi := { dst := some 38, op := Op.binOp BinOp.neq 48 (Operand.tmp 32) (Operand.tmp 37) 48, type := 4, pos := "ref.go:38", after := #[{ on := 4, ground := Ground.data }, { on := 9, ground := Ground.data }], guard := none }) (v := ?_) rfl (by kernel_rfl) (by kernel_rfl) (by kernel_rfl) (fun _ _ _ h => h) (Or.inl ⟨by rfl, ?_⟩) (by assumption) ?_
          rotate_left
          · (intro ws hSw; (try dsimp only at hSw); (try go_simp); (try with_reducible rfl))
          (try simp only [Act.put, List.setIfInBounds_toArray, List.set_cons_zero, List.set_cons_succ])
          refine wpAnyH_done (by kernel_rfl) ?_ _
          clear hHeld
          go_wp2_with fail
          refine wp_region_held_drew (S := (fun w' => w'.cell? ⟨w.heap.size, 0, none⟩ = some (.slice (some ad) n c) ∧ w'.cell? ⟨w.heap.size + 1, 0, none⟩ = some (.slice (some bd) n d) ∧ w'.cell? (ad.add t) = some (.int .u32 X) ∧ w'.cell? (bd.add t) = some (.int .u32 Y))) (by kernel_rfl) (⟨kA, kB, ha2, hb2⟩) (fun hHeld => ?_)
          refine wpAnyH_take (i := 0) (oi := { dst := some 39, op := Op.fieldAddr 37 (Operand.tmp 2) 0, type := 0, pos := "ref.go:39", after := #[], guard := none }) (v := ?_) rfl (by kernel_rfl) (by kernel_rfl) (by kernel_rfl) (fun _ _ _ h => h) (Or.inl ⟨by rfl, ?_⟩) (by assumption) ?_
          rotate_left
          · (intro ws hSw; (try dsimp only at hSw); (try go_simp); (try with_reducible rfl))
          (try simp only [Act.put, List.setIfInBounds_toArray, List.set_cons_zero, List.set_cons_succ])
          refine wpAnyH_take (i := 1) (oi := { dst := some 40, op := Op.load 35 (Operand.tmp 39), type := 35, pos := "ref.go:39", after := #[{ on := 0, ground := Ground.data }], guard := none }) (v := ?_) rfl (by kernel_rfl) (by kernel_rfl) (by kernel_rfl) (fun _ _ _ h => h) (Or.inl ⟨by rfl, ?_⟩) (by assumption) ?_
          rotate_left
          · (intro ws hSw; (try dsimp only at hSw); (try go_simp); (try with_reducible rfl))
          (try simp only [Act.put, List.setIfInBounds_toArray, List.set_cons_zero, List.set_cons_succ])
          refine wpAnyH_take (i := 2) (oi := { dst := some 41, op := Op.move (Operand.tmp 5), type := 3, pos := "ref.go:39", after := #[], guard := none }) (v := ?_) rfl (by kernel_rfl) (by kernel_rfl) (by kernel_rfl) (fun _ _ _ h => h) (Or.inl ⟨by rfl, ?_⟩) (by assumption) ?_
          rotate_left
          · (intro ws hSw; (try dsimp only at hSw); (try go_simp); (try with_reducible rfl))
          (try simp only [Act.put, List.setIfInBounds_toArray, List.set_cons_zero, List.set_cons_succ])
          refine wpAnyH_take (i := 3) (oi := { dst := some 42, op := Op.indexAddr 35 (Operand.tmp 40) (Operand.tmp 41), type := 0, pos := "ref.go:39", after := #[{ on := 1, ground := Ground.data }, { on := 2, ground := Ground.data }], guard := none }) (v := ?_) rfl (by kernel_rfl) (by kernel_rfl) (by kernel_rfl) (fun _ _ _ h => h) (Or.inl ⟨by rfl, ?_⟩) (by assumption) ?_
          rotate_left
          · (intro ws hSw; (try dsimp only at hSw); (try go_simp); (try with_reducible rfl))
          (try simp only [Act.put, List.setIfInBounds_toArray, List.set_cons_zero, List.set_cons_succ])
          refine wpAnyH_take (i := 4) (oi := { dst := some 43, op := Op.load 48 (Operand.tmp 42), type := 48, pos := "ref.go:39", after := #[{ on := 3, ground := Ground.data }], guard := none }) (v := ?_) rfl (by kernel_rfl) (by kernel_rfl) (by kernel_rfl) (fun _ _ _ h => h) (Or.inl ⟨by rfl, ?_⟩) (by assumption) ?_
          rotate_left
          · (intro ws hSw; (try dsimp only at hSw); (try go_simp); (try with_reducible rfl))
          (try simp only [Act.put, List.setIfInBounds_toArray, List.set_cons_zero, List.set_cons_succ])
          refine wpAnyH_take (i := 5) (oi := { dst := some 44, op := Op.fieldAddr 37 (Operand.tmp 3) 0, type := 0, pos := "ref.go:39", after := #[], guard := none }) (v := ?_) rfl (by kernel_rfl) (by kernel_rfl) (by kernel_rfl) (fun _ _ _ h => h) (Or.inl ⟨by rfl, ?_⟩) (by assumption) ?_
          rotate_left
          · (intro ws hSw; (try dsimp only at hSw); (try go_simp); (try with_reducible rfl))
          (try simp only [Act.put, List.setIfInBounds_toArray, List.set_cons_zero, List.set_cons_succ])
          refine wpAnyH_take (i := 6) (oi := { dst := some 45, op := Op.load 35 (Operand.tmp 44), type := 35, pos := "ref.go:39", after := #[{ on := 5, ground := Ground.data }], guard := none }) (v := ?_) rfl (by kernel_rfl) (by kernel_rfl) (by kernel_rfl) (fun _ _ _ h => h) (Or.inl ⟨by rfl, ?_⟩) (by assumption) ?_
          rotate_left
          · (intro ws hSw; (try dsimp only at hSw); (try go_simp); (try with_reducible rfl))
          (try simp only [Act.put, List.setIfInBounds_toArray, List.set_cons_zero, List.set_cons_succ])
          refine wpAnyH_take (i := 7) (oi := { dst := some 46, op := Op.move (Operand.tmp 5), type := 3, pos := "ref.go:39", after := #[], guard := none }) (v := ?_) rfl (by kernel_rfl) (by kernel_rfl) (by kernel_rfl) (fun _ _ _ h => h) (Or.inl ⟨by rfl, ?_⟩) (by assumption) ?_
          rotate_left
          · (intro ws hSw; (try dsimp only at hSw); (try go_simp); (try with_reducible rfl))
          (try simp only [Act.put, List.setIfInBounds_toArray, List.set_cons_zero, List.set_cons_succ])
          refine wpAnyH_take (i := 8) (oi := { dst := some 47, op := Op.indexAddr 35 (Operand.tmp 45) (Operand.tmp 46), type := 0, pos := "ref.go:39", after := #[{ on := 6, ground := Ground.data }, { on := 7, ground := Ground.data }], guard := none }) (v := ?_) rfl (by kernel_rfl) (by kernel_rfl) (by kernel_rfl) (fun _ _ _ h => h) (Or.inl ⟨by rfl, ?_⟩) (by assumption) ?_
          rotate_left
          · (intro ws hSw; (try dsimp only at hSw); (try go_simp); (try with_reducible rfl))
          (try simp only [Act.put, List.setIfInBounds_toArray, List.set_cons_zero, List.set_cons_succ])
          refine wpAnyH_take (i := 9) (oi := { dst := some 48, op := Op.load 48 (Operand.tmp 47), type := 48, pos := "ref.go:39", after := #[{ on := 8, ground := Ground.data }], guard := none }) (v := ?_) rfl (by kernel_rfl) (by kernel_rfl) (by kernel_rfl) (fun _ _ _ h => h) (Or.inl ⟨by rfl, ?_⟩) (by assumption) ?_
          rotate_left
          · (intro ws hSw; (try dsimp only at hSw); (try go_simp); (try with_reducible rfl))
          (try simp only [Act.put, List.setIfInBounds_toArray, List.set_cons_zero, List.set_cons_succ])
          refine wpAnyH_take (i := 10) (oi := { dst := some 49, op := Op.binOp BinOp.lss 48 (Operand.tmp 43) (Operand.tmp 48) 48, type := 4, pos := "ref.go:39", after := #[{ on := 4, ground := Ground.data }, { on := 9, ground := Ground.data }], guard := none }) (v := ?_) rfl (by kernel_rfl) (by kernel_rfl) (by kernel_rfl) (fun _ _ _ h => h) (Or.inl ⟨by rfl, ?_⟩) (by assumption) ?_
          rotate_left
          · (intro ws hSw; (try dsimp only at hSw); (try go_simp); (try with_reducible rfl))
          (try simp only [Act.put, List.setIfInBounds_toArray, List.set_cons_zero, List.set_cons_succ])
          refine wpAnyH_take (i := 11) (oi := { dst := some 4, op := Op.assign (Operand.tmp 49), type := 4, pos := "ref.go:39", after := #[{ on := 10, ground := Ground.data }, { on := 0, ground := Ground.phase }, { on := 1, ground := Ground.phase }, { on := 2, ground := Ground.phase }, { on := 3, ground := Ground.phase }, { on := 4, ground := Ground.phase }, { on := 5, ground := Ground.phase }, { on := 6, ground := Ground.phase }, { on := 7, ground := Ground.phase }, { on := 8, ground := Ground.phase }, { on := 9, ground := Ground.phase }, { on := 10, ground := Ground.phase }], guard := none }) (v := ?_) rfl (by kernel_rfl) (by kernel_rfl) (by kernel_rfl) (fun _ _ _ h => h) (Or.inl ⟨by rfl, ?_⟩) (by assumption) ?_
          rotate_left
          · (intro ws hSw; (try dsimp only at hSw); (try go_simp); (try with_reducible rfl))
          (try simp only [Act.put, List.setIfInBounds_toArray, List.set_cons_zero, List.set_cons_succ])
          refine wpAnyH_done (by kernel_rfl) ?_ _
          clear hHeld
          go_wp2_with fail
          go_ret
          exact ⟨by rw [HF.out]; rfl, (below_drewN HWW.out _).drew.drew⟩

theorem less3_any (A B' : Option Addr) (c d a b : Nat) (w : World) (hA : Num w w.heap.size A (nw a) a) (hB : Num w w.heap.size B' (nw b) b) (hn : nw a ≤ 1000000) (hm : nw b ≤ 1000000) :
    Calls Tryd.prog 93 #[.agg #[.slice A (nw a) c], .agg #[.slice B' (nw b) d]] w (RetB (.bool (decide (a < b))) w) := by
  by_cases h : nw a = nw b
  · rw [← h] at hB ⊢
    exact less3_same A B' (nw a) c d a b w hA hB hn
  · obtain ⟨b0, b1, bw⟩ := boxes2 w (.slice A (nw a) c) (.slice B' (nw b) d)
    have HWW := hid bw
    clear b0 b1 bw
    have h1 : (((nw a : Nat) : Int) != ((nw b : Nat) : Int)) = true := by rw [bne_iff_ne]; omega
    have HF : Hid (decide (a < b) = decide (nw a < nw b)) := by
      show _ = _
      rcases Nat.lt_or_gt_of_ne h with hl | hl
      · have := lt_of_nw_lt hl
        rw [decide_eq_true (by omega), decide_eq_true (by omega)]
      · have := lt_of_nw_lt hl
        rw [decide_eq_false (by omega), decide_eq_false (by omega)]
    rw [HF.out]
    clear h HF hA hB
    go_enter Tryd.func93, Tryd.ntmps93
    go_wp2_with fail
    go_ret
    exact ⟨rfl, HWW.out⟩

end Go.Proofs.YtomkmkjkeihodaaDoor

namespace Go.Proofs.YtomkmkjkeihodaaDoor
open Go.RowKit

theorem add_digs (a b k S cc : Nat) (h : S + cc * 2 ^ (32 * k) = a % 2 ^ (32 * k) + b % 2 ^ (32 * k)) (hc : cc ≤ 1) :
    (dig a k + dig b k + cc) % 4294967296 * 2 ^ (32 * k) + S + (dig a k + dig b k + cc) / 4294967296 * 2 ^ (32 * (k + 1)) = a % 2 ^ (32 * (k + 1)) + b % 2 ^ (32 * (k + 1)) ∧ (dig a k + dig b k + cc) / 4294967296 ≤ 1 := by
  have := sum_step a b k S cc h
  have d1 := dig_lt a k
  have d2 := dig_lt b k
  exact ⟨by omega, by omega⟩
theorem mod_of_lt {a n k : Nat} (h : a < 2 ^ (32 * n)) (hk : n ≤ k) : a % 2 ^ (32 * k) = a := Nat.mod_eq_of_lt (Nat.lt_of_lt_of_le h (pw_le hk))
set_option maxHeartbeats 8000000 in
theorem plus_any (A B' : Option Addr) (n m c d a b : Nat) (w : World) (hA : Num w w.heap.size A n a) (hB : Num w w.heap.size B' m b) (hn : n ≤ 100000) (hm : m ≤ 100000) :
    Calls Tryd.prog 92 #[.agg #[.slice A n c], .agg #[.slice B' m d]] w (RetNat w.heap.size (a + b) w) := by
  obtain ⟨b0, b1, b2, bw⟩ := boxes3 w (.slice A n c) (.slice B' m d) (.slice none 0 0)
  have HXA := hid (Box.mk b0 hA bw)
  have HXB := hid (Box.mk b1 hB bw)
  have HB2 := hid b2
  have HWW := hid bw
  have LA := hid hA.lt
  have LB := hid hB.lt
  clear b0 b1 b2 bw hA hB
  go_enter Tryd.func92, Tryd.ntmps92
  go_wp2_with fail
  generalize hV : ((w.alloc (.cells #[.slice A n c] 37)).alloc (.cells #[.slice B' m d] 37)).alloc (.cells #[.slice none 0 0] 37) = V at HXA HXB HB2 HWW ⊢
  clear hV
  go_loopw [7, 5, 6] (fun i o cy wr => ∃ (k cc S : Nat), k ≤ 100001 ∧ i = .int .i64 k ∧ cy = .int .u64 cc ∧ cc ≤ 1 ∧ (k ≤ max n m ∨ (k ≤ max n m + 1 ∧ cc = 0)) ∧ OwnsV wr V.heap.size o k S ∧ S + cc * 2 ^ (32 * k) = a % 2 ^ (32 * k) + b % 2 ^ (32 * k) ∧ Below V.heap.size V wr) (fun i _ _ _ => max n m + 1 - (intOf i).toNat)
  case atStart => exact ⟨0, 0, 0, by omega, rfl, rfl, by omega, by omega, OwnsV.none_ _ _, by simp [Nat.mod_one], Below.refl _ _⟩
  case round =>
    obtain ⟨k, cc, S, hk, rfl, rfl, hcc, hkm, hO, hI, hbl⟩ := hrel
    obtain ⟨O, oc, rfl, hO'⟩ := hO.own
    have HO := hid hO
    have HO' := hid hO'
    have HI := hid hI
    have HBL := hid hbl
    have HXA_0 := hid (HXA.out.below hbl)
    have HXB_0 := hid (HXB.out.below hbl)
    have kA := HXA_0.out.cell
    have kB := HXB_0.out.cell
    clear hO hO' hI hbl
    by_cases hlt : k < n ∨ k < m ∨ 0 < cc
    · obtain ⟨p, hp⟩ : ∃ p : Nat, p = dig a k + dig b k := ⟨_, rfl⟩
      obtain ⟨t, ht⟩ : ∃ t : Nat, t = p + cc := ⟨_, rfl⟩
      obtain ⟨r, hr⟩ : ∃ r : Nat, r = t % 4294967296 := ⟨_, rfl⟩
      obtain ⟨q, hq⟩ : ∃ q : Nat, q = t / 4294967296 := ⟨_, rfl⟩
      have d1 := dig_lt a k
      have d2 := dig_lt b k
      have hkx : k ≤ max n m := by omega
      have hq0 : ¬ (k < n ∨ k < m) → q = 0 := fun h => by
        have z1 : dig a k = 0 := dig_above LA.out (by omega)
        have z2 : dig b k = 0 := dig_above LB.out (by omega)
        omega
      have hnext : k + 1 ≤ max n m ∨ (k + 1 ≤ max n m + 1 ∧ q = 0) := by
        by_cases h5 : k < n ∨ k < m
        · left; omega
        · right; exact ⟨by omega, hq0 h5⟩
      have HS := add_digs a b k S cc HI.out hcc
      rw [← hp, ← ht, ← hr, ← hq] at HS
      have HS1 := hid HS.1
      have HNX := hid hnext
      have q1 := HS.2
      have t2 : t ≤ 8589934591 := by omega
      have r1 : r ≤ 4294967295 := by omega
      have e1 : (t : Int) % 4294967296 = (r : Int) := by omega
      have e2 : (t : Int) / 4294967296 = (q : Int) := by omega
      have t1 : Int.tmod (t : Int) 4294967296 = (r : Int) := by rw [Int.tmod_eq_emod_of_nonneg (by omega)]; exact e1
      have w3 : IntKind.u32.wrap (r : Int) = (r : Int) := by rw [IntKind.wrap_u32]; omega
      have w4 : IntKind.u64.wrap (r : Int) = (r : Int) := by rw [IntKind.wrap_u64]; omega
      have w5 : IntKind.u64.wrap (q : Int) = (q : Int) := by rw [IntKind.wrap_u64]; omega
      obtain ⟨X, hX⟩ : ∃ X : Int, ((dig a k : Nat) : Int) = X := ⟨_, rfl⟩
      obtain ⟨Y, hY⟩ : ∃ Y : Int, ((dig b k : Nat) : Int) = Y := ⟨_, rfl⟩
      have w1 : IntKind.u64.wrap (X + Y) = (p : Int) := by rw [IntKind.wrap_u64]; omega
      have w2 : IntKind.u64.wrap ((p : Int) + (cc : Int)) = (t : Int) := by rw [IntKind.wrap_u64]; omega
      have EX := hid hX
      have EY := hid hY
      have j1 : IntKind.i64.wrap ((k : Int) + 1) = ((k + 1 : Nat) : Int) := by rw [IntWalk.i64_in _ (by omega)]; omega
      have HXA_0' := hid HXA_0.out.drew
      have HXB_0' := hid HXB_0.out.drew
      have HO_0 := hid HO.out.drew
      have HW_0 := hid HBL.out.drew
      clear HXA_0 HXB_0 HO HO' HBL
      have HXA_0 := HXA_0'
      have HXB_0 := HXB_0'
      clear HXA_0' HXB_0'
      clear HI HS hp ht hr hq hX hY d1 d2 hq0 hnext
      by_cases hn1 : k < n
      · have l1 : ((k : Nat) : Int) < ((n : Nat) : Int) := by omega
        go_wp2_with fail
        refine wp_region_held_drew (S := (fun w' => w'.cell? ⟨w.heap.size, 0, none⟩ = some (.slice A n c) ∧ w'.cell? ⟨w.heap.size + 1, 0, none⟩ = some (.slice B' m d))) (by kernel_rfl) (⟨kA, kB⟩) (fun hHeld => ?_)
        refine wpAnyH_take (i := 0) (oi := { dst := some 27, op := Op.load 37 (Operand.tmp 2), type := 37, pos := "ref.go:61", after := #[], guard := none }) (v := ?_) rfl (by kernel_rfl) (by kernel_rfl) (by kernel_rfl) (fun _ _ _ h => h) (Or.inl ⟨by rfl, ?_⟩) (by assumption) ?_
        rotate_left
        · (intro ws hSw; (try dsimp only at hSw); (try go_simp); (try with_reducible rfl))
        (try simp only [Act.put, List.setIfInBounds_toArray, List.set_cons_zero, List.set_cons_succ])
        refine wpAnyH_take (i := 1) (oi := { dst := some 28, op := Op.move (Operand.tmp 7), type := 3, pos := "ref.go:61", after := #[], guard := none }) (v := ?_) rfl (by kernel_rfl) (by kernel_rfl) (by kernel_rfl) (fun _ _ _ h => h) (Or.inl ⟨by rfl, ?_⟩) (by assumption) ?_
        rotate_left
        · (intro ws hSw; (try dsimp only at hSw); (try go_simp); (try with_reducible rfl))
        (try simp only [Act.put, List.setIfInBounds_toArray, List.set_cons_zero, List.set_cons_succ])
        refine wpAnyH_take (i := 3) (oi := { dst := some 30, op := Op.load 37 (Operand.tmp 3), type := 37, pos := "ref.go:61", after := #[], guard := none }) (v := ?_) rfl (by kernel_rfl) (by kernel_rfl) (by kernel_rfl) (fun _ _ _ h => h) (Or.inl ⟨by rfl, ?_⟩) (by assumption) ?_
        rotate_left
        · (intro ws hSw; (try dsimp only at hSw); (try go_simp); (try with_reducible rfl))
        (try simp only [Act.put, List.setIfInBounds_toArray, List.set_cons_zero, List.set_cons_succ])
        refine wpAnyH_take (i := 4) (oi := { dst := some 31, op := Op.move (Operand.tmp 7), type := 3, pos := "ref.go:61", after := #[], guard := none }) (v := ?_) rfl (by kernel_rfl) (by kernel_rfl) (by kernel_rfl) (fun _ _ _ h => h) (Or.inl ⟨by rfl, ?_⟩) (by assumption) ?_
        rotate_left
        · (intro ws hSw; (try dsimp only at hSw); (try go_simp); (try with_reducible rfl))
        (try simp only [Act.put, List.setIfInBounds_toArray, List.set_cons_zero, List.set_cons_succ])
        refine wpAnyH_take (i := 7) (oi := { dst := some 34, op := Op.move (Operand.tmp 6), type := 76, pos := "ref.go:61", after := #[], guard := none }) (v := ?_) rfl (by kernel_rfl) (by kernel_rfl) (by kernel_rfl) (fun _ _ _ h => h) (Or.inl ⟨by rfl, ?_⟩) (by assumption) ?_
        rotate_left
        · (intro ws hSw; (try dsimp only at hSw); (try go_simp); (try with_reducible rfl))
        (try simp only [Act.put, List.setIfInBounds_toArray, List.set_cons_zero, List.set_cons_succ])
        refine wpAnyH_ready (rs := [2]) (by kernel_rfl) (by simp) ?_
        refine AllReadyH.cons (o := { dst := some 29, op := Op.call { callee := Callee.value (Operand.func 103), args := #[Operand.tmp 27, Operand.tmp 28], argTypes := #[37, 3] }, type := 76, pos := "ref.go:61", after := #[{ on := 0, ground := Ground.data }, { on := 1, ground := Ground.data }], guard := none }) rfl (fun K hK => ?_) AllReadyH.nil
        go_simp
        refine (word3_b A n c a k _ _ HXA_0.out.num (by omega) (by omega) EX.out).mono ?_
        rintro e v_1 ⟨rfl, hb⟩
        have HXA_1 := hid (HXA_0.out.below hb)
        have HXB_1 := hid (HXB_0.out.below hb)
        have HW_1 := hid (HW_0.out.trans (hb.mono HW_0.out.size))
        have HO_1 := hid (HO_0.out.below hb (Nat.le_refl _))
        have qA_1 := HXA_1.out.cell
        have qB_1 := HXB_1.out.cell
        clear hb
        refine hK.out _ _ (⟨qA_1, qB_1⟩) (fun hHeld2 => ?_)
        clear hK K hHeld
        have hHeld := hHeld2
        clear hHeld2
        (try simp only [Act.put, List.setIfInBounds_toArray, List.set_cons_zero, List.set_cons_succ])
        refine wpAnyH_ready (rs := [5]) (by kernel_rfl) (by simp) ?_
        refine AllReadyH.cons (o := { dst := some 32, op := Op.call { callee := Callee.value (Operand.func 103), args := #[Operand.tmp 30, Operand.tmp 31], argTypes := #[37, 3] }, type := 76, pos := "ref.go:61", after := #[{ on := 3, ground := Ground.data }, { on := 4, ground := Ground.data }, { on := 2, ground := Ground.chain }], guard := none }) rfl (fun K hK => ?_) AllReadyH.nil
        go_simp
        refine (word3_b B' m d b k _ _ HXB_1.out.num (by omega) (by omega) EY.out).mono ?_
        rintro e v_2 ⟨rfl, hb⟩
        have HXA_2 := hid (HXA_1.out.below hb)
        have HXB_2 := hid (HXB_1.out.below hb)
        have HW_2 := hid (HW_1.out.trans (hb.mono HW_1.out.size))
        have HO_2 := hid (HO_1.out.below hb (Nat.le_refl _))
        have qA_2 := HXA_2.out.cell
        have qB_2 := HXB_2.out.cell
        clear hb
        refine hK.out _ _ (⟨qA_2, qB_2⟩) (fun hHeld5 => ?_)
        clear hK K hHeld
        have hHeld := hHeld5
        clear hHeld5
        (try simp only [Act.put, List.setIfInBounds_toArray, List.set_cons_zero, List.set_cons_succ])
        refine wpAnyH_take (i := 6) (oi := { dst := some 33, op := Op.binOp BinOp.add 76 (Operand.tmp 29) (Operand.tmp 32) 76, type := 76, pos := "ref.go:61", after := #[{ on := 2, ground := Ground.data }, { on := 5, ground := Ground.data }], guard := none }) (v := ?_) rfl (by kernel_rfl) (by kernel_rfl) (by kernel_rfl) (fun _ _ _ h => h) (Or.inl ⟨by rfl, ?_⟩) (by assumption) ?_
        rotate_left
        · (intro ws hSw; (try dsimp only at hSw); (try go_simp); (try with_reducible rfl))
        (try simp only [Act.put, List.setIfInBounds_toArray, List.set_cons_zero, List.set_cons_succ])
        refine wpAnyH_take (i := 8) (oi := { dst := some 35, op := Op.binOp BinOp.add 76 (Operand.tmp 33) (Operand.tmp 34) 76, type := 76, pos := "ref.go:61", after := #[{ on := 6, ground := Ground.data }, { on := 7, ground := Ground.data }], guard := none }) (v := ?_) rfl (by kernel_rfl) (by kernel_rfl) (by kernel_rfl) (fun _ _ _ h => h) (Or.inl ⟨by rfl, ?_⟩) (by assumption) ?_
        rotate_left
        · (intro ws hSw; (try dsimp only at hSw); (try go_simp); (try with_reducible rfl))
        (try simp only [Act.put, List.setIfInBounds_toArray, List.set_cons_zero, List.set_cons_succ])
        refine wpAnyH_take (i := 9) (oi := { dst := some 8, op := Op.assign (Operand.tmp 35), type := 76, pos := "ref.go:61", after := #[{ on := 8, ground := Ground.data }, { on := 5, ground := Ground.chain }, { on := 0, ground := Ground.phase }, { on := 1, ground := Ground.phase }, { on := 2, ground := Ground.phase }, { on := 3, ground := Ground.phase }, { on := 4, ground := Ground.phase }, { on := 5, ground := Ground.phase }, { on := 6, ground := Ground.phase }, { on := 7, ground := Ground.phase }, { on := 8, ground := Ground.phase }], guard := none }) (v := ?_) rfl (by kernel_rfl) (by kernel_rfl) (by kernel_rfl) (fun _ _ _ h => h) (Or.inl ⟨by rfl, ?_⟩) (by assumption) ?_
        rotate_left
        · (intro ws hSw; (try dsimp only at hSw); (try go_simp); (try with_reducible rfl))
        (try simp only [Act.put, List.setIfInBounds_toArray, List.set_cons_zero, List.set_cons_succ])
        refine wpAnyH_done (by kernel_rfl) ?_ _
        clear hHeld
        go_wp2_with (at_builtin; refine wp_app1 rfl _ _ rfl V.heap.size v_2 (.slice O k oc) k S r rfl HO_2.out rfl r1 (by omega) HW_2.out.size ?_; intro O1 oc1 v1 ho1 hb1 hlt1 hc1; have HO1 := hid ho1; have HB1 := hid hb1; clear ho1 hb1)
        go_roundw
        case rel => exact ⟨k + 1, q, _, by omega, by go_num, rfl, q1, HNX.out, HO1.out, HS1.out, HW_2.out.trans HB1.out⟩
        case measure => simp [intOf] <;> omega
      · have l1 : ((n : Nat) : Int) ≤ ((k : Nat) : Int) := by omega
        by_cases hm1 : k < m
        · have l2 : ((k : Nat) : Int) < ((m : Nat) : Int) := by omega
          go_wp2_with fail
          refine wp_region_held_drew (S := (fun w' => w'.cell? ⟨w.heap.size, 0, none⟩ = some (.slice A n c) ∧ w'.cell? ⟨w.heap.size + 1, 0, none⟩ = some (.slice B' m d))) (by kernel_rfl) (⟨kA, kB⟩) (fun hHeld => ?_)
          refine wpAnyH_take (i := 0) (oi := { dst := some 27, op := Op.load 37 (Operand.tmp 2), type := 37, pos := "ref.go:61", after := #[], guard := none }) (v := ?_) rfl (by kernel_rfl) (by kernel_rfl) (by kernel_rfl) (fun _ _ _ h => h) (Or.inl ⟨by rfl, ?_⟩) (by assumption) ?_
          rotate_left
          · (intro ws hSw; (try dsimp only at hSw); (try go_simp); (try with_reducible rfl))
          (try simp only [Act.put, List.setIfInBounds_toArray, List.set_cons_zero, List.set_cons_succ])
          refine wpAnyH_take (i := 1) (oi := { dst := some 28, op := Op.move (Operand.tmp 7), type := 3, pos := "ref.go:61", after := #[], guard := none }) (v := ?_) rfl (by kernel_rfl) (by kernel_rfl) (by kernel_rfl) (fun _ _ _ h => h) (Or.inl ⟨by rfl, ?_⟩) (by assumption) ?_
          rotate_left
          · (intro ws hSw; (try dsimp only at hSw); (try go_simp); (try with_reducible rfl))
          (try simp only [Act.put, List.setIfInBounds_toArray, List.set_cons_zero, List.set_cons_succ])
          refine wpAnyH_take (i := 3) (oi := { dst := some 30, op := Op.load 37 (Operand.tmp 3), type := 37, pos := "ref.go:61", after := #[], guard := none }) (v := ?_) rfl (by kernel_rfl) (by kernel_rfl) (by kernel_rfl) (fun _ _ _ h => h) (Or.inl ⟨by rfl, ?_⟩) (by assumption) ?_
          rotate_left
          · (intro ws hSw; (try dsimp only at hSw); (try go_simp); (try with_reducible rfl))
          (try simp only [Act.put, List.setIfInBounds_toArray, List.set_cons_zero, List.set_cons_succ])
          refine wpAnyH_take (i := 4) (oi := { dst := some 31, op := Op.move (Operand.tmp 7), type := 3, pos := "ref.go:61", after := #[], guard := none }) (v := ?_) rfl (by kernel_rfl) (by kernel_rfl) (by kernel_rfl) (fun _ _ _ h => h) (Or.inl ⟨by rfl, ?_⟩) (by assumption) ?_
          rotate_left
          · (intro ws hSw; (try dsimp only at hSw); (try go_simp); (try with_reducible rfl))
          (try simp only [Act.put, List.setIfInBounds_toArray, List.set_cons_zero, List.set_cons_succ])
          refine wpAnyH_take (i := 7) (oi := { dst := some 34, op := Op.move (Operand.tmp 6), type := 76, pos := "ref.go:61", after := #[], guard := none }) (v := ?_) rfl (by kernel_rfl) (by kernel_rfl) (by kernel_rfl) (fun _ _ _ h => h) (Or.inl ⟨by rfl, ?_⟩) (by assumption) ?_
          rotate_left
          · (intro ws hSw; (try dsimp only at hSw); (try go_simp); (try with_reducible rfl))
          (try simp only [Act.put, List.setIfInBounds_toArray, List.set_cons_zero, List.set_cons_succ])
          refine wpAnyH_ready (rs := [2]) (by kernel_rfl) (by simp) ?_
          refine AllReadyH.cons (o := { dst := some 29, op := Op.call { callee := Callee.value (Operand.func 103), args := #[Operand.tmp 27, Operand.tmp 28], argTypes := #[37, 3] }, type := 76, pos := "ref.go:61", after := #[{ on := 0, ground := Ground.data }, { on := 1, ground := Ground.data }], guard := none }) rfl (fun K hK => ?_) AllReadyH.nil
          go_simp
          refine (word3_b A n c a k _ _ HXA_0.out.num (by omega) (by omega) EX.out).mono ?_
          rintro e v_1 ⟨rfl, hb⟩
          have HXA_1 := hid (HXA_0.out.below hb)
          have HXB_1 := hid (HXB_0.out.below hb)
          have HW_1 := hid (HW_0.out.trans (hb.mono HW_0.out.size))
          have HO_1 := hid (HO_0.out.below hb (Nat.le_refl _))
          have qA_1 := HXA_1.out.cell
          have qB_1 := HXB_1.out.cell
          clear hb
          refine hK.out _ _ (⟨qA_1, qB_1⟩) (fun hHeld2 => ?_)
          clear hK K hHeld
          have hHeld := hHeld2
          clear hHeld2
          (try simp only [Act.put, List.setIfInBounds_toArray, List.set_cons_zero, List.set_cons_succ])
          refine wpAnyH_ready (rs := [5]) (by kernel_rfl) (by simp) ?_
          refine AllReadyH.cons (o := { dst := some 32, op := Op.call { callee := Callee.value (Operand.func 103), args := #[Operand.tmp 30, Operand.tmp 31], argTypes := #[37, 3] }, type := 76, pos := "ref.go:61", after := #[{ on := 3, ground := Ground.data }, { on := 4, ground := Ground.data }, { on := 2, ground := Ground.chain }], guard := none }) rfl (fun K hK => ?_) AllReadyH.nil
          go_simp
          refine (word3_b B' m d b k _ _ HXB_1.out.num (by omega) (by omega) EY.out).mono ?_
          rintro e v_2 ⟨rfl, hb⟩
          have HXA_2 := hid (HXA_1.out.below hb)
          have HXB_2 := hid (HXB_1.out.below hb)
          have HW_2 := hid (HW_1.out.trans (hb.mono HW_1.out.size))
          have HO_2 := hid (HO_1.out.below hb (Nat.le_refl _))
          have qA_2 := HXA_2.out.cell
          have qB_2 := HXB_2.out.cell
          clear hb
          refine hK.out _ _ (⟨qA_2, qB_2⟩) (fun hHeld5 => ?_)
          clear hK K hHeld
          have hHeld := hHeld5
          clear hHeld5
          (try simp only [Act.put, List.setIfInBounds_toArray, List.set_cons_zero, List.set_cons_succ])
          refine wpAnyH_take (i := 6) (oi := { dst := some 33, op := Op.binOp BinOp.add 76 (Operand.tmp 29) (Operand.tmp 32) 76, type := 76, pos := "ref.go:61", after := #[{ on := 2, ground := Ground.data }, { on := 5, ground := Ground.data }], guard := none }) (v := ?_) rfl (by kernel_rfl) (by kernel_rfl) (by kernel_rfl) (fun _ _ _ h => h) (Or.inl ⟨by rfl, ?_⟩) (by assumption) ?_
          rotate_left
          · (intro ws hSw; (try dsimp only at hSw); (try go_simp); (try with_reducible rfl))
          (try simp only [Act.put, List.setIfInBounds_toArray, List.set_cons_zero, List.set_cons_succ])
          refine wpAnyH_take (i := 8) (oi := { dst := some 35, op := Op.binOp BinOp.add 76 (Operand.tmp 33) (Operand.tmp 34) 76, type := 76, pos := "ref.go:61", after := #[{ on := 6, ground := Ground.data }, { on := 7, ground := Ground.data }], guard := none }) (v := ?_) rfl (by kernel_rfl) (by kernel_rfl) (by kernel_rfl) (fun _ _ _ h => h) (Or.inl ⟨by rfl, ?_⟩) (by assumption) ?_
          rotate_left
          · (intro ws hSw; (try dsimp only at hSw); (try go_simp); (try with_reducible rfl))
          (try simp only [Act.put, List.setIfInBounds_toArray, List.set_cons_zero, List.set_cons_succ])
          refine wpAnyH_take (i := 9) (oi := { dst := some 8, op := Op.assign (Operand.tmp 35), type := 76, pos := "ref.go:61", after := #[{ on := 8, ground := Ground.data }, { on := 5, ground := Ground.chain }, { on := 0, ground := Ground.phase }, { on := 1, ground := Ground.phase }, { on := 2, ground := Ground.phase }, { on := 3, ground := Ground.phase }, { on := 4, ground := Ground.phase }, { on := 5, ground := Ground.phase }, { on := 6, ground := Ground.phase }, { on := 7, ground := Ground.phase }, { on := 8, ground := Ground.phase }], guard := none }) (v := ?_) rfl (by kernel_rfl) (by kernel_rfl) (by kernel_rfl) (fun _ _ _ h => h) (Or.inl ⟨by rfl, ?_⟩) (by assumption) ?_
          rotate_left
          · (intro ws hSw; (try dsimp only at hSw); (try go_simp); (try with_reducible rfl))
          (try simp only [Act.put, List.setIfInBounds_toArray, List.set_cons_zero, List.set_cons_succ])
          refine wpAnyH_done (by kernel_rfl) ?_ _
          clear hHeld
          go_wp2_with (at_builtin; refine wp_app1 rfl _ _ rfl V.heap.size v_2 (.slice O k oc) k S r rfl HO_2.out rfl r1 (by omega) HW_2.out.size ?_; intro O1 oc1 v1 ho1 hb1 hlt1 hc1; have HO1 := hid ho1; have HB1 := hid hb1; clear ho1 hb1)
          go_roundw
          case rel => exact ⟨k + 1, q, _, by omega, by go_num, rfl, q1, HNX.out, HO1.out, HS1.out, HW_2.out.trans HB1.out⟩
          case measure => simp [intOf] <;> omega
        · have l2 : ((m : Nat) : Int) ≤ ((k : Nat) : Int) := by omega
          have l3 : (0 : Int) < (cc : Int) := by omega
          have l4 : 0 < cc := by omega
          go_wp2_with fail
          refine wp_region_held_drew (S := (fun w' => w'.cell? ⟨w.heap.size, 0, none⟩ = some (.slice A n c) ∧ w'.cell? ⟨w.heap.size + 1, 0, none⟩ = some (.slice B' m d))) (by kernel_rfl) (⟨kA, kB⟩) (fun hHeld => ?_)
          refine wpAnyH_take (i := 0) (oi := { dst := some 27, op := Op.load 37 (Operand.tmp 2), type := 37, pos := "ref.go:61", after := #[], guard := none }) (v := ?_) rfl (by kernel_rfl) (by kernel_rfl) (by kernel_rfl) (fun _ _ _ h => h) (Or.inl ⟨by rfl, ?_⟩) (by assumption) ?_
          rotate_left
          · (intro ws hSw; (try dsimp only at hSw); (try go_simp); (try with_reducible rfl))
          (try simp only [Act.put, List.setIfInBounds_toArray, List.set_cons_zero, List.set_cons_succ])
          refine wpAnyH_take (i := 1) (oi := { dst := some 28, op := Op.move (Operand.tmp 7), type := 3, pos := "ref.go:61", after := #[], guard := none }) (v := ?_) rfl (by kernel_rfl) (by kernel_rfl) (by kernel_rfl) (fun _ _ _ h => h) (Or.inl ⟨by rfl, ?_⟩) (by assumption) ?_
          rotate_left
          · (intro ws hSw; (try dsimp only at hSw); (try go_simp); (try with_reducible rfl))
          (try simp only [Act.put, List.setIfInBounds_toArray, List.set_cons_zero, List.set_cons_succ])
          refine wpAnyH_take (i := 3) (oi := { dst := some 30, op := Op.load 37 (Operand.tmp 3), type := 37, pos := "ref.go:61", after := #[], guard := none }) (v := ?_) rfl (by kernel_rfl) (by kernel_rfl) (by kernel_rfl) (fun _ _ _ h => h) (Or.inl ⟨by rfl, ?_⟩) (by assumption) ?_
          rotate_left
          · (intro ws hSw; (try dsimp only at hSw); (try go_simp); (try with_reducible rfl))
          (try simp only [Act.put, List.setIfInBounds_toArray, List.set_cons_zero, List.set_cons_succ])
          refine wpAnyH_take (i := 4) (oi := { dst := some 31, op := Op.move (Operand.tmp 7), type := 3, pos := "ref.go:61", after := #[], guard := none }) (v := ?_) rfl (by kernel_rfl) (by kernel_rfl) (by kernel_rfl) (fun _ _ _ h => h) (Or.inl ⟨by rfl, ?_⟩) (by assumption) ?_
          rotate_left
          · (intro ws hSw; (try dsimp only at hSw); (try go_simp); (try with_reducible rfl))
          (try simp only [Act.put, List.setIfInBounds_toArray, List.set_cons_zero, List.set_cons_succ])
          refine wpAnyH_take (i := 7) (oi := { dst := some 34, op := Op.move (Operand.tmp 6), type := 76, pos := "ref.go:61", after := #[], guard := none }) (v := ?_) rfl (by kernel_rfl) (by kernel_rfl) (by kernel_rfl) (fun _ _ _ h => h) (Or.inl ⟨by rfl, ?_⟩) (by assumption) ?_
          rotate_left
          · (intro ws hSw; (try dsimp only at hSw); (try go_simp); (try with_reducible rfl))
          (try simp only [Act.put, List.setIfInBounds_toArray, List.set_cons_zero, List.set_cons_succ])
          refine wpAnyH_ready (rs := [2]) (by kernel_rfl) (by simp) ?_
          refine AllReadyH.cons (o := { dst := some 29, op := Op.call { callee := Callee.value (Operand.func 103), args := #[Operand.tmp 27, Operand.tmp 28], argTypes := #[37, 3] }, type := 76, pos := "ref.go:61", after := #[{ on := 0, ground := Ground.data }, { on := 1, ground := Ground.data }], guard := none }) rfl (fun K hK => ?_) AllReadyH.nil
          go_simp
          refine (word3_b A n c a k _ _ HXA_0.out.num (by omega) (by omega) EX.out).mono ?_
          rintro e v_1 ⟨rfl, hb⟩
          have HXA_1 := hid (HXA_0.out.below hb)
          have HXB_1 := hid (HXB_0.out.below hb)
          have HW_1 := hid (HW_0.out.trans (hb.mono HW_0.out.size))
          have HO_1 := hid (HO_0.out.below hb (Nat.le_refl _))
          have qA_1 := HXA_1.out.cell
          have qB_1 := HXB_1.out.cell
          clear hb
          refine hK.out _ _ (⟨qA_1, qB_1⟩) (fun hHeld2 => ?_)
          clear hK K hHeld
          have hHeld := hHeld2
          clear hHeld2
          (try simp only [Act.put, List.setIfInBounds_toArray, List.set_cons_zero, List.set_cons_succ])
          refine wpAnyH_ready (rs := [5]) (by kernel_rfl) (by simp) ?_
          refine AllReadyH.cons (o := { dst := some 32, op := Op.call { callee := Callee.value (Operand.func 103), args := #[Operand.tmp 30, Operand.tmp 31], argTypes := #[37, 3] }, type := 76, pos := "ref.go:61", after := #[{ on := 3, ground := Ground.data }, { on := 4, ground := Ground.data }, { on := 2, ground := Ground.chain }], guard := none }) rfl (fun K hK => ?_) AllReadyH.nil
          go_simp
          refine (word3_b B' m d b k _ _ HXB_1.out.num (by omega) (by omega) EY.out).mono ?_
          rintro e v_2 ⟨rfl, hb⟩
          have HXA_2 := hid (HXA_1.out.below hb)
          have HXB_2 := hid (HXB_1.out.below hb)
          have HW_2 := hid (HW_1.out.trans (hb.mono HW_1.out.size))
          have HO_2 := hid (HO_1.out.below hb (Nat.le_refl _))
          have qA_2 := HXA_2.out.cell
          have qB_2 := HXB_2.out.cell
          clear hb
          refine hK.out _ _ (⟨qA_2, qB_2⟩) (fun hHeld5 => ?_)
          clear hK K hHeld
          have hHeld := hHeld5
          clear hHeld5
          (try simp only [Act.put, List.setIfInBounds_toArray, List.set_cons_zero, List.set_cons_succ])
          refine wpAnyH_take (i := 6) (oi := { dst := some 33, op := Op.binOp BinOp.add 76 (Operand.tmp 29) (Operand.tmp 32) 76, type := 76, pos := "ref.go:61", after := #[{ on := 2, ground := Ground.data }, { on := 5, ground := Ground.data }], guard := none }) (v := ?_) rfl (by kernel_rfl) (by kernel_rfl) (by kernel_rfl) (fun _ _ _ h => h) (Or.inl ⟨by rfl, ?_⟩) (by assumption) ?_
          rotate_left
          · (intro ws hSw; (try dsimp only at hSw); (try go_simp); (try with_reducible rfl))
          (try simp only [Act.put, List.setIfInBounds_toArray, List.set_cons_zero, List.set_cons_succ])
          refine wpAnyH_take (i := 8) (oi := { dst := some 35, op := Op.binOp BinOp.add 76 (Operand.tmp 33) (Operand.tmp 34) 76, type := 76, pos := "ref.go:61", after := #[{ on := 6, ground := Ground.data }, { on := 7, ground := Ground.data }], guard := none }) (v := ?_) rfl (by kernel_rfl) (by kernel_rfl) (by kernel_rfl) (fun _ _ _ h => h) (Or.inl ⟨by rfl, ?_⟩) (by assumption) ?_
          rotate_left
          · (intro ws hSw; (try dsimp only at hSw); (try go_simp); (try with_reducible rfl))
          (try simp only [Act.put, List.setIfInBounds_toArray, List.set_cons_zero, List.set_cons_succ])
          refine wpAnyH_take (i := 9) (oi := { dst := some 8, op := Op.assign (Operand.tmp 35), type := 76, pos := "ref.go:61", after := #[{ on := 8, ground := Ground.data }, { on := 5, ground := Ground.chain }, { on := 0, ground := Ground.phase }, { on := 1, ground := Ground.phase }, { on := 2, ground := Ground.phase }, { on := 3, ground := Ground.phase }, { on := 4, ground := Ground.phase }, { on := 5, ground := Ground.phase }, { on := 6, ground := Ground.phase }, { on := 7, ground := Ground.phase }, { on := 8, ground := Ground.phase }], guard := none }) (v := ?_) rfl (by kernel_rfl) (by kernel_rfl) (by kernel_rfl) (fun _ _ _ h => h) (Or.inl ⟨by rfl, ?_⟩) (by assumption) ?_
          rotate_left
          · (intro ws hSw; (try dsimp only at hSw); (try go_simp); (try with_reducible rfl))
          (try simp only [Act.put, List.setIfInBounds_toArray, List.set_cons_zero, List.set_cons_succ])
          refine wpAnyH_done (by kernel_rfl) ?_ _
          clear hHeld
          go_wp2_with (at_builtin; refine wp_app1 rfl _ _ rfl V.heap.size v_2 (.slice O k oc) k S r rfl HO_2.out rfl r1 (by omega) HW_2.out.size ?_; intro O1 oc1 v1 ho1 hb1 hlt1 hc1; have HO1 := hid ho1; have HB1 := hid hb1; clear ho1 hb1)
          go_roundw
          case rel => exact ⟨k + 1, q, _, by omega, by go_num, rfl, q1, HNX.out, HO1.out, HS1.out, HW_2.out.trans HB1.out⟩
          case measure => simp [intOf] <;> omega
    · have l1 : ((n : Nat) : Int) ≤ ((k : Nat) : Int) := by omega
      have l2 : ((m : Nat) : Int) ≤ ((k : Nat) : Int) := by omega
      obtain rfl : cc = 0 := by omega
      have HF : Hid (S = a + b) := by
        show _ = _
        have := HI.out
        rw [mod_of_lt LA.out (by omega), mod_of_lt LB.out (by omega)] at this
        omega
      rw [HF.out] at HO'
      clear HI hlt
      go_wp2_with fail
      refine (trim3_any O k oc (a + b) V.heap.size wr HO'.out HBL.out.size (by omega)).mono ?_
      rintro e w9 ⟨v, rfl, ⟨A', c', rfl, ho⟩, hb⟩
      have HBW := hid (HBL.out.trans (hb.mono HBL.out.size))
      have HO9 := hid (ho.weak (b := w.heap.size) HWW.out.size)
      have B9 := hid (HB2.out.below HBW.out HB2.out.lt)
      have W9 := hid (HWW.out.trans (HBW.out.mono HWW.out.size))
      have cB := B9.out.cell0
      have fB := B9.out.frozen 0
      clear hb ho
      go_wp2_with fail
      have ho2 := HO9.out.box (p := ⟨w.heap.size + 1 + 1, 0, none⟩) B9.out (by decide) (.slice A' (nw (a + b)) c')
      exact bodyPost_ret (v := .agg #[.slice A' (nw (a + b)) c']) (by simp [results, Tryd.results92, go_sem, cB]) rfl ⟨_, rfl, ⟨A', c', rfl, ho2⟩, W9.out.setCell (by simp <;> omega) _⟩

end Go.Proofs.YtomkmkjkeihodaaDoor

namespace Go.Proofs.YtomkmkjkeihodaaDoor
open Go.RowKit

set_option maxHeartbeats 8000000 in
theorem minus_any (A B' : Option Addr) (n m c d a b : Nat) (w : World) (hA : Num w w.heap.size A n a) (hB : Num w w.heap.size B' m b) (hn : n ≤ 100000) (hm : m ≤ 100000) (hle : b ≤ a) :
    Calls Tryd.prog 94 #[.agg #[.slice A n c], .agg #[.slice B' m d]] w (RetNat w.heap.size (a - b) w) := by
  obtain ⟨b0, b1, b2, bw⟩ := boxes3 w (.slice A n c) (.slice B' m d) (.slice none 0 0)
  have HXA := hid (Box.mk b0 hA bw)
  have HXB := hid (Box.mk b1 hB bw)
  have HB2 := hid b2
  have HWW := hid bw
  have LA := hid hA.lt
  have LB := hid hB.lt
  have HLE := hid hle
  clear hle
  clear b0 b1 b2 bw hA hB
  go_enter Tryd.func94, Tryd.ntmps94
  go_wp2_with fail
  generalize hV : ((w.alloc (.cells #[.slice A n c] 37)).alloc (.cells #[.slice B' m d] 37)).alloc (.cells #[.slice none 0 0] 37) = V at HXA HXB HB2 HWW ⊢
  clear hV
  go_loopw [7, 5, 6] (fun i o cy wr => ∃ (k cc S : Nat), k ≤ 100000 ∧ i = .int .i64 k ∧ cy = .int .u64 cc ∧ cc ≤ 1 ∧ k ≤ n ∧ OwnsV wr V.heap.size o k S ∧ S + b % 2 ^ (32 * k) = a % 2 ^ (32 * k) + cc * 2 ^ (32 * k) ∧ Below V.heap.size V wr) (fun i _ _ _ => n - (intOf i).toNat)
  case atStart => exact ⟨0, 0, 0, by omega, rfl, rfl, by omega, by omega, OwnsV.none_ _ _, by simp [Nat.mod_one], Below.refl _ _⟩
  case round =>
    obtain ⟨k, cc, S, hk, rfl, rfl, hcc, hkm, hO, hI, hbl⟩ := hrel
    obtain ⟨O, oc, rfl, hO'⟩ := hO.own
    have HO := hid hO
    have HO' := hid hO'
    have HI := hid hI
    have HBL := hid hbl
    have HXA_0 := hid (HXA.out.below hbl)
    have HXB_0 := hid (HXB.out.below hbl)
    have kA := HXA_0.out.cell
    have kB := HXB_0.out.cell
    clear hO hO' hI hbl
    by_cases hlt : k < n
    · have d1 := dig_lt a k
      have d2 := dig_lt b k
      have l1 : ((k : Nat) : Int) < ((n : Nat) : Int) := by omega
      obtain ⟨X, hX⟩ : ∃ X : Int, ((dig a k : Nat) : Int) = X := ⟨_, rfl⟩
      obtain ⟨Y, hY⟩ : ∃ Y : Int, ((dig b k : Nat) : Int) = Y := ⟨_, rfl⟩
      have EX := hid hX
      have EY := hid hY
      obtain ⟨p, hp⟩ : ∃ p : Int, p = X + 4294967296 := ⟨_, rfl⟩
      obtain ⟨s, hs⟩ : ∃ s : Int, s = p - Y := ⟨_, rfl⟩
      obtain ⟨t, ht⟩ : ∃ t : Nat, (t : Int) = s - (cc : Int) := ⟨(s - (cc : Int)).toNat, by omega⟩
      obtain ⟨r, hr⟩ : ∃ r : Nat, r = t % 4294967296 := ⟨_, rfl⟩
      obtain ⟨h, hh⟩ : ∃ h : Nat, h = t / 4294967296 := ⟨_, rfl⟩
      obtain ⟨q, hq⟩ : ∃ q : Nat, (q : Int) = 1 - (h : Int) := ⟨1 - h, by omega⟩
      have r1 : r ≤ 4294967295 := by omega
      have q1 : q ≤ 1 := by omega
      have h1 : h ≤ 1 := by omega
      have HS1 := hid (diff_step a b k S cc (dig a k) (dig b k) HI.out r q (by omega))
      have w0 : IntKind.u64.wrap (X + 4294967296) = p := by rw [IntKind.wrap_u64]; omega
      have w1 : IntKind.u64.wrap (p - Y) = s := by rw [IntKind.wrap_u64]; omega
      have w2 : IntKind.u64.wrap (s - (cc : Int)) = (t : Int) := by rw [IntKind.wrap_u64]; omega
      have e1 : (t : Int) % 4294967296 = (r : Int) := by omega
      have e2 : (t : Int) / 4294967296 = (h : Int) := by omega
      have t1 : Int.tmod (t : Int) 4294967296 = (r : Int) := by rw [Int.tmod_eq_emod_of_nonneg (by omega)]; exact e1
      have w3 : IntKind.u32.wrap (r : Int) = (r : Int) := by rw [IntKind.wrap_u32]; omega
      have w4 : IntKind.u64.wrap (r : Int) = (r : Int) := by rw [IntKind.wrap_u64]; omega
      have w5 : IntKind.u64.wrap (h : Int) = (h : Int) := by rw [IntKind.wrap_u64]; omega
      have w6 : IntKind.u64.wrap (1 - (h : Int)) = (q : Int) := by rw [IntKind.wrap_u64]; omega
      have j1 : IntKind.i64.wrap ((k : Int) + 1) = ((k + 1 : Nat) : Int) := by rw [IntWalk.i64_in _ (by omega)]; omega
      have x0 : 0 ≤ X := by omega
      have x1 : X ≤ 4294967295 := by omega
      have HXA_0' := hid HXA_0.out.drew
      have HXB_0' := hid HXB_0.out.drew
      have HO_0 := hid HO.out.drew
      have HW_0 := hid HBL.out.drew
      clear HXA_0 HXB_0 HO HO' HBL
      have HXA_0 := HXA_0'
      have HXB_0 := HXB_0'
      clear HXA_0' HXB_0'
      clear HI hp hs ht hr hh hq hX hY d1 d2
      · go_wp2_with fail
        refine wp_region_held_drew (S := (fun w' => w'.cell? ⟨w.heap.size, 0, none⟩ = some (.slice A n c) ∧ w'.cell? ⟨w.heap.size + 1, 0, none⟩ = some (.slice B' m d))) (by kernel_rfl) (⟨kA, kB⟩) (fun hHeld => ?_)
        refine wpAnyH_take (i := 0) (oi := { dst := some 16, op := Op.load 37 (Operand.tmp 2), type := 37, pos := "ref.go:73", after := #[], guard := none }) (v := ?_) rfl (by kernel_rfl) (by kernel_rfl) (by kernel_rfl) (fun _ _ _ h => h) (Or.inl ⟨by rfl, ?_⟩) (by assumption) ?_
        rotate_left
        · (intro ws hSw; (try dsimp only at hSw); (try go_simp); (try with_reducible rfl))
        (try simp only [Act.put, List.setIfInBounds_toArray, List.set_cons_zero, List.set_cons_succ])
        refine wpAnyH_take (i := 1) (oi := { dst := some 17, op := Op.move (Operand.tmp 7), type := 3, pos := "ref.go:73", after := #[], guard := none }) (v := ?_) rfl (by kernel_rfl) (by kernel_rfl) (by kernel_rfl) (fun _ _ _ h => h) (Or.inl ⟨by rfl, ?_⟩) (by assumption) ?_
        rotate_left
        · (intro ws hSw; (try dsimp only at hSw); (try go_simp); (try with_reducible rfl))
        (try simp only [Act.put, List.setIfInBounds_toArray, List.set_cons_zero, List.set_cons_succ])
        refine wpAnyH_take (i := 4) (oi := { dst := some 20, op := Op.load 37 (Operand.tmp 3), type := 37, pos := "ref.go:73", after := #[], guard := none }) (v := ?_) rfl (by kernel_rfl) (by kernel_rfl) (by kernel_rfl) (fun _ _ _ h => h) (Or.inl ⟨by rfl, ?_⟩) (by assumption) ?_
        rotate_left
        · (intro ws hSw; (try dsimp only at hSw); (try go_simp); (try with_reducible rfl))
        (try simp only [Act.put, List.setIfInBounds_toArray, List.set_cons_zero, List.set_cons_succ])
        refine wpAnyH_take (i := 5) (oi := { dst := some 21, op := Op.move (Operand.tmp 7), type := 3, pos := "ref.go:73", after := #[], guard := none }) (v := ?_) rfl (by kernel_rfl) (by kernel_rfl) (by kernel_rfl) (fun _ _ _ h => h) (Or.inl ⟨by rfl, ?_⟩) (by assumption) ?_
        rotate_left
        · (intro ws hSw; (try dsimp only at hSw); (try go_simp); (try with_reducible rfl))
        (try simp only [Act.put, List.setIfInBounds_toArray, List.set_cons_zero, List.set_cons_succ])
        refine wpAnyH_take (i := 8) (oi := { dst := some 24, op := Op.move (Operand.tmp 6), type := 76, pos := "ref.go:73", after := #[], guard := none }) (v := ?_) rfl (by kernel_rfl) (by kernel_rfl) (by kernel_rfl) (fun _ _ _ h => h) (Or.inl ⟨by rfl, ?_⟩) (by assumption) ?_
        rotate_left
        · (intro ws hSw; (try dsimp only at hSw); (try go_simp); (try with_reducible rfl))
        (try simp only [Act.put, List.setIfInBounds_toArray, List.set_cons_zero, List.set_cons_succ])
        refine wpAnyH_ready (rs := [2]) (by kernel_rfl) (by simp) ?_
        refine AllReadyH.cons (o := { dst := some 18, op := Op.call { callee := Callee.value (Operand.func 103), args := #[Operand.tmp 16, Operand.tmp 17], argTypes := #[37, 3] }, type := 76, pos := "ref.go:73", after := #[{ on := 0, ground := Ground.data }, { on := 1, ground := Ground.data }], guard := none }) rfl (fun K hK => ?_) AllReadyH.nil
        go_simp
        refine (word3_b A n c a k _ _ HXA_0.out.num (by omega) (by omega) EX.out).mono ?_
        rintro e v_1 ⟨rfl, hb⟩
        have HXA_1 := hid (HXA_0.out.below hb)
        have HXB_1 := hid (HXB_0.out.below hb)
        have HW_1 := hid (HW_0.out.trans (hb.mono HW_0.out.size))
        have HO_1 := hid (HO_0.out.below hb (Nat.le_refl _))
        have qA_1 := HXA_1.out.cell
        have qB_1 := HXB_1.out.cell
        clear hb
        refine hK.out _ _ (⟨qA_1, qB_1⟩) (fun hHeld2 => ?_)
        clear hK K hHeld
        have hHeld := hHeld2
        clear hHeld2
        (try simp only [Act.put, List.setIfInBounds_toArray, List.set_cons_zero, List.set_cons_succ])
        refine wpAnyH_take (i := 3) (oi := { dst := some 19, op := Op.binOp BinOp.add 76 (Operand.tmp 18) (Operand.const (Value.int IntKind.u64 4294967296)) 76, type := 76, pos := "ref.go:73", after := #[{ on := 2, ground := Ground.data }], guard := none }) (v := ?_) rfl (by kernel_rfl) (by kernel_rfl) (by kernel_rfl) (fun _ _ _ h => h) (Or.inl ⟨by rfl, ?_⟩) (by assumption) ?_
        rotate_left
        · (intro ws hSw; (try dsimp only at hSw); (try go_simp); (try with_reducible rfl))
        (try simp only [Act.put, List.setIfInBounds_toArray, List.set_cons_zero, List.set_cons_succ])
        refine wpAnyH_ready (rs := [6]) (by kernel_rfl) (by simp) ?_
        refine AllReadyH.cons (o := { dst := some 22, op := Op.call { callee := Callee.value (Operand.func 103), args := #[Operand.tmp 20, Operand.tmp 21], argTypes := #[37, 3] }, type := 76, pos := "ref.go:73", after := #[{ on := 4, ground := Ground.data }, { on := 5, ground := Ground.data }, { on := 2, ground := Ground.chain }], guard := none }) rfl (fun K hK => ?_) AllReadyH.nil
        go_simp
        refine (word3_b B' m d b k _ _ HXB_1.out.num (by omega) (by omega) EY.out).mono ?_
        rintro e v_2 ⟨rfl, hb⟩
        have HXA_2 := hid (HXA_1.out.below hb)
        have HXB_2 := hid (HXB_1.out.below hb)
        have HW_2 := hid (HW_1.out.trans (hb.mono HW_1.out.size))
        have HO_2 := hid (HO_1.out.below hb (Nat.le_refl _))
        have qA_2 := HXA_2.out.cell
        have qB_2 := HXB_2.out.cell
        clear hb
        refine hK.out _ _ (⟨qA_2, qB_2⟩) (fun hHeld6 => ?_)
        clear hK K hHeld
        have hHeld := hHeld6
        clear hHeld6
        (try simp only [Act.put, List.setIfInBounds_toArray, List.set_cons_zero, List.set_cons_succ])
        refine wpAnyH_take (i := 7) (oi := { dst := some 23, op := Op.binOp BinOp.sub 76 (Operand.tmp 19) (Operand.tmp 22) 76, type := 76, pos := "ref.go:73", after := #[{ on := 3, ground := Ground.data }, { on := 6, ground := Ground.data }], guard := none }) (v := ?_) rfl (by kernel_rfl) (by kernel_rfl) (by kernel_rfl) (fun _ _ _ h => h) (Or.inl ⟨by rfl, ?_⟩) (by assumption) ?_
        rotate_left
        · (intro ws hSw; (try dsimp only at hSw); (try go_simp); (try with_reducible rfl))
        (try simp only [Act.put, List.setIfInBounds_toArray, List.set_cons_zero, List.set_cons_succ])
        refine wpAnyH_take (i := 9) (oi := { dst := some 25, op := Op.binOp BinOp.sub 76 (Operand.tmp 23) (Operand.tmp 24) 76, type := 76, pos := "ref.go:73", after := #[{ on := 7, ground := Ground.data }, { on := 8, ground := Ground.data }], guard := none }) (v := ?_) rfl (by kernel_rfl) (by kernel_rfl) (by kernel_rfl) (fun _ _ _ h => h) (Or.inl ⟨by rfl, ?_⟩) (by assumption) ?_
        rotate_left
        · (intro ws hSw; (try dsimp only at hSw); (try go_simp); (try with_reducible rfl))
        (try simp only [Act.put, List.setIfInBounds_toArray, List.set_cons_zero, List.set_cons_succ])
        refine wpAnyH_take (i := 10) (oi := { dst := some 8, op := Op.assign (Operand.tmp 25), type := 76, pos := "ref.go:73", after := #[{ on := 9, ground := Ground.data }, { on := 6, ground := Ground.chain }, { on := 0, ground := Ground.phase }, { on := 1, ground := Ground.phase }, { on := 2, ground := Ground.phase }, { on := 3, ground := Ground.phase }, { on := 4, ground := Ground.phase }, { on := 5, ground := Ground.phase }, { on := 6, ground := Ground.phase }, { on := 7, ground := Ground.phase }, { on := 8, ground := Ground.phase }, { on := 9, ground := Ground.phase }], guard := none }) (v := ?_) rfl (by kernel_rfl) (by kernel_rfl) (by kernel_rfl) (fun _ _ _ h => h) (Or.inl ⟨by rfl, ?_⟩) (by assumption) ?_
        rotate_left
        · (intro ws hSw; (try dsimp only at hSw); (try go_simp); (try with_reducible rfl))
        (try simp only [Act.put, List.setIfInBounds_toArray, List.set_cons_zero, List.set_cons_succ])
        refine wpAnyH_done (by kernel_rfl) ?_ _
        clear hHeld
        go_wp2_with (at_builtin; refine wp_app1 rfl _ _ rfl V.heap.size v_2 (.slice O k oc) k S r rfl HO_2.out rfl r1 (by omega) HW_2.out.size ?_; intro O1 oc1 v1 ho1 hb1 hlt1 hc1; have HO1 := hid ho1; have HB1 := hid hb1; clear ho1 hb1)
        go_roundw
        case rel => exact ⟨k + 1, q, _, by omega, by go_num, by go_num, q1, by omega, HO1.out, by rw [Nat.add_comm (r * _)]; exact HS1.out, HW_2.out.trans HB1.out⟩
        case measure => simp [intOf] <;> omega
    · obtain rfl : k = n := by omega
      have HF : Hid (S = a - b) := by
        show _ = _
        have h1 := HI.out
        have h2 := LA.out
        have h3 := HLE.out
        have h4 := HO.out.1
        rw [Nat.mod_eq_of_lt h2, Nat.mod_eq_of_lt (by omega)] at h1
        rcases Nat.lt_or_ge cc 1 with h5 | h5
        · obtain rfl : cc = 0 := by omega
          omega
        · obtain rfl : cc = 1 := by omega
          omega
      have l1 : decide (((k : Nat) : Int) < ((k : Nat) : Int)) = false := by simp
      rw [HF.out] at HO'
      clear HI hlt
      go_wp2_with fail
      refine (trim3_any O k oc (a - b) V.heap.size wr HO'.out HBL.out.size (by omega)).mono ?_
      rintro e w9 ⟨v, rfl, ⟨A', c', rfl, ho⟩, hb⟩
      have HBW := hid (HBL.out.trans (hb.mono HBL.out.size))
      have HO9 := hid (ho.weak (b := w.heap.size) HWW.out.size)
      have B9 := hid (HB2.out.below HBW.out HB2.out.lt)
      have W9 := hid (HWW.out.trans (HBW.out.mono HWW.out.size))
      have cB := B9.out.cell0
      have fB := B9.out.frozen 0
      clear hb ho
      go_wp2_with fail
      have ho2 := HO9.out.box (p := ⟨w.heap.size + 1 + 1, 0, none⟩) B9.out (by decide) (.slice A' (nw (a - b)) c')
      exact bodyPost_ret (v := .agg #[.slice A' (nw (a - b)) c']) (by simp [results, Tryd.results94, go_sem, cB]) rfl ⟨_, rfl, ⟨A', c', rfl, ho2⟩, W9.out.setCell (by simp <;> omega) _⟩

end Go.Proofs.YtomkmkjkeihodaaDoor

namespace Go.Proofs.YtomkmkjkeihodaaDoor
open Go.RowKit

set_option maxHeartbeats 4000000 in
theorem radd_lt (A B' C' : Option Addr) (c d p a b m : Nat) (w : World) (hA : Num w w.heap.size A (nw a) a) (hB : Num w w.heap.size B' (nw b) b) (hC : Num w w.heap.size C' (nw m) m) (ha : nw a ≤ 70) (hb : nw b ≤ 70) (hm : nw m ≤ 70) (h1 : a < m) (h2 : b < m) (h : a + b < m) :
    Calls Tryd.prog 77 #[.agg #[.slice A (nw a) c], .agg #[.slice B' (nw b) d], .agg #[.slice C' (nw m) p]] w (RetNat w.heap.size ((a + b) % m) w) := by
  obtain ⟨s, hs⟩ : ∃ s, s = a + b := ⟨_, rfl⟩
  have HS := hid hs
  have hs1 : nw s ≤ 71 := by rw [hs]; exact nw_sum ha hb
  have HR : (a + b) % m = s := by rw [hs]; exact Nat.mod_eq_of_lt h
  rw [HR]
  have HG : Hid (decide (s < m) = true) := decide_eq_true (by rw [hs]; exact h)
  clear HR hs h h1 h2
  obtain ⟨b0, b1, b2, b3, bw⟩ := boxes4 w (.slice A (nw a) c) (.slice B' (nw b) d) (.slice C' (nw m) p) (.slice none 0 0)
  have XA := Box.mk b0 hA bw
  have XB := Box.mk b1 hB bw
  have XC := Box.mk b2 hC bw
  have XR := Box.mk b3 (Num.nil _ _ _) bw
  have WW := bw
  clear bw b0 b1 b2 b3
  go_enter Tryd.func77, Tryd.ntmps77
  go_wp2_with fail
  generalize hV : ((((w.alloc (.cells #[.slice A (nw a) c] 37)).alloc (.cells #[.slice B' (nw b) d] 37)).alloc (.cells #[.slice C' (nw m) p] 37)).alloc (.cells #[.slice none 0 0] 37)) = V0 at XA XB XC XR WW ⊢
  clear hV
  have hbs : w.heap.size ≤ V0.heap.size := WW.size
  have hc := plus_any A B' _ _ c d a b V0 XA.num XB.num (by omega) (by omega)
  rw [← HS.out] at hc
  refine hc.mono ?_
  clear hc
  rintro e V1 ⟨v, rfl, hv, hb⟩
  replace XA := XA.below hb
  replace XB := XB.below hb
  replace XC := XC.below hb
  replace XR := XR.below hb
  replace WW := WW.trans (hb.mono WW.size)
  obtain ⟨D1, d1, rfl, ho⟩ := hv
  have O1 := ho.weak (b := w.heap.size) hbs
  have hv' := O1.num
  clear ho
  have kXA := XA.cell
  have zXA := XA.lt
  have kXB := XB.cell
  have zXB := XB.lt
  have kXC := XC.cell
  have zXC := XC.lt
  have kXR := XR.cell
  have zXR := XR.lt
  clear hb hbs
  go_wp2_with fail
  obtain ⟨b0, bw⟩ := boxes1 V1 (.slice D1 (nw s) d1)
  clear kXA zXA kXB zXB kXC zXC kXR zXR
  replace XA := XA.below bw
  replace XB := XB.below bw
  replace XC := XC.below bw
  replace XR := XR.below bw
  have X1 := Box.mk b0 hv' bw
  replace O1 := O1.below bw (Nat.le_refl _)
  replace WW := WW.trans (bw.mono WW.size)
  clear bw b0 hv'
  generalize hV : (V1.alloc (.cells #[.slice D1 (nw s) d1] 37)) = V2 at XA XB XC XR X1 O1 WW ⊢
  clear hV
  have kXA := XA.cell
  have zXA := XA.lt
  have kXB := XB.cell
  have zXB := XB.lt
  have kXC := XC.cell
  have zXC := XC.lt
  have kXR := XR.cell
  have zXR := XR.lt
  have kX1 := X1.cell
  have zX1 := X1.lt
  have hbs : w.heap.size ≤ V2.heap.size := WW.size
  have hc := less3_any D1 C' d1 p s m V2 X1.num XC.num (by omega) (by omega)
  rw [HG.out] at hc
  refine hc.mono ?_
  clear hc
  rintro e V3 ⟨rfl, hb⟩
  clear kXA zXA kXB zXB kXC zXC kXR zXR kX1 zX1
  replace XA := XA.below hb
  replace XB := XB.below hb
  replace XC := XC.below hb
  replace XR := XR.below hb
  replace X1 := X1.below hb
  replace O1 := O1.below hb (Nat.le_refl _)
  replace WW := WW.trans (hb.mono WW.size)
  have fXR := XR.1.frozen 0
  have kXA := XA.cell
  have zXA := XA.lt
  have kXB := XB.cell
  have zXB := XB.lt
  have kXC := XC.cell
  have zXC := XC.lt
  have kXR := XR.cell
  have zXR := XR.lt
  have kX1 := X1.cell
  have zX1 := X1.lt
  clear hb hbs
  go_wp2_with fail
  have ho2 := O1.box (p := ⟨w.heap.size + 1 + 1 + 1, 0, none⟩) XR.1 (by decide) (.slice D1 (nw s) d1)
  exact bodyPost_ret (v := .agg #[.slice D1 (nw s) d1]) (by simp [results, Tryd.results77, go_sem, kXR, zXR]) rfl ⟨_, rfl, ⟨D1, d1, rfl, ho2⟩, WW.setCell (by simp <;> omega) _⟩

set_option maxHeartbeats 4000000 in
theorem radd_ge (A B' C' : Option Addr) (c d p a b m : Nat) (w : World) (hA : Num w w.heap.size A (nw a) a) (hB : Num w w.heap.size B' (nw b) b) (hC : Num w w.heap.size C' (nw m) m) (ha : nw a ≤ 70) (hb : nw b ≤ 70) (hm : nw m ≤ 70) (h1 : a < m) (h2 : b < m) (h : ¬ a + b < m) :
    Calls Tryd.prog 77 #[.agg #[.slice A (nw a) c], .agg #[.slice B' (nw b) d], .agg #[.slice C' (nw m) p]] w (RetNat w.heap.size ((a + b) % m) w) := by
  obtain ⟨s, hs⟩ : ∃ s, s = a + b := ⟨_, rfl⟩
  have HS := hid hs
  have hs1 : nw s ≤ 71 := by rw [hs]; exact nw_sum ha hb
  obtain ⟨r, hr⟩ : ∃ r, r = s - m := ⟨_, rfl⟩
  have HR : (a + b) % m = r := by rw [hr, hs, Nat.mod_eq_sub_mod (by omega)]; exact Nat.mod_eq_of_lt (by omega)
  rw [HR]
  have HE := hid hr
  have HG : Hid (decide (s < m) = false) := decide_eq_false (by rw [hs]; exact h)
  have hle : m ≤ s := by omega
  clear HR hs h h1 h2 hr
  obtain ⟨b0, b1, b2, b3, bw⟩ := boxes4 w (.slice A (nw a) c) (.slice B' (nw b) d) (.slice C' (nw m) p) (.slice none 0 0)
  have XA := Box.mk b0 hA bw
  have XB := Box.mk b1 hB bw
  have XC := Box.mk b2 hC bw
  have XR := Box.mk b3 (Num.nil _ _ _) bw
  have WW := bw
  clear bw b0 b1 b2 b3
  go_enter Tryd.func77, Tryd.ntmps77
  go_wp2_with fail
  generalize hV : ((((w.alloc (.cells #[.slice A (nw a) c] 37)).alloc (.cells #[.slice B' (nw b) d] 37)).alloc (.cells #[.slice C' (nw m) p] 37)).alloc (.cells #[.slice none 0 0] 37)) = V0 at XA XB XC XR WW ⊢
  clear hV
  have hbs : w.heap.size ≤ V0.heap.size := WW.size
  have hc := plus_any A B' _ _ c d a b V0 XA.num XB.num (by omega) (by omega)
  rw [← HS.out] at hc
  refine hc.mono ?_
  clear hc
  rintro e V1 ⟨v, rfl, hv, hb⟩
  replace XA := XA.below hb
  replace XB := XB.below hb
  replace XC := XC.below hb
  replace XR := XR.below hb
  replace WW := WW.trans (hb.mono WW.size)
  obtain ⟨D1, d1, rfl, ho⟩ := hv
  have O1 := ho.weak (b := w.heap.size) hbs
  have hv' := O1.num
  clear ho
  have kXA := XA.cell
  have zXA := XA.lt
  have kXB := XB.cell
  have zXB := XB.lt
  have kXC := XC.cell
  have zXC := XC.lt
  have kXR := XR.cell
  have zXR := XR.lt
  clear hb hbs
  go_wp2_with fail
  obtain ⟨b0, bw⟩ := boxes1 V1 (.slice D1 (nw s) d1)
  clear kXA zXA kXB zXB kXC zXC kXR zXR
  replace XA := XA.below bw
  replace XB := XB.below bw
  replace XC := XC.below bw
  replace XR := XR.below bw
  have X1 := Box.mk b0 hv' bw
  replace O1 := O1.below bw (Nat.le_refl _)
  replace WW := WW.trans (bw.mono WW.size)
  clear bw b0 hv'
  generalize hV : (V1.alloc (.cells #[.slice D1 (nw s) d1] 37)) = V2 at XA XB XC XR X1 O1 WW ⊢
  clear hV
  have kXA := XA.cell
  have zXA := XA.lt
  have kXB := XB.cell
  have zXB := XB.lt
  have kXC := XC.cell
  have zXC := XC.lt
  have kXR := XR.cell
  have zXR := XR.lt
  have kX1 := X1.cell
  have zX1 := X1.lt
  have hbs : w.heap.size ≤ V2.heap.size := WW.size
  have hc := less3_any D1 C' d1 p s m V2 X1.num XC.num (by omega) (by omega)
  rw [HG.out] at hc
  refine hc.mono ?_
  clear hc
  rintro e V3 ⟨rfl, hb⟩
  clear kXA zXA kXB zXB kXC zXC kXR zXR kX1 zX1
  replace XA := XA.below hb
  replace XB := XB.below hb
  replace XC := XC.below hb
  replace XR := XR.below hb
  replace X1 := X1.below hb
  replace O1 := O1.below hb (Nat.le_refl _)
  replace WW := WW.trans (hb.mono WW.size)
  have kXA := XA.cell
  have zXA := XA.lt
  have kXB := XB.cell
  have zXB := XB.lt
  have kXC := XC.cell
  have zXC := XC.lt
  have kXR := XR.cell
  have zXR := XR.lt
  have kX1 := X1.cell
  have zX1 := X1.lt
  clear hb hbs
  go_wp2_with fail
  have hbs : w.heap.size ≤ V3.heap.size := WW.size
  have hc := minus_any D1 C' _ _ d1 p s m V3 X1.num XC.num (by omega) (by omega) hle
  rw [← HE.out] at hc
  refine hc.mono ?_
  clear hc
  rintro e V4 ⟨v, rfl, hv, hb⟩
  clear kXA zXA kXB zXB kXC zXC kXR zXR kX1 zX1
  replace XA := XA.below hb
  replace XB := XB.below hb
  replace XC := XC.below hb
  replace XR := XR.below hb
  replace X1 := X1.below hb
  replace O1 := O1.below hb (Nat.le_refl _)
  replace WW := WW.trans (hb.mono WW.size)
  obtain ⟨D2, d2, rfl, ho⟩ := hv
  have O2 := ho.weak (b := w.heap.size) hbs
  have fXR := XR.1.frozen 0
  clear ho
  have kXA := XA.cell
  have zXA := XA.lt
  have kXB := XB.cell
  have zXB := XB.lt
  have kXC := XC.cell
  have zXC := XC.lt
  have kXR := XR.cell
  have zXR := XR.lt
  have kX1 := X1.cell
  have zX1 := X1.lt
  clear hb hbs
  go_wp2_with fail
  have ho2 := O2.box (p := ⟨w.heap.size + 1 + 1 + 1, 0, none⟩) XR.1 (by decide) (.slice D2 (nw r) d2)
  exact bodyPost_ret (v := .agg #[.slice D2 (nw r) d2]) (by simp [results, Tryd.results77, go_sem, kXR, zXR]) rfl ⟨_, rfl, ⟨D2, d2, rfl, ho2⟩, WW.setCell (by simp <;> omega) _⟩

theorem radd3_any (A B' C' : Option Addr) (c d p a b m : Nat) (w : World) (hA : Num w w.heap.size A (nw a) a) (hB : Num w w.heap.size B' (nw b) b) (hC : Num w w.heap.size C' (nw m) m) (ha : nw a ≤ 70) (hb : nw b ≤ 70) (hm : nw m ≤ 70) (h1 : a < m) (h2 : b < m) :
    Calls Tryd.prog 77 #[.agg #[.slice A (nw a) c], .agg #[.slice B' (nw b) d], .agg #[.slice C' (nw m) p]] w (RetNat w.heap.size ((a + b) % m) w) := by
  by_cases h : a + b < m
  · exact radd_lt A B' C' c d p a b m w hA hB hC ha hb hm h1 h2 h
  · exact radd_ge A B' C' c d p a b m w hA hB hC ha hb hm h1 h2 h

end Go.Proofs.YtomkmkjkeihodaaDoor
