/- the reference of layer 3: trim, Of. -/
import Derived.Test.YtomkmkjkeihodaaDoorMod2
set_option linter.unusedVariables false
set_option linter.unusedSimpArgs false
namespace Go.Proofs.YtomkmkjkeihodaaDoor
open Go.RowKit

theorem trim3_any (A : Option Addr) (n c a base : Nat) (w : World) (hO : Own w base A n c a) (hb : base ≤ w.heap.size) (hn : n ≤ 1000000) :
    Calls Tryd.prog 91 #[.slice A n c] w (RetNat base a w) := by
  obtain ⟨b0, bw⟩ := boxes1 w (.slice none 0 0)
  have HO := hid (hO.below bw (Nat.le_refl _))
  have hlt := hO.1
  have hnc := hO.2.1
  have hcm := hO.2.2.1
  unfold maxLen at hcm
  have B0 := hid b0
  have BW := hid bw
  clear b0 bw hO
  go_enter Tryd.func91, Tryd.ntmps91
  go_wp2_with fail
  generalize hV : w.alloc (.cells #[.slice none 0 0] 37) = V at B0 BW HO ⊢
  clear hV
  go_loopw [0] (fun l wr => ∃ k : Nat, k ≤ n ∧ l = .slice A k c ∧ a < 2 ^ (32 * k) ∧ wr = V) (fun l _ => match l with | .slice _ k _ => k | _ => 0)
  case atStart => exact ⟨n, Nat.le_refl _, rfl, hlt, rfl⟩
  case round =>
    obtain ⟨k, hk, rfl, ha, rfl⟩ := hrel
    by_cases hk0 : k = 0
    · subst hk0
      obtain rfl : a = 0 := by simpa using ha
      have cB := B0.out.cell0
      have fB := B0.out.frozen 0
      have h00 : nw 0 = 0 := rfl
      clear ha
      go_wp2_with fail
      exact bodyPost_ret (v := .agg #[.slice A 0 c]) (by simp [results, Tryd.results91, go_sem, cB]) rfl ⟨_, rfl, ⟨A, c, rfl, Own.nil _ _ _ _ (by unfold maxLen; omega)⟩, BW.out.setCell (Nat.le_refl _) _⟩
    · obtain ⟨g, cs, rfl, hg, hB, hcs⟩ := HO.out.2.2.2 (by omega)
      have hce := (hB.cell (k - 1)).trans (hcs (k - 1) (by omega))
      have j1 : (k : Int) - 1 = ((k - 1 : Nat) : Int) := by omega
      have j2 : 0 < k := by omega
      have j3 : (0 : Int) < (k : Int) := by omega
      by_cases hd : dig a (k - 1) = 0
      · have H := hid (lt_of_dig (by rw [show k - 1 + 1 = k by omega]; exact ha) hd)
        rw [hd] at hce
        clear hcs hB ha hd hk0
        go_wp2_with fail
        go_roundw
        case rel => exact ⟨k - 1, by omega, rfl, H.out, trivial⟩
        case measure => simp <;> omega
      · have HK : Hid (nw a = k) := nw_unique ha (.inr hd)
        have d1 := dig_lt a (k - 1)
        have d3 : (((dig a (k - 1) : Nat) : Int) == 0) = false := by simp; omega
        have HOk := hid (show Own wr base (some ⟨g, 0, none⟩) k c a from ⟨ha, by omega, HO.out.2.2.1, fun _ => ⟨g, cs, rfl, hg, hB, fun i hi => hcs i (by omega)⟩⟩)
        have cB := B0.out.cell0
        have fB := B0.out.frozen 0
        clear hcs hB ha hd hk0
        go_wp2_with fail
        have ho2 := HOk.out.box (p := ⟨w.heap.size, 0, none⟩) B0.out (by decide) (.slice (some ⟨g, 0, none⟩) k c)
        exact bodyPost_ret (v := .agg #[.slice (some ⟨g, 0, none⟩) k c]) (by simp [results, Tryd.results91, go_sem, cB]) rfl ⟨_, rfl, ⟨_, c, by rw [HK.out], by rw [HK.out]; exact ho2⟩, BW.out.setCell (Nat.le_refl _) _⟩
theorem of3_any (x : Nat) (w : World) (hx : x ≤ 18446744073709551615) :
    Calls Tryd.prog 74 #[.int .u64 (x : Int)] w (RetNat w.heap.size x w) := by
  obtain ⟨m, hm⟩ : ∃ m : Nat, m = x % 4294967296 := ⟨_, rfl⟩
  obtain ⟨q, hq⟩ : ∃ q : Nat, q = x / 4294967296 := ⟨_, rfl⟩
  have e1 : (x : Int) % 4294967296 = (m : Int) := by omega
  have e2 : (x : Int) / 4294967296 = (q : Int) := by omega
  have e3 : (x : Int) / 2 ^ 32 = (q : Int) := by rw [show (2 : Int) ^ 32 = 4294967296 from rfl]; exact e2
  have t1 : Int.tmod (x : Int) 4294967296 = (m : Int) := by rw [Int.tmod_eq_emod_of_nonneg (by omega)]; exact e1
  have m1 : m ≤ 4294967295 := by omega
  have q1 : q ≤ 4294967295 := by omega
  have w1 : IntKind.u32.wrap (m : Int) = (m : Int) := by rw [IntKind.wrap_u32]; omega
  have w2 : IntKind.u32.wrap (q : Int) = (q : Int) := by rw [IntKind.wrap_u32]; omega
  have w3 : IntKind.u64.wrap (m : Int) = (m : Int) := by rw [IntKind.wrap_u64]; omega
  have w4 : IntKind.u64.wrap (q : Int) = (q : Int) := by rw [IntKind.wrap_u64]; omega
  have EW : words 2 x = #[.int .u32 (m : Int), .int .u32 (q : Int)] := by
    have d0 : dig x 0 = m := by unfold dig; rw [hm]; simp
    have d1 : dig x 1 = q := by unfold dig; rw [hq]; exact Nat.mod_eq_of_lt (by omega)
    show #[Value.int .u32 ((dig x 0 : Nat) : Int), .int .u32 ((dig x 1 : Nat) : Int)] = _
    rw [d0, d1]
  have hlt : x < 2 ^ (32 * 2) := by show x < 18446744073709551616; omega
  obtain ⟨b0, bw⟩ := boxes1 w (.slice none 0 0)
  have hn := Blk.new (w.alloc (.cells #[.slice none 0 0] 37)) 48 (words 2 x)
  have hsz : (w.alloc (.cells #[.slice none 0 0] 37)).heap.size = w.heap.size + 1 := by simp
  rw [hsz] at hn
  have HN := hid (Row.own (base := w.heap.size) ⟨hlt, hn⟩ (by omega) (by decide))
  have B0 := hid (b0.alloc (.cells (words 2 x) 48))
  have BW := hid (bw.alloc bw.size (.cells (words 2 x) 48))
  rw [EW] at HN
  rw [EW] at B0 BW
  clear EW hlt hm hq b0 bw hn hsz
  go_enter Tryd.func74, Tryd.ntmps74
  go_wp2_with fail
  refine (trim3_any _ 2 2 x w.heap.size _ HN.out (by simp <;> omega) (by omega)).mono ?_
  rintro e w1 ⟨v, rfl, ⟨A', c', rfl, ho⟩, hb⟩
  have HO := hid ho
  have B1 := hid (B0.out.below hb B0.out.lt)
  have W1 := hid (BW.out.trans (hb.mono BW.out.size))
  have cB := B1.out.cell0
  have fB := B1.out.frozen 0
  clear hb ho B0 BW HN
  go_wp2_with fail
  have ho2 := HO.out.box (p := ⟨w.heap.size, 0, none⟩) B1.out (by decide) (.slice A' (nw x) c')
  exact bodyPost_ret (v := .agg #[.slice A' (nw x) c']) (by simp [results, Tryd.results74, go_sem, cB]) rfl ⟨_, rfl, ⟨A', c', rfl, ho2⟩, W1.out.setCell (Nat.le_refl _) _⟩

end Go.Proofs.YtomkmkjkeihodaaDoor
