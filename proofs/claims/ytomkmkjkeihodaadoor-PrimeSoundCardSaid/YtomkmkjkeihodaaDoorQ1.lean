/- The reference of layer 2: Of, Same. -/
import Derived.Test.YtomkmkjkeihodaaDoorP18
import Derived.Test.YtomkmkjkeihodaaDoorApp1
import Derived.Deep.RegionHeld3
import Derived.Deep.QuietTactic
import Derived.BigQuiet
set_option linter.unusedVariables false
set_option linter.unusedSimpArgs false
namespace Go.Proofs.YtomkmkjkeihodaaDoor
open Go Go.RowKit


theorem rtrim_any (ad : Addr) (n c a B : Nat) (w : World) (hA : Num w B (some ad) n a) (hB : B ≤ w.heap.size) (hn : n ≤ 1000000) (hnc : n ≤ c) :
    Calls Tryd.prog 51 #[.slice (some ad) n c] w (RetNat w.heap.size a w) := by
  obtain ⟨i0, hi0, hz0, hz1, hz2⟩ := info_parts info48
  obtain ⟨b0, bw⟩ := boxes1 w (.slice none 0 0)
  have B0 := hid b0
  have BW := hid bw
  have HA := hid ((hA.below (bw.mono hB)).more (Nat.le_trans hB bw.size))
  have hlt := hA.lt
  clear hA b0 bw
  go_enter Tryd.func51, Tryd.ntmps51
  go_wp2_with fail
  generalize hV : w.alloc (.cells #[.slice none 0 0] 37) = V at B0 BW HA ⊢
  clear hV
  go_loopw [3] (fun i wr => ∃ k j : Nat, k ≤ n ∧ i = .int .i64 k ∧ a < 2 ^ (32 * k) ∧ wr = V.drewN j) (fun i _ => (intOf i).toNat)
  case atStart => exact ⟨n, 0, Nat.le_refl _, rfl, hlt, rfl⟩
  case round =>
    obtain ⟨k, j, hk, rfl, ha, rfl⟩ := hrel
    by_cases hd : k ≠ 0 ∧ dig a (k - 1) = 0
    · obtain ⟨hk0, hd⟩ := hd
      have j1 : (k : Int) - 1 = ((k - 1 : Nat) : Int) := by omega
      have j2 : 0 < k := by omega
      have H := hid (lt_of_dig (by rw [show k - 1 + 1 = k by omega]; exact ha) hd)
      obtain ⟨ad', e, g1, g2⟩ := HA.out.at_ (i := k - 1) (by omega)
      injection e with e
      subst e
      rw [hd] at g2
      clear hd hk0 ha
      go_wp2_with fail
      go_roundw
      case rel => exact ⟨k - 1, _, by omega, by go_num, H.out, rfl⟩
      case measure => simp [intOf]; omega
    · have HK : Hid (k = nw a) := by
        refine (nw_unique ha ?_).symm
        rcases Nat.eq_zero_or_pos k with h | h
        · exact .inl h
        · exact .inr fun h' => hd ⟨by omega, h'⟩
      have HU := hid ha
      have HO := hid (OwnsV.empty V w.heap.size BW.out.size)
      have HN : Hid (Num (V.alloc (.cells #[] 48)) V.heap.size (some ad) k a) := (show Num (V.alloc (.cells #[] 48)) V.heap.size (some ad) k a from ⟨ha, fun h => by
        obtain ⟨ad', e, g1, g2⟩ := (HA.out.alloc (Nat.le_refl _) (.cells #[] 48)).some_ (by omega)
        exact ⟨ad', e, g1, fun i hi => g2 i (by omega)⟩⟩)
      by_cases hk0 : k = 0
      · subst hk0
        clear ha hd
        go_wp2_with (at_builtin; refine wpList_append_own _ rfl _ _ 35 rfl w.heap.size 48 i0 (.int .u32 0) 1 4 Tryd.underlying35 hi0 hz0 hz1 hz2 rfl (by decide) (.slice (some ⟨V.heap.size, 0, none⟩) 0 0) 0 (words 0 0).toList rfl HO.out.2 ad 0 _ (words 0 a).toList rfl (words_len 0 a) HN.out.news (words_oneCell 0 a) (by unfold maxLen; omega) (by omega) (by have := BW.out.size; simp; omega) ?_; intro v1 w1 hown1 hg1 _; obtain ⟨A', c', rfl, ho⟩ := OwnsV.own (OwnsV.app (k := 0) (s := 0) (by simp) HN.out.lt hown1); have HO1 := hid ho; have HG1 := hid hg1; have HB1 := hid (Blk.grown ((B0.out.drewN j).alloc (.cells #[] 48)) hg1 (by have := B0.out.lt; simp [Value.ownBlock]; omega)); have cB := HB1.out.cell0; have fB := HB1.out.frozen 0; clear hown1 hg1 ho)
        have ho := HO1.out
        rw [Nat.zero_add, Nat.add_zero, show 2 ^ (32 * 0) = 1 from rfl, Nat.mul_one] at ho
        have ho2 := ho.box (p := ⟨w.heap.size, 0, none⟩) HB1.out (by decide) (.slice A' 0 c')
        have hbl : Below w.heap.size w (w1.setCell ⟨w.heap.size, 0, none⟩ (.slice A' 0 c')) := Below.setCell (((below_drewN BW.out j).alloc BW.out.size (.cells #[] 48)).grown HG1.out (by have := BW.out.size; simp; omega) (fun i hi => by have := BW.out.size; simp [Value.ownBlock] at hi; omega)) (Nat.le_refl _) _
        exact bodyPost_ret (v := .agg #[.slice A' 0 c']) (by simp [results, Tryd.results51, go_sem, cB]) rfl ⟨_, rfl, ⟨A', c', by rw [← HK.out], by rw [← HK.out]; exact ho2⟩, hbl⟩
      · have hk1 : 0 < k := by omega
        have d1 := dig_lt a (k - 1)
        have d2 : ((dig a (k - 1) : Nat) : Int) ≠ 0 := by have : dig a (k - 1) ≠ 0 := fun h' => hd ⟨hk0, h'⟩
                                                          omega
        have d3 : (((dig a (k - 1) : Nat) : Int) == 0) = false := by simpa using d2
        have j1 : (k : Int) - 1 = ((k - 1 : Nat) : Int) := by omega
        obtain ⟨ad', e, g1, g2⟩ := HA.out.at_ (i := k - 1) (by omega)
        injection e with e
        subst e
        clear ha hd d2 hk0
        go_wp2_with (at_builtin; refine wpList_append_own _ rfl _ _ 35 rfl w.heap.size 48 i0 (.int .u32 0) 1 4 Tryd.underlying35 hi0 hz0 hz1 hz2 rfl (by decide) (.slice (some ⟨V.heap.size, 0, none⟩) 0 0) 0 (words 0 0).toList rfl HO.out.2 ad k _ (words k a).toList rfl (words_len k a) HN.out.news (words_oneCell k a) (by unfold maxLen; omega) (by omega) (by have := BW.out.size; simp; omega) ?_; intro v1 w1 hown1 hg1 _; obtain ⟨A', c', rfl, ho⟩ := OwnsV.own (OwnsV.app (k := 0) (s := 0) (by simp) HN.out.lt hown1); have HO1 := hid ho; have HG1 := hid hg1; have HB1 := hid (Blk.grown ((B0.out.drewN j).alloc (.cells #[] 48)) hg1 (by have := B0.out.lt; simp [Value.ownBlock]; omega)); have cB := HB1.out.cell0; have fB := HB1.out.frozen 0; clear hown1 hg1 ho)
        have ho := HO1.out
        rw [Nat.zero_add, Nat.add_zero, show 2 ^ (32 * 0) = 1 from rfl, Nat.mul_one] at ho
        have ho2 := ho.box (p := ⟨w.heap.size, 0, none⟩) HB1.out (by decide) (.slice A' k c')
        have hbl : Below w.heap.size w (w1.setCell ⟨w.heap.size, 0, none⟩ (.slice A' k c')) := Below.setCell (((below_drewN BW.out j).alloc BW.out.size (.cells #[] 48)).grown HG1.out (by have := BW.out.size; simp; omega) (fun i hi => by have := BW.out.size; simp [Value.ownBlock] at hi; omega)) (Nat.le_refl _) _
        exact bodyPost_ret (v := .agg #[.slice A' k c']) (by simp [results, Tryd.results51, go_sem, cB]) rfl ⟨_, rfl, ⟨A', c', by rw [← HK.out], by rw [← HK.out]; exact ho2⟩, hbl⟩

theorem rof_any (x : Nat) (w : World) (hx : x ≤ 9223372036854775807) :
    Calls Tryd.prog 31 #[.int .i64 (x : Int)] w (RetNat w.heap.size x w) := by
  obtain ⟨m, hm⟩ : ∃ m : Nat, m = x % 4294967296 := ⟨_, rfl⟩
  obtain ⟨q, hq⟩ : ∃ q : Nat, q = x / 4294967296 := ⟨_, rfl⟩
  have e1 : (x : Int) % 4294967296 = (m : Int) := by omega
  have e2 : (x : Int) / 4294967296 = (q : Int) := by omega
  have t1 : Int.tmod (x : Int) 4294967296 = (m : Int) := by rw [Int.tmod_eq_emod_of_nonneg (by omega)]; exact e1
  have t2 : Int.tdiv (x : Int) 4294967296 = (q : Int) := by rw [Int.tdiv_eq_ediv_of_nonneg (by omega)]; exact e2
  have m1 : m ≤ 4294967295 := by omega
  have q1 : q ≤ 2147483647 := by omega
  have w1 : IntKind.u32.wrap (m : Int) = (m : Int) := by rw [IntKind.wrap_u32]; omega
  have w2 : IntKind.u32.wrap (q : Int) = (q : Int) := by rw [IntKind.wrap_u32]; omega
  have w3 : IntKind.i64.wrap (m : Int) = (m : Int) := IntWalk.i64_in _ (by omega)
  have w4 : IntKind.i64.wrap (q : Int) = (q : Int) := IntWalk.i64_in _ (by omega)
  have EW : words 2 x = #[.int .u32 (m : Int), .int .u32 (q : Int)] := by
    have d0 : dig x 0 = m := by unfold dig; rw [hm]; simp
    have d1 : dig x 1 = q := by unfold dig; rw [hq]; exact Nat.mod_eq_of_lt (by omega)
    show #[Value.int .u32 ((dig x 0 : Nat) : Int), .int .u32 ((dig x 1 : Nat) : Int)] = _
    rw [d0, d1]
  have hlt : x < 2 ^ (32 * 2) := by show x < 18446744073709551616; omega
  obtain ⟨b0, bw⟩ := boxes1 w (.slice none 0 0)
  have hn := Blk.new (w.alloc (.cells #[.slice none 0 0] 37)) 48 (words 2 x)
  have HN := hid (num_blk (B := (w.alloc (.cells #[.slice none 0 0] 37)).heap.size + 1) hn hlt (by omega))
  have B0 := hid (b0.alloc (.cells (words 2 x) 48))
  have BW := hid (bw.alloc bw.size (.cells (words 2 x) 48))
  have hsz : (w.alloc (.cells #[.slice none 0 0] 37)).heap.size = w.heap.size + 1 := by simp
  rw [EW, hsz] at HN
  rw [EW] at B0 BW
  clear EW hlt hm hq b0 bw hn hsz
  go_enter Tryd.func31, Tryd.ntmps31
  go_wp2_with fail
  refine (rtrim_any _ 2 2 x _ _ HN.out (by simp) (by omega) (by omega)).mono ?_
  rintro e w1 ⟨v, rfl, ⟨A', c', rfl, ho⟩, hb⟩
  have HO := hid (ho.weak (b := w.heap.size) (by simp; omega))
  have B1 := hid (B0.out.below hb B0.out.lt)
  have W1 := hid (BW.out.trans (hb.mono BW.out.size))
  have cB := B1.out.cell0
  have fB := B1.out.frozen 0
  clear hb ho B0 BW HN
  go_wp2_with fail
  have ho2 := HO.out.box (p := ⟨w.heap.size, 0, none⟩) B1.out (by decide) (.slice A' (nw x) c')
  exact bodyPost_ret (v := .agg #[.slice A' (nw x) c']) (by simp [results, Tryd.results31, go_sem, cB]) rfl ⟨_, rfl, ⟨A', c', rfl, ho2⟩, W1.out.setCell (Nat.le_refl _) _⟩


/-- Are two rows of words equal? -/
def sameR (n a m b : Nat) : Bool := decide (n = m ∧ a = b)
theorem sameR_yes {n a m b : Nat} (h1 : n = m) (h2 : a = b) : sameR n a m b = true := decide_eq_true ⟨h1, h2⟩
theorem sameR_no {n a m b : Nat} (h : ¬ (n = m ∧ a = b)) : sameR n a m b = false := decide_eq_false h
set_option maxHeartbeats 4000000 in
set_option maxRecDepth 100000 in
theorem rsame_any (A B' : Option Addr) (n m c d a b : Nat) (w : World) (hA : Num w w.heap.size A n a) (hB : Num w w.heap.size B' m b) (hn : n ≤ 9223372036854775807) (hm : m ≤ 9223372036854775807) :
    Calls Tryd.prog 30 #[.agg #[.slice A n c], .agg #[.slice B' m d]] w (RetB (.bool (sameR n a m b)) w) := by
  obtain ⟨b0, b1, bw⟩ := boxes2 w (.slice A n c) (.slice B' m d)
  have HA := hid hA
  have HB := hid hB
  clear hA hB
  by_cases hnm : n = m
  · subst hnm
    go_enter Tryd.func30, Tryd.ntmps30
    go_wp2_with fail
    generalize hV : ((w.alloc (.cells #[.slice A n c] 37)).alloc (.cells #[.slice B' n d] 37)) = V0 at b0 b1 bw ⊢
    clear hV
    have k0 := b0.cell0
    have k1 := b1.cell0
    have z0 := b0.lt
    have z1 := b1.lt
    go_wp2_with fail
    clear k0 k1 z0 z1
    go_loopw [5] (fun i wr => ∃ k : Nat, k ≤ n ∧ i = .int .i64 ((k : Nat) : Int) ∧ Blk wr w.heap.size 37 #[.slice A n c] ∧ Blk wr (w.heap.size + 1) 37 #[.slice B' n d] ∧ Below w.heap.size w wr ∧ Hid (∀ j, j < k → dig a j = dig b j)) (fun i wr => n - (intOf i).toNat)
    case atStart => exact ⟨0, Nat.zero_le _, by go_num, b0, b1, bw, (show ∀ j, j < 0 → dig a j = dig b j from fun j h => absurd h (by omega))⟩
    case round =>
      clear b0 b1 bw
      obtain ⟨k, hk, rfl, b0, b1, WW, HD⟩ := hrel
      have k0 := b0.cell0
      have k1 := b1.cell0
      have z0 := b0.lt
      have z1 := b1.lt
      by_cases hkn : k < n
      · obtain ⟨ad, rfl, h1, hac⟩ := (HA.out.below WW).at_ hkn
        obtain ⟨bd, rfl, h2, hbc⟩ := (HB.out.below WW).at_ hkn
        obtain ⟨x, hx⟩ : ∃ x, x = dig a k := ⟨_, rfl⟩
        obtain ⟨y, hy⟩ : ∃ y, y = dig b k := ⟨_, rfl⟩
        rw [← hx] at hac
        rw [← hy] at hbc
        have HX := hid hx
        have HY := hid hy
        have hxl : x ≤ 4294967295 := by have := dig_lt a k; omega
        have hyl : y ≤ 4294967295 := by have := dig_lt b k; omega
        clear hx hy
        by_cases hxy : x = y
        · have l5 : (((x : Nat) : Int) != ((y : Nat) : Int)) = false := by simp; omega
          have HXY := hid hxy
          clear hxy
          go_wp2_with fail
          go_quiet (fail)
          go_wp2_with fail
          go_roundw
          case rel => exact ⟨k + 1, by omega, by go_num, b0, b1, below_drewN WW _, (show ∀ j, j < k + 1 → dig a j = dig b j by
            intro j hj
            rcases Nat.lt_or_ge j k with h | h
            · exact HD.out j h
            · obtain rfl : j = k := by omega
              rw [← HX.out, ← HY.out, HXY.out])⟩
          case measure => simp [intOf] <;> omega
        · have l5 : (((x : Nat) : Int) != ((y : Nat) : Int)) = true := by simp; omega
          have HS : Hid (sameR n a n b = false) := sameR_no (fun h => hxy (by rw [HX.out, HY.out, h.2]))
          clear hxy
          go_wp2_with fail
          go_quiet (fail)
          go_wp2_with fail
          exact bodyPost_ret (v := .bool false) (by simp [results, Tryd.results30, go_sem]) rfl (by rw [HS.out]; exact ⟨rfl, below_drewN WW _⟩)
      · obtain rfl : k = n := by omega
        have HS : Hid (sameR k a k b = true) := sameR_yes rfl (dig_ext HA.out.lt HB.out.lt HD.out)
        go_wp2_with fail
        exact bodyPost_ret (v := .bool true) (by simp [results, Tryd.results30, go_sem]) rfl (by rw [HS.out]; exact ⟨rfl, WW⟩)
  · have l5 : (((n : Nat) : Int) != ((m : Nat) : Int)) = true := by simp; omega
    have HS : Hid (sameR n a m b = false) := sameR_no (fun h => hnm h.1)
    go_enter Tryd.func30, Tryd.ntmps30
    go_wp2_with fail
    generalize hV : ((w.alloc (.cells #[.slice A n c] 37)).alloc (.cells #[.slice B' m d] 37)) = V0 at b0 b1 bw ⊢
    clear hV
    have k0 := b0.cell0
    have k1 := b1.cell0
    have z0 := b0.lt
    have z1 := b1.lt
    go_wp2_with fail
    exact bodyPost_ret (v := .bool false) (by simp [results, Tryd.results30, go_sem]) rfl (by rw [HS.out]; exact ⟨rfl, bw⟩)
end Go.Proofs.YtomkmkjkeihodaaDoor
