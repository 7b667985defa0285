/- The reference of layer 4: Text. -/
import Derived.Test.YtohiimpjcgcaiaaRd1
import Derived.OwnWalk
set_option linter.unusedVariables false
set_option linter.unusedSimpArgs false
namespace Go.Proofs.Ytohiimpjcgcaiaa
open Go.RowKit

/-- A value that owns k words, those of s. -/
def OwnsV (w : World) (base : Nat) (v : Value) (k s : Nat) : Prop := s < 2 ^ (32 * k) ∧ w.ownsRow base 49 1 v k (words k s).toList

theorem words_toList (n a : Nat) : (words n a).toList = (List.range n).map fun i => Value.int .u32 ((dig a i : Nat) : Int) := by simp [words]
theorem words_oneCell (n a : Nat) : ∀ u ∈ (words n a).toList, u.oneCell' = true := by
  rw [words_toList]
  intro u hu
  obtain ⟨i, _, rfl⟩ := List.mem_map.1 hu
  rfl
theorem words_app {k m s b : Nat} (hs : s < 2 ^ (32 * k)) : (words k s).toList ++ (words m b).toList = (words (k + m) (b * 2 ^ (32 * k) + s)).toList := by
  rw [words_toList, words_toList, words_toList, List.range_add, List.map_append, List.map_map]
  congr 1
  · refine List.map_congr_left fun i hi => ?_
    have hi' := List.mem_range.1 hi
    have e : dig (b * 2 ^ (32 * k) + s) i = dig s i := by
      rw [← dig_mod (n := k) _ hi', Nat.mul_add_mod_self_right, Nat.mod_eq_of_lt hs]
    rw [e]
  · refine List.map_congr_left fun i hi => ?_
    show _ = Value.int .u32 ((dig (b * 2 ^ (32 * k) + s) (k + i) : Nat) : Int)
    rw [dig_seg hs]

theorem OwnsV.none_ (w : World) (base : Nat) : OwnsV w base (.slice none 0 0) 0 0 := ⟨by simp, World.ownsRow_nil w base 49 1⟩
theorem OwnsV.own {w : World} {base k s : Nat} {v : Value} (h : OwnsV w base v k s) : ∃ A c, v = .slice A k c ∧ Own w base A k c s := by
  obtain ⟨h1, h2, h3⟩ := h
  rcases h3 with ⟨rfl, rfl⟩ | ⟨g, cap, cur, rfl, hb, hh, hk, hm, hsz, ht⟩
  · exact ⟨none, 0, rfl, h1, Nat.le_refl _, Nat.zero_le _, fun h => absurd h (by omega)⟩
  · refine ⟨_, cap, rfl, h1, hk, hm, fun h0 => ⟨g, cur, rfl, hb, hh, fun i hi => ?_⟩⟩
    have e : (words k s).toList[i]? = some (.int .u32 ((dig s i : Nat) : Int)) := by rw [Array.getElem?_toList]; exact words_at hi
    rw [← ht, Nat.mul_one, List.getElem?_take, if_pos hi, Array.getElem?_toList] at e
    exact e
theorem OwnsV.below {w w' : World} {B base k s : Nat} {v : Value} (h : OwnsV w base v k s) (hb : Below B w w') (hB : w.heap.size ≤ B) : OwnsV w' base v k s :=
  ⟨h.1, h.2.kept (row := none) ⟨hb.os, hb.tape, hb.output, hb.size, fun j hj _ => hb.block j (by omega)⟩ (by cases v.ownBlock <;> simp)⟩
theorem OwnsV.alloc {w : World} {base k s : Nat} {v : Value} (h : OwnsV w base v k s) (o : Obj) : OwnsV (w.alloc o) base v k s := ⟨h.1, h.2.alloc o⟩
theorem OwnsV.drewN {w : World} {base k s : Nat} {v : Value} (h : OwnsV w base v k s) (n : Nat) : OwnsV (w.drewN n) base v k s := h
theorem OwnsV.drew {w : World} {base k s : Nat} {v : Value} (h : OwnsV w base v k s) : OwnsV w.drew base v k s := h
theorem OwnsV.empty (w : World) (base : Nat) (hb : base ≤ w.heap.size) : OwnsV (w.alloc (.cells #[] 49)) base (.slice (some ⟨w.heap.size, 0, none⟩) 0 0) 0 0 :=
  ⟨by simp, World.ownsRow_lit w #[] 0 hb (by simp [maxLen]) (by simp)⟩
/-- After an append. -/
theorem OwnsV.app {w' : World} {base k m s b : Nat} {v' : Value} (hs : s < 2 ^ (32 * k)) (hb : b < 2 ^ (32 * m)) (h : w'.ownsRow base 49 1 v' (k + m) ((words k s).toList ++ (words m b).toList)) :
    OwnsV w' base v' (k + m) (b * 2 ^ (32 * k) + s) := by
  rw [words_app hs] at h
  refine ⟨?_, h⟩
  rw [pw_add, Nat.mul_comm (2 ^ (32 * k))]
  have : (b + 1) * 2 ^ (32 * k) ≤ 2 ^ (32 * m) * 2 ^ (32 * k) := Nat.mul_le_mul_right _ hb
  rw [Nat.add_mul] at this
  omega
/-- The cells that an append reads. -/
theorem Num.news {w : World} {B n a : Nat} {ad : Addr} (h : Num w B (some ad) n a) : ∀ (j : Nat) (u : Value), (words n a).toList[j]? = some u → w.cell? (ad.add j) = some u := by
  intro j u hu
  rw [Array.getElem?_toList] at hu
  have hj : j < n := by
    rcases Nat.lt_or_ge j n with h' | h'
    · exact h'
    · rw [Array.getElem?_eq_none (by rw [words_size]; omega)] at hu; cases hu
  obtain ⟨ad', e, _, hc⟩ := h.at_ hj
  injection e with e
  subst e
  rw [words_at hj] at hu
  exact hc.trans hu
theorem words_len (n a : Nat) : (words n a).toList.length = n * 1 := by simp [words]


theorem strN_app (l m : List Nat) : strN l ++ strN m = strN (l ++ m) := by
  unfold strN
  rw [List.map_append]
  apply ByteArray.ext
  simp [strOfNums]
theorem strN_size (l : List Nat) : (strN l).size = l.length := by unfold strN; rw [strOfNums_size, List.length_map]
theorem dgs_rev (b a k : Nat) : ((dgs b a (k + 1)).reverse).map sym = sym (a / b ^ k % b) :: ((dgs b a k).reverse).map sym := by rw [dgs_succ, List.reverse_append]; rfl

def strLeft : Value → Nat
  | .string b => 3000 - b.size
  | _ => 0
set_option maxHeartbeats 4000000 in
theorem rtext_any (A : Option Addr) (c a bs : Nat) (w : World) (hA : Num w w.heap.size A (nw a) a) (ha : nw a ≤ 64) (hb2 : 2 ≤ bs) (hbs : bs ≤ 16) :
    Calls Try.prog 14 #[.agg #[.slice A (nw a) c], .int .u64 ((bs : Nat) : Int)] w (RetB (.string (strN (textN bs a))) w) := by
  obtain ⟨b0, bw⟩ := boxes1 w (.slice A (nw a) c)
  have k0 := b0.cell0
  by_cases h0 : a = 0
  · subst h0
    have HT : Hid (textN bs 0 = [48]) := (show textN bs 0 = [48] from if_pos rfl)
    have HW := hid bw
    rw [HT.out]
    clear hA HT bw b0
    rw [nw_zero] at k0 HW
    rw [nw_zero]
    cases A with
    | none =>
      go_enter Try.func14, Try.ntmps14
      go_wp2_with fail
      exact bodyPost_ret (v := .string (strN [48])) (by simp [results, Try.results14, go_sem]; rfl) rfl ⟨rfl, HW.out.alloc (by simp) _⟩
    | some ad =>
      go_enter Try.func14, Try.ntmps14
      go_wp2_with fail
      exact bodyPost_ret (v := .string (strN [48])) (by simp [results, Try.results14, go_sem]; rfl) rfl ⟨rfl, HW.out.alloc (by simp) _⟩
  · have hpos := nw_pos h0
    have HT : Hid (textN bs a = ((dgs bs a (ndg bs a)).reverse).map sym) := (show textN bs a = _ from if_neg h0)
    obtain ⟨ad, rfl, hab, hac⟩ := hA.2 hpos
    obtain ⟨i0, hi0, hz0, hz1, hz2⟩ := info_parts info49
    obtain ⟨V, hV⟩ : ∃ V, V = w.alloc (.cells #[.slice (some ad) (nw a) c] 24) := ⟨_, rfl⟩
    have hVS : V.heap.size = w.heap.size + 1 := by rw [hV]; simp
    have HN : Hid (Num ((w.alloc (.cells #[.slice (some ad) (nw a) c] 24)).alloc (.cells #[] 49)) w.heap.size (some ad) (nw a) a) := ((hA.below bw).alloc (by simp) _)
    have HO : Hid (OwnsV ((w.alloc (.cells #[.slice (some ad) (nw a) c] 24)).alloc (.cells #[] 49)) w.heap.size (.slice (some ⟨w.heap.size + 1, 0, none⟩) 0 0) 0 0) := by
      have h := OwnsV.empty V w.heap.size (by omega)
      rw [hVS, hV] at h
      exact h
    have HW := hid (bw.alloc (by simp) (.cells #[] 49))
    have l0 : decide (((nw a : Nat) : Int) = 0) = false := by simp; omega
    have l00 : (((nw a : Nat) : Int) == 0) = false := by simp; omega
    clear hA hac bw b0 hV hVS
    go_enter Try.func14, Try.ntmps14
    go_wp2_with (at_builtin; refine wpList_append_own _ rfl _ _ 22 rfl w.heap.size 49 i0 (.int .u32 0) 1 4 Try.underlying22 hi0 hz0 hz1 hz2 rfl (by decide) (.slice (some ⟨w.heap.size + 1, 0, none⟩) 0 0) 0 (words 0 0).toList rfl HO.out.2 ad (nw a) _ (words (nw a) a).toList rfl (words_len (nw a) a) HN.out.news (words_oneCell (nw a) a) (by unfold maxLen; omega) (by omega) (by simp; omega) ?_; intro v1 w1 hown1 hg1 _; obtain ⟨A', c', rfl, ho⟩ := OwnsV.own (OwnsV.app (k := 0) (s := 0) (by simp) HN.out.lt hown1); have HO1 := hid ho; have HG1 := hid hg1; clear hown1 hg1 ho)
    have ho := HO1.out
    rw [Nat.zero_add, Nat.add_zero, show 2 ^ (32 * 0) = 1 from rfl, Nat.mul_one] at ho
    have hW1 : Below w.heap.size w w1 := HW.out.grown HG1.out (by simp; omega) (fun k hk => by simp [Value.ownBlock] at hk; omega)
    clear HO HN HG1 HW HO1
    go_loopw [5, 6] (fun n s wr => ∃ (k m : Nat) (A1 : Option Addr) (c1 : Nat) (L : List Nat), n = .slice A1 (nw m) c1 ∧ s = .string (strN L) ∧ Hid (L = ((dgs bs a k).reverse).map sym) ∧ Hid (m = a / bs ^ k) ∧ Hid (0 < k → bs ^ (k - 1) ≤ a) ∧ nw m ≤ 64 ∧ Own wr w.heap.size A1 (nw m) c1 m ∧ Below w.heap.size w wr) (fun _ s _ => strLeft s)
    case atStart => exact ⟨0, a, A', c', [], rfl, rfl, (show [] = _ from rfl), (show a = a / bs ^ 0 by simp), (show 0 < 0 → _ from fun h => absurd h (by omega)), ha, ho, hW1⟩
    case round =>
      clear ho hW1
      obtain ⟨k, m, A1, c1, L, rfl, rfl, HL, HM, HK, hm, HO, WW⟩ := hrel
      by_cases hm0 : m = 0
      · subst hm0
        have HJ : Hid (ndg bs a = k) := ndg_eq hb2 (lt_of_div HM.out.symm (Nat.pow_pos (by omega))) HK.out
        have l1 : decide (0 < ((nw 0 : Nat) : Int)) = false := rfl
        clear HM HK
        go_wp2_with fail
        exact bodyPost_ret (v := .string (strN L)) (by simp [results, Try.results14, go_sem]) rfl (by show RetB _ _ _ _; rw [HT.out, HJ.out, ← HL.out]; exact ⟨rfl, WW⟩)
      · have hmp := nw_pos hm0
        have l1 : decide (0 < ((nw m : Nat) : Int)) = true := by simpa using hmp
        have k7 : k ≤ 2048 := k_bd hb2 ha (by rw [← HM.out]; exact hm0)
        have hkm : bs ^ k ≤ a := by
          rcases Nat.lt_or_ge a (bs ^ k) with h | h
          · exact absurd (HM.out.trans (Nat.div_eq_of_lt h)) hm0
          · exact h
        obtain ⟨q, hq⟩ : ∃ q, q = m / bs := ⟨_, rfl⟩
        obtain ⟨r, hr⟩ : ∃ r, r = m % bs := ⟨_, rfl⟩
        have HQ := hid hq
        have HR := hid hr
        have hr15 : r ≤ 15 := by have := Nat.mod_lt m (show bs > 0 by omega); omega
        have HQM : Hid (q = a / bs ^ (k + 1)) := (show q = _ by rw [hq, HM.out, Nat.div_div_eq_div_mul, ← Nat.pow_succ])
        have nq : nw q ≤ 64 := Nat.le_trans (nw_mono (by rw [hq]; exact Nat.div_le_self _ _)) hm
        have HKM := hid hkm
        have HS : Hid (strN [sym r] ++ strN L = strN (sym r :: L)) := strN_app _ _
        have HL2 : Hid (sym r :: L = ((dgs bs a (k + 1)).reverse).map sym) := (show _ = _ by rw [dgs_rev, hr, HM.out, HL.out])
        have HZ : Hid ((strN L).size = k) := (show _ = k by rw [strN_size, HL.out, List.length_map, List.length_reverse, dgs_len])
        have hlt : ¬ 9223372036854775807 < (strN [sym r]).size + (strN L).size := by rw [HZ.out, strN_size]; simp; omega
        clear hq hr hkm HM HK
        go_wp2_with fail
        have hc := rdivide_any A1 (nw m) c1 m wr.heap.size bs wr HO.num (Nat.le_refl _) (by omega) (by omega) (by omega)
        rw [← HQ.out, ← HR.out] at hc
        refine hc.mono ?_
        clear hc
        rintro e w2 ⟨c2, rfl, ho2, hb⟩
        have hO2 := hid (ho2.weak (b := w.heap.size) WW.size)
        have hW2 := hid (WW.trans (hb.mono WW.size))
        clear ho2 hb HO WW
        go_wp2_with fail
        have hc := digit4_any r w2 hr15
        refine hc.mono ?_
        clear hc
        rintro e w3 ⟨rfl, hb⟩
        have hO3 := hid (hO2.out.below hb (Nat.le_refl _))
        have hW3 := hid (hW2.out.trans (hb.mono hW2.out.size))
        clear hb hO2 hW2
        go_wp2_with fail
        go_roundw
        case rel => exact ⟨k + 1, q, _, c2, sym r :: L, rfl, by rw [HS.out], HL2, HQM, (show 0 < k + 1 → _ from fun _ => HKM.out), nq, hO3.out, hW3.out⟩
        case measure => show 3000 - (strN [sym r] ++ strN L).size < 3000 - (strN L).size; rw [HS.out, strN_size, List.length_cons, ← strN_size, HZ.out]; omega
end Go.Proofs.Ytohiimpjcgcaiaa
