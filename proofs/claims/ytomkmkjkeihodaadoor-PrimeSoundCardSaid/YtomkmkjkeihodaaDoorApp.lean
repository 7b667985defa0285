/- append onto a row of words of the call's own; slices.Clone. -/
import Derived.Test.YtomkmkjkeihodaaDoorHelp
import Derived.OwnWalk
import Derived.Maps.AppendAt
set_option linter.unusedVariables false
set_option linter.unusedSimpArgs false
namespace Go.Proofs.YtomkmkjkeihodaaDoor
open Go.RowKit

/-- A value that owns k words, those of s. -/
def OwnsV (w : World) (base : Nat) (v : Value) (k s : Nat) : Prop := s < 2 ^ (32 * k) ∧ w.ownsRow base 48 1 v k (words k s).toList

theorem words_toList (n a : Nat) : (words n a).toList = (List.range n).map fun i => Value.int .u32 ((dig a i : Nat) : Int) := by simp [words]
theorem words_oneCell (n a : Nat) : ∀ u ∈ (words n a).toList, u.oneCell' = true := by
  rw [words_toList]
  intro u hu
  obtain ⟨i, _, rfl⟩ := List.mem_map.1 hu
  rfl
theorem words_app {k m s b : Nat} (hs : s < 2 ^ (32 * k)) : (words k s).toList ++ (words m b).toList = (words (k + m) (b * 2 ^ (32 * k) + s)).toList := by
  rw [words_toList, words_toList, words_toList, List.range_add, List.map_append, List.map_map]
  congr 1
  · refine List.map_congr_left fun i hi => ?_
    have hi' := List.mem_range.1 hi
    have e : dig (b * 2 ^ (32 * k) + s) i = dig s i := by
      rw [← dig_mod (n := k) _ hi', Nat.mul_add_mod_self_right, Nat.mod_eq_of_lt hs]
    rw [e]
  · refine List.map_congr_left fun i hi => ?_
    show _ = Value.int .u32 ((dig (b * 2 ^ (32 * k) + s) (k + i) : Nat) : Int)
    rw [dig_seg hs]

theorem OwnsV.none_ (w : World) (base : Nat) : OwnsV w base (.slice none 0 0) 0 0 := ⟨by simp, World.ownsRow_nil w base 48 1⟩
theorem OwnsV.own {w : World} {base k s : Nat} {v : Value} (h : OwnsV w base v k s) : ∃ A c, v = .slice A k c ∧ Own w base A k c s := by
  obtain ⟨h1, h2, h3⟩ := h
  rcases h3 with ⟨rfl, rfl⟩ | ⟨g, cap, cur, rfl, hb, hh, hk, hm, hsz, ht⟩
  · exact ⟨none, 0, rfl, h1, Nat.le_refl _, Nat.zero_le _, fun h => absurd h (by omega)⟩
  · refine ⟨_, cap, rfl, h1, hk, hm, fun h0 => ⟨g, cur, rfl, hb, hh, fun i hi => ?_⟩⟩
    have e : (words k s).toList[i]? = some (.int .u32 ((dig s i : Nat) : Int)) := by rw [Array.getElem?_toList]; exact words_at hi
    rw [← ht, Nat.mul_one, List.getElem?_take, if_pos hi, Array.getElem?_toList] at e
    exact e
theorem OwnsV.below {w w' : World} {B base k s : Nat} {v : Value} (h : OwnsV w base v k s) (hb : Below B w w') (hB : w.heap.size ≤ B) : OwnsV w' base v k s :=
  ⟨h.1, h.2.kept (row := none) ⟨hb.os, hb.tape, hb.output, hb.size, fun j hj _ => hb.block j (by omega)⟩ (by cases v.ownBlock <;> simp)⟩
theorem OwnsV.alloc {w : World} {base k s : Nat} {v : Value} (h : OwnsV w base v k s) (o : Obj) : OwnsV (w.alloc o) base v k s := ⟨h.1, h.2.alloc o⟩
theorem OwnsV.drewN {w : World} {base k s : Nat} {v : Value} (h : OwnsV w base v k s) (n : Nat) : OwnsV (w.drewN n) base v k s := h
theorem OwnsV.drew {w : World} {base k s : Nat} {v : Value} (h : OwnsV w base v k s) : OwnsV w.drew base v k s := h
theorem OwnsV.empty (w : World) (base : Nat) (hb : base ≤ w.heap.size) : OwnsV (w.alloc (.cells #[] 48)) base (.slice (some ⟨w.heap.size, 0, none⟩) 0 0) 0 0 :=
  ⟨by simp, World.ownsRow_lit w #[] 0 hb (by simp [maxLen]) (by simp)⟩
/-- After an append. -/
theorem OwnsV.app {w' : World} {base k m s b : Nat} {v' : Value} (hs : s < 2 ^ (32 * k)) (hb : b < 2 ^ (32 * m)) (h : w'.ownsRow base 48 1 v' (k + m) ((words k s).toList ++ (words m b).toList)) :
    OwnsV w' base v' (k + m) (b * 2 ^ (32 * k) + s) := by
  rw [words_app hs] at h
  refine ⟨?_, h⟩
  rw [pw_add, Nat.mul_comm (2 ^ (32 * k))]
  have : (b + 1) * 2 ^ (32 * k) ≤ 2 ^ (32 * m) * 2 ^ (32 * k) := Nat.mul_le_mul_right _ hb
  rw [Nat.add_mul] at this
  omega
/-- The cells that an append reads. -/
theorem Num.news {w : World} {B n a : Nat} {ad : Addr} (h : Num w B (some ad) n a) : ∀ (j : Nat) (u : Value), (words n a).toList[j]? = some u → w.cell? (ad.add j) = some u := by
  intro j u hu
  rw [Array.getElem?_toList] at hu
  have hj : j < n := by
    rcases Nat.lt_or_ge j n with h' | h'
    · exact h'
    · rw [Array.getElem?_eq_none (by rw [words_size]; omega)] at hu; cases hu
  obtain ⟨ad', e, _, hc⟩ := h.at_ hj
  injection e with e
  subst e
  rw [words_at hj] at hu
  exact hc.trans hu
theorem words_len (n a : Nat) : (words n a).toList.length = n * 1 := by simp [words]

end Go.Proofs.YtomkmkjkeihodaaDoor
