/- Memory: a slice of words that reads as a number; a block that is known whole. -/
import Derived.Test.YtomkmkjkeihodaaDoorRows
import Derived.Test.YtomkmkjkeihodaaDoorPlain
import Derived.WalkKit
import Derived.Below
import Derived.Laws.OwnMore
import Derived.Laws.Rows
import Derived.Deep.AppendLies
import Derived.Deep.Draws
import Derived.Deep.OwnRows
set_option linter.unusedVariables false
set_option linter.unusedSimpArgs false
namespace Go.Proofs.YtomkmkjkeihodaaDoor
open Go.RowKit

theorem hid {p : Prop} (h : p) : Hid p := h

theorem below_drewN {B : Nat} {a w : World} (h : Below B a w) (n : Nat) : Below B a (w.drewN n) := ⟨h.os, h.tape, h.output, h.size, h.block⟩

theorem block_of_add (a : Addr) (n : Nat) : (a.add n).block = a.block := by unfold Addr.add; split <;> rfl
theorem add_of_add (a : Addr) (i j : Nat) : (a.add i).add j = a.add (i + j) := by
  unfold Addr.add
  by_cases hi : i = 0 <;> by_cases hj : j = 0 <;> simp [hi, hj, Nat.add_assoc]
theorem add_at (g o i : Nat) : (⟨g, o, none⟩ : Addr).add i = ⟨g, o + i, none⟩ := by unfold Addr.add; split <;> simp_all

/-- Block g is just the cells cs of element type t, none of them frozen. -/
def Blk (w : World) (g : Nat) (t : TypeId) (cs : Array Value) : Prop := w.heap[g]? = some (.cells cs t (0, 0))

section
variable {w w' : World} {g : Nat} {t : TypeId} {cs : Array Value}
theorem Blk.lt (h : Blk w g t cs) : g < w.heap.size := by
  rcases Nat.lt_or_ge g w.heap.size with hlt | hge
  · exact hlt
  · unfold Blk at h; rw [Array.getElem?_eq_none hge] at h; cases h
theorem Blk.cell (h : Blk w g t cs) (i : Nat) : w.cell? ⟨g, i, none⟩ = cs[i]? := cell_of_row w g i cs t (0, 0) h
theorem Blk.frozen (h : Blk w g t cs) (i : Nat) : w.frozen? ⟨g, i, none⟩ = false := by
  unfold Blk at h
  simp [World.frozen?, h]
theorem Blk.new (w : World) (t : TypeId) (cs : Array Value) : Blk (w.alloc (.cells cs t)) w.heap.size t cs := heap_alloc_new w _
theorem Blk.drewN (h : Blk w g t cs) (n : Nat) : Blk (w.drewN n) g t cs := h
theorem Blk.alloc (h : Blk w g t cs) (o : Obj) : Blk (w.alloc o) g t cs := (Below.heap_alloc w o g h.lt).trans h
theorem Blk.set_ (h : Blk w g t cs) (i : Nat) (u : Value) : Blk (w.setCell ⟨g, i, none⟩ u) g t (cs.setIfInBounds i u) := by
  unfold Blk at h ⊢
  simp [World.setCell, Array.getElem?_modify, h]
theorem Blk.far (h : Blk w g t cs) {p : Addr} (hp : g ≠ p.block) (u : Value) : Blk (w.setCell p u) g t cs := (Below.heap_setCell w p u g hp).trans h
theorem Blk.below {B : Nat} (h : Blk w g t cs) (hb : Below B w w') (hg : g < B) : Blk w' g t cs := (hb.block g hg).trans h
theorem Blk.grown {row : Option Nat} (h : Blk w g t cs) (hb : w.grownBy w' row) (hg : some g ≠ row) : Blk w' g t cs := (hb.block g h.lt hg).trans h
end

/-- The words of a number, n of them, lowest first. -/
def words (n a : Nat) : Array Value := ((List.range n).map fun i => Value.int .u32 ((dig a i : Nat) : Int)).toArray

theorem words_size (n a : Nat) : (words n a).size = n := by simp [words]
theorem words_at {n a i : Nat} (h : i < n) : (words n a)[i]? = some (.int .u32 ((dig a i : Nat) : Int)) := by
  simp [words, h]
theorem words_put {n a i x : Nat} (h : i < n) (hx : x < 4294967296) : (words n a).setIfInBounds i (.int .u32 ((x : Nat) : Int)) = words n (put a i x) := by
  apply Array.ext_getElem?
  intro j
  rw [Array.getElem?_setIfInBounds]
  simp only [words_size]
  by_cases hj : j < n
  · rw [words_at hj, words_at hj, dig_put _ _ _ _ hx]
    by_cases e : i = j
    · subst e; simp [h]
    · rw [if_neg e, if_neg (fun c => e c.symm)]
  · rw [Array.getElem?_eq_none (by rw [words_size]; omega), Array.getElem?_eq_none (by rw [words_size]; omega)]
    split
    · rename_i e; subst e; omega
    · rfl

theorem info48 : (Tryd.prog.info? 48).map (fun i => (i.zero, i.size, i.bytes)) = some (some (.int .u32 0), 1, 4) := by kernel_rfl
theorem words_0 (n : Nat) : madeCells #[Value.int .u32 0] n = words n 0 := by
  apply Array.ext_getElem?
  intro j
  by_cases hj : j < n
  · rw [words_at hj]
    simp [madeCells, hj, dig_0, Nat.mod_one]
  · simp [madeCells, words, hj]
/-- make([]uint32, n). -/
theorem make_words (n : Nat) (h : n ≤ 1000000) (w : World) :
    (Instr.makeSlice 35 (.int .i64 (n : Int)) (.int .i64 (n : Int))).run Tryd.prog w = .ok (.slice (some ⟨w.heap.size, 0, none⟩) n n) (w.alloc (.cells (words n 0) 48)) := by
  rw [← words_0]
  exact run_make_row' (P := Tryd.prog) 35 48 (.int .u32 0) 4 Tryd.underlying35 info48 rfl .i64 .i64 n (by omega) (by omega) w

/-- A slice that reads as the n words of a, below block B. -/
def Num (w : World) (B : Nat) (A : Option Addr) (n a : Nat) : Prop :=
  a < 2 ^ (32 * n) ∧ (0 < n → ∃ ad, A = some ad ∧ ad.block < B ∧ ∀ i, i < n → w.cell? (ad.add i) = some (.int .u32 ((dig a i : Nat) : Int)))

/-- A block of the call's own that is the n words of a. -/
def Row (w : World) (g n a : Nat) : Prop := a < 2 ^ (32 * n) ∧ Blk w g 48 (words n a)

/-- A slice at the head of a block of the call's own, from block base on, whose first n cells are the words of a. -/
def Own (w : World) (base : Nat) (A : Option Addr) (n c a : Nat) : Prop :=
  a < 2 ^ (32 * n) ∧ n ≤ c ∧ c ≤ maxLen ∧ (0 < n → ∃ g cs, A = some ⟨g, 0, none⟩ ∧ base ≤ g ∧ Blk w g 48 cs ∧ ∀ i, i < n → cs[i]? = some (.int .u32 ((dig a i : Nat) : Int)))

section
variable {w w' : World} {B B' base g n c a i : Nat} {A : Option Addr}

theorem Num.lt (h : Num w B A n a) : a < 2 ^ (32 * n) := h.1
theorem Num.nil (w : World) (B : Nat) (A : Option Addr) : Num w B A 0 0 := ⟨by simp, fun h => absurd h (by omega)⟩
theorem Num.at_ (h : Num w B A n a) (hi : i < n) : ∃ ad, A = some ad ∧ ad.block < B ∧ w.cell? (ad.add i) = some (.int .u32 ((dig a i : Nat) : Int)) := by
  obtain ⟨ad, e, hb, hc⟩ := h.2 (by omega)
  exact ⟨ad, e, hb, hc i hi⟩
theorem Num.some_ (h : Num w B A n a) (hn : 0 < n) : ∃ ad, A = some ad ∧ ad.block < B ∧ ∀ i, i < n → w.cell? (ad.add i) = some (.int .u32 ((dig a i : Nat) : Int)) := h.2 hn
theorem Num.keep (h : Num w B A n a) (hk : ∀ p : Addr, p.block < B → w'.cell? p = w.cell? p) : Num w' B A n a :=
  ⟨h.1, fun hn => by
    obtain ⟨ad, e, hb, hc⟩ := h.2 hn
    exact ⟨ad, e, hb, fun j hj => (hk _ (by rw [block_of_add]; exact hb)).trans (hc j hj)⟩⟩
theorem Num.more (h : Num w B A n a) (hB : B ≤ B') : Num w B' A n a :=
  ⟨h.1, fun hn => by
    obtain ⟨ad, e, hb, hc⟩ := h.2 hn
    exact ⟨ad, e, by omega, hc⟩⟩
theorem Num.below (h : Num w B A n a) (hb : Below B w w') : Num w' B A n a := h.keep fun _ hp => hb.cell hp
theorem Num.drew (h : Num w B A n a) : Num w.drew B A n a := h
theorem Num.drewN (h : Num w B A n a) (k : Nat) : Num (w.drewN k) B A n a := h
theorem Num.alloc (h : Num w B A n a) (hB : B ≤ w.heap.size) (o : Obj) : Num (w.alloc o) B A n a := h.keep fun p hp => World.cell?_alloc_lt w o p (by omega)
theorem Num.setCell (h : Num w B A n a) {p : Addr} (hB : B ≤ p.block) (u : Value) : Num (w.setCell p u) B A n a :=
  h.keep fun q hq => World.cell?_setCell_other w p q u (fun e => by subst e; omega)

/-- The cell is read through one new block. -/
theorem cell_alloc {ad : Addr} {v : Value} {k : Nat} (hb : ad.block < B) (hB : B ≤ w.heap.size) (h : w.cell? (ad.add k) = some v) : ∀ o, (w.alloc o).cell? (ad.add k) = some v :=
  fun o => (World.cell?_alloc_lt w o (ad.add k) (by rw [block_of_add]; omega)).trans h

theorem Row.lt (h : Row w g n a) : a < 2 ^ (32 * n) := h.1
theorem Row.blk (h : Row w g n a) : g < w.heap.size := h.2.lt
theorem Row.cell (h : Row w g n a) (hi : i < n) : w.cell? ⟨g, i, none⟩ = some (.int .u32 ((dig a i : Nat) : Int)) := (h.2.cell i).trans (words_at hi)
theorem Row.frozen (h : Row w g n a) (i : Nat) : w.frozen? ⟨g, i, none⟩ = false := h.2.frozen i
theorem Row.set_ (h : Row w g n a) {x : Nat} (hi : i < n) (hx : x < 4294967296) : Row (w.setCell ⟨g, i, none⟩ (.int .u32 ((x : Nat) : Int))) g n (put a i x) :=
  ⟨put_lt h.1 hi hx, by rw [← words_put hi hx]; exact h.2.set_ i _⟩
theorem Row.new (w : World) (n : Nat) : Row (w.alloc (.cells (words n 0) 48)) w.heap.size n 0 := ⟨Nat.pow_pos (by omega), Blk.new w 48 _⟩
theorem Row.drewN (h : Row w g n a) (k : Nat) : Row (w.drewN k) g n a := h
theorem Row.alloc (h : Row w g n a) (o : Obj) : Row (w.alloc o) g n a := ⟨h.1, h.2.alloc o⟩
theorem Row.below {B : Nat} (h : Row w g n a) (hb : Below B w w') (hg : g < B) : Row w' g n a := ⟨h.1, h.2.below hb hg⟩
theorem Row.far (h : Row w g n a) {p : Addr} (hp : g ≠ p.block) (u : Value) : Row (w.setCell p u) g n a := ⟨h.1, h.2.far hp u⟩
theorem Row.num (h : Row w g n a) (hB : g < B) : Num w B (some ⟨g, 0, none⟩) n a :=
  ⟨h.1, fun _ => ⟨_, rfl, hB, fun i hi => by rw [add_at, Nat.zero_add]; exact h.cell hi⟩⟩
theorem Row.own (h : Row w g n a) (hb : base ≤ g) (hn : n ≤ maxLen) : Own w base (some ⟨g, 0, none⟩) n n a :=
  ⟨h.1, Nat.le_refl _, hn, fun _ => ⟨g, _, rfl, hb, h.2, fun i hi => words_at hi⟩⟩
theorem Row.ownTake (h : Row w g n a) {k : Nat} (hk : k ≤ n) (ha : a < 2 ^ (32 * k)) (hb : base ≤ g) (hn : n ≤ maxLen) : Own w base (some ⟨g, 0, none⟩) k n a :=
  ⟨ha, hk, hn, fun _ => ⟨g, _, rfl, hb, h.2, fun i hi => words_at (by omega)⟩⟩

theorem Own.num (h : Own w base A n c a) : Num w w.heap.size A n a :=
  ⟨h.1, fun hn => by
    obtain ⟨g, cs, e, _, hb, hc⟩ := h.2.2.2 hn
    exact ⟨_, e, hb.lt, fun i hi => by rw [add_at, Nat.zero_add, hb.cell]; exact hc i hi⟩⟩
theorem Own.weak (h : Own w base A n c a) {b : Nat} (hb : b ≤ base) : Own w b A n c a :=
  ⟨h.1, h.2.1, h.2.2.1, fun hn => by
    obtain ⟨g, cs, e, h1, h2, h3⟩ := h.2.2.2 hn
    exact ⟨g, cs, e, by omega, h2, h3⟩⟩
theorem Own.nil (w : World) (base : Nat) (A : Option Addr) (c : Nat) (hc : c ≤ maxLen) : Own w base A 0 c 0 := ⟨by simp, Nat.zero_le _, hc, fun h => absurd h (by omega)⟩
theorem Own.below {B : Nat} (h : Own w base A n c a) (hb : Below B w w') (hB : w.heap.size ≤ B) : Own w' base A n c a :=
  ⟨h.1, h.2.1, h.2.2.1, fun hn => by
    obtain ⟨g, cs, e, h1, h2, h3⟩ := h.2.2.2 hn
    exact ⟨g, cs, e, h1, h2.below hb (Nat.lt_of_lt_of_le h2.lt hB), h3⟩⟩
theorem Own.alloc (h : Own w base A n c a) (o : Obj) : Own (w.alloc o) base A n c a := h.below ((Below.refl _ _).alloc (Nat.le_refl _) o) (Nat.le_refl _)
/-- A store into a block of another type leaves it. -/
theorem Own.box (h : Own w base A n c a) {p : Addr} {t : TypeId} {cs : Array Value} (hp : Blk w p.block t cs) (ht : t ≠ 48) (u : Value) : Own (w.setCell p u) base A n c a :=
  ⟨h.1, h.2.1, h.2.2.1, fun hn => by
    obtain ⟨g, cs', e, h1, h2, h3⟩ := h.2.2.2 hn
    exact ⟨g, cs', e, h1, h2.far (fun e => by
      subst e
      unfold Blk at h2 hp
      rw [h2] at hp
      injection hp with hp
      injection hp with _ hp
      exact ht hp.symm) u, h3⟩⟩
theorem Own.drewN (h : Own w base A n c a) (k : Nat) : Own (w.drewN k) base A n c a := h
end

theorem Row.one {w : World} {g n a b : Nat} (h : Row w g n a) (h' : Row w g n b) : a = b := by
  refine dig_ext h.1 h'.1 (fun i hi => ?_)
  have := (h.cell hi).symm.trans (h'.cell hi)
  injection this with this
  injection this with _ this
  omega

end Go.Proofs.YtomkmkjkeihodaaDoor
