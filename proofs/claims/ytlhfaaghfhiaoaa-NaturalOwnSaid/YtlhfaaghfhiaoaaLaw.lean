/- What the walks of the statements carry: boxes that hold numbers; the statements' slices of numbers. -/
import Derived.Test.YtlhfaaghfhiaoaaAwake
set_option linter.unusedVariables false
set_option linter.unusedSimpArgs false
namespace Go.Proofs.Ytlhfaaghfhiaoaa
open Go.RowKit

/-- Block g is a variable that holds the slice A of n words, which reads as a. -/
def Box (V : World) (g : Nat) (A : Option Addr) (n c a : Nat) : Prop := Blk V g 24 #[.slice A n c] ∧ Num V V.heap.size A n a
section
variable {V V' : World} {g n c a : Nat} {A : Option Addr}
theorem Box.below (h : Box V g A n c a) (hb : Below V.heap.size V V') : Box V' g A n c a := ⟨h.1.below hb h.1.lt, (h.2.below hb).more hb.size⟩
theorem Box.cell (h : Box V g A n c a) : V.cell? ⟨g, 0, none⟩ = some (.slice A n c) := h.1.cell0
theorem Box.lt (h : Box V g A n c a) : g < V.heap.size := h.1.lt
theorem Box.num (h : Box V g A n c a) : Num V V.heap.size A n a := h.2
/-- A new variable that holds a slice that is there. -/
theorem Box.mk (hb : Blk V' g 24 #[.slice A n c]) (hN : Num V V.heap.size A n a) (h : Below V.heap.size V V') : Box V' g A n c a := ⟨hb, (hN.below h).more h.size⟩
theorem NatV.open_ {base : Nat} {v : Value} (h : NatV V base v a) : ∃ A c, v = .agg #[.slice A (nw a) c] ∧ Num V V.heap.size A (nw a) a := by
  obtain ⟨A, c, e, ho⟩ := h
  exact ⟨A, c, e, ho.num⟩
end

theorem nats1 (V : World) (A : Option Addr) (n c : Nat) (hn : n ≤ 9223372036854775807) :
    Nats (V.alloc (.cells #[.slice A n c] 24)) (V.alloc (.cells #[.slice A n c] 24)).heap.size V.heap.size 1 (fun _ => A) (fun _ => n) (fun _ => c) :=
  ⟨by simp, fun i hi => ⟨by obtain rfl : i = 0 := by omega
                            exact ((Blk.new V 24 _).cell 0).trans rfl, hn⟩⟩
theorem nats2 (V : World) (A B : Option Addr) (n c m d : Nat) (hn : n ≤ 9223372036854775807) (hm : m ≤ 9223372036854775807) :
    Nats (V.alloc (.cells #[.slice A n c, .slice B m d] 24)) (V.alloc (.cells #[.slice A n c, .slice B m d] 24)).heap.size V.heap.size 2 (fun i => if i = 0 then A else B) (fun i => if i = 0 then n else m) (fun i => if i = 0 then c else d) :=
  ⟨by simp, fun i hi => by
    have h : i = 0 ∨ i = 1 := by omega
    rcases h with rfl | rfl
    · exact ⟨((Blk.new V 24 _).cell 0).trans rfl, hn⟩
    · exact ⟨((Blk.new V 24 _).cell 1).trans rfl, hm⟩⟩
theorem nats3 (V : World) (A B E : Option Addr) (n c m d p q : Nat) (hn : n ≤ 9223372036854775807) (hm : m ≤ 9223372036854775807) (hp : p ≤ 9223372036854775807) :
    Nats (V.alloc (.cells #[.slice A n c, .slice B m d, .slice E p q] 24)) (V.alloc (.cells #[.slice A n c, .slice B m d, .slice E p q] 24)).heap.size V.heap.size 3 (fun i => if i = 0 then A else if i = 1 then B else E) (fun i => if i = 0 then n else if i = 1 then m else p) (fun i => if i = 0 then c else if i = 1 then d else q) :=
  ⟨by simp, fun i hi => by
    have h : i = 0 ∨ i = 1 ∨ i = 2 := by omega
    rcases h with rfl | rfl | rfl
    · exact ⟨((Blk.new V 24 _).cell 0).trans rfl, hn⟩
    · exact ⟨((Blk.new V 24 _).cell 1).trans rfl, hm⟩
    · exact ⟨((Blk.new V 24 _).cell 2).trans rfl, hp⟩⟩

theorem great_1 (V : World) (A : Option Addr) (n c : Nat) (hn : n ≤ 9223372036854775807) :
    Calls Try.prog 12 #[.slice (some ⟨V.heap.size, 0, none⟩) 1 1] (V.alloc (.cells #[.slice A n c] 24)) fun e w' => e = .returned (.bool (decide (100 < n))) ∧ Below V.heap.size V w' :=
  (great_any _ 1 1 _ _ _ _ (nats1 V A n c hn) (by omega)).mono fun e w' ⟨h1, h2⟩ => ⟨by
    rw [h1]
    by_cases h : 100 < n
    · rw [greatB_yes (i := 0) (by omega) h, decide_eq_true h]
    · rw [greatB_no (fun i hi => h), decide_eq_false h], ((Below.refl _ _).alloc (Nat.le_refl _) _).trans (h2.mono (by simp))⟩
theorem great_2 (V : World) (A B : Option Addr) (n c m d : Nat) (hn : n ≤ 9223372036854775807) (hm : m ≤ 9223372036854775807) :
    Calls Try.prog 12 #[.slice (some ⟨V.heap.size, 0, none⟩) 2 2] (V.alloc (.cells #[.slice A n c, .slice B m d] 24)) fun e w' => e = .returned (.bool (decide (100 < n ∨ 100 < m))) ∧ Below V.heap.size V w' :=
  (great_any _ 2 2 _ _ _ _ (nats2 V A B n c m d hn hm) (by omega)).mono fun e w' ⟨h1, h2⟩ => ⟨by
    rw [h1]
    by_cases h : 100 < n
    · rw [greatB_yes (i := 0) (by omega) (by simpa using h), decide_eq_true (.inl h)]
    · by_cases h' : 100 < m
      · rw [greatB_yes (i := 1) (by omega) (by simpa using h'), decide_eq_true (.inr h')]
      · rw [greatB_no (fun i hi => by split <;> assumption), decide_eq_false (by omega)], ((Below.refl _ _).alloc (Nat.le_refl _) _).trans (h2.mono (by simp))⟩
theorem great_3 (V : World) (A B E : Option Addr) (n c m d p q : Nat) (hn : n ≤ 9223372036854775807) (hm : m ≤ 9223372036854775807) (hp : p ≤ 9223372036854775807) :
    Calls Try.prog 12 #[.slice (some ⟨V.heap.size, 0, none⟩) 3 3] (V.alloc (.cells #[.slice A n c, .slice B m d, .slice E p q] 24)) fun e w' => e = .returned (.bool (decide (100 < n ∨ 100 < m ∨ 100 < p))) ∧ Below V.heap.size V w' :=
  (great_any _ 3 3 _ _ _ _ (nats3 V A B E n c m d p q hn hm hp) (by omega)).mono fun e w' ⟨h1, h2⟩ => ⟨by
    rw [h1]
    by_cases h : 100 < n
    · rw [greatB_yes (i := 0) (by omega) (by simpa using h), decide_eq_true (.inl h)]
    · by_cases h' : 100 < m
      · rw [greatB_yes (i := 1) (by omega) (by simpa using h'), decide_eq_true (.inr (.inl h'))]
      · by_cases h'' : 100 < p
        · rw [greatB_yes (i := 2) (by omega) (by simpa using h''), decide_eq_true (.inr (.inr h''))]
        · rw [greatB_no (fun i hi => by split <;> (try split) <;> assumption), decide_eq_false (by omega)], ((Below.refl _ _).alloc (Nat.le_refl _) _).trans (h2.mono (by simp))⟩

/-! The exported functions once more, at values that are known to be valid. -/
theorem okB_nw {a : Nat} (h : nw a ≤ 64) : okB (nw a) a = true := okB_yes.2 ⟨rfl, h⟩
theorem limS_ok {a : Nat} (h : nw a ≤ 64) : limS a = (a, 0) := by unfold limS; rw [if_pos h]
theorem limS_big {a : Nat} (h : ¬ nw a ≤ 64) : limS a = (0, 9) := by unfold limS; rw [if_neg h]
theorem sameB_num (a b : Nat) : sameB (nw a) a (nw b) b = decide (a = b) := by
  by_cases h : a = b
  · subst h; rw [sameB_yes]; simp
  · rw [sameB_no (fun c => h c.2)]; simpa using h

end Go.Proofs.Ytlhfaaghfhiaoaa
