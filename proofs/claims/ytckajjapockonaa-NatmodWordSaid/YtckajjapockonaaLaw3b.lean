/- first, for none, one, three residues. -/
import Derived.Test.YtckajjapockonaaLaw3
set_option linter.unusedVariables false
set_option linter.unusedSimpArgs false
namespace Go.Proofs.Ytckajjapockonaa
open Go.RowKit

theorem firstS_1 (n a q m : Nat) : firstS 1 (fun _ => n) (fun _ => a) q m = chkS n a 0 0 q m := by
  unfold firstS chkS
  have e1 : (anyB 1 fun _ => !okB n a) = !okB n a := by unfold anyB; simp [List.range, List.range.loop]
  have e2 : (anyB 1 fun _ => !decide (a < m)) = !decide (a < m) := by unfold anyB; simp [List.range, List.range.loop]
  have e3 : okB 0 0 = true := by decide
  rw [e1, e2, e3]
  cases h1 : okB n a <;> cases h2 : modB q m <;> simp
  have := (modB_yes h2).2.2
  by_cases h3 : a < m
  · rw [if_neg (by omega), if_pos ⟨h3, this⟩]
  · rw [if_pos (by omega), if_neg (fun h => h3 h.1)]
theorem firstS_0 (N X : Nat → Nat) (q m : Nat) : firstS 0 N X q m = if modB q m = true then 0 else 1 := by
  unfold firstS anyB
  cases modB q m <;> simp
/-- The first error of three residues. -/
def chk3 (n a k b l c q m : Nat) : Int := if okB n a && (okB k b && (okB l c && modB q m)) then (if a < m ∧ b < m ∧ c < m then 0 else 2) else 1
theorem firstS_3 (n a k b l c q m : Nat) : firstS 3 (fun i => if i = 0 then n else if i = 1 then k else l) (fun i => if i = 0 then a else if i = 1 then b else c) q m = chk3 n a k b l c q m := by
  unfold firstS chk3
  have e1 : ∀ p : Nat → Bool, anyB 3 p = (p 0 || (p 1 || p 2)) := by intro p; unfold anyB; simp [List.range, List.range.loop]
  rw [e1, e1]
  simp only [if_true, if_neg (show ¬ (1 : Nat) = 0 by omega), if_neg (show ¬ (2 : Nat) = 0 by omega), if_neg (show ¬ (2 : Nat) = 1 by omega)]
  cases h1 : okB n a <;> cases h2 : okB k b <;> cases h3 : okB l c <;> cases h4 : modB q m <;> simp
  by_cases h5 : a < m ∧ b < m ∧ c < m
  · rw [if_neg (by omega), if_pos h5]
  · rw [if_pos (by omega), if_neg h5]
theorem first_a1 (V : World) (A : Option Addr) (n c a q m p : Nat) (C' : Option Addr) (hA : Num V V.heap.size A n a) (hC : Num V V.heap.size C' q m) (hn : n ≤ 9223372036854775807) (hq : q ≤ 9223372036854775807) :
    Calls Try.prog 16 #[.agg #[.slice C' q p], .slice (some ⟨V.heap.size, 0, none⟩) 1 1] (V.alloc (.cells #[.slice A n c] 24)) fun e w' => e = .returned (.int .i64 (chkS n a 0 0 q m)) ∧ Below V.heap.size V w' := by
  have hb := (Below.refl V.heap.size V).alloc (Nat.le_refl _) (.cells #[.slice A n c] 24)
  refine (first_any V.heap.size 1 1 _ (fun _ => A) (fun _ => n) (fun _ => c) (fun _ => a) C' q m p _ (fun _ => rfl) (fun _ => natso_1 V A n c hn) (fun i _ => (hA.below hb).more hb.size) ((hC.below hb).more hb.size) (by omega) hq).mono fun e w' ⟨g1, g2⟩ => ⟨by rw [g1, firstS_1], hb.trans (g2.mono hb.size)⟩
theorem first_a0 (V : World) (q m p : Nat) (C' : Option Addr) (hC : Num V V.heap.size C' q m) (hq : q ≤ 9223372036854775807) :
    Calls Try.prog 16 #[.agg #[.slice C' q p], .slice none 0 0] V (RetB (.int .i64 (if modB q m = true then 0 else 1)) V) :=
  (first_any 0 0 0 none (fun _ => none) (fun _ => 0) (fun _ => 0) (fun _ => 0) C' q m p V (fun h => absurd h (by omega)) (fun h => absurd h (by omega)) (fun i h => absurd h (by omega)) hC (by omega) hq).mono fun e w' ⟨g1, g2⟩ => ⟨by rw [g1, firstS_0], g2⟩
theorem first_a3 (V : World) (A B' D : Option Addr) (n k l c d f a b x q m p : Nat) (C' : Option Addr) (hA : Num V V.heap.size A n a) (hB : Num V V.heap.size B' k b) (hD : Num V V.heap.size D l x) (hC : Num V V.heap.size C' q m) (hn : n ≤ 9223372036854775807) (hk : k ≤ 9223372036854775807) (hl : l ≤ 9223372036854775807) (hq : q ≤ 9223372036854775807) :
    Calls Try.prog 16 #[.agg #[.slice C' q p], .slice (some ⟨V.heap.size, 0, none⟩) 3 3] (V.alloc (.cells #[.slice A n c, .slice B' k d, .slice D l f] 24)) fun e w' => e = .returned (.int .i64 (chk3 n a k b l x q m)) ∧ Below V.heap.size V w' := by
  have hb := (Below.refl V.heap.size V).alloc (Nat.le_refl _) (.cells #[.slice A n c, .slice B' k d, .slice D l f] 24)
  refine (first_any V.heap.size 3 3 _ _ _ _ (fun i => if i = 0 then a else if i = 1 then b else x) C' q m p _ (fun _ => rfl) (fun _ => natso_3 V A B' D n k l c d f hn hk hl) (fun i hi => ?_) ((hC.below hb).more hb.size) (by omega) hq).mono fun e w' ⟨g1, g2⟩ => ⟨by rw [g1, firstS_3], hb.trans (g2.mono hb.size)⟩
  have h : i = 0 ∨ i = 1 ∨ i = 2 := by omega
  rcases h with rfl | rfl | rfl
  · exact (hA.below hb).more hb.size
  · exact (hB.below hb).more hb.size
  · exact (hD.below hb).more hb.size
theorem chk_bd3 (n a k b l c q m : Nat) : 0 ≤ chk3 n a k b l c q m ∧ chk3 n a k b l c q m ≤ 2 := by unfold chk3; split <;> (try split) <;> omega
end Go.Proofs.Ytckajjapockonaa
