/- slices.Equal. -/
import Derived.Test.YtomkmkjkeihodaaDoorTop2
set_option linter.unusedVariables false
set_option linter.unusedSimpArgs false
namespace Go.Proofs.YtomkmkjkeihodaaDoor
open Go.RowKit

/-- Two slices of words with the same words. -/
def sameB (n a m b : Nat) : Bool := decide (n = m ∧ a = b)
theorem sameB_yes (n a : Nat) : sameB n a n a = true := by unfold sameB; simp
theorem sameB_no {n a m b : Nat} (h : ¬ (n = m ∧ a = b)) : sameB n a m b = false := by unfold sameB; simpa using h

end Go.Proofs.YtomkmkjkeihodaaDoor
