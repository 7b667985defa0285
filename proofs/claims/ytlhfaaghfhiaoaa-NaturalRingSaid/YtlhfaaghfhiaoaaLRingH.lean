/- NaturalRing: what its cases share. -/
import Derived.Test.YtlhfaaghfhiaoaaLaw
set_option linter.unusedVariables false
set_option linter.unusedSimpArgs false
namespace Go.Proofs.Ytlhfaaghfhiaoaa
open Go.RowKit

theorem limS_some (x : Nat) : ∃ v e, Hid (limS x = (v, e)) ∧ nw v ≤ 64 := by
  by_cases h : nw x ≤ 64
  · exact ⟨x, 0, limS_ok h, h⟩
  · exact ⟨0, 9, limS_big h, by simp [nw_zero]⟩

end Go.Proofs.Ytlhfaaghfhiaoaa
