/-
  No cell of these rows narrows 'for every input' (looked for: loops, veiled, ifaces, maps, wideKeys, modest, calm, conditions, laid).
  DERIVED. THE GIVEN ROWS OF THIS SEAT. 6 by the template 'for every input the law returns true; each argument reads behind the call as it read before'; 0 by the template 'total and deterministic' (their statements: YtohiimpjcgcaiaaTotals.lean).
  GIVEN WITH THE SEED: the statements are not yours to turn. If you find one false, say at which input.
  Laid BY PROGRAM, IN A SANDBOX (cutbox-rows.mjs): the forced cells as the released guide's own fill.sh prints them over the translation 7bf42e538151b70f… (all of the seat's roots in one cut). By AI agents, Wed Nov 11 2026. No macro, syntax, notation, axiom, sorry.
-/
import Derived.Test.YtohiimpjcgcaiaaChecked
import GoSem.Claim
import GoSem.ClaimJoined
import GoSem.ClaimMapViews
import Derived.JoinedTies
import Derived.KernelRfl
namespace Go.Proofs.Ytohiimpjcgcaiaa
/- THE CELL 'sum', in the pinned program and in every row, IS THE sha256 OF THE DUMP (.gsa) THAT YtohiimpjcgcaiaaProg.lean LOADS. Nothing in Lean hashes anything: it is a label: what it is worth is what the hold of that sum in a sandbox is worth. -/
noncomputable def Try.pinned : Pinned := { name := "ytohiimpjcgcaiaa", sum := "7bf42e538151b70f1e49fd7b531ad100d9493a2c56bca130ead701070d17dd19", checked := Try.checked }
namespace Rows
def none {H : Type} : Left H := { results := [], args := [] }

/-- 'specielaw04.NatformTexts': WHATEVER THE INPUT: true; the input reads as it did. -/
def natformTextsSpec : ChangeSpec := { name := "natformTexts", fn := fun _ => fun
  | [d] => { results := [.lit (.bool true)], args := [d] }
  | _ => none }
def natformTextsRow : OpenClaim := { program := "ytohiimpjcgcaiaa", sum := "7bf42e538151b70f1e49fd7b531ad100d9493a2c56bca130ead701070d17dd19", func := "specie/specielaw04.NatformTexts", spec := "natformTexts", unfollowed := true, recurses := true, named := ["math/bits.overflowError"], apart := false }
def NatformTextsSaid : Prop := natformTextsRow.holds Try.pinned (OpenSpec.ofChange natformTextsSpec)

/-- ITS FALSE NEIGHBOUR: 'it returns false'. Refute it at one input. -/
def natformTextsWrong : ChangeSpec := { name := "natformTexts", fn := fun _ => fun
  | [d] => { results := [.lit (.bool false)], args := [d] }
  | _ => none }
def NatformTextsWrongFalsely : Prop := natformTextsRow.holds Try.pinned (OpenSpec.ofChange natformTextsWrong)

/-- 'specielaw04.NatformParses': WHATEVER THE INPUT: true; the input reads as it did. -/
def natformParsesSpec : ChangeSpec := { name := "natformParses", fn := fun _ => fun
  | [d] => { results := [.lit (.bool true)], args := [d] }
  | _ => none }
def natformParsesRow : OpenClaim := { program := "ytohiimpjcgcaiaa", sum := "7bf42e538151b70f1e49fd7b531ad100d9493a2c56bca130ead701070d17dd19", func := "specie/specielaw04.NatformParses", spec := "natformParses", unfollowed := true, recurses := true, named := ["math/bits.overflowError"], apart := false }
def NatformParsesSaid : Prop := natformParsesRow.holds Try.pinned (OpenSpec.ofChange natformParsesSpec)

/-- ITS FALSE NEIGHBOUR: 'it returns false'. Refute it at one input. -/
def natformParsesWrong : ChangeSpec := { name := "natformParses", fn := fun _ => fun
  | [d] => { results := [.lit (.bool false)], args := [d] }
  | _ => none }
def NatformParsesWrongFalsely : Prop := natformParsesRow.holds Try.pinned (OpenSpec.ofChange natformParsesWrong)

/-- 'specielaw04.NatformBytes': WHATEVER THE INPUT: true; the input reads as it did. -/
def natformBytesSpec : ChangeSpec := { name := "natformBytes", fn := fun _ => fun
  | [d1, d2, d3] => { results := [.lit (.bool true)], args := [d1, d2, d3] }
  | _ => none }
def natformBytesRow : OpenClaim := { program := "ytohiimpjcgcaiaa", sum := "7bf42e538151b70f1e49fd7b531ad100d9493a2c56bca130ead701070d17dd19", func := "specie/specielaw04.NatformBytes", spec := "natformBytes", unfollowed := true, recurses := true, named := ["math/bits.overflowError"], apart := false }
def NatformBytesSaid : Prop := natformBytesRow.holds Try.pinned (OpenSpec.ofChange natformBytesSpec)

/-- ITS FALSE NEIGHBOUR: 'it returns false'. Refute it at one input. -/
def natformBytesWrong : ChangeSpec := { name := "natformBytes", fn := fun _ => fun
  | [d1, d2, d3] => { results := [.lit (.bool false)], args := [d1, d2, d3] }
  | _ => none }
def NatformBytesWrongFalsely : Prop := natformBytesRow.holds Try.pinned (OpenSpec.ofChange natformBytesWrong)

/-- 'specielaw04.NatformBack': WHATEVER THE INPUT: true; the input reads as it did. -/
def natformBackSpec : ChangeSpec := { name := "natformBack", fn := fun _ => fun
  | [d1, d2] => { results := [.lit (.bool true)], args := [d1, d2] }
  | _ => none }
def natformBackRow : OpenClaim := { program := "ytohiimpjcgcaiaa", sum := "7bf42e538151b70f1e49fd7b531ad100d9493a2c56bca130ead701070d17dd19", func := "specie/specielaw04.NatformBack", spec := "natformBack", unfollowed := true, recurses := true, named := ["math/bits.overflowError"], apart := false }
def NatformBackSaid : Prop := natformBackRow.holds Try.pinned (OpenSpec.ofChange natformBackSpec)

/-- ITS FALSE NEIGHBOUR: 'it returns false'. Refute it at one input. -/
def natformBackWrong : ChangeSpec := { name := "natformBack", fn := fun _ => fun
  | [d1, d2] => { results := [.lit (.bool false)], args := [d1, d2] }
  | _ => none }
def NatformBackWrongFalsely : Prop := natformBackRow.holds Try.pinned (OpenSpec.ofChange natformBackWrong)

/-- 'specielaw04.NatformCanonical': WHATEVER THE INPUT: true; the input reads as it did. -/
def natformCanonicalSpec : ChangeSpec := { name := "natformCanonical", fn := fun _ => fun
  | [d1, d2] => { results := [.lit (.bool true)], args := [d1, d2] }
  | _ => none }
def natformCanonicalRow : OpenClaim := { program := "ytohiimpjcgcaiaa", sum := "7bf42e538151b70f1e49fd7b531ad100d9493a2c56bca130ead701070d17dd19", func := "specie/specielaw04.NatformCanonical", spec := "natformCanonical", unfollowed := true, recurses := true, named := ["math/bits.overflowError"], apart := false }
def NatformCanonicalSaid : Prop := natformCanonicalRow.holds Try.pinned (OpenSpec.ofChange natformCanonicalSpec)

/-- ITS FALSE NEIGHBOUR: 'it returns false'. Refute it at one input. -/
def natformCanonicalWrong : ChangeSpec := { name := "natformCanonical", fn := fun _ => fun
  | [d1, d2] => { results := [.lit (.bool false)], args := [d1, d2] }
  | _ => none }
def NatformCanonicalWrongFalsely : Prop := natformCanonicalRow.holds Try.pinned (OpenSpec.ofChange natformCanonicalWrong)

/-- 'specielaw04.NatformDigits': WHATEVER THE INPUT: true; the input reads as it did. -/
def natformDigitsSpec : ChangeSpec := { name := "natformDigits", fn := fun _ => fun
  | [d] => { results := [.lit (.bool true)], args := [d] }
  | _ => none }
def natformDigitsRow : OpenClaim := { program := "ytohiimpjcgcaiaa", sum := "7bf42e538151b70f1e49fd7b531ad100d9493a2c56bca130ead701070d17dd19", func := "specie/specielaw04.NatformDigits", spec := "natformDigits", unfollowed := true, recurses := true, named := ["math/bits.overflowError"], apart := false }
def NatformDigitsSaid : Prop := natformDigitsRow.holds Try.pinned (OpenSpec.ofChange natformDigitsSpec)

/-- ITS FALSE NEIGHBOUR: 'it returns false'. Refute it at one input. -/
def natformDigitsWrong : ChangeSpec := { name := "natformDigits", fn := fun _ => fun
  | [d] => { results := [.lit (.bool false)], args := [d] }
  | _ => none }
def NatformDigitsWrongFalsely : Prop := natformDigitsRow.holds Try.pinned (OpenSpec.ofChange natformDigitsWrong)

/- THE SECOND FORM. 'bulk': how many values and letters a reading holds, each counted each time it is reached (what is shared counts as often as it is met; a slice's spare places count too). A statement '..UptoSaid' is the law's where the arguments, and the package variables that the reading takes, are together of bulk at most 1048576: NARROWER than '..Said'. Prove '..Said' where nothing that the law and all that it calls make is longer than what came in: it says more and counts as full. Else prove '..UptoSaid'. A law counts once. -/
mutual
def uptoBulk {H : Type} : DataW H → Nat
  | .lit (.string bytes) => bytes.length + 1
  | .lit _ => 1
  | .nil => 1
  | .ptr d => uptoBulk d + 1
  | .slice elems spare => uptoBulkAll elems + uptoBulkAll spare + 1
  | .agg parts => uptoBulkAll parts + 1
  | .iface _ d => uptoBulk d + 1
  | .map entries => uptoBulkEntries entries + 1
  | .held _ => 1
def uptoBulkAll {H : Type} : List (DataW H) → Nat
  | [] => 0
  | d :: r => uptoBulk d + uptoBulkAll r
def uptoBulkEntries {H : Type} : List (Lit × DataW H) → Nat
  | [] => 0
  | x :: r => uptoBulkEntry x + uptoBulkEntries r
def uptoBulkEntry {H : Type} : Lit × DataW H → Nat
  | (.string bytes, d) => bytes.length + uptoBulk d + 1
  | (_, d) => uptoBulk d + 1
 end
def uptoSmall : (H : Type) → List (DataW H) → Bool := fun _ ds => decide (uptoBulkAll ds ≤ 1048576)
def OpenSpec.upto (s : _root_.Go.ChangeSpec) : _root_.Go.OpenSpec := { _root_.Go.OpenSpec.ofChange s with cond := some uptoSmall }

/-- 'specielaw04.NatformTexts', WHERE WHAT IT READS IS OF BULK AT MOST 1048576: true; the input reads as it did. -/
def natformTextsUptoRow : OpenClaim := { program := "ytohiimpjcgcaiaa", sum := "7bf42e538151b70f1e49fd7b531ad100d9493a2c56bca130ead701070d17dd19", func := "specie/specielaw04.NatformTexts", spec := "natformTexts", unfollowed := true, recurses := true, named := ["math/bits.overflowError"], apart := false, narrowed := true }
def NatformTextsUptoSaid : Prop := natformTextsUptoRow.holds Try.pinned (OpenSpec.upto natformTextsSpec)

/-- 'specielaw04.NatformParses', WHERE WHAT IT READS IS OF BULK AT MOST 1048576: true; the input reads as it did. -/
def natformParsesUptoRow : OpenClaim := { program := "ytohiimpjcgcaiaa", sum := "7bf42e538151b70f1e49fd7b531ad100d9493a2c56bca130ead701070d17dd19", func := "specie/specielaw04.NatformParses", spec := "natformParses", unfollowed := true, recurses := true, named := ["math/bits.overflowError"], apart := false, narrowed := true }
def NatformParsesUptoSaid : Prop := natformParsesUptoRow.holds Try.pinned (OpenSpec.upto natformParsesSpec)

/-- 'specielaw04.NatformBytes', WHERE WHAT IT READS IS OF BULK AT MOST 1048576: true; the input reads as it did. -/
def natformBytesUptoRow : OpenClaim := { program := "ytohiimpjcgcaiaa", sum := "7bf42e538151b70f1e49fd7b531ad100d9493a2c56bca130ead701070d17dd19", func := "specie/specielaw04.NatformBytes", spec := "natformBytes", unfollowed := true, recurses := true, named := ["math/bits.overflowError"], apart := false, narrowed := true }
def NatformBytesUptoSaid : Prop := natformBytesUptoRow.holds Try.pinned (OpenSpec.upto natformBytesSpec)

/-- 'specielaw04.NatformBack', WHERE WHAT IT READS IS OF BULK AT MOST 1048576: true; the input reads as it did. -/
def natformBackUptoRow : OpenClaim := { program := "ytohiimpjcgcaiaa", sum := "7bf42e538151b70f1e49fd7b531ad100d9493a2c56bca130ead701070d17dd19", func := "specie/specielaw04.NatformBack", spec := "natformBack", unfollowed := true, recurses := true, named := ["math/bits.overflowError"], apart := false, narrowed := true }
def NatformBackUptoSaid : Prop := natformBackUptoRow.holds Try.pinned (OpenSpec.upto natformBackSpec)

/-- 'specielaw04.NatformCanonical', WHERE WHAT IT READS IS OF BULK AT MOST 1048576: true; the input reads as it did. -/
def natformCanonicalUptoRow : OpenClaim := { program := "ytohiimpjcgcaiaa", sum := "7bf42e538151b70f1e49fd7b531ad100d9493a2c56bca130ead701070d17dd19", func := "specie/specielaw04.NatformCanonical", spec := "natformCanonical", unfollowed := true, recurses := true, named := ["math/bits.overflowError"], apart := false, narrowed := true }
def NatformCanonicalUptoSaid : Prop := natformCanonicalUptoRow.holds Try.pinned (OpenSpec.upto natformCanonicalSpec)

/-- 'specielaw04.NatformDigits', WHERE WHAT IT READS IS OF BULK AT MOST 1048576: true; the input reads as it did. -/
def natformDigitsUptoRow : OpenClaim := { program := "ytohiimpjcgcaiaa", sum := "7bf42e538151b70f1e49fd7b531ad100d9493a2c56bca130ead701070d17dd19", func := "specie/specielaw04.NatformDigits", spec := "natformDigits", unfollowed := true, recurses := true, named := ["math/bits.overflowError"], apart := false, narrowed := true }
def NatformDigitsUptoSaid : Prop := natformDigitsUptoRow.holds Try.pinned (OpenSpec.upto natformDigitsSpec)

end Rows
end Go.Proofs.Ytohiimpjcgcaiaa
