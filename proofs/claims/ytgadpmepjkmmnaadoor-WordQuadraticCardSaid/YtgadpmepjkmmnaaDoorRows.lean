/-
  NARROWER THAN 'FOR EVERY INPUT', by the rows' own cells (each row's printed sentence says how): WordSums: laid · WordPowers: laid · WordReduces: laid · WordInverses: laid · WordSolves: laid · WordSymbols: laid · WordRing: laid · WordExponents: laid · WordSolutions: laid · WordQuadratic: laid.
  DERIVED. THE GIVEN ROWS OF THIS SEAT. 10 by the template 'for every input the law returns true; each argument reads behind the call as it read before'; 0 by the template 'total and deterministic' (their statements: YtgadpmepjkmmnaaDoorTotals.lean).
  GIVEN WITH THE SEED: the statements are not yours to turn. If you find one false, say at which input.
  Laid BY PROGRAM, IN A SANDBOX (cutbox-rows.mjs): the forced cells as the released guide's own fill.sh prints them over the translation dcfb4883ac9b1b7b… (all of the seat's roots in one cut). By AI agents, Wed Nov 11 2026. No macro, syntax, notation, axiom, sorry.
-/
import Derived.Test.YtgadpmepjkmmnaaDoorChecked
import GoSem.Claim
import GoSem.ClaimJoined
import GoSem.ClaimMapViews
import Derived.JoinedTies
import Derived.KernelRfl
namespace Go.Proofs.YtgadpmepjkmmnaaDoor
/- THE CELL 'sum', in the pinned program and in every row, IS THE sha256 OF THE DUMP (.gsa) THAT YtgadpmepjkmmnaaDoorProg.lean LOADS. Nothing in Lean hashes anything: it is a label: what it is worth is what the hold of that sum in a sandbox is worth. -/
noncomputable def Tryd.pinned : Pinned := { name := "ytgadpmepjkmmnaadoor", sum := "dcfb4883ac9b1b7bbc4ab4e8f89e8431e3b00c70804418f6ca8dc29078e2c55b", checked := Tryd.checked }
namespace Rows
def none {H : Type} : Left H := { results := [], args := [] }

/- WHAT THE LISTED PACKAGE-LEVEL VARIABLES READ AS WHEN THE CALL BEGINS. Each datum BY PROGRAM (the guide's laid-datum.mjs) off the statement by which the dump's own 'gosem.cut.vars' lays the variable. In a bare row this is a premise. The card (YtgadpmepjkmmnaaDoorCards.lean) ties it to the program's text. -/
def laid_math_bits_deBruijn64tab {H : Type} : DataW H := .agg [.lit (.int .u8 0), .lit (.int .u8 1), .lit (.int .u8 56), .lit (.int .u8 2), .lit (.int .u8 57), .lit (.int .u8 49), .lit (.int .u8 28), .lit (.int .u8 3), .lit (.int .u8 61), .lit (.int .u8 58), .lit (.int .u8 42), .lit (.int .u8 50), .lit (.int .u8 38), .lit (.int .u8 29), .lit (.int .u8 17), .lit (.int .u8 4), .lit (.int .u8 62), .lit (.int .u8 47), .lit (.int .u8 59), .lit (.int .u8 36), .lit (.int .u8 45), .lit (.int .u8 43), .lit (.int .u8 51), .lit (.int .u8 22), .lit (.int .u8 53), .lit (.int .u8 39), .lit (.int .u8 33), .lit (.int .u8 30), .lit (.int .u8 24), .lit (.int .u8 18), .lit (.int .u8 12), .lit (.int .u8 5), .lit (.int .u8 63), .lit (.int .u8 55), .lit (.int .u8 48), .lit (.int .u8 27), .lit (.int .u8 60), .lit (.int .u8 41), .lit (.int .u8 37), .lit (.int .u8 16), .lit (.int .u8 46), .lit (.int .u8 35), .lit (.int .u8 44), .lit (.int .u8 21), .lit (.int .u8 52), .lit (.int .u8 32), .lit (.int .u8 23), .lit (.int .u8 11), .lit (.int .u8 54), .lit (.int .u8 26), .lit (.int .u8 40), .lit (.int .u8 15), .lit (.int .u8 34), .lit (.int .u8 20), .lit (.int .u8 31), .lit (.int .u8 10), .lit (.int .u8 25), .lit (.int .u8 14), .lit (.int .u8 19), .lit (.int .u8 9), .lit (.int .u8 13), .lit (.int .u8 8), .lit (.int .u8 7), .lit (.int .u8 6)]

/-- 'specielaw01.WordSums': WHATEVER THE INPUT: true; the input reads as it did. -/
def wordSumsSpec : ChangeSpec := { name := "wordSums", fn := fun _ => fun
  | [d1, d2, d3] => { results := [.lit (.bool true)], args := [d1, d2, d3] }
  | _ => none }
def wordSumsRow : OpenClaim := { program := "ytgadpmepjkmmnaadoor", sum := "dcfb4883ac9b1b7bbc4ab4e8f89e8431e3b00c70804418f6ca8dc29078e2c55b", func := "specie/specielaw01.WordSums", spec := "wordSums", named := ["math/bits.divideError", "math/bits.overflowError", "math/bits.deBruijn64tab"], apart := false, laid := [("math/bits.deBruijn64tab", laid_math_bits_deBruijn64tab)] }
def WordSumsSaid : Prop := wordSumsRow.holds Tryd.pinned (OpenSpec.ofChange wordSumsSpec)

/-- ITS FALSE NEIGHBOUR: 'it returns false'. Refute it at one input. -/
def wordSumsWrong : ChangeSpec := { name := "wordSums", fn := fun _ => fun
  | [d1, d2, d3] => { results := [.lit (.bool false)], args := [d1, d2, d3] }
  | _ => none }
def WordSumsWrongFalsely : Prop := wordSumsRow.holds Tryd.pinned (OpenSpec.ofChange wordSumsWrong)

/-- 'specielaw01.WordPowers': WHATEVER THE INPUT: true; the input reads as it did. -/
def wordPowersSpec : ChangeSpec := { name := "wordPowers", fn := fun _ => fun
  | [d1, d2, d3] => { results := [.lit (.bool true)], args := [d1, d2, d3] }
  | _ => none }
def wordPowersRow : OpenClaim := { program := "ytgadpmepjkmmnaadoor", sum := "dcfb4883ac9b1b7bbc4ab4e8f89e8431e3b00c70804418f6ca8dc29078e2c55b", func := "specie/specielaw01.WordPowers", spec := "wordPowers", named := ["math/bits.divideError", "math/bits.overflowError", "math/bits.deBruijn64tab"], apart := false, laid := [("math/bits.deBruijn64tab", laid_math_bits_deBruijn64tab)] }
def WordPowersSaid : Prop := wordPowersRow.holds Tryd.pinned (OpenSpec.ofChange wordPowersSpec)

/-- ITS FALSE NEIGHBOUR: 'it returns false'. Refute it at one input. -/
def wordPowersWrong : ChangeSpec := { name := "wordPowers", fn := fun _ => fun
  | [d1, d2, d3] => { results := [.lit (.bool false)], args := [d1, d2, d3] }
  | _ => none }
def WordPowersWrongFalsely : Prop := wordPowersRow.holds Tryd.pinned (OpenSpec.ofChange wordPowersWrong)

/-- 'specielaw01.WordReduces': WHATEVER THE INPUT: true; the input reads as it did. -/
def wordReducesSpec : ChangeSpec := { name := "wordReduces", fn := fun _ => fun
  | [d1, d2] => { results := [.lit (.bool true)], args := [d1, d2] }
  | _ => none }
def wordReducesRow : OpenClaim := { program := "ytgadpmepjkmmnaadoor", sum := "dcfb4883ac9b1b7bbc4ab4e8f89e8431e3b00c70804418f6ca8dc29078e2c55b", func := "specie/specielaw01.WordReduces", spec := "wordReduces", named := ["math/bits.divideError", "math/bits.overflowError", "math/bits.deBruijn64tab"], apart := false, laid := [("math/bits.deBruijn64tab", laid_math_bits_deBruijn64tab)] }
def WordReducesSaid : Prop := wordReducesRow.holds Tryd.pinned (OpenSpec.ofChange wordReducesSpec)

/-- ITS FALSE NEIGHBOUR: 'it returns false'. Refute it at one input. -/
def wordReducesWrong : ChangeSpec := { name := "wordReduces", fn := fun _ => fun
  | [d1, d2] => { results := [.lit (.bool false)], args := [d1, d2] }
  | _ => none }
def WordReducesWrongFalsely : Prop := wordReducesRow.holds Tryd.pinned (OpenSpec.ofChange wordReducesWrong)

/-- 'specielaw01.WordInverses': WHATEVER THE INPUT: true; the input reads as it did. -/
def wordInversesSpec : ChangeSpec := { name := "wordInverses", fn := fun _ => fun
  | [d1, d2] => { results := [.lit (.bool true)], args := [d1, d2] }
  | _ => none }
def wordInversesRow : OpenClaim := { program := "ytgadpmepjkmmnaadoor", sum := "dcfb4883ac9b1b7bbc4ab4e8f89e8431e3b00c70804418f6ca8dc29078e2c55b", func := "specie/specielaw01.WordInverses", spec := "wordInverses", named := ["math/bits.divideError", "math/bits.overflowError", "math/bits.deBruijn64tab"], apart := false, laid := [("math/bits.deBruijn64tab", laid_math_bits_deBruijn64tab)] }
def WordInversesSaid : Prop := wordInversesRow.holds Tryd.pinned (OpenSpec.ofChange wordInversesSpec)

/-- ITS FALSE NEIGHBOUR: 'it returns false'. Refute it at one input. -/
def wordInversesWrong : ChangeSpec := { name := "wordInverses", fn := fun _ => fun
  | [d1, d2] => { results := [.lit (.bool false)], args := [d1, d2] }
  | _ => none }
def WordInversesWrongFalsely : Prop := wordInversesRow.holds Tryd.pinned (OpenSpec.ofChange wordInversesWrong)

/-- 'specielaw01.WordSolves': WHATEVER THE INPUT: true; the input reads as it did. -/
def wordSolvesSpec : ChangeSpec := { name := "wordSolves", fn := fun _ => fun
  | [d1, d2, d3] => { results := [.lit (.bool true)], args := [d1, d2, d3] }
  | _ => none }
def wordSolvesRow : OpenClaim := { program := "ytgadpmepjkmmnaadoor", sum := "dcfb4883ac9b1b7bbc4ab4e8f89e8431e3b00c70804418f6ca8dc29078e2c55b", func := "specie/specielaw01.WordSolves", spec := "wordSolves", named := ["math/bits.divideError", "math/bits.overflowError", "math/bits.deBruijn64tab"], apart := false, laid := [("math/bits.deBruijn64tab", laid_math_bits_deBruijn64tab)] }
def WordSolvesSaid : Prop := wordSolvesRow.holds Tryd.pinned (OpenSpec.ofChange wordSolvesSpec)

/-- ITS FALSE NEIGHBOUR: 'it returns false'. Refute it at one input. -/
def wordSolvesWrong : ChangeSpec := { name := "wordSolves", fn := fun _ => fun
  | [d1, d2, d3] => { results := [.lit (.bool false)], args := [d1, d2, d3] }
  | _ => none }
def WordSolvesWrongFalsely : Prop := wordSolvesRow.holds Tryd.pinned (OpenSpec.ofChange wordSolvesWrong)

/-- 'specielaw01.WordSymbols': WHATEVER THE INPUT: true; the input reads as it did. -/
def wordSymbolsSpec : ChangeSpec := { name := "wordSymbols", fn := fun _ => fun
  | [d1, d2] => { results := [.lit (.bool true)], args := [d1, d2] }
  | _ => none }
def wordSymbolsRow : OpenClaim := { program := "ytgadpmepjkmmnaadoor", sum := "dcfb4883ac9b1b7bbc4ab4e8f89e8431e3b00c70804418f6ca8dc29078e2c55b", func := "specie/specielaw01.WordSymbols", spec := "wordSymbols", named := ["math/bits.divideError", "math/bits.overflowError", "math/bits.deBruijn64tab"], apart := false, laid := [("math/bits.deBruijn64tab", laid_math_bits_deBruijn64tab)] }
def WordSymbolsSaid : Prop := wordSymbolsRow.holds Tryd.pinned (OpenSpec.ofChange wordSymbolsSpec)

/-- ITS FALSE NEIGHBOUR: 'it returns false'. Refute it at one input. -/
def wordSymbolsWrong : ChangeSpec := { name := "wordSymbols", fn := fun _ => fun
  | [d1, d2] => { results := [.lit (.bool false)], args := [d1, d2] }
  | _ => none }
def WordSymbolsWrongFalsely : Prop := wordSymbolsRow.holds Tryd.pinned (OpenSpec.ofChange wordSymbolsWrong)

/-- 'specielaw01.WordRing': WHATEVER THE INPUT: true; the input reads as it did. -/
def wordRingSpec : ChangeSpec := { name := "wordRing", fn := fun _ => fun
  | [d1, d2, d3, d4] => { results := [.lit (.bool true)], args := [d1, d2, d3, d4] }
  | _ => none }
def wordRingRow : OpenClaim := { program := "ytgadpmepjkmmnaadoor", sum := "dcfb4883ac9b1b7bbc4ab4e8f89e8431e3b00c70804418f6ca8dc29078e2c55b", func := "specie/specielaw01.WordRing", spec := "wordRing", named := ["math/bits.divideError", "math/bits.overflowError", "math/bits.deBruijn64tab"], apart := false, laid := [("math/bits.deBruijn64tab", laid_math_bits_deBruijn64tab)] }
def WordRingSaid : Prop := wordRingRow.holds Tryd.pinned (OpenSpec.ofChange wordRingSpec)

/-- ITS FALSE NEIGHBOUR: 'it returns false'. Refute it at one input. -/
def wordRingWrong : ChangeSpec := { name := "wordRing", fn := fun _ => fun
  | [d1, d2, d3, d4] => { results := [.lit (.bool false)], args := [d1, d2, d3, d4] }
  | _ => none }
def WordRingWrongFalsely : Prop := wordRingRow.holds Tryd.pinned (OpenSpec.ofChange wordRingWrong)

/-- 'specielaw01.WordExponents': WHATEVER THE INPUT: true; the input reads as it did. -/
def wordExponentsSpec : ChangeSpec := { name := "wordExponents", fn := fun _ => fun
  | [d1, d2, d3, d4, d5] => { results := [.lit (.bool true)], args := [d1, d2, d3, d4, d5] }
  | _ => none }
def wordExponentsRow : OpenClaim := { program := "ytgadpmepjkmmnaadoor", sum := "dcfb4883ac9b1b7bbc4ab4e8f89e8431e3b00c70804418f6ca8dc29078e2c55b", func := "specie/specielaw01.WordExponents", spec := "wordExponents", named := ["math/bits.divideError", "math/bits.overflowError", "math/bits.deBruijn64tab"], apart := false, laid := [("math/bits.deBruijn64tab", laid_math_bits_deBruijn64tab)] }
def WordExponentsSaid : Prop := wordExponentsRow.holds Tryd.pinned (OpenSpec.ofChange wordExponentsSpec)

/-- ITS FALSE NEIGHBOUR: 'it returns false'. Refute it at one input. -/
def wordExponentsWrong : ChangeSpec := { name := "wordExponents", fn := fun _ => fun
  | [d1, d2, d3, d4, d5] => { results := [.lit (.bool false)], args := [d1, d2, d3, d4, d5] }
  | _ => none }
def WordExponentsWrongFalsely : Prop := wordExponentsRow.holds Tryd.pinned (OpenSpec.ofChange wordExponentsWrong)

/-- 'specielaw01.WordSolutions': WHATEVER THE INPUT: true; the input reads as it did. -/
def wordSolutionsSpec : ChangeSpec := { name := "wordSolutions", fn := fun _ => fun
  | [d1, d2, d3] => { results := [.lit (.bool true)], args := [d1, d2, d3] }
  | _ => none }
def wordSolutionsRow : OpenClaim := { program := "ytgadpmepjkmmnaadoor", sum := "dcfb4883ac9b1b7bbc4ab4e8f89e8431e3b00c70804418f6ca8dc29078e2c55b", func := "specie/specielaw01.WordSolutions", spec := "wordSolutions", named := ["math/bits.divideError", "math/bits.overflowError", "math/bits.deBruijn64tab"], apart := false, laid := [("math/bits.deBruijn64tab", laid_math_bits_deBruijn64tab)] }
def WordSolutionsSaid : Prop := wordSolutionsRow.holds Tryd.pinned (OpenSpec.ofChange wordSolutionsSpec)

/-- ITS FALSE NEIGHBOUR: 'it returns false'. Refute it at one input. -/
def wordSolutionsWrong : ChangeSpec := { name := "wordSolutions", fn := fun _ => fun
  | [d1, d2, d3] => { results := [.lit (.bool false)], args := [d1, d2, d3] }
  | _ => none }
def WordSolutionsWrongFalsely : Prop := wordSolutionsRow.holds Tryd.pinned (OpenSpec.ofChange wordSolutionsWrong)

/-- 'specielaw01.WordQuadratic': WHATEVER THE INPUT: true; the input reads as it did. -/
def wordQuadraticSpec : ChangeSpec := { name := "wordQuadratic", fn := fun _ => fun
  | [d1, d2, d3] => { results := [.lit (.bool true)], args := [d1, d2, d3] }
  | _ => none }
def wordQuadraticRow : OpenClaim := { program := "ytgadpmepjkmmnaadoor", sum := "dcfb4883ac9b1b7bbc4ab4e8f89e8431e3b00c70804418f6ca8dc29078e2c55b", func := "specie/specielaw01.WordQuadratic", spec := "wordQuadratic", named := ["math/bits.divideError", "math/bits.overflowError", "math/bits.deBruijn64tab"], apart := false, laid := [("math/bits.deBruijn64tab", laid_math_bits_deBruijn64tab)] }
def WordQuadraticSaid : Prop := wordQuadraticRow.holds Tryd.pinned (OpenSpec.ofChange wordQuadraticSpec)

/-- ITS FALSE NEIGHBOUR: 'it returns false'. Refute it at one input. -/
def wordQuadraticWrong : ChangeSpec := { name := "wordQuadratic", fn := fun _ => fun
  | [d1, d2, d3] => { results := [.lit (.bool false)], args := [d1, d2, d3] }
  | _ => none }
def WordQuadraticWrongFalsely : Prop := wordQuadraticRow.holds Tryd.pinned (OpenSpec.ofChange wordQuadraticWrong)

/- THE SECOND FORM. 'bulk': how many values and letters a reading holds, each counted each time it is reached (what is shared counts as often as it is met; a slice's spare places count too). A statement '..UptoSaid' is the law's where the arguments, and the package variables that the reading takes, are together of bulk at most 1048576: NARROWER than '..Said'. Prove '..Said' where nothing that the law and all that it calls make is longer than what came in: it says more and counts as full. Else prove '..UptoSaid'. A law counts once. -/
mutual
def uptoBulk {H : Type} : DataW H → Nat
  | .lit (.string bytes) => bytes.length + 1
  | .lit _ => 1
  | .nil => 1
  | .ptr d => uptoBulk d + 1
  | .slice elems spare => uptoBulkAll elems + uptoBulkAll spare + 1
  | .agg parts => uptoBulkAll parts + 1
  | .iface _ d => uptoBulk d + 1
  | .map entries => uptoBulkEntries entries + 1
  | .held _ => 1
def uptoBulkAll {H : Type} : List (DataW H) → Nat
  | [] => 0
  | d :: r => uptoBulk d + uptoBulkAll r
def uptoBulkEntries {H : Type} : List (Lit × DataW H) → Nat
  | [] => 0
  | x :: r => uptoBulkEntry x + uptoBulkEntries r
def uptoBulkEntry {H : Type} : Lit × DataW H → Nat
  | (.string bytes, d) => bytes.length + uptoBulk d + 1
  | (_, d) => uptoBulk d + 1
 end
def uptoSmall : (H : Type) → List (DataW H) → Bool := fun _ ds => decide (uptoBulkAll ds ≤ 1048576)
def OpenSpec.upto (s : _root_.Go.ChangeSpec) : _root_.Go.OpenSpec := { _root_.Go.OpenSpec.ofChange s with cond := some uptoSmall }

/-- 'specielaw01.WordSums', WHERE WHAT IT READS IS OF BULK AT MOST 1048576: true; the input reads as it did. -/
def wordSumsUptoRow : OpenClaim := { program := "ytgadpmepjkmmnaadoor", sum := "dcfb4883ac9b1b7bbc4ab4e8f89e8431e3b00c70804418f6ca8dc29078e2c55b", func := "specie/specielaw01.WordSums", spec := "wordSums", named := ["math/bits.divideError", "math/bits.overflowError", "math/bits.deBruijn64tab"], apart := false, laid := [("math/bits.deBruijn64tab", laid_math_bits_deBruijn64tab)], narrowed := true }
def WordSumsUptoSaid : Prop := wordSumsUptoRow.holds Tryd.pinned (OpenSpec.upto wordSumsSpec)

/-- 'specielaw01.WordPowers', WHERE WHAT IT READS IS OF BULK AT MOST 1048576: true; the input reads as it did. -/
def wordPowersUptoRow : OpenClaim := { program := "ytgadpmepjkmmnaadoor", sum := "dcfb4883ac9b1b7bbc4ab4e8f89e8431e3b00c70804418f6ca8dc29078e2c55b", func := "specie/specielaw01.WordPowers", spec := "wordPowers", named := ["math/bits.divideError", "math/bits.overflowError", "math/bits.deBruijn64tab"], apart := false, laid := [("math/bits.deBruijn64tab", laid_math_bits_deBruijn64tab)], narrowed := true }
def WordPowersUptoSaid : Prop := wordPowersUptoRow.holds Tryd.pinned (OpenSpec.upto wordPowersSpec)

/-- 'specielaw01.WordReduces', WHERE WHAT IT READS IS OF BULK AT MOST 1048576: true; the input reads as it did. -/
def wordReducesUptoRow : OpenClaim := { program := "ytgadpmepjkmmnaadoor", sum := "dcfb4883ac9b1b7bbc4ab4e8f89e8431e3b00c70804418f6ca8dc29078e2c55b", func := "specie/specielaw01.WordReduces", spec := "wordReduces", named := ["math/bits.divideError", "math/bits.overflowError", "math/bits.deBruijn64tab"], apart := false, laid := [("math/bits.deBruijn64tab", laid_math_bits_deBruijn64tab)], narrowed := true }
def WordReducesUptoSaid : Prop := wordReducesUptoRow.holds Tryd.pinned (OpenSpec.upto wordReducesSpec)

/-- 'specielaw01.WordInverses', WHERE WHAT IT READS IS OF BULK AT MOST 1048576: true; the input reads as it did. -/
def wordInversesUptoRow : OpenClaim := { program := "ytgadpmepjkmmnaadoor", sum := "dcfb4883ac9b1b7bbc4ab4e8f89e8431e3b00c70804418f6ca8dc29078e2c55b", func := "specie/specielaw01.WordInverses", spec := "wordInverses", named := ["math/bits.divideError", "math/bits.overflowError", "math/bits.deBruijn64tab"], apart := false, laid := [("math/bits.deBruijn64tab", laid_math_bits_deBruijn64tab)], narrowed := true }
def WordInversesUptoSaid : Prop := wordInversesUptoRow.holds Tryd.pinned (OpenSpec.upto wordInversesSpec)

/-- 'specielaw01.WordSolves', WHERE WHAT IT READS IS OF BULK AT MOST 1048576: true; the input reads as it did. -/
def wordSolvesUptoRow : OpenClaim := { program := "ytgadpmepjkmmnaadoor", sum := "dcfb4883ac9b1b7bbc4ab4e8f89e8431e3b00c70804418f6ca8dc29078e2c55b", func := "specie/specielaw01.WordSolves", spec := "wordSolves", named := ["math/bits.divideError", "math/bits.overflowError", "math/bits.deBruijn64tab"], apart := false, laid := [("math/bits.deBruijn64tab", laid_math_bits_deBruijn64tab)], narrowed := true }
def WordSolvesUptoSaid : Prop := wordSolvesUptoRow.holds Tryd.pinned (OpenSpec.upto wordSolvesSpec)

/-- 'specielaw01.WordSymbols', WHERE WHAT IT READS IS OF BULK AT MOST 1048576: true; the input reads as it did. -/
def wordSymbolsUptoRow : OpenClaim := { program := "ytgadpmepjkmmnaadoor", sum := "dcfb4883ac9b1b7bbc4ab4e8f89e8431e3b00c70804418f6ca8dc29078e2c55b", func := "specie/specielaw01.WordSymbols", spec := "wordSymbols", named := ["math/bits.divideError", "math/bits.overflowError", "math/bits.deBruijn64tab"], apart := false, laid := [("math/bits.deBruijn64tab", laid_math_bits_deBruijn64tab)], narrowed := true }
def WordSymbolsUptoSaid : Prop := wordSymbolsUptoRow.holds Tryd.pinned (OpenSpec.upto wordSymbolsSpec)

/-- 'specielaw01.WordRing', WHERE WHAT IT READS IS OF BULK AT MOST 1048576: true; the input reads as it did. -/
def wordRingUptoRow : OpenClaim := { program := "ytgadpmepjkmmnaadoor", sum := "dcfb4883ac9b1b7bbc4ab4e8f89e8431e3b00c70804418f6ca8dc29078e2c55b", func := "specie/specielaw01.WordRing", spec := "wordRing", named := ["math/bits.divideError", "math/bits.overflowError", "math/bits.deBruijn64tab"], apart := false, laid := [("math/bits.deBruijn64tab", laid_math_bits_deBruijn64tab)], narrowed := true }
def WordRingUptoSaid : Prop := wordRingUptoRow.holds Tryd.pinned (OpenSpec.upto wordRingSpec)

/-- 'specielaw01.WordExponents', WHERE WHAT IT READS IS OF BULK AT MOST 1048576: true; the input reads as it did. -/
def wordExponentsUptoRow : OpenClaim := { program := "ytgadpmepjkmmnaadoor", sum := "dcfb4883ac9b1b7bbc4ab4e8f89e8431e3b00c70804418f6ca8dc29078e2c55b", func := "specie/specielaw01.WordExponents", spec := "wordExponents", named := ["math/bits.divideError", "math/bits.overflowError", "math/bits.deBruijn64tab"], apart := false, laid := [("math/bits.deBruijn64tab", laid_math_bits_deBruijn64tab)], narrowed := true }
def WordExponentsUptoSaid : Prop := wordExponentsUptoRow.holds Tryd.pinned (OpenSpec.upto wordExponentsSpec)

/-- 'specielaw01.WordSolutions', WHERE WHAT IT READS IS OF BULK AT MOST 1048576: true; the input reads as it did. -/
def wordSolutionsUptoRow : OpenClaim := { program := "ytgadpmepjkmmnaadoor", sum := "dcfb4883ac9b1b7bbc4ab4e8f89e8431e3b00c70804418f6ca8dc29078e2c55b", func := "specie/specielaw01.WordSolutions", spec := "wordSolutions", named := ["math/bits.divideError", "math/bits.overflowError", "math/bits.deBruijn64tab"], apart := false, laid := [("math/bits.deBruijn64tab", laid_math_bits_deBruijn64tab)], narrowed := true }
def WordSolutionsUptoSaid : Prop := wordSolutionsUptoRow.holds Tryd.pinned (OpenSpec.upto wordSolutionsSpec)

/-- 'specielaw01.WordQuadratic', WHERE WHAT IT READS IS OF BULK AT MOST 1048576: true; the input reads as it did. -/
def wordQuadraticUptoRow : OpenClaim := { program := "ytgadpmepjkmmnaadoor", sum := "dcfb4883ac9b1b7bbc4ab4e8f89e8431e3b00c70804418f6ca8dc29078e2c55b", func := "specie/specielaw01.WordQuadratic", spec := "wordQuadratic", named := ["math/bits.divideError", "math/bits.overflowError", "math/bits.deBruijn64tab"], apart := false, laid := [("math/bits.deBruijn64tab", laid_math_bits_deBruijn64tab)], narrowed := true }
def WordQuadraticUptoSaid : Prop := wordQuadraticUptoRow.holds Tryd.pinned (OpenSpec.upto wordQuadraticSpec)

end Rows
end Go.Proofs.YtgadpmepjkmmnaaDoor
