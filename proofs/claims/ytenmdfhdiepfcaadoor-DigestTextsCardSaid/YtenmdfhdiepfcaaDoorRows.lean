/-
  NARROWER THAN 'FOR EVERY INPUT', by the rows' own cells (each row's printed sentence says how): DigestSums: laid · DigestTags: laid · DigestStreams: laid · DigestNumbers: laid · DigestTexts: laid · DigestCongruent: laid · DigestOrder: laid · DigestApart: laid.
  DERIVED. THE GIVEN ROWS OF THIS SEAT. 8 by the template 'for every input the law returns true; each argument reads behind the call as it read before'; 0 by the template 'total and deterministic' (their statements: YtenmdfhdiepfcaaDoorTotals.lean).
  GIVEN WITH THE SEED: the statements are not yours to turn. If you find one false, say at which input.
  Laid BY PROGRAM, IN A SANDBOX (cutbox-rows.mjs): the forced cells as the released guide's own fill.sh prints them over the translation 93b3e4ba9bf84420… (all of the seat's roots in one cut). By AI agents, Wed Nov 11 2026. No macro, syntax, notation, axiom, sorry.
-/
import Derived.Test.YtenmdfhdiepfcaaDoorChecked
import GoSem.Claim
import GoSem.ClaimJoined
import GoSem.ClaimMapViews
import Derived.JoinedTies
import Derived.KernelRfl
namespace Go.Proofs.YtenmdfhdiepfcaaDoor
/- THE CELL 'sum', in the pinned program and in every row, IS THE sha256 OF THE DUMP (.gsa) THAT YtenmdfhdiepfcaaDoorProg.lean LOADS. Nothing in Lean hashes anything: it is a label: what it is worth is what the hold of that sum in a sandbox is worth. -/
noncomputable def Tryd.pinned : Pinned := { name := "ytenmdfhdiepfcaadoor", sum := "93b3e4ba9bf84420bc32f5072d69fe7dad1e2783578a55633c555571229dd95e", checked := Tryd.checked }
namespace Rows
def none {H : Type} : Left H := { results := [], args := [] }

/- WHAT THE LISTED PACKAGE-LEVEL VARIABLES READ AS WHEN THE CALL BEGINS. Each datum BY PROGRAM (the guide's laid-datum.mjs) off the statement by which the dump's own 'gosem.cut.vars' lays the variable. In a bare row this is a premise. The card (YtenmdfhdiepfcaaDoorCards.lean) ties it to the program's text. -/
def laid_specie_digest_start {H : Type} : DataW H := .agg [.lit (.int .u32 1779033703), .lit (.int .u32 3144134277), .lit (.int .u32 1013904242), .lit (.int .u32 2773480762), .lit (.int .u32 1359893119), .lit (.int .u32 2600822924), .lit (.int .u32 528734635), .lit (.int .u32 1541459225)]
def laid_specie_digest_constants {H : Type} : DataW H := .agg [.lit (.int .u32 1116352408), .lit (.int .u32 1899447441), .lit (.int .u32 3049323471), .lit (.int .u32 3921009573), .lit (.int .u32 961987163), .lit (.int .u32 1508970993), .lit (.int .u32 2453635748), .lit (.int .u32 2870763221), .lit (.int .u32 3624381080), .lit (.int .u32 310598401), .lit (.int .u32 607225278), .lit (.int .u32 1426881987), .lit (.int .u32 1925078388), .lit (.int .u32 2162078206), .lit (.int .u32 2614888103), .lit (.int .u32 3248222580), .lit (.int .u32 3835390401), .lit (.int .u32 4022224774), .lit (.int .u32 264347078), .lit (.int .u32 604807628), .lit (.int .u32 770255983), .lit (.int .u32 1249150122), .lit (.int .u32 1555081692), .lit (.int .u32 1996064986), .lit (.int .u32 2554220882), .lit (.int .u32 2821834349), .lit (.int .u32 2952996808), .lit (.int .u32 3210313671), .lit (.int .u32 3336571891), .lit (.int .u32 3584528711), .lit (.int .u32 113926993), .lit (.int .u32 338241895), .lit (.int .u32 666307205), .lit (.int .u32 773529912), .lit (.int .u32 1294757372), .lit (.int .u32 1396182291), .lit (.int .u32 1695183700), .lit (.int .u32 1986661051), .lit (.int .u32 2177026350), .lit (.int .u32 2456956037), .lit (.int .u32 2730485921), .lit (.int .u32 2820302411), .lit (.int .u32 3259730800), .lit (.int .u32 3345764771), .lit (.int .u32 3516065817), .lit (.int .u32 3600352804), .lit (.int .u32 4094571909), .lit (.int .u32 275423344), .lit (.int .u32 430227734), .lit (.int .u32 506948616), .lit (.int .u32 659060556), .lit (.int .u32 883997877), .lit (.int .u32 958139571), .lit (.int .u32 1322822218), .lit (.int .u32 1537002063), .lit (.int .u32 1747873779), .lit (.int .u32 1955562222), .lit (.int .u32 2024104815), .lit (.int .u32 2227730452), .lit (.int .u32 2361852424), .lit (.int .u32 2428436474), .lit (.int .u32 2756734187), .lit (.int .u32 3204031479), .lit (.int .u32 3329325298)]

/-- 'specielaw06.DigestSums': WHATEVER THE INPUT: true; the input reads as it did. -/
def digestSumsSpec : ChangeSpec := { name := "digestSums", fn := fun _ => fun
  | [d] => { results := [.lit (.bool true)], args := [d] }
  | _ => none }
def digestSumsRow : OpenClaim := { program := "ytenmdfhdiepfcaadoor", sum := "93b3e4ba9bf84420bc32f5072d69fe7dad1e2783578a55633c555571229dd95e", func := "specie/specielaw06.DigestSums", spec := "digestSums", unfollowed := true, recurses := true, named := ["specie/digest.start", "specie/digest.constants"], apart := false, laid := [("specie/digest.start", laid_specie_digest_start), ("specie/digest.constants", laid_specie_digest_constants)] }
def DigestSumsSaid : Prop := digestSumsRow.holds Tryd.pinned (OpenSpec.ofChange digestSumsSpec)

/-- ITS FALSE NEIGHBOUR: 'it returns false'. Refute it at one input. -/
def digestSumsWrong : ChangeSpec := { name := "digestSums", fn := fun _ => fun
  | [d] => { results := [.lit (.bool false)], args := [d] }
  | _ => none }
def DigestSumsWrongFalsely : Prop := digestSumsRow.holds Tryd.pinned (OpenSpec.ofChange digestSumsWrong)

/-- 'specielaw06.DigestTags': WHATEVER THE INPUT: true; the input reads as it did. -/
def digestTagsSpec : ChangeSpec := { name := "digestTags", fn := fun _ => fun
  | [d1, d2] => { results := [.lit (.bool true)], args := [d1, d2] }
  | _ => none }
def digestTagsRow : OpenClaim := { program := "ytenmdfhdiepfcaadoor", sum := "93b3e4ba9bf84420bc32f5072d69fe7dad1e2783578a55633c555571229dd95e", func := "specie/specielaw06.DigestTags", spec := "digestTags", unfollowed := true, recurses := true, named := ["specie/digest.start", "specie/digest.constants"], apart := false, laid := [("specie/digest.start", laid_specie_digest_start), ("specie/digest.constants", laid_specie_digest_constants)] }
def DigestTagsSaid : Prop := digestTagsRow.holds Tryd.pinned (OpenSpec.ofChange digestTagsSpec)

/-- ITS FALSE NEIGHBOUR: 'it returns false'. Refute it at one input. -/
def digestTagsWrong : ChangeSpec := { name := "digestTags", fn := fun _ => fun
  | [d1, d2] => { results := [.lit (.bool false)], args := [d1, d2] }
  | _ => none }
def DigestTagsWrongFalsely : Prop := digestTagsRow.holds Tryd.pinned (OpenSpec.ofChange digestTagsWrong)

/-- 'specielaw06.DigestStreams': WHATEVER THE INPUT: true; the input reads as it did. -/
def digestStreamsSpec : ChangeSpec := { name := "digestStreams", fn := fun _ => fun
  | [d1, d2, d3] => { results := [.lit (.bool true)], args := [d1, d2, d3] }
  | _ => none }
def digestStreamsRow : OpenClaim := { program := "ytenmdfhdiepfcaadoor", sum := "93b3e4ba9bf84420bc32f5072d69fe7dad1e2783578a55633c555571229dd95e", func := "specie/specielaw06.DigestStreams", spec := "digestStreams", unfollowed := true, recurses := true, named := ["specie/digest.start", "specie/digest.constants"], apart := false, laid := [("specie/digest.start", laid_specie_digest_start), ("specie/digest.constants", laid_specie_digest_constants)] }
def DigestStreamsSaid : Prop := digestStreamsRow.holds Tryd.pinned (OpenSpec.ofChange digestStreamsSpec)

/-- ITS FALSE NEIGHBOUR: 'it returns false'. Refute it at one input. -/
def digestStreamsWrong : ChangeSpec := { name := "digestStreams", fn := fun _ => fun
  | [d1, d2, d3] => { results := [.lit (.bool false)], args := [d1, d2, d3] }
  | _ => none }
def DigestStreamsWrongFalsely : Prop := digestStreamsRow.holds Tryd.pinned (OpenSpec.ofChange digestStreamsWrong)

/-- 'specielaw06.DigestNumbers': WHATEVER THE INPUT: true; the input reads as it did. -/
def digestNumbersSpec : ChangeSpec := { name := "digestNumbers", fn := fun _ => fun
  | [d1, d2] => { results := [.lit (.bool true)], args := [d1, d2] }
  | _ => none }
def digestNumbersRow : OpenClaim := { program := "ytenmdfhdiepfcaadoor", sum := "93b3e4ba9bf84420bc32f5072d69fe7dad1e2783578a55633c555571229dd95e", func := "specie/specielaw06.DigestNumbers", spec := "digestNumbers", unfollowed := true, recurses := true, named := ["specie/digest.start", "specie/digest.constants", "math/bits.divideError", "math/bits.overflowError"], apart := false, laid := [("specie/digest.start", laid_specie_digest_start), ("specie/digest.constants", laid_specie_digest_constants)] }
def DigestNumbersSaid : Prop := digestNumbersRow.holds Tryd.pinned (OpenSpec.ofChange digestNumbersSpec)

/-- ITS FALSE NEIGHBOUR: 'it returns false'. Refute it at one input. -/
def digestNumbersWrong : ChangeSpec := { name := "digestNumbers", fn := fun _ => fun
  | [d1, d2] => { results := [.lit (.bool false)], args := [d1, d2] }
  | _ => none }
def DigestNumbersWrongFalsely : Prop := digestNumbersRow.holds Tryd.pinned (OpenSpec.ofChange digestNumbersWrong)

/-- 'specielaw06.DigestTexts': WHATEVER THE INPUT: true; the input reads as it did. -/
def digestTextsSpec : ChangeSpec := { name := "digestTexts", fn := fun _ => fun
  | [d1, d2, d3] => { results := [.lit (.bool true)], args := [d1, d2, d3] }
  | _ => none }
def digestTextsRow : OpenClaim := { program := "ytenmdfhdiepfcaadoor", sum := "93b3e4ba9bf84420bc32f5072d69fe7dad1e2783578a55633c555571229dd95e", func := "specie/specielaw06.DigestTexts", spec := "digestTexts", inPlace := ["internal/bytealg.IndexByteString", "internal/bytealg.Compare"], unfollowed := true, recurses := true, named := ["specie/digest.start", "specie/digest.constants"], apart := false, laid := [("specie/digest.start", laid_specie_digest_start), ("specie/digest.constants", laid_specie_digest_constants)] }
def DigestTextsSaid : Prop := digestTextsRow.holds Tryd.pinned (OpenSpec.ofChange digestTextsSpec)

/-- ITS FALSE NEIGHBOUR: 'it returns false'. Refute it at one input. -/
def digestTextsWrong : ChangeSpec := { name := "digestTexts", fn := fun _ => fun
  | [d1, d2, d3] => { results := [.lit (.bool false)], args := [d1, d2, d3] }
  | _ => none }
def DigestTextsWrongFalsely : Prop := digestTextsRow.holds Tryd.pinned (OpenSpec.ofChange digestTextsWrong)

/-- 'specielaw06.DigestCongruent': WHATEVER THE INPUT: true; the input reads as it did. -/
def digestCongruentSpec : ChangeSpec := { name := "digestCongruent", fn := fun _ => fun
  | [d1, d2, d3, d4] => { results := [.lit (.bool true)], args := [d1, d2, d3, d4] }
  | _ => none }
def digestCongruentRow : OpenClaim := { program := "ytenmdfhdiepfcaadoor", sum := "93b3e4ba9bf84420bc32f5072d69fe7dad1e2783578a55633c555571229dd95e", func := "specie/specielaw06.DigestCongruent", spec := "digestCongruent", unfollowed := true, recurses := true, named := ["specie/digest.start", "specie/digest.constants", "math/bits.divideError", "math/bits.overflowError"], apart := false, laid := [("specie/digest.start", laid_specie_digest_start), ("specie/digest.constants", laid_specie_digest_constants)] }
def DigestCongruentSaid : Prop := digestCongruentRow.holds Tryd.pinned (OpenSpec.ofChange digestCongruentSpec)

/-- ITS FALSE NEIGHBOUR: 'it returns false'. Refute it at one input. -/
def digestCongruentWrong : ChangeSpec := { name := "digestCongruent", fn := fun _ => fun
  | [d1, d2, d3, d4] => { results := [.lit (.bool false)], args := [d1, d2, d3, d4] }
  | _ => none }
def DigestCongruentWrongFalsely : Prop := digestCongruentRow.holds Tryd.pinned (OpenSpec.ofChange digestCongruentWrong)

/-- 'specielaw06.DigestOrder': WHATEVER THE INPUT: true; the input reads as it did. -/
def digestOrderSpec : ChangeSpec := { name := "digestOrder", fn := fun _ => fun
  | [d1, d2, d3] => { results := [.lit (.bool true)], args := [d1, d2, d3] }
  | _ => none }
def digestOrderRow : OpenClaim := { program := "ytenmdfhdiepfcaadoor", sum := "93b3e4ba9bf84420bc32f5072d69fe7dad1e2783578a55633c555571229dd95e", func := "specie/specielaw06.DigestOrder", spec := "digestOrder", inPlace := ["internal/bytealg.Compare", "internal/bytealg.abigen_runtime_cmpstring"], unfollowed := true, recurses := true, named := ["specie/digest.start", "specie/digest.constants"], apart := false, laid := [("specie/digest.start", laid_specie_digest_start), ("specie/digest.constants", laid_specie_digest_constants)] }
def DigestOrderSaid : Prop := digestOrderRow.holds Tryd.pinned (OpenSpec.ofChange digestOrderSpec)

/-- ITS FALSE NEIGHBOUR: 'it returns false'. Refute it at one input. -/
def digestOrderWrong : ChangeSpec := { name := "digestOrder", fn := fun _ => fun
  | [d1, d2, d3] => { results := [.lit (.bool false)], args := [d1, d2, d3] }
  | _ => none }
def DigestOrderWrongFalsely : Prop := digestOrderRow.holds Tryd.pinned (OpenSpec.ofChange digestOrderWrong)

/-- 'specielaw06.DigestApart': WHATEVER THE INPUT: true; the input reads as it did. -/
def digestApartSpec : ChangeSpec := { name := "digestApart", fn := fun _ => fun
  | [d1, d2, d3, d4] => { results := [.lit (.bool true)], args := [d1, d2, d3, d4] }
  | _ => none }
def digestApartRow : OpenClaim := { program := "ytenmdfhdiepfcaadoor", sum := "93b3e4ba9bf84420bc32f5072d69fe7dad1e2783578a55633c555571229dd95e", func := "specie/specielaw06.DigestApart", spec := "digestApart", unfollowed := true, recurses := true, named := ["specie/digest.start", "specie/digest.constants"], apart := false, laid := [("specie/digest.start", laid_specie_digest_start), ("specie/digest.constants", laid_specie_digest_constants)] }
def DigestApartSaid : Prop := digestApartRow.holds Tryd.pinned (OpenSpec.ofChange digestApartSpec)

/-- ITS FALSE NEIGHBOUR: 'it returns false'. Refute it at one input. -/
def digestApartWrong : ChangeSpec := { name := "digestApart", fn := fun _ => fun
  | [d1, d2, d3, d4] => { results := [.lit (.bool false)], args := [d1, d2, d3, d4] }
  | _ => none }
def DigestApartWrongFalsely : Prop := digestApartRow.holds Tryd.pinned (OpenSpec.ofChange digestApartWrong)

/- THE SECOND FORM. 'bulk': how many values and letters a reading holds, each counted each time it is reached (what is shared counts as often as it is met; a slice's spare places count too). A statement '..UptoSaid' is the law's where the arguments, and the package variables that the reading takes, are together of bulk at most 1048576: NARROWER than '..Said'. Prove '..Said' where nothing that the law and all that it calls make is longer than what came in: it says more and counts as full. Else prove '..UptoSaid'. A law counts once. -/
mutual
def uptoBulk {H : Type} : DataW H → Nat
  | .lit (.string bytes) => bytes.length + 1
  | .lit _ => 1
  | .nil => 1
  | .ptr d => uptoBulk d + 1
  | .slice elems spare => uptoBulkAll elems + uptoBulkAll spare + 1
  | .agg parts => uptoBulkAll parts + 1
  | .iface _ d => uptoBulk d + 1
  | .map entries => uptoBulkEntries entries + 1
  | .held _ => 1
def uptoBulkAll {H : Type} : List (DataW H) → Nat
  | [] => 0
  | d :: r => uptoBulk d + uptoBulkAll r
def uptoBulkEntries {H : Type} : List (Lit × DataW H) → Nat
  | [] => 0
  | x :: r => uptoBulkEntry x + uptoBulkEntries r
def uptoBulkEntry {H : Type} : Lit × DataW H → Nat
  | (.string bytes, d) => bytes.length + uptoBulk d + 1
  | (_, d) => uptoBulk d + 1
 end
def uptoSmall : (H : Type) → List (DataW H) → Bool := fun _ ds => decide (uptoBulkAll ds ≤ 1048576)
def OpenSpec.upto (s : _root_.Go.ChangeSpec) : _root_.Go.OpenSpec := { _root_.Go.OpenSpec.ofChange s with cond := some uptoSmall }

/-- 'specielaw06.DigestSums', WHERE WHAT IT READS IS OF BULK AT MOST 1048576: true; the input reads as it did. -/
def digestSumsUptoRow : OpenClaim := { program := "ytenmdfhdiepfcaadoor", sum := "93b3e4ba9bf84420bc32f5072d69fe7dad1e2783578a55633c555571229dd95e", func := "specie/specielaw06.DigestSums", spec := "digestSums", unfollowed := true, recurses := true, named := ["specie/digest.start", "specie/digest.constants"], apart := false, laid := [("specie/digest.start", laid_specie_digest_start), ("specie/digest.constants", laid_specie_digest_constants)], narrowed := true }
def DigestSumsUptoSaid : Prop := digestSumsUptoRow.holds Tryd.pinned (OpenSpec.upto digestSumsSpec)

/-- 'specielaw06.DigestTags', WHERE WHAT IT READS IS OF BULK AT MOST 1048576: true; the input reads as it did. -/
def digestTagsUptoRow : OpenClaim := { program := "ytenmdfhdiepfcaadoor", sum := "93b3e4ba9bf84420bc32f5072d69fe7dad1e2783578a55633c555571229dd95e", func := "specie/specielaw06.DigestTags", spec := "digestTags", unfollowed := true, recurses := true, named := ["specie/digest.start", "specie/digest.constants"], apart := false, laid := [("specie/digest.start", laid_specie_digest_start), ("specie/digest.constants", laid_specie_digest_constants)], narrowed := true }
def DigestTagsUptoSaid : Prop := digestTagsUptoRow.holds Tryd.pinned (OpenSpec.upto digestTagsSpec)

/-- 'specielaw06.DigestStreams', WHERE WHAT IT READS IS OF BULK AT MOST 1048576: true; the input reads as it did. -/
def digestStreamsUptoRow : OpenClaim := { program := "ytenmdfhdiepfcaadoor", sum := "93b3e4ba9bf84420bc32f5072d69fe7dad1e2783578a55633c555571229dd95e", func := "specie/specielaw06.DigestStreams", spec := "digestStreams", unfollowed := true, recurses := true, named := ["specie/digest.start", "specie/digest.constants"], apart := false, laid := [("specie/digest.start", laid_specie_digest_start), ("specie/digest.constants", laid_specie_digest_constants)], narrowed := true }
def DigestStreamsUptoSaid : Prop := digestStreamsUptoRow.holds Tryd.pinned (OpenSpec.upto digestStreamsSpec)

/-- 'specielaw06.DigestNumbers', WHERE WHAT IT READS IS OF BULK AT MOST 1048576: true; the input reads as it did. -/
def digestNumbersUptoRow : OpenClaim := { program := "ytenmdfhdiepfcaadoor", sum := "93b3e4ba9bf84420bc32f5072d69fe7dad1e2783578a55633c555571229dd95e", func := "specie/specielaw06.DigestNumbers", spec := "digestNumbers", unfollowed := true, recurses := true, named := ["specie/digest.start", "specie/digest.constants", "math/bits.divideError", "math/bits.overflowError"], apart := false, laid := [("specie/digest.start", laid_specie_digest_start), ("specie/digest.constants", laid_specie_digest_constants)], narrowed := true }
def DigestNumbersUptoSaid : Prop := digestNumbersUptoRow.holds Tryd.pinned (OpenSpec.upto digestNumbersSpec)

/-- 'specielaw06.DigestTexts', WHERE WHAT IT READS IS OF BULK AT MOST 1048576: true; the input reads as it did. -/
def digestTextsUptoRow : OpenClaim := { program := "ytenmdfhdiepfcaadoor", sum := "93b3e4ba9bf84420bc32f5072d69fe7dad1e2783578a55633c555571229dd95e", func := "specie/specielaw06.DigestTexts", spec := "digestTexts", inPlace := ["internal/bytealg.IndexByteString", "internal/bytealg.Compare"], unfollowed := true, recurses := true, named := ["specie/digest.start", "specie/digest.constants"], apart := false, laid := [("specie/digest.start", laid_specie_digest_start), ("specie/digest.constants", laid_specie_digest_constants)], narrowed := true }
def DigestTextsUptoSaid : Prop := digestTextsUptoRow.holds Tryd.pinned (OpenSpec.upto digestTextsSpec)

/-- 'specielaw06.DigestCongruent', WHERE WHAT IT READS IS OF BULK AT MOST 1048576: true; the input reads as it did. -/
def digestCongruentUptoRow : OpenClaim := { program := "ytenmdfhdiepfcaadoor", sum := "93b3e4ba9bf84420bc32f5072d69fe7dad1e2783578a55633c555571229dd95e", func := "specie/specielaw06.DigestCongruent", spec := "digestCongruent", unfollowed := true, recurses := true, named := ["specie/digest.start", "specie/digest.constants", "math/bits.divideError", "math/bits.overflowError"], apart := false, laid := [("specie/digest.start", laid_specie_digest_start), ("specie/digest.constants", laid_specie_digest_constants)], narrowed := true }
def DigestCongruentUptoSaid : Prop := digestCongruentUptoRow.holds Tryd.pinned (OpenSpec.upto digestCongruentSpec)

/-- 'specielaw06.DigestOrder', WHERE WHAT IT READS IS OF BULK AT MOST 1048576: true; the input reads as it did. -/
def digestOrderUptoRow : OpenClaim := { program := "ytenmdfhdiepfcaadoor", sum := "93b3e4ba9bf84420bc32f5072d69fe7dad1e2783578a55633c555571229dd95e", func := "specie/specielaw06.DigestOrder", spec := "digestOrder", inPlace := ["internal/bytealg.Compare", "internal/bytealg.abigen_runtime_cmpstring"], unfollowed := true, recurses := true, named := ["specie/digest.start", "specie/digest.constants"], apart := false, laid := [("specie/digest.start", laid_specie_digest_start), ("specie/digest.constants", laid_specie_digest_constants)], narrowed := true }
def DigestOrderUptoSaid : Prop := digestOrderUptoRow.holds Tryd.pinned (OpenSpec.upto digestOrderSpec)

/-- 'specielaw06.DigestApart', WHERE WHAT IT READS IS OF BULK AT MOST 1048576: true; the input reads as it did. -/
def digestApartUptoRow : OpenClaim := { program := "ytenmdfhdiepfcaadoor", sum := "93b3e4ba9bf84420bc32f5072d69fe7dad1e2783578a55633c555571229dd95e", func := "specie/specielaw06.DigestApart", spec := "digestApart", unfollowed := true, recurses := true, named := ["specie/digest.start", "specie/digest.constants"], apart := false, laid := [("specie/digest.start", laid_specie_digest_start), ("specie/digest.constants", laid_specie_digest_constants)], narrowed := true }
def DigestApartUptoSaid : Prop := digestApartUptoRow.holds Tryd.pinned (OpenSpec.upto digestApartSpec)

end Rows
end Go.Proofs.YtenmdfhdiepfcaaDoor
