/-
  DERIVED. GIVEN WITH THE SEED: THE CARDS: each row of YtomkmkjkeihodaaDoorRows.lean that lists a variable, with what it lists TIED to the program's text (the seventh form; the later family's looks); each row that meets fmt, with fmt's text TOLD by the authors' own Lean function (tested against real Go, not proved from fmt's source: count such statements apart). THE CARD IS WHAT COUNTS. Prove the row's statement (the work); the ties are given (YtomkmkjkeihodaaDoorTie.lean); close each card by the builder's one call (the guide's Derived/Test/ToyasCard.lean, 'card_holds'). Laid BY PROGRAM, IN A SANDBOX (cutbox-door.mjs). By AI agents, Wed Nov 11 2026. No macro, syntax, notation, axiom, sorry.
-/
import Derived.Test.YtomkmkjkeihodaaDoorRows
import GoSem.ClaimSeven
namespace Go.Proofs.YtomkmkjkeihodaaDoor
namespace Rows

/-- THE TIED CARD OF 'specielaw05.PrimeTests'. -/
def primeTestsCard : Claim7 := { stood := { row := primeTestsRow, standIns := [], harness := (true, "2acf7c1cb21435787d221e3e8a9fe91de19de93cbf368b964167637e287bf9f6"), looks := false }, kinds := [], alts := [], laidByText := true, laidKinds := [.data, .data], laidTests := true, laidLooks := .later }
def PrimeTestsCardSaid : Prop := Claim7.holds Tryd.pinned (.plain (OpenSpec.ofChange primeTestsSpec)) primeTestsCard

/-- THE TIED CARD OF 'specielaw05.PrimeFactors'. -/
def primeFactorsCard : Claim7 := { stood := { row := primeFactorsRow, standIns := [], harness := (true, "2acf7c1cb21435787d221e3e8a9fe91de19de93cbf368b964167637e287bf9f6"), looks := false }, kinds := [], alts := [], laidByText := true, laidKinds := [.data, .data], laidTests := true, laidLooks := .later }
def PrimeFactorsCardSaid : Prop := Claim7.holds Tryd.pinned (.plain (OpenSpec.ofChange primeFactorsSpec)) primeFactorsCard

/-- THE TIED CARD OF 'specielaw05.PrimeRoots'. -/
def primeRootsCard : Claim7 := { stood := { row := primeRootsRow, standIns := [], harness := (true, "2acf7c1cb21435787d221e3e8a9fe91de19de93cbf368b964167637e287bf9f6"), looks := false }, kinds := [], alts := [], laidByText := true, laidKinds := [.data, .data], laidTests := true, laidLooks := .later }
def PrimeRootsCardSaid : Prop := Claim7.holds Tryd.pinned (.plain (OpenSpec.ofChange primeRootsSpec)) primeRootsCard

/-- THE TIED CARD OF 'specielaw05.PrimeCertifies'. -/
def primeCertifiesCard : Claim7 := { stood := { row := primeCertifiesRow, standIns := [], harness := (true, "2acf7c1cb21435787d221e3e8a9fe91de19de93cbf368b964167637e287bf9f6"), looks := false }, kinds := [], alts := [], laidByText := true, laidKinds := [.data, .data], laidTests := true, laidLooks := .later }
def PrimeCertifiesCardSaid : Prop := Claim7.holds Tryd.pinned (.plain (OpenSpec.ofChange primeCertifiesSpec)) primeCertifiesCard

/-- THE TIED CARD OF 'specielaw05.PrimeDivides'. -/
def primeDividesCard : Claim7 := { stood := { row := primeDividesRow, standIns := [], harness := (true, "2acf7c1cb21435787d221e3e8a9fe91de19de93cbf368b964167637e287bf9f6"), looks := false }, kinds := [], alts := [], laidByText := true, laidKinds := [.data, .data], laidTests := true, laidLooks := .later }
def PrimeDividesCardSaid : Prop := Claim7.holds Tryd.pinned (.plain (OpenSpec.ofChange primeDividesSpec)) primeDividesCard

/-- THE TIED CARD OF 'specielaw05.PrimeProducts'. -/
def primeProductsCard : Claim7 := { stood := { row := primeProductsRow, standIns := [], harness := (true, "2acf7c1cb21435787d221e3e8a9fe91de19de93cbf368b964167637e287bf9f6"), looks := false }, kinds := [], alts := [], laidByText := true, laidKinds := [.data, .data], laidTests := true, laidLooks := .later }
def PrimeProductsCardSaid : Prop := Claim7.holds Tryd.pinned (.plain (OpenSpec.ofChange primeProductsSpec)) primeProductsCard

/-- THE TIED CARD OF 'specielaw05.PrimeOrders'. -/
def primeOrdersCard : Claim7 := { stood := { row := primeOrdersRow, standIns := [], harness := (true, "2acf7c1cb21435787d221e3e8a9fe91de19de93cbf368b964167637e287bf9f6"), looks := false }, kinds := [], alts := [], laidByText := true, laidKinds := [.data, .data], laidTests := true, laidLooks := .later }
def PrimeOrdersCardSaid : Prop := Claim7.holds Tryd.pinned (.plain (OpenSpec.ofChange primeOrdersSpec)) primeOrdersCard

/-- THE TIED CARD OF 'specielaw05.PrimeSound'. -/
def primeSoundCard : Claim7 := { stood := { row := primeSoundRow, standIns := [], harness := (true, "2acf7c1cb21435787d221e3e8a9fe91de19de93cbf368b964167637e287bf9f6"), looks := false }, kinds := [], alts := [], laidByText := true, laidKinds := [.data, .data], laidTests := true, laidLooks := .later }
def PrimeSoundCardSaid : Prop := Claim7.holds Tryd.pinned (.plain (OpenSpec.ofChange primeSoundSpec)) primeSoundCard

/-- THE SECOND FORM's CARD OF 'specielaw05.PrimeTests'. -/
def primeTestsUptoCard : Claim7 := { stood := { row := primeTestsUptoRow, standIns := [], harness := (true, "2acf7c1cb21435787d221e3e8a9fe91de19de93cbf368b964167637e287bf9f6"), looks := false }, kinds := [], alts := [], laidByText := true, laidKinds := [.data, .data], laidTests := true, laidLooks := .later }
def PrimeTestsUptoCardSaid : Prop := Claim7.holds Tryd.pinned (.plain (OpenSpec.upto primeTestsSpec)) primeTestsUptoCard

/-- THE SECOND FORM's CARD OF 'specielaw05.PrimeFactors'. -/
def primeFactorsUptoCard : Claim7 := { stood := { row := primeFactorsUptoRow, standIns := [], harness := (true, "2acf7c1cb21435787d221e3e8a9fe91de19de93cbf368b964167637e287bf9f6"), looks := false }, kinds := [], alts := [], laidByText := true, laidKinds := [.data, .data], laidTests := true, laidLooks := .later }
def PrimeFactorsUptoCardSaid : Prop := Claim7.holds Tryd.pinned (.plain (OpenSpec.upto primeFactorsSpec)) primeFactorsUptoCard

/-- THE SECOND FORM's CARD OF 'specielaw05.PrimeRoots'. -/
def primeRootsUptoCard : Claim7 := { stood := { row := primeRootsUptoRow, standIns := [], harness := (true, "2acf7c1cb21435787d221e3e8a9fe91de19de93cbf368b964167637e287bf9f6"), looks := false }, kinds := [], alts := [], laidByText := true, laidKinds := [.data, .data], laidTests := true, laidLooks := .later }
def PrimeRootsUptoCardSaid : Prop := Claim7.holds Tryd.pinned (.plain (OpenSpec.upto primeRootsSpec)) primeRootsUptoCard

/-- THE SECOND FORM's CARD OF 'specielaw05.PrimeCertifies'. -/
def primeCertifiesUptoCard : Claim7 := { stood := { row := primeCertifiesUptoRow, standIns := [], harness := (true, "2acf7c1cb21435787d221e3e8a9fe91de19de93cbf368b964167637e287bf9f6"), looks := false }, kinds := [], alts := [], laidByText := true, laidKinds := [.data, .data], laidTests := true, laidLooks := .later }
def PrimeCertifiesUptoCardSaid : Prop := Claim7.holds Tryd.pinned (.plain (OpenSpec.upto primeCertifiesSpec)) primeCertifiesUptoCard

/-- THE SECOND FORM's CARD OF 'specielaw05.PrimeDivides'. -/
def primeDividesUptoCard : Claim7 := { stood := { row := primeDividesUptoRow, standIns := [], harness := (true, "2acf7c1cb21435787d221e3e8a9fe91de19de93cbf368b964167637e287bf9f6"), looks := false }, kinds := [], alts := [], laidByText := true, laidKinds := [.data, .data], laidTests := true, laidLooks := .later }
def PrimeDividesUptoCardSaid : Prop := Claim7.holds Tryd.pinned (.plain (OpenSpec.upto primeDividesSpec)) primeDividesUptoCard

/-- THE SECOND FORM's CARD OF 'specielaw05.PrimeProducts'. -/
def primeProductsUptoCard : Claim7 := { stood := { row := primeProductsUptoRow, standIns := [], harness := (true, "2acf7c1cb21435787d221e3e8a9fe91de19de93cbf368b964167637e287bf9f6"), looks := false }, kinds := [], alts := [], laidByText := true, laidKinds := [.data, .data], laidTests := true, laidLooks := .later }
def PrimeProductsUptoCardSaid : Prop := Claim7.holds Tryd.pinned (.plain (OpenSpec.upto primeProductsSpec)) primeProductsUptoCard

/-- THE SECOND FORM's CARD OF 'specielaw05.PrimeOrders'. -/
def primeOrdersUptoCard : Claim7 := { stood := { row := primeOrdersUptoRow, standIns := [], harness := (true, "2acf7c1cb21435787d221e3e8a9fe91de19de93cbf368b964167637e287bf9f6"), looks := false }, kinds := [], alts := [], laidByText := true, laidKinds := [.data, .data], laidTests := true, laidLooks := .later }
def PrimeOrdersUptoCardSaid : Prop := Claim7.holds Tryd.pinned (.plain (OpenSpec.upto primeOrdersSpec)) primeOrdersUptoCard

/-- THE SECOND FORM's CARD OF 'specielaw05.PrimeSound'. -/
def primeSoundUptoCard : Claim7 := { stood := { row := primeSoundUptoRow, standIns := [], harness := (true, "2acf7c1cb21435787d221e3e8a9fe91de19de93cbf368b964167637e287bf9f6"), looks := false }, kinds := [], alts := [], laidByText := true, laidKinds := [.data, .data], laidTests := true, laidLooks := .later }
def PrimeSoundUptoCardSaid : Prop := Claim7.holds Tryd.pinned (.plain (OpenSpec.upto primeSoundSpec)) primeSoundUptoCard
end Rows
end Go.Proofs.YtomkmkjkeihodaaDoor
