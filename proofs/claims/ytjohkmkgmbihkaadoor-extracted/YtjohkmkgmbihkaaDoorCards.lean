/-
  DERIVED. GIVEN WITH THE SEED: THE CARDS: each row of YtjohkmkgmbihkaaDoorRows.lean that lists a variable, with what it lists TIED to the program's text (the seventh form; the later family's looks); each row that meets fmt, with fmt's text TOLD by the authors' own Lean function (tested against real Go, not proved from fmt's source: count such statements apart). THE CARD IS WHAT COUNTS. Prove the row's statement (the work); the ties are given (YtjohkmkgmbihkaaDoorTie.lean); close each card by the builder's one call (the guide's Derived/Test/ToyasCard.lean, 'card_holds'). Laid BY PROGRAM, IN A SANDBOX (cutbox-door.mjs). By AI agents, Wed Nov 11 2026. No macro, syntax, notation, axiom, sorry.
-/
import Derived.Test.YtjohkmkgmbihkaaDoorRows
import GoSem.ClaimSeven
namespace Go.Proofs.YtjohkmkgmbihkaaDoor
namespace Rows

/-- THE TIED CARD OF 'attestlaw.Extracted'. -/
def extractedCard : Claim7 := { stood := { row := extractedRow, standIns := [], harness := (true, "487b9d29da3fc8ad81a053307c1be8783fb854e93a2cd4cd5217239f61323d6d"), looks := true }, kinds := [], alts := [], laidByText := true, laidKinds := [.handle], laidTests := true, laidLooks := .later }
def ExtractedCardSaid : Prop := Claim7.holds Tryd.pinned (.plain (OpenSpec.ofChange extractedSpec)) extractedCard

/-- THE SECOND FORM's CARD OF 'attestlaw.Extracted'. -/
def extractedUptoCard : Claim7 := { stood := { row := extractedUptoRow, standIns := [], harness := (true, "487b9d29da3fc8ad81a053307c1be8783fb854e93a2cd4cd5217239f61323d6d"), looks := true }, kinds := [], alts := [], laidByText := true, laidKinds := [.handle], laidTests := true, laidLooks := .later }
def ExtractedUptoCardSaid : Prop := Claim7.holds Tryd.pinned (.plain (OpenSpec.upto extractedSpec)) extractedUptoCard
end Rows
end Go.Proofs.YtjohkmkgmbihkaaDoor
