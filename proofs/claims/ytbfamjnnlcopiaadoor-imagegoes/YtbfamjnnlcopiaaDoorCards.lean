/-
  DERIVED. GIVEN WITH THE SEED: THE CARDS: each row of YtbfamjnnlcopiaaDoorRows.lean that lists a variable, with what it lists TIED to the program's text (the seventh form; the later family's looks); each row that meets fmt, with fmt's text TOLD by the authors' own Lean function (tested against real Go, not proved from fmt's source: count such statements apart). THE CARD IS WHAT COUNTS. Prove the row's statement (the work); the ties are given (YtbfamjnnlcopiaaDoorTie.lean); close each card by the builder's one call (the guide's Derived/Test/ToyasCard.lean, 'card_holds'). Laid BY PROGRAM, IN A SANDBOX (cutbox-door.mjs). By AI agents, Wed Nov 11 2026. No macro, syntax, notation, axiom, sorry.
-/
import Derived.Test.YtbfamjnnlcopiaaDoorRows
import GoSem.ClaimSeven
namespace Go.Proofs.YtbfamjnnlcopiaaDoor
namespace Rows

/-- THE TIED CARD OF 'hayloftlaw17.ImageGoes'. -/
def imageGoesCard : Claim7 := { stood := { row := imageGoesRow, standIns := [], harness := (true, "e2a7387e1a93d76b7297c93d2b1eeaa5a525e3eccc3704d9a52e413ec1c621e9"), looks := false }, kinds := [], alts := [], laidByText := true, laidKinds := [.data, .data], laidTests := true, laidLooks := .later }
def ImageGoesCardSaid : Prop := Claim7.holds Tryd.pinned (.plain (OpenSpec.ofChange imageGoesSpec)) imageGoesCard

/-- THE SECOND FORM's CARD OF 'hayloftlaw17.ImageGoes'. -/
def imageGoesUptoCard : Claim7 := { stood := { row := imageGoesUptoRow, standIns := [], harness := (true, "e2a7387e1a93d76b7297c93d2b1eeaa5a525e3eccc3704d9a52e413ec1c621e9"), looks := false }, kinds := [], alts := [], laidByText := true, laidKinds := [.data, .data], laidTests := true, laidLooks := .later }
def ImageGoesUptoCardSaid : Prop := Claim7.holds Tryd.pinned (.plain (OpenSpec.upto imageGoesSpec)) imageGoesUptoCard
end Rows
end Go.Proofs.YtbfamjnnlcopiaaDoor
