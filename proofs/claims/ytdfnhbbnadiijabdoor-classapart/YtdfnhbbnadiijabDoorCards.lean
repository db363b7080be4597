/-
  DERIVED. GIVEN WITH THE SEED: THE CARDS: each row of YtdfnhbbnadiijabDoorRows.lean that lists a variable, with what it lists TIED to the program's text (the seventh form; the later family's looks); each row that meets fmt, with fmt's text TOLD by the authors' own Lean function (tested against real Go, not proved from fmt's source: count such statements apart). THE CARD IS WHAT COUNTS. Prove the row's statement (the work); the ties are given (YtdfnhbbnadiijabDoorTie.lean); close each card by the builder's one call (the guide's Derived/Test/ToyasCard.lean, 'card_holds'). Laid BY PROGRAM, IN A SANDBOX (cutbox-door.mjs). By AI agents, Wed Nov 11 2026. No macro, syntax, notation, axiom, sorry.
-/
import Derived.Test.YtdfnhbbnadiijabDoorRows
import GoSem.ClaimSeven
namespace Go.Proofs.YtdfnhbbnadiijabDoor
namespace Rows

/-- THE TIED CARD OF 'hayloftlaw06.ClassApart'. -/
def classApartCard : Claim7 := { stood := { row := classApartRow, standIns := [], harness := (true, "f08a896be327af5f14d18579a87b236b4740844e378b5bb92d87ceece970413b"), looks := false }, kinds := [], alts := [], laidByText := true, laidKinds := [.data], laidTests := true, laidLooks := .later }
def ClassApartCardSaid : Prop := Claim7.holds Tryd.pinned (.plain (OpenSpec.ofChange classApartSpec)) classApartCard

/-- THE SECOND FORM's CARD OF 'hayloftlaw06.ClassApart'. -/
def classApartUptoCard : Claim7 := { stood := { row := classApartUptoRow, standIns := [], harness := (true, "f08a896be327af5f14d18579a87b236b4740844e378b5bb92d87ceece970413b"), looks := false }, kinds := [], alts := [], laidByText := true, laidKinds := [.data], laidTests := true, laidLooks := .later }
def ClassApartUptoCardSaid : Prop := Claim7.holds Tryd.pinned (.plain (OpenSpec.upto classApartSpec)) classApartUptoCard
end Rows
end Go.Proofs.YtdfnhbbnadiijabDoor
