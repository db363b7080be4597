/-
  DERIVED. GIVEN WITH THE SEED: THE CARDS: each row of YtnolbcbcboeaoabDoorRows.lean that lists a variable, with what it lists TIED to the program's text (the seventh form; the later family's looks); each row that meets fmt, with fmt's text TOLD by the authors' own Lean function (tested against real Go, not proved from fmt's source: count such statements apart). THE CARD IS WHAT COUNTS. Prove the row's statement (the work); the ties are given (YtnolbcbcboeaoabDoorTie.lean); close each card by the builder's one call (the guide's Derived/Test/ToyasCard.lean, 'card_holds'). Laid BY PROGRAM, IN A SANDBOX (cutbox-door.mjs). By AI agents, Wed Nov 11 2026. No macro, syntax, notation, axiom, sorry.
-/
import Derived.Test.YtnolbcbcboeaoabDoorRows
import GoSem.ClaimSeven
namespace Go.Proofs.YtnolbcbcboeaoabDoor
namespace Rows

/-- THE TIED CARD OF 'hayloftlaw03.SetNil'. -/
def setNilCard : Claim7 := { stood := { row := setNilRow, standIns := [], harness := (true, "f3d6bb291c31a1a724392384f31da3d06f5b95d9bd71e058885c34183b456353"), looks := false }, kinds := [], alts := [], laidByText := true, laidKinds := [.data], laidTests := true, laidLooks := .later }
def SetNilCardSaid : Prop := Claim7.holds Tryd.pinned (.plain (OpenSpec.ofChange setNilSpec)) setNilCard

/-- THE SECOND FORM's CARD OF 'hayloftlaw03.SetNil'. -/
def setNilUptoCard : Claim7 := { stood := { row := setNilUptoRow, standIns := [], harness := (true, "f3d6bb291c31a1a724392384f31da3d06f5b95d9bd71e058885c34183b456353"), looks := false }, kinds := [], alts := [], laidByText := true, laidKinds := [.data], laidTests := true, laidLooks := .later }
def SetNilUptoCardSaid : Prop := Claim7.holds Tryd.pinned (.plain (OpenSpec.upto setNilSpec)) setNilUptoCard
end Rows
end Go.Proofs.YtnolbcbcboeaoabDoor
