/-
  DERIVED. GIVEN WITH THE SEED: THE CARDS: each row of YtgmljgogmbaioabGreatDoorRows.lean that lists a variable, with what it lists TIED to the program's text (the seventh form; the later family's looks); each row that meets fmt, with fmt's text TOLD by the authors' own Lean function (tested against real Go, not proved from fmt's source: count such statements apart). THE CARD IS WHAT COUNTS. Prove the row's statement (the work); the ties are given (YtgmljgogmbaioabGreatDoorTie.lean); close each card by the builder's one call (the guide's Derived/Test/ToyasCard.lean, 'card_holds'). Laid BY PROGRAM, IN A SANDBOX (cutbox-door.mjs). By AI agents, Wed Nov 11 2026. No macro, syntax, notation, axiom, sorry.
-/
import Derived.Test.YtgmljgogmbaioabGreatDoorRows
import GoSem.ClaimSeven
namespace Go.Proofs.YtgmljgogmbaioabGreatDoor
namespace Rows

/-- THE TIED CARD OF 'hayloftlaw11.CacheNil'. -/
def cacheNilCard : Claim7 := { stood := { row := cacheNilRow, standIns := [], harness := (true, "f61dab48a39b58f0d57ffd5015bedde9ba3dcd05b4e1ff99e3db7c326e939c0f"), looks := false }, kinds := [], alts := [], laidByText := true, laidKinds := [.data, .data], laidTests := true, laidLooks := .later }
def CacheNilCardSaid : Prop := Claim7.holds Tryz.pinned (.plain (OpenSpec.ofChange cacheNilSpec)) cacheNilCard

/-- THE SECOND FORM's CARD OF 'hayloftlaw11.CacheNil'. -/
def cacheNilUptoCard : Claim7 := { stood := { row := cacheNilUptoRow, standIns := [], harness := (true, "f61dab48a39b58f0d57ffd5015bedde9ba3dcd05b4e1ff99e3db7c326e939c0f"), looks := false }, kinds := [], alts := [], laidByText := true, laidKinds := [.data, .data], laidTests := true, laidLooks := .later }
def CacheNilUptoCardSaid : Prop := Claim7.holds Tryz.pinned (.plain (OpenSpec.upto cacheNilSpec)) cacheNilUptoCard
end Rows
end Go.Proofs.YtgmljgogmbaioabGreatDoor
