/-
  DERIVED. GIVEN WITH THE SEED: THE CARDS: each row of YtofmicbhheebiaaDoorRows.lean that lists a variable, with what it lists TIED to the program's text (the seventh form; the later family's looks); each row that meets fmt, with fmt's text TOLD by the authors' own Lean function (tested against real Go, not proved from fmt's source: count such statements apart). THE CARD IS WHAT COUNTS. Prove the row's statement (the work); the ties are given (YtofmicbhheebiaaDoorTie.lean); close each card by the builder's one call (the guide's Derived/Test/ToyasCard.lean, 'card_holds'). Laid BY PROGRAM, IN A SANDBOX (cutbox-door.mjs). By AI agents, Wed Nov 11 2026. No macro, syntax, notation, axiom, sorry.
-/
import Derived.Test.YtofmicbhheebiaaDoorRows
import GoSem.ClaimSeven
namespace Go.Proofs.YtofmicbhheebiaaDoor
namespace Rows

/-- THE TIED CARD OF 'hayloftlaw21.ManifestFinds'. -/
def manifestFindsCard : Claim7 := { stood := { row := manifestFindsRow, standIns := [], harness := (true, "b729c52180e7290a76fae03250796b975899d3a25f1416dc1221601835ee240e"), looks := true }, kinds := [], alts := [], laidByText := true, laidKinds := [.handle], laidTests := true, laidLooks := .later }
def ManifestFindsCardSaid : Prop := Claim7.holds Tryd.pinned (.plain (OpenSpec.ofChange manifestFindsSpec)) manifestFindsCard

/-- THE SECOND FORM's CARD OF 'hayloftlaw21.ManifestFinds'. -/
def manifestFindsUptoCard : Claim7 := { stood := { row := manifestFindsUptoRow, standIns := [], harness := (true, "b729c52180e7290a76fae03250796b975899d3a25f1416dc1221601835ee240e"), looks := true }, kinds := [], alts := [], laidByText := true, laidKinds := [.handle], laidTests := true, laidLooks := .later }
def ManifestFindsUptoCardSaid : Prop := Claim7.holds Tryd.pinned (.plain (OpenSpec.upto manifestFindsSpec)) manifestFindsUptoCard
end Rows
end Go.Proofs.YtofmicbhheebiaaDoor
