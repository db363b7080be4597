/-
  DERIVED. GIVEN WITH THE SEED: THE CARDS: each row of YtdfnhbbnadiijaaDoorRows.lean that lists a variable, with what it lists TIED to the program's text (the seventh form; the later family's looks); each row that meets fmt, with fmt's text TOLD by the authors' own Lean function (tested against real Go, not proved from fmt's source: count such statements apart). THE CARD IS WHAT COUNTS. Prove the row's statement (the work); the ties are given (YtdfnhbbnadiijaaDoorTie.lean); close each card by the builder's one call (the guide's Derived/Test/ToyasCard.lean, 'card_holds'). Laid BY PROGRAM, IN A SANDBOX (cutbox-door.mjs). By AI agents, Wed Nov 11 2026. No macro, syntax, notation, axiom, sorry.
-/
import Derived.Test.YtdfnhbbnadiijaaDoorRows
import GoSem.ClaimSeven
namespace Go.Proofs.YtdfnhbbnadiijaaDoor
namespace Rows

/-- THE TIED CARD OF 'hayloftlaw06.ClassOf'. -/
def classOfCard : Claim7 := { stood := { row := classOfRow, standIns := [], harness := (true, "f43b25e962e6cbddc85fa4371157b44688b1b832029d9653eabd60b22e1c8f44"), looks := false }, kinds := [], alts := [], laidByText := true, laidKinds := [.data], laidTests := true, laidLooks := .later }
def ClassOfCardSaid : Prop := Claim7.holds Tryd.pinned (.plain (OpenSpec.ofChange classOfSpec)) classOfCard

/-- THE TIED CARD OF 'hayloftlaw06.ClassTells'. -/
def classTellsCard : Claim7 := { stood := { row := classTellsRow, standIns := [], harness := (true, "f43b25e962e6cbddc85fa4371157b44688b1b832029d9653eabd60b22e1c8f44"), looks := false }, kinds := [], alts := [], laidByText := true, laidKinds := [.data], laidTests := true, laidLooks := .later }
def ClassTellsCardSaid : Prop := Claim7.holds Tryd.pinned (.plain (OpenSpec.ofChange classTellsSpec)) classTellsCard

/-- THE TIED CARD OF 'hayloftlaw06.ClassNeeds'. -/
def classNeedsCard : Claim7 := { stood := { row := classNeedsRow, standIns := [], harness := (true, "f43b25e962e6cbddc85fa4371157b44688b1b832029d9653eabd60b22e1c8f44"), looks := false }, kinds := [], alts := [], laidByText := true, laidKinds := [.data], laidTests := true, laidLooks := .later }
def ClassNeedsCardSaid : Prop := Claim7.holds Tryd.pinned (.plain (OpenSpec.ofChange classNeedsSpec)) classNeedsCard

/-- THE TIED CARD OF 'hayloftlaw06.ClassFits'. -/
def classFitsCard : Claim7 := { stood := { row := classFitsRow, standIns := [], harness := (true, "f43b25e962e6cbddc85fa4371157b44688b1b832029d9653eabd60b22e1c8f44"), looks := false }, kinds := [], alts := [], laidByText := true, laidKinds := [.data], laidTests := true, laidLooks := .later }
def ClassFitsCardSaid : Prop := Claim7.holds Tryd.pinned (.plain (OpenSpec.ofChange classFitsSpec)) classFitsCard

/-- THE TIED CARD OF 'hayloftlaw06.ClassRises'. -/
def classRisesCard : Claim7 := { stood := { row := classRisesRow, standIns := [], harness := (true, "f43b25e962e6cbddc85fa4371157b44688b1b832029d9653eabd60b22e1c8f44"), looks := false }, kinds := [], alts := [], laidByText := true, laidKinds := [.data], laidTests := true, laidLooks := .later }
def ClassRisesCardSaid : Prop := Claim7.holds Tryd.pinned (.plain (OpenSpec.ofChange classRisesSpec)) classRisesCard

/-- THE TIED CARD OF 'hayloftlaw06.ClassMore'. -/
def classMoreCard : Claim7 := { stood := { row := classMoreRow, standIns := [], harness := (true, "f43b25e962e6cbddc85fa4371157b44688b1b832029d9653eabd60b22e1c8f44"), looks := false }, kinds := [], alts := [], laidByText := true, laidKinds := [.data], laidTests := true, laidLooks := .later }
def ClassMoreCardSaid : Prop := Claim7.holds Tryd.pinned (.plain (OpenSpec.ofChange classMoreSpec)) classMoreCard

/-- THE SECOND FORM's CARD OF 'hayloftlaw06.ClassOf'. -/
def classOfUptoCard : Claim7 := { stood := { row := classOfUptoRow, standIns := [], harness := (true, "f43b25e962e6cbddc85fa4371157b44688b1b832029d9653eabd60b22e1c8f44"), looks := false }, kinds := [], alts := [], laidByText := true, laidKinds := [.data], laidTests := true, laidLooks := .later }
def ClassOfUptoCardSaid : Prop := Claim7.holds Tryd.pinned (.plain (OpenSpec.upto classOfSpec)) classOfUptoCard

/-- THE SECOND FORM's CARD OF 'hayloftlaw06.ClassTells'. -/
def classTellsUptoCard : Claim7 := { stood := { row := classTellsUptoRow, standIns := [], harness := (true, "f43b25e962e6cbddc85fa4371157b44688b1b832029d9653eabd60b22e1c8f44"), looks := false }, kinds := [], alts := [], laidByText := true, laidKinds := [.data], laidTests := true, laidLooks := .later }
def ClassTellsUptoCardSaid : Prop := Claim7.holds Tryd.pinned (.plain (OpenSpec.upto classTellsSpec)) classTellsUptoCard

/-- THE SECOND FORM's CARD OF 'hayloftlaw06.ClassNeeds'. -/
def classNeedsUptoCard : Claim7 := { stood := { row := classNeedsUptoRow, standIns := [], harness := (true, "f43b25e962e6cbddc85fa4371157b44688b1b832029d9653eabd60b22e1c8f44"), looks := false }, kinds := [], alts := [], laidByText := true, laidKinds := [.data], laidTests := true, laidLooks := .later }
def ClassNeedsUptoCardSaid : Prop := Claim7.holds Tryd.pinned (.plain (OpenSpec.upto classNeedsSpec)) classNeedsUptoCard

/-- THE SECOND FORM's CARD OF 'hayloftlaw06.ClassFits'. -/
def classFitsUptoCard : Claim7 := { stood := { row := classFitsUptoRow, standIns := [], harness := (true, "f43b25e962e6cbddc85fa4371157b44688b1b832029d9653eabd60b22e1c8f44"), looks := false }, kinds := [], alts := [], laidByText := true, laidKinds := [.data], laidTests := true, laidLooks := .later }
def ClassFitsUptoCardSaid : Prop := Claim7.holds Tryd.pinned (.plain (OpenSpec.upto classFitsSpec)) classFitsUptoCard

/-- THE SECOND FORM's CARD OF 'hayloftlaw06.ClassRises'. -/
def classRisesUptoCard : Claim7 := { stood := { row := classRisesUptoRow, standIns := [], harness := (true, "f43b25e962e6cbddc85fa4371157b44688b1b832029d9653eabd60b22e1c8f44"), looks := false }, kinds := [], alts := [], laidByText := true, laidKinds := [.data], laidTests := true, laidLooks := .later }
def ClassRisesUptoCardSaid : Prop := Claim7.holds Tryd.pinned (.plain (OpenSpec.upto classRisesSpec)) classRisesUptoCard

/-- THE SECOND FORM's CARD OF 'hayloftlaw06.ClassMore'. -/
def classMoreUptoCard : Claim7 := { stood := { row := classMoreUptoRow, standIns := [], harness := (true, "f43b25e962e6cbddc85fa4371157b44688b1b832029d9653eabd60b22e1c8f44"), looks := false }, kinds := [], alts := [], laidByText := true, laidKinds := [.data], laidTests := true, laidLooks := .later }
def ClassMoreUptoCardSaid : Prop := Claim7.holds Tryd.pinned (.plain (OpenSpec.upto classMoreSpec)) classMoreUptoCard
end Rows
end Go.Proofs.YtdfnhbbnadiijaaDoor
