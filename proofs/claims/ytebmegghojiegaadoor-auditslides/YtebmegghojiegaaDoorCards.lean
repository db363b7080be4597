/-
  DERIVED. GIVEN WITH THE SEED: THE CARDS: each row of YtebmegghojiegaaDoorRows.lean that lists a variable, with what it lists TIED to the program's text (the seventh form; the later family's looks); each row that meets fmt, with fmt's text TOLD by the authors' own Lean function (tested against real Go, not proved from fmt's source: count such statements apart). THE CARD IS WHAT COUNTS. Prove the row's statement (the work); the ties are given (YtebmegghojiegaaDoorTie.lean); close each card by the builder's one call (the guide's Derived/Test/ToyasCard.lean, 'card_holds'). Laid BY PROGRAM, IN A SANDBOX (cutbox-door.mjs). By AI agents, Wed Nov 11 2026. No macro, syntax, notation, axiom, sorry.
-/
import Derived.Test.YtebmegghojiegaaDoorRows
import GoSem.ClaimSeven
namespace Go.Proofs.YtebmegghojiegaaDoor
namespace Rows

/-- THE TIED CARD OF 'hayloftlaw14.AuditChecks'. -/
def auditChecksCard : Claim7 := { stood := { row := auditChecksRow, standIns := [], harness := (true, "2cdd884cf22170dc1e2030336e34e2e22ea60c60ab8511a44a9e4856bfacf79f"), looks := false }, kinds := [], alts := [], laidByText := true, laidKinds := [.data], laidTests := true, laidLooks := .later }
def AuditChecksCardSaid : Prop := Claim7.holds Tryd.pinned (.plain (OpenSpec.ofChange auditChecksSpec)) auditChecksCard

/-- THE TIED CARD OF 'hayloftlaw14.AuditObjects'. -/
def auditObjectsCard : Claim7 := { stood := { row := auditObjectsRow, standIns := [], harness := (true, "2cdd884cf22170dc1e2030336e34e2e22ea60c60ab8511a44a9e4856bfacf79f"), looks := false }, kinds := [], alts := [], laidByText := true, laidKinds := [.data], laidTests := true, laidLooks := .later }
def AuditObjectsCardSaid : Prop := Claim7.holds Tryd.pinned (.plain (OpenSpec.ofChange auditObjectsSpec)) auditObjectsCard

/-- THE TIED CARD OF 'hayloftlaw14.AuditMoves'. -/
def auditMovesCard : Claim7 := { stood := { row := auditMovesRow, standIns := [], harness := (true, "2cdd884cf22170dc1e2030336e34e2e22ea60c60ab8511a44a9e4856bfacf79f"), looks := false }, kinds := [], alts := [], laidByText := true, laidKinds := [.data], laidTests := true, laidLooks := .later }
def AuditMovesCardSaid : Prop := Claim7.holds Tryd.pinned (.plain (OpenSpec.ofChange auditMovesSpec)) auditMovesCard

/-- THE TIED CARD OF 'hayloftlaw14.AuditSlides'. -/
def auditSlidesCard : Claim7 := { stood := { row := auditSlidesRow, standIns := [], harness := (true, "2cdd884cf22170dc1e2030336e34e2e22ea60c60ab8511a44a9e4856bfacf79f"), looks := false }, kinds := [], alts := [], laidByText := true, laidKinds := [.data], laidTests := true, laidLooks := .later }
def AuditSlidesCardSaid : Prop := Claim7.holds Tryd.pinned (.plain (OpenSpec.ofChange auditSlidesSpec)) auditSlidesCard

/-- THE TIED CARD OF 'hayloftlaw14.AuditLost'. -/
def auditLostCard : Claim7 := { stood := { row := auditLostRow, standIns := [], harness := (true, "2cdd884cf22170dc1e2030336e34e2e22ea60c60ab8511a44a9e4856bfacf79f"), looks := false }, kinds := [], alts := [], laidByText := true, laidKinds := [.data], laidTests := true, laidLooks := .later }
def AuditLostCardSaid : Prop := Claim7.holds Tryd.pinned (.plain (OpenSpec.ofChange auditLostSpec)) auditLostCard

/-- THE SECOND FORM's CARD OF 'hayloftlaw14.AuditChecks'. -/
def auditChecksUptoCard : Claim7 := { stood := { row := auditChecksUptoRow, standIns := [], harness := (true, "2cdd884cf22170dc1e2030336e34e2e22ea60c60ab8511a44a9e4856bfacf79f"), looks := false }, kinds := [], alts := [], laidByText := true, laidKinds := [.data], laidTests := true, laidLooks := .later }
def AuditChecksUptoCardSaid : Prop := Claim7.holds Tryd.pinned (.plain (OpenSpec.upto auditChecksSpec)) auditChecksUptoCard

/-- THE SECOND FORM's CARD OF 'hayloftlaw14.AuditObjects'. -/
def auditObjectsUptoCard : Claim7 := { stood := { row := auditObjectsUptoRow, standIns := [], harness := (true, "2cdd884cf22170dc1e2030336e34e2e22ea60c60ab8511a44a9e4856bfacf79f"), looks := false }, kinds := [], alts := [], laidByText := true, laidKinds := [.data], laidTests := true, laidLooks := .later }
def AuditObjectsUptoCardSaid : Prop := Claim7.holds Tryd.pinned (.plain (OpenSpec.upto auditObjectsSpec)) auditObjectsUptoCard

/-- THE SECOND FORM's CARD OF 'hayloftlaw14.AuditMoves'. -/
def auditMovesUptoCard : Claim7 := { stood := { row := auditMovesUptoRow, standIns := [], harness := (true, "2cdd884cf22170dc1e2030336e34e2e22ea60c60ab8511a44a9e4856bfacf79f"), looks := false }, kinds := [], alts := [], laidByText := true, laidKinds := [.data], laidTests := true, laidLooks := .later }
def AuditMovesUptoCardSaid : Prop := Claim7.holds Tryd.pinned (.plain (OpenSpec.upto auditMovesSpec)) auditMovesUptoCard

/-- THE SECOND FORM's CARD OF 'hayloftlaw14.AuditSlides'. -/
def auditSlidesUptoCard : Claim7 := { stood := { row := auditSlidesUptoRow, standIns := [], harness := (true, "2cdd884cf22170dc1e2030336e34e2e22ea60c60ab8511a44a9e4856bfacf79f"), looks := false }, kinds := [], alts := [], laidByText := true, laidKinds := [.data], laidTests := true, laidLooks := .later }
def AuditSlidesUptoCardSaid : Prop := Claim7.holds Tryd.pinned (.plain (OpenSpec.upto auditSlidesSpec)) auditSlidesUptoCard

/-- THE SECOND FORM's CARD OF 'hayloftlaw14.AuditLost'. -/
def auditLostUptoCard : Claim7 := { stood := { row := auditLostUptoRow, standIns := [], harness := (true, "2cdd884cf22170dc1e2030336e34e2e22ea60c60ab8511a44a9e4856bfacf79f"), looks := false }, kinds := [], alts := [], laidByText := true, laidKinds := [.data], laidTests := true, laidLooks := .later }
def AuditLostUptoCardSaid : Prop := Claim7.holds Tryd.pinned (.plain (OpenSpec.upto auditLostSpec)) auditLostUptoCard
end Rows
end Go.Proofs.YtebmegghojiegaaDoor
