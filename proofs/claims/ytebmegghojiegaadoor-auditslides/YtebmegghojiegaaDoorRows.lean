/-
  NARROWER THAN 'FOR EVERY INPUT', by the rows' own cells (each row's printed sentence says how): AuditChecks: laid · AuditObjects: laid · AuditMoves: laid · AuditSlides: laid · AuditLost: laid.
  DERIVED. THE GIVEN ROWS OF THIS SEAT. 5 by the template 'for every input the law returns true; each argument reads behind the call as it read before'; 0 by the template 'total and deterministic' (their statements: YtebmegghojiegaaDoorTotals.lean).
  GIVEN WITH THE SEED: the statements are not yours to turn. If you find one false, say at which input.
  Laid BY PROGRAM, IN A SANDBOX (cutbox-rows.mjs): the forced cells as the released guide's own fill.sh prints them over the translation 9855f720f70d990b… (all of the seat's roots in one cut). By AI agents, Wed Nov 11 2026. No macro, syntax, notation, axiom, sorry.
-/
import Derived.Test.YtebmegghojiegaaDoorChecked
import GoSem.Claim
import GoSem.ClaimJoined
import GoSem.ClaimMapViews
import Derived.JoinedTies
import Derived.KernelRfl
namespace Go.Proofs.YtebmegghojiegaaDoor
/- THE CELL 'sum', in the pinned program and in every row, IS THE sha256 OF THE DUMP (.gsa) THAT YtebmegghojiegaaDoorProg.lean LOADS. Nothing in Lean hashes anything: it is a label: what it is worth is what the hold of that sum in a sandbox is worth. -/
noncomputable def Tryd.pinned : Pinned := { name := "ytebmegghojiegaadoor", sum := "9855f720f70d990b8ef31b906ce28f09b3c30020098453d761a38be0b7e97a23", checked := Tryd.checked }
namespace Rows
def none {H : Type} : Left H := { results := [], args := [] }

/- WHAT THE LISTED PACKAGE-LEVEL VARIABLES READ AS WHEN THE CALL BEGINS. Each datum BY PROGRAM (the guide's laid-datum.mjs) off the statement by which the dump's own 'gosem.cut.vars' lays the variable. In a bare row this is a premise. The card (YtebmegghojiegaaDoorCards.lean) ties it to the program's text. -/
def laid_hayloft_class_slotBytes {H : Type} : DataW H := .agg [.lit (.int .i64 16), .lit (.int .i64 24), .lit (.int .i64 32), .lit (.int .i64 48), .lit (.int .i64 64), .lit (.int .i64 96), .lit (.int .i64 128)]

/-- 'hayloftlaw14.AuditChecks': WHATEVER THE INPUT: true; the input reads as it did. -/
def auditChecksSpec : ChangeSpec := { name := "auditChecks", fn := fun _ => fun
  | [d] => { results := [.lit (.bool true)], args := [d] }
  | _ => none }
def auditChecksRow : OpenClaim := { program := "ytebmegghojiegaadoor", sum := "9855f720f70d990b8ef31b906ce28f09b3c30020098453d761a38be0b7e97a23", func := "hayloft/hayloftlaw14.AuditChecks", spec := "auditChecks", unfollowed := true, recurses := true, named := ["hayloft/class.slotBytes"], apart := false, laid := [("hayloft/class.slotBytes", laid_hayloft_class_slotBytes)] }
def AuditChecksSaid : Prop := auditChecksRow.holds Tryd.pinned (OpenSpec.ofChange auditChecksSpec)

/-- ITS FALSE NEIGHBOUR: 'it returns false'. Refute it at one input. -/
def auditChecksWrong : ChangeSpec := { name := "auditChecks", fn := fun _ => fun
  | [d] => { results := [.lit (.bool false)], args := [d] }
  | _ => none }
def AuditChecksWrongFalsely : Prop := auditChecksRow.holds Tryd.pinned (OpenSpec.ofChange auditChecksWrong)

/-- 'hayloftlaw14.AuditObjects': WHATEVER THE INPUT: true; the input reads as it did. -/
def auditObjectsSpec : ChangeSpec := { name := "auditObjects", fn := fun _ => fun
  | [d] => { results := [.lit (.bool true)], args := [d] }
  | _ => none }
def auditObjectsRow : OpenClaim := { program := "ytebmegghojiegaadoor", sum := "9855f720f70d990b8ef31b906ce28f09b3c30020098453d761a38be0b7e97a23", func := "hayloft/hayloftlaw14.AuditObjects", spec := "auditObjects", unfollowed := true, recurses := true, named := ["hayloft/class.slotBytes"], apart := false, laid := [("hayloft/class.slotBytes", laid_hayloft_class_slotBytes)] }
def AuditObjectsSaid : Prop := auditObjectsRow.holds Tryd.pinned (OpenSpec.ofChange auditObjectsSpec)

/-- ITS FALSE NEIGHBOUR: 'it returns false'. Refute it at one input. -/
def auditObjectsWrong : ChangeSpec := { name := "auditObjects", fn := fun _ => fun
  | [d] => { results := [.lit (.bool false)], args := [d] }
  | _ => none }
def AuditObjectsWrongFalsely : Prop := auditObjectsRow.holds Tryd.pinned (OpenSpec.ofChange auditObjectsWrong)

/-- 'hayloftlaw14.AuditMoves': WHATEVER THE INPUT: true; the input reads as it did. -/
def auditMovesSpec : ChangeSpec := { name := "auditMoves", fn := fun _ => fun
  | [d1, d2] => { results := [.lit (.bool true)], args := [d1, d2] }
  | _ => none }
def auditMovesRow : OpenClaim := { program := "ytebmegghojiegaadoor", sum := "9855f720f70d990b8ef31b906ce28f09b3c30020098453d761a38be0b7e97a23", func := "hayloft/hayloftlaw14.AuditMoves", spec := "auditMoves", unfollowed := true, recurses := true, named := ["hayloft/class.slotBytes"], apart := false, laid := [("hayloft/class.slotBytes", laid_hayloft_class_slotBytes)] }
def AuditMovesSaid : Prop := auditMovesRow.holds Tryd.pinned (OpenSpec.ofChange auditMovesSpec)

/-- ITS FALSE NEIGHBOUR: 'it returns false'. Refute it at one input. -/
def auditMovesWrong : ChangeSpec := { name := "auditMoves", fn := fun _ => fun
  | [d1, d2] => { results := [.lit (.bool false)], args := [d1, d2] }
  | _ => none }
def AuditMovesWrongFalsely : Prop := auditMovesRow.holds Tryd.pinned (OpenSpec.ofChange auditMovesWrong)

/-- 'hayloftlaw14.AuditSlides': WHATEVER THE INPUT: true; the input reads as it did. -/
def auditSlidesSpec : ChangeSpec := { name := "auditSlides", fn := fun _ => fun
  | [d] => { results := [.lit (.bool true)], args := [d] }
  | _ => none }
def auditSlidesRow : OpenClaim := { program := "ytebmegghojiegaadoor", sum := "9855f720f70d990b8ef31b906ce28f09b3c30020098453d761a38be0b7e97a23", func := "hayloft/hayloftlaw14.AuditSlides", spec := "auditSlides", unfollowed := true, recurses := true, named := ["hayloft/class.slotBytes"], apart := false, laid := [("hayloft/class.slotBytes", laid_hayloft_class_slotBytes)] }
def AuditSlidesSaid : Prop := auditSlidesRow.holds Tryd.pinned (OpenSpec.ofChange auditSlidesSpec)

/-- ITS FALSE NEIGHBOUR: 'it returns false'. Refute it at one input. -/
def auditSlidesWrong : ChangeSpec := { name := "auditSlides", fn := fun _ => fun
  | [d] => { results := [.lit (.bool false)], args := [d] }
  | _ => none }
def AuditSlidesWrongFalsely : Prop := auditSlidesRow.holds Tryd.pinned (OpenSpec.ofChange auditSlidesWrong)

/-- 'hayloftlaw14.AuditLost': WHATEVER THE INPUT: true; the input reads as it did. -/
def auditLostSpec : ChangeSpec := { name := "auditLost", fn := fun _ => fun
  | [d1, d2] => { results := [.lit (.bool true)], args := [d1, d2] }
  | _ => none }
def auditLostRow : OpenClaim := { program := "ytebmegghojiegaadoor", sum := "9855f720f70d990b8ef31b906ce28f09b3c30020098453d761a38be0b7e97a23", func := "hayloft/hayloftlaw14.AuditLost", spec := "auditLost", unfollowed := true, recurses := true, named := ["hayloft/class.slotBytes"], apart := false, laid := [("hayloft/class.slotBytes", laid_hayloft_class_slotBytes)] }
def AuditLostSaid : Prop := auditLostRow.holds Tryd.pinned (OpenSpec.ofChange auditLostSpec)

/-- ITS FALSE NEIGHBOUR: 'it returns false'. Refute it at one input. -/
def auditLostWrong : ChangeSpec := { name := "auditLost", fn := fun _ => fun
  | [d1, d2] => { results := [.lit (.bool false)], args := [d1, d2] }
  | _ => none }
def AuditLostWrongFalsely : Prop := auditLostRow.holds Tryd.pinned (OpenSpec.ofChange auditLostWrong)

/- THE SECOND FORM. 'bulk': how many values and letters a reading holds, each counted each time it is reached (what is shared counts as often as it is met; a slice's spare places count too). A statement '..UptoSaid' is the law's where the arguments, and the package variables that the reading takes, are together of bulk at most 1048576: NARROWER than '..Said'. Prove '..Said' where nothing that the law and all that it calls make is longer than what came in: it says more and counts as full. Else prove '..UptoSaid'. A law counts once. -/
mutual
def uptoBulk {H : Type} : DataW H → Nat
  | .lit (.string bytes) => bytes.length + 1
  | .lit _ => 1
  | .nil => 1
  | .ptr d => uptoBulk d + 1
  | .slice elems spare => uptoBulkAll elems + uptoBulkAll spare + 1
  | .agg parts => uptoBulkAll parts + 1
  | .iface _ d => uptoBulk d + 1
  | .map entries => uptoBulkEntries entries + 1
  | .held _ => 1
def uptoBulkAll {H : Type} : List (DataW H) → Nat
  | [] => 0
  | d :: r => uptoBulk d + uptoBulkAll r
def uptoBulkEntries {H : Type} : List (Lit × DataW H) → Nat
  | [] => 0
  | x :: r => uptoBulkEntry x + uptoBulkEntries r
def uptoBulkEntry {H : Type} : Lit × DataW H → Nat
  | (.string bytes, d) => bytes.length + uptoBulk d + 1
  | (_, d) => uptoBulk d + 1
 end
def uptoSmall : (H : Type) → List (DataW H) → Bool := fun _ ds => decide (uptoBulkAll ds ≤ 1048576)
def OpenSpec.upto (s : _root_.Go.ChangeSpec) : _root_.Go.OpenSpec := { _root_.Go.OpenSpec.ofChange s with cond := some uptoSmall }

/-- 'hayloftlaw14.AuditChecks', WHERE WHAT IT READS IS OF BULK AT MOST 1048576: true; the input reads as it did. -/
def auditChecksUptoRow : OpenClaim := { program := "ytebmegghojiegaadoor", sum := "9855f720f70d990b8ef31b906ce28f09b3c30020098453d761a38be0b7e97a23", func := "hayloft/hayloftlaw14.AuditChecks", spec := "auditChecks", unfollowed := true, recurses := true, named := ["hayloft/class.slotBytes"], apart := false, laid := [("hayloft/class.slotBytes", laid_hayloft_class_slotBytes)], narrowed := true }
def AuditChecksUptoSaid : Prop := auditChecksUptoRow.holds Tryd.pinned (OpenSpec.upto auditChecksSpec)

/-- 'hayloftlaw14.AuditObjects', WHERE WHAT IT READS IS OF BULK AT MOST 1048576: true; the input reads as it did. -/
def auditObjectsUptoRow : OpenClaim := { program := "ytebmegghojiegaadoor", sum := "9855f720f70d990b8ef31b906ce28f09b3c30020098453d761a38be0b7e97a23", func := "hayloft/hayloftlaw14.AuditObjects", spec := "auditObjects", unfollowed := true, recurses := true, named := ["hayloft/class.slotBytes"], apart := false, laid := [("hayloft/class.slotBytes", laid_hayloft_class_slotBytes)], narrowed := true }
def AuditObjectsUptoSaid : Prop := auditObjectsUptoRow.holds Tryd.pinned (OpenSpec.upto auditObjectsSpec)

/-- 'hayloftlaw14.AuditMoves', WHERE WHAT IT READS IS OF BULK AT MOST 1048576: true; the input reads as it did. -/
def auditMovesUptoRow : OpenClaim := { program := "ytebmegghojiegaadoor", sum := "9855f720f70d990b8ef31b906ce28f09b3c30020098453d761a38be0b7e97a23", func := "hayloft/hayloftlaw14.AuditMoves", spec := "auditMoves", unfollowed := true, recurses := true, named := ["hayloft/class.slotBytes"], apart := false, laid := [("hayloft/class.slotBytes", laid_hayloft_class_slotBytes)], narrowed := true }
def AuditMovesUptoSaid : Prop := auditMovesUptoRow.holds Tryd.pinned (OpenSpec.upto auditMovesSpec)

/-- 'hayloftlaw14.AuditSlides', WHERE WHAT IT READS IS OF BULK AT MOST 1048576: true; the input reads as it did. -/
def auditSlidesUptoRow : OpenClaim := { program := "ytebmegghojiegaadoor", sum := "9855f720f70d990b8ef31b906ce28f09b3c30020098453d761a38be0b7e97a23", func := "hayloft/hayloftlaw14.AuditSlides", spec := "auditSlides", unfollowed := true, recurses := true, named := ["hayloft/class.slotBytes"], apart := false, laid := [("hayloft/class.slotBytes", laid_hayloft_class_slotBytes)], narrowed := true }
def AuditSlidesUptoSaid : Prop := auditSlidesUptoRow.holds Tryd.pinned (OpenSpec.upto auditSlidesSpec)

/-- 'hayloftlaw14.AuditLost', WHERE WHAT IT READS IS OF BULK AT MOST 1048576: true; the input reads as it did. -/
def auditLostUptoRow : OpenClaim := { program := "ytebmegghojiegaadoor", sum := "9855f720f70d990b8ef31b906ce28f09b3c30020098453d761a38be0b7e97a23", func := "hayloft/hayloftlaw14.AuditLost", spec := "auditLost", unfollowed := true, recurses := true, named := ["hayloft/class.slotBytes"], apart := false, laid := [("hayloft/class.slotBytes", laid_hayloft_class_slotBytes)], narrowed := true }
def AuditLostUptoSaid : Prop := auditLostUptoRow.holds Tryd.pinned (OpenSpec.upto auditLostSpec)

end Rows
end Go.Proofs.YtebmegghojiegaaDoor
