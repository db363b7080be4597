/-
  NARROWER THAN 'FOR EVERY INPUT', by the rows' own cells (each row's printed sentence says how): ClassOf: laid · ClassTells: laid · ClassNeeds: laid · ClassFits: laid · ClassRises: laid · ClassMore: laid.
  DERIVED. THE GIVEN ROWS OF THIS SEAT. 6 by the template 'for every input the law returns true; each argument reads behind the call as it read before'; 0 by the template 'total and deterministic' (their statements: YtdfnhbbnadiijaaDoorTotals.lean).
  GIVEN WITH THE SEED: the statements are not yours to turn. If you find one false, say at which input.
  Laid BY PROGRAM, IN A SANDBOX (cutbox-rows.mjs): the forced cells as the released guide's own fill.sh prints them over the translation 68c321a1e1b3aa42… (all of the seat's roots in one cut). By AI agents, Wed Nov 11 2026. No macro, syntax, notation, axiom, sorry.
-/
import Derived.Test.YtdfnhbbnadiijaaDoorChecked
import GoSem.Claim
import GoSem.ClaimJoined
import GoSem.ClaimMapViews
import Derived.JoinedTies
import Derived.KernelRfl
namespace Go.Proofs.YtdfnhbbnadiijaaDoor
/- THE CELL 'sum', in the pinned program and in every row, IS THE sha256 OF THE DUMP (.gsa) THAT YtdfnhbbnadiijaaDoorProg.lean LOADS. Nothing in Lean hashes anything: it is a label: what it is worth is what the hold of that sum in a sandbox is worth. -/
noncomputable def Tryd.pinned : Pinned := { name := "ytdfnhbbnadiijaadoor", sum := "68c321a1e1b3aa426c6555fca969c9ec05a499f44fd83d7485a3b25592b09750", checked := Tryd.checked }
namespace Rows
def none {H : Type} : Left H := { results := [], args := [] }

/- WHAT THE LISTED PACKAGE-LEVEL VARIABLES READ AS WHEN THE CALL BEGINS. Each datum BY PROGRAM (the guide's laid-datum.mjs) off the statement by which the dump's own 'gosem.cut.vars' lays the variable. In a bare row this is a premise. The card (YtdfnhbbnadiijaaDoorCards.lean) ties it to the program's text. -/
def laid_hayloft_class_slotBytes {H : Type} : DataW H := .agg [.lit (.int .i64 16), .lit (.int .i64 24), .lit (.int .i64 32), .lit (.int .i64 48), .lit (.int .i64 64), .lit (.int .i64 96), .lit (.int .i64 128)]

/-- 'hayloftlaw06.ClassOf': WHATEVER THE INPUT: true; the input reads as it did. -/
def classOfSpec : ChangeSpec := { name := "classOf", fn := fun _ => fun
  | [d] => { results := [.lit (.bool true)], args := [d] }
  | _ => none }
def classOfRow : OpenClaim := { program := "ytdfnhbbnadiijaadoor", sum := "68c321a1e1b3aa426c6555fca969c9ec05a499f44fd83d7485a3b25592b09750", func := "hayloft/hayloftlaw06.ClassOf", spec := "classOf", named := ["hayloft/class.slotBytes"], apart := false, laid := [("hayloft/class.slotBytes", laid_hayloft_class_slotBytes)] }
def ClassOfSaid : Prop := classOfRow.holds Tryd.pinned (OpenSpec.ofChange classOfSpec)

/-- ITS FALSE NEIGHBOUR: 'it returns false'. Refute it at one input. -/
def classOfWrong : ChangeSpec := { name := "classOf", fn := fun _ => fun
  | [d] => { results := [.lit (.bool false)], args := [d] }
  | _ => none }
def ClassOfWrongFalsely : Prop := classOfRow.holds Tryd.pinned (OpenSpec.ofChange classOfWrong)

/-- 'hayloftlaw06.ClassTells': WHATEVER THE INPUT: true; the input reads as it did. -/
def classTellsSpec : ChangeSpec := { name := "classTells", fn := fun _ => fun
  | [d1, d2] => { results := [.lit (.bool true)], args := [d1, d2] }
  | _ => none }
def classTellsRow : OpenClaim := { program := "ytdfnhbbnadiijaadoor", sum := "68c321a1e1b3aa426c6555fca969c9ec05a499f44fd83d7485a3b25592b09750", func := "hayloft/hayloftlaw06.ClassTells", spec := "classTells", named := ["hayloft/class.slotBytes"], apart := false, laid := [("hayloft/class.slotBytes", laid_hayloft_class_slotBytes)] }
def ClassTellsSaid : Prop := classTellsRow.holds Tryd.pinned (OpenSpec.ofChange classTellsSpec)

/-- ITS FALSE NEIGHBOUR: 'it returns false'. Refute it at one input. -/
def classTellsWrong : ChangeSpec := { name := "classTells", fn := fun _ => fun
  | [d1, d2] => { results := [.lit (.bool false)], args := [d1, d2] }
  | _ => none }
def ClassTellsWrongFalsely : Prop := classTellsRow.holds Tryd.pinned (OpenSpec.ofChange classTellsWrong)

/-- 'hayloftlaw06.ClassNeeds': WHATEVER THE INPUT: true; the input reads as it did. -/
def classNeedsSpec : ChangeSpec := { name := "classNeeds", fn := fun _ => fun
  | [d] => { results := [.lit (.bool true)], args := [d] }
  | _ => none }
def classNeedsRow : OpenClaim := { program := "ytdfnhbbnadiijaadoor", sum := "68c321a1e1b3aa426c6555fca969c9ec05a499f44fd83d7485a3b25592b09750", func := "hayloft/hayloftlaw06.ClassNeeds", spec := "classNeeds", named := ["hayloft/class.slotBytes"], apart := false, laid := [("hayloft/class.slotBytes", laid_hayloft_class_slotBytes)] }
def ClassNeedsSaid : Prop := classNeedsRow.holds Tryd.pinned (OpenSpec.ofChange classNeedsSpec)

/-- ITS FALSE NEIGHBOUR: 'it returns false'. Refute it at one input. -/
def classNeedsWrong : ChangeSpec := { name := "classNeeds", fn := fun _ => fun
  | [d] => { results := [.lit (.bool false)], args := [d] }
  | _ => none }
def ClassNeedsWrongFalsely : Prop := classNeedsRow.holds Tryd.pinned (OpenSpec.ofChange classNeedsWrong)

/-- 'hayloftlaw06.ClassFits': WHATEVER THE INPUT: true; the input reads as it did. -/
def classFitsSpec : ChangeSpec := { name := "classFits", fn := fun _ => fun
  | [d] => { results := [.lit (.bool true)], args := [d] }
  | _ => none }
def classFitsRow : OpenClaim := { program := "ytdfnhbbnadiijaadoor", sum := "68c321a1e1b3aa426c6555fca969c9ec05a499f44fd83d7485a3b25592b09750", func := "hayloft/hayloftlaw06.ClassFits", spec := "classFits", named := ["hayloft/class.slotBytes"], apart := false, laid := [("hayloft/class.slotBytes", laid_hayloft_class_slotBytes)] }
def ClassFitsSaid : Prop := classFitsRow.holds Tryd.pinned (OpenSpec.ofChange classFitsSpec)

/-- ITS FALSE NEIGHBOUR: 'it returns false'. Refute it at one input. -/
def classFitsWrong : ChangeSpec := { name := "classFits", fn := fun _ => fun
  | [d] => { results := [.lit (.bool false)], args := [d] }
  | _ => none }
def ClassFitsWrongFalsely : Prop := classFitsRow.holds Tryd.pinned (OpenSpec.ofChange classFitsWrong)

/-- 'hayloftlaw06.ClassRises': WHATEVER THE INPUT: true; the input reads as it did. -/
def classRisesSpec : ChangeSpec := { name := "classRises", fn := fun _ => fun
  | [d1, d2] => { results := [.lit (.bool true)], args := [d1, d2] }
  | _ => none }
def classRisesRow : OpenClaim := { program := "ytdfnhbbnadiijaadoor", sum := "68c321a1e1b3aa426c6555fca969c9ec05a499f44fd83d7485a3b25592b09750", func := "hayloft/hayloftlaw06.ClassRises", spec := "classRises", named := ["hayloft/class.slotBytes"], apart := false, laid := [("hayloft/class.slotBytes", laid_hayloft_class_slotBytes)] }
def ClassRisesSaid : Prop := classRisesRow.holds Tryd.pinned (OpenSpec.ofChange classRisesSpec)

/-- ITS FALSE NEIGHBOUR: 'it returns false'. Refute it at one input. -/
def classRisesWrong : ChangeSpec := { name := "classRises", fn := fun _ => fun
  | [d1, d2] => { results := [.lit (.bool false)], args := [d1, d2] }
  | _ => none }
def ClassRisesWrongFalsely : Prop := classRisesRow.holds Tryd.pinned (OpenSpec.ofChange classRisesWrong)

/-- 'hayloftlaw06.ClassMore': WHATEVER THE INPUT: true; the input reads as it did. -/
def classMoreSpec : ChangeSpec := { name := "classMore", fn := fun _ => fun
  | [d1, d2] => { results := [.lit (.bool true)], args := [d1, d2] }
  | _ => none }
def classMoreRow : OpenClaim := { program := "ytdfnhbbnadiijaadoor", sum := "68c321a1e1b3aa426c6555fca969c9ec05a499f44fd83d7485a3b25592b09750", func := "hayloft/hayloftlaw06.ClassMore", spec := "classMore", named := ["hayloft/class.slotBytes"], apart := false, laid := [("hayloft/class.slotBytes", laid_hayloft_class_slotBytes)] }
def ClassMoreSaid : Prop := classMoreRow.holds Tryd.pinned (OpenSpec.ofChange classMoreSpec)

/-- ITS FALSE NEIGHBOUR: 'it returns false'. Refute it at one input. -/
def classMoreWrong : ChangeSpec := { name := "classMore", fn := fun _ => fun
  | [d1, d2] => { results := [.lit (.bool false)], args := [d1, d2] }
  | _ => none }
def ClassMoreWrongFalsely : Prop := classMoreRow.holds Tryd.pinned (OpenSpec.ofChange classMoreWrong)

/- THE SECOND FORM. 'bulk': how many values and letters a reading holds, each counted each time it is reached (what is shared counts as often as it is met; a slice's spare places count too). A statement '..UptoSaid' is the law's where the arguments, and the package variables that the reading takes, are together of bulk at most 1048576: NARROWER than '..Said'. Prove '..Said' where nothing that the law and all that it calls make is longer than what came in: it says more and counts as full. Else prove '..UptoSaid'. A law counts once. -/
mutual
def uptoBulk {H : Type} : DataW H → Nat
  | .lit (.string bytes) => bytes.length + 1
  | .lit _ => 1
  | .nil => 1
  | .ptr d => uptoBulk d + 1
  | .slice elems spare => uptoBulkAll elems + uptoBulkAll spare + 1
  | .agg parts => uptoBulkAll parts + 1
  | .iface _ d => uptoBulk d + 1
  | .map entries => uptoBulkEntries entries + 1
  | .held _ => 1
def uptoBulkAll {H : Type} : List (DataW H) → Nat
  | [] => 0
  | d :: r => uptoBulk d + uptoBulkAll r
def uptoBulkEntries {H : Type} : List (Lit × DataW H) → Nat
  | [] => 0
  | x :: r => uptoBulkEntry x + uptoBulkEntries r
def uptoBulkEntry {H : Type} : Lit × DataW H → Nat
  | (.string bytes, d) => bytes.length + uptoBulk d + 1
  | (_, d) => uptoBulk d + 1
 end
def uptoSmall : (H : Type) → List (DataW H) → Bool := fun _ ds => decide (uptoBulkAll ds ≤ 1048576)
def OpenSpec.upto (s : _root_.Go.ChangeSpec) : _root_.Go.OpenSpec := { _root_.Go.OpenSpec.ofChange s with cond := some uptoSmall }

/-- 'hayloftlaw06.ClassOf', WHERE WHAT IT READS IS OF BULK AT MOST 1048576: true; the input reads as it did. -/
def classOfUptoRow : OpenClaim := { program := "ytdfnhbbnadiijaadoor", sum := "68c321a1e1b3aa426c6555fca969c9ec05a499f44fd83d7485a3b25592b09750", func := "hayloft/hayloftlaw06.ClassOf", spec := "classOf", named := ["hayloft/class.slotBytes"], apart := false, laid := [("hayloft/class.slotBytes", laid_hayloft_class_slotBytes)], narrowed := true }
def ClassOfUptoSaid : Prop := classOfUptoRow.holds Tryd.pinned (OpenSpec.upto classOfSpec)

/-- 'hayloftlaw06.ClassTells', WHERE WHAT IT READS IS OF BULK AT MOST 1048576: true; the input reads as it did. -/
def classTellsUptoRow : OpenClaim := { program := "ytdfnhbbnadiijaadoor", sum := "68c321a1e1b3aa426c6555fca969c9ec05a499f44fd83d7485a3b25592b09750", func := "hayloft/hayloftlaw06.ClassTells", spec := "classTells", named := ["hayloft/class.slotBytes"], apart := false, laid := [("hayloft/class.slotBytes", laid_hayloft_class_slotBytes)], narrowed := true }
def ClassTellsUptoSaid : Prop := classTellsUptoRow.holds Tryd.pinned (OpenSpec.upto classTellsSpec)

/-- 'hayloftlaw06.ClassNeeds', WHERE WHAT IT READS IS OF BULK AT MOST 1048576: true; the input reads as it did. -/
def classNeedsUptoRow : OpenClaim := { program := "ytdfnhbbnadiijaadoor", sum := "68c321a1e1b3aa426c6555fca969c9ec05a499f44fd83d7485a3b25592b09750", func := "hayloft/hayloftlaw06.ClassNeeds", spec := "classNeeds", named := ["hayloft/class.slotBytes"], apart := false, laid := [("hayloft/class.slotBytes", laid_hayloft_class_slotBytes)], narrowed := true }
def ClassNeedsUptoSaid : Prop := classNeedsUptoRow.holds Tryd.pinned (OpenSpec.upto classNeedsSpec)

/-- 'hayloftlaw06.ClassFits', WHERE WHAT IT READS IS OF BULK AT MOST 1048576: true; the input reads as it did. -/
def classFitsUptoRow : OpenClaim := { program := "ytdfnhbbnadiijaadoor", sum := "68c321a1e1b3aa426c6555fca969c9ec05a499f44fd83d7485a3b25592b09750", func := "hayloft/hayloftlaw06.ClassFits", spec := "classFits", named := ["hayloft/class.slotBytes"], apart := false, laid := [("hayloft/class.slotBytes", laid_hayloft_class_slotBytes)], narrowed := true }
def ClassFitsUptoSaid : Prop := classFitsUptoRow.holds Tryd.pinned (OpenSpec.upto classFitsSpec)

/-- 'hayloftlaw06.ClassRises', WHERE WHAT IT READS IS OF BULK AT MOST 1048576: true; the input reads as it did. -/
def classRisesUptoRow : OpenClaim := { program := "ytdfnhbbnadiijaadoor", sum := "68c321a1e1b3aa426c6555fca969c9ec05a499f44fd83d7485a3b25592b09750", func := "hayloft/hayloftlaw06.ClassRises", spec := "classRises", named := ["hayloft/class.slotBytes"], apart := false, laid := [("hayloft/class.slotBytes", laid_hayloft_class_slotBytes)], narrowed := true }
def ClassRisesUptoSaid : Prop := classRisesUptoRow.holds Tryd.pinned (OpenSpec.upto classRisesSpec)

/-- 'hayloftlaw06.ClassMore', WHERE WHAT IT READS IS OF BULK AT MOST 1048576: true; the input reads as it did. -/
def classMoreUptoRow : OpenClaim := { program := "ytdfnhbbnadiijaadoor", sum := "68c321a1e1b3aa426c6555fca969c9ec05a499f44fd83d7485a3b25592b09750", func := "hayloft/hayloftlaw06.ClassMore", spec := "classMore", named := ["hayloft/class.slotBytes"], apart := false, laid := [("hayloft/class.slotBytes", laid_hayloft_class_slotBytes)], narrowed := true }
def ClassMoreUptoSaid : Prop := classMoreUptoRow.holds Tryd.pinned (OpenSpec.upto classMoreSpec)

end Rows
end Go.Proofs.YtdfnhbbnadiijaaDoor
