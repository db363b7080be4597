/-
  NARROWER THAN 'FOR EVERY INPUT', by the rows' own cells (each row's printed sentence says how): HeapModel: laid · HeapSound: laid · HeapTight: laid · HeapQuiet: laid · HeapBases: laid · HeapWorkers: laid · HeapFields: laid · HeapOf: laid · HeapMakes: laid.
  DERIVED. THE GIVEN ROWS OF THIS SEAT. 9 by the template 'for every input the law returns true; each argument reads behind the call as it read before'; 0 by the template 'total and deterministic' (their statements: YtgdjlopnhecmjaaGreatDoorTotals.lean).
  GIVEN WITH THE SEED: the statements are not yours to turn. If you find one false, say at which input.
  Laid BY PROGRAM, IN A SANDBOX (cutbox-rows.mjs): the forced cells as the released guide's own fill.sh prints them over the translation 8936e3a388e0d778… (all of the seat's roots in one cut). By AI agents, Wed Nov 11 2026. No macro, syntax, notation, axiom, sorry.
-/
import Derived.Test.YtgdjlopnhecmjaaGreatDoorChecked
import GoSem.Claim
import GoSem.ClaimJoined
import GoSem.ClaimMapViews
import Derived.JoinedTies
import Derived.KernelRfl
namespace Go.Proofs.YtgdjlopnhecmjaaGreatDoor
/- THE CELL 'sum', in the pinned program and in every row, IS THE sha256 OF THE DUMP (.gsa) THAT YtgdjlopnhecmjaaGreatDoorProg.lean LOADS. Nothing in Lean hashes anything: it is a label: what it is worth is what the hold of that sum in a sandbox is worth. -/
noncomputable def Tryz.pinned : Pinned := { name := "ytgdjlopnhecmjaagreatdoor", sum := "8936e3a388e0d778067e2040691bae2236bfa1c2de53c5266f329f86a1ad7410", checked := Tryz.checked }
namespace Rows
def none {H : Type} : Left H := { results := [], args := [] }

/- WHAT THE LISTED PACKAGE-LEVEL VARIABLES READ AS WHEN THE CALL BEGINS. Each datum BY PROGRAM (the guide's laid-datum.mjs) off the statement by which the dump's own 'gosem.cut.vars' lays the variable. In a bare row this is a premise. The card (YtgdjlopnhecmjaaGreatDoorCards.lean) ties it to the program's text. -/
def laid_hayloft_class_slotBytes {H : Type} : DataW H := .agg [.lit (.int .i64 16), .lit (.int .i64 24), .lit (.int .i64 32), .lit (.int .i64 48), .lit (.int .i64 64), .lit (.int .i64 96), .lit (.int .i64 128)]
def laid_math_bits_deBruijn64tab {H : Type} : DataW H := .agg [.lit (.int .u8 0), .lit (.int .u8 1), .lit (.int .u8 56), .lit (.int .u8 2), .lit (.int .u8 57), .lit (.int .u8 49), .lit (.int .u8 28), .lit (.int .u8 3), .lit (.int .u8 61), .lit (.int .u8 58), .lit (.int .u8 42), .lit (.int .u8 50), .lit (.int .u8 38), .lit (.int .u8 29), .lit (.int .u8 17), .lit (.int .u8 4), .lit (.int .u8 62), .lit (.int .u8 47), .lit (.int .u8 59), .lit (.int .u8 36), .lit (.int .u8 45), .lit (.int .u8 43), .lit (.int .u8 51), .lit (.int .u8 22), .lit (.int .u8 53), .lit (.int .u8 39), .lit (.int .u8 33), .lit (.int .u8 30), .lit (.int .u8 24), .lit (.int .u8 18), .lit (.int .u8 12), .lit (.int .u8 5), .lit (.int .u8 63), .lit (.int .u8 55), .lit (.int .u8 48), .lit (.int .u8 27), .lit (.int .u8 60), .lit (.int .u8 41), .lit (.int .u8 37), .lit (.int .u8 16), .lit (.int .u8 46), .lit (.int .u8 35), .lit (.int .u8 44), .lit (.int .u8 21), .lit (.int .u8 52), .lit (.int .u8 32), .lit (.int .u8 23), .lit (.int .u8 11), .lit (.int .u8 54), .lit (.int .u8 26), .lit (.int .u8 40), .lit (.int .u8 15), .lit (.int .u8 34), .lit (.int .u8 20), .lit (.int .u8 31), .lit (.int .u8 10), .lit (.int .u8 25), .lit (.int .u8 14), .lit (.int .u8 19), .lit (.int .u8 9), .lit (.int .u8 13), .lit (.int .u8 8), .lit (.int .u8 7), .lit (.int .u8 6)]

/-- 'hayloftlaw15.HeapModel': WHATEVER THE INPUT: true; the input reads as it did. -/
def heapModelSpec : ChangeSpec := { name := "heapModel", fn := fun _ => fun
  | [d1, d2] => { results := [.lit (.bool true)], args := [d1, d2] }
  | _ => none }
def heapModelRow : OpenClaim := { program := "ytgdjlopnhecmjaagreatdoor", sum := "8936e3a388e0d778067e2040691bae2236bfa1c2de53c5266f329f86a1ad7410", func := "hayloft/hayloftlaw15.HeapModel", spec := "heapModel", inPlace := ["slices.overlaps[*hayloft/span.Span]", "slices.overlaps[int]"], unfollowed := true, recurses := true, named := ["hayloft/class.slotBytes", "math/bits.deBruijn64tab"], apart := false, laid := [("hayloft/class.slotBytes", laid_hayloft_class_slotBytes), ("math/bits.deBruijn64tab", laid_math_bits_deBruijn64tab)] }
def HeapModelSaid : Prop := heapModelRow.holds Tryz.pinned (OpenSpec.ofChange heapModelSpec)

/-- ITS FALSE NEIGHBOUR: 'it returns false'. Refute it at one input. -/
def heapModelWrong : ChangeSpec := { name := "heapModel", fn := fun _ => fun
  | [d1, d2] => { results := [.lit (.bool false)], args := [d1, d2] }
  | _ => none }
def HeapModelWrongFalsely : Prop := heapModelRow.holds Tryz.pinned (OpenSpec.ofChange heapModelWrong)

/-- 'hayloftlaw15.HeapSound': WHATEVER THE INPUT: true; the input reads as it did. -/
def heapSoundSpec : ChangeSpec := { name := "heapSound", fn := fun _ => fun
  | [d1, d2] => { results := [.lit (.bool true)], args := [d1, d2] }
  | _ => none }
def heapSoundRow : OpenClaim := { program := "ytgdjlopnhecmjaagreatdoor", sum := "8936e3a388e0d778067e2040691bae2236bfa1c2de53c5266f329f86a1ad7410", func := "hayloft/hayloftlaw15.HeapSound", spec := "heapSound", inPlace := ["slices.overlaps[*hayloft/span.Span]", "slices.overlaps[int]"], unfollowed := true, recurses := true, named := ["hayloft/class.slotBytes", "math/bits.deBruijn64tab"], apart := false, laid := [("hayloft/class.slotBytes", laid_hayloft_class_slotBytes), ("math/bits.deBruijn64tab", laid_math_bits_deBruijn64tab)] }
def HeapSoundSaid : Prop := heapSoundRow.holds Tryz.pinned (OpenSpec.ofChange heapSoundSpec)

/-- ITS FALSE NEIGHBOUR: 'it returns false'. Refute it at one input. -/
def heapSoundWrong : ChangeSpec := { name := "heapSound", fn := fun _ => fun
  | [d1, d2] => { results := [.lit (.bool false)], args := [d1, d2] }
  | _ => none }
def HeapSoundWrongFalsely : Prop := heapSoundRow.holds Tryz.pinned (OpenSpec.ofChange heapSoundWrong)

/-- 'hayloftlaw15.HeapTight': WHATEVER THE INPUT: true; the input reads as it did. -/
def heapTightSpec : ChangeSpec := { name := "heapTight", fn := fun _ => fun
  | [d1, d2, d3] => { results := [.lit (.bool true)], args := [d1, d2, d3] }
  | _ => none }
def heapTightRow : OpenClaim := { program := "ytgdjlopnhecmjaagreatdoor", sum := "8936e3a388e0d778067e2040691bae2236bfa1c2de53c5266f329f86a1ad7410", func := "hayloft/hayloftlaw15.HeapTight", spec := "heapTight", inPlace := ["slices.overlaps[*hayloft/span.Span]", "slices.overlaps[int]"], unfollowed := true, recurses := true, named := ["hayloft/class.slotBytes", "math/bits.deBruijn64tab"], apart := false, laid := [("hayloft/class.slotBytes", laid_hayloft_class_slotBytes), ("math/bits.deBruijn64tab", laid_math_bits_deBruijn64tab)] }
def HeapTightSaid : Prop := heapTightRow.holds Tryz.pinned (OpenSpec.ofChange heapTightSpec)

/-- ITS FALSE NEIGHBOUR: 'it returns false'. Refute it at one input. -/
def heapTightWrong : ChangeSpec := { name := "heapTight", fn := fun _ => fun
  | [d1, d2, d3] => { results := [.lit (.bool false)], args := [d1, d2, d3] }
  | _ => none }
def HeapTightWrongFalsely : Prop := heapTightRow.holds Tryz.pinned (OpenSpec.ofChange heapTightWrong)

/-- 'hayloftlaw15.HeapQuiet': WHATEVER THE INPUT: true; the input reads as it did. -/
def heapQuietSpec : ChangeSpec := { name := "heapQuiet", fn := fun _ => fun
  | [d1, d2, d3] => { results := [.lit (.bool true)], args := [d1, d2, d3] }
  | _ => none }
def heapQuietRow : OpenClaim := { program := "ytgdjlopnhecmjaagreatdoor", sum := "8936e3a388e0d778067e2040691bae2236bfa1c2de53c5266f329f86a1ad7410", func := "hayloft/hayloftlaw15.HeapQuiet", spec := "heapQuiet", inPlace := ["slices.overlaps[*hayloft/span.Span]", "slices.overlaps[int]"], unfollowed := true, recurses := true, named := ["hayloft/class.slotBytes", "math/bits.deBruijn64tab"], apart := false, laid := [("hayloft/class.slotBytes", laid_hayloft_class_slotBytes), ("math/bits.deBruijn64tab", laid_math_bits_deBruijn64tab)] }
def HeapQuietSaid : Prop := heapQuietRow.holds Tryz.pinned (OpenSpec.ofChange heapQuietSpec)

/-- ITS FALSE NEIGHBOUR: 'it returns false'. Refute it at one input. -/
def heapQuietWrong : ChangeSpec := { name := "heapQuiet", fn := fun _ => fun
  | [d1, d2, d3] => { results := [.lit (.bool false)], args := [d1, d2, d3] }
  | _ => none }
def HeapQuietWrongFalsely : Prop := heapQuietRow.holds Tryz.pinned (OpenSpec.ofChange heapQuietWrong)

/-- 'hayloftlaw15.HeapBases': WHATEVER THE INPUT: true; the input reads as it did. -/
def heapBasesSpec : ChangeSpec := { name := "heapBases", fn := fun _ => fun
  | [d1, d2, d3] => { results := [.lit (.bool true)], args := [d1, d2, d3] }
  | _ => none }
def heapBasesRow : OpenClaim := { program := "ytgdjlopnhecmjaagreatdoor", sum := "8936e3a388e0d778067e2040691bae2236bfa1c2de53c5266f329f86a1ad7410", func := "hayloft/hayloftlaw15.HeapBases", spec := "heapBases", inPlace := ["slices.overlaps[*hayloft/span.Span]", "slices.overlaps[int]"], unfollowed := true, recurses := true, named := ["hayloft/class.slotBytes", "math/bits.deBruijn64tab"], apart := false, laid := [("hayloft/class.slotBytes", laid_hayloft_class_slotBytes), ("math/bits.deBruijn64tab", laid_math_bits_deBruijn64tab)] }
def HeapBasesSaid : Prop := heapBasesRow.holds Tryz.pinned (OpenSpec.ofChange heapBasesSpec)

/-- ITS FALSE NEIGHBOUR: 'it returns false'. Refute it at one input. -/
def heapBasesWrong : ChangeSpec := { name := "heapBases", fn := fun _ => fun
  | [d1, d2, d3] => { results := [.lit (.bool false)], args := [d1, d2, d3] }
  | _ => none }
def HeapBasesWrongFalsely : Prop := heapBasesRow.holds Tryz.pinned (OpenSpec.ofChange heapBasesWrong)

/-- 'hayloftlaw15.HeapWorkers': WHATEVER THE INPUT: true; the input reads as it did. -/
def heapWorkersSpec : ChangeSpec := { name := "heapWorkers", fn := fun _ => fun
  | [d1, d2] => { results := [.lit (.bool true)], args := [d1, d2] }
  | _ => none }
def heapWorkersRow : OpenClaim := { program := "ytgdjlopnhecmjaagreatdoor", sum := "8936e3a388e0d778067e2040691bae2236bfa1c2de53c5266f329f86a1ad7410", func := "hayloft/hayloftlaw15.HeapWorkers", spec := "heapWorkers", inPlace := ["slices.overlaps[*hayloft/span.Span]", "slices.overlaps[int]"], unfollowed := true, recurses := true, named := ["hayloft/class.slotBytes", "math/bits.deBruijn64tab"], apart := false, laid := [("hayloft/class.slotBytes", laid_hayloft_class_slotBytes), ("math/bits.deBruijn64tab", laid_math_bits_deBruijn64tab)] }
def HeapWorkersSaid : Prop := heapWorkersRow.holds Tryz.pinned (OpenSpec.ofChange heapWorkersSpec)

/-- ITS FALSE NEIGHBOUR: 'it returns false'. Refute it at one input. -/
def heapWorkersWrong : ChangeSpec := { name := "heapWorkers", fn := fun _ => fun
  | [d1, d2] => { results := [.lit (.bool false)], args := [d1, d2] }
  | _ => none }
def HeapWorkersWrongFalsely : Prop := heapWorkersRow.holds Tryz.pinned (OpenSpec.ofChange heapWorkersWrong)

/-- 'hayloftlaw15.HeapFields': WHATEVER THE INPUT: true; the input reads as it did. -/
def heapFieldsSpec : ChangeSpec := { name := "heapFields", fn := fun _ => fun
  | [d1, d2, d3] => { results := [.lit (.bool true)], args := [d1, d2, d3] }
  | _ => none }
def heapFieldsRow : OpenClaim := { program := "ytgdjlopnhecmjaagreatdoor", sum := "8936e3a388e0d778067e2040691bae2236bfa1c2de53c5266f329f86a1ad7410", func := "hayloft/hayloftlaw15.HeapFields", spec := "heapFields", inPlace := ["slices.overlaps[*hayloft/span.Span]", "slices.overlaps[int]"], unfollowed := true, recurses := true, named := ["hayloft/class.slotBytes", "math/bits.deBruijn64tab"], apart := false, laid := [("hayloft/class.slotBytes", laid_hayloft_class_slotBytes), ("math/bits.deBruijn64tab", laid_math_bits_deBruijn64tab)] }
def HeapFieldsSaid : Prop := heapFieldsRow.holds Tryz.pinned (OpenSpec.ofChange heapFieldsSpec)

/-- ITS FALSE NEIGHBOUR: 'it returns false'. Refute it at one input. -/
def heapFieldsWrong : ChangeSpec := { name := "heapFields", fn := fun _ => fun
  | [d1, d2, d3] => { results := [.lit (.bool false)], args := [d1, d2, d3] }
  | _ => none }
def HeapFieldsWrongFalsely : Prop := heapFieldsRow.holds Tryz.pinned (OpenSpec.ofChange heapFieldsWrong)

/-- 'hayloftlaw15.HeapOf': WHATEVER THE INPUT: true; the input reads as it did. -/
def heapOfSpec : ChangeSpec := { name := "heapOf", fn := fun _ => fun
  | [d1, d2, d3] => { results := [.lit (.bool true)], args := [d1, d2, d3] }
  | _ => none }
def heapOfRow : OpenClaim := { program := "ytgdjlopnhecmjaagreatdoor", sum := "8936e3a388e0d778067e2040691bae2236bfa1c2de53c5266f329f86a1ad7410", func := "hayloft/hayloftlaw15.HeapOf", spec := "heapOf", inPlace := ["slices.overlaps[*hayloft/span.Span]", "slices.overlaps[int]"], unfollowed := true, recurses := true, named := ["hayloft/class.slotBytes", "math/bits.deBruijn64tab"], apart := false, laid := [("hayloft/class.slotBytes", laid_hayloft_class_slotBytes), ("math/bits.deBruijn64tab", laid_math_bits_deBruijn64tab)] }
def HeapOfSaid : Prop := heapOfRow.holds Tryz.pinned (OpenSpec.ofChange heapOfSpec)

/-- ITS FALSE NEIGHBOUR: 'it returns false'. Refute it at one input. -/
def heapOfWrong : ChangeSpec := { name := "heapOf", fn := fun _ => fun
  | [d1, d2, d3] => { results := [.lit (.bool false)], args := [d1, d2, d3] }
  | _ => none }
def HeapOfWrongFalsely : Prop := heapOfRow.holds Tryz.pinned (OpenSpec.ofChange heapOfWrong)

/-- 'hayloftlaw15.HeapMakes': WHATEVER THE INPUT: true; the input reads as it did. -/
def heapMakesSpec : ChangeSpec := { name := "heapMakes", fn := fun _ => fun
  | [d1, d2] => { results := [.lit (.bool true)], args := [d1, d2] }
  | _ => none }
def heapMakesRow : OpenClaim := { program := "ytgdjlopnhecmjaagreatdoor", sum := "8936e3a388e0d778067e2040691bae2236bfa1c2de53c5266f329f86a1ad7410", func := "hayloft/hayloftlaw15.HeapMakes", spec := "heapMakes", inPlace := ["slices.overlaps[*hayloft/span.Span]", "slices.overlaps[int]"], unfollowed := true, recurses := true, named := ["hayloft/class.slotBytes", "math/bits.deBruijn64tab"], apart := false, laid := [("hayloft/class.slotBytes", laid_hayloft_class_slotBytes), ("math/bits.deBruijn64tab", laid_math_bits_deBruijn64tab)] }
def HeapMakesSaid : Prop := heapMakesRow.holds Tryz.pinned (OpenSpec.ofChange heapMakesSpec)

/-- ITS FALSE NEIGHBOUR: 'it returns false'. Refute it at one input. -/
def heapMakesWrong : ChangeSpec := { name := "heapMakes", fn := fun _ => fun
  | [d1, d2] => { results := [.lit (.bool false)], args := [d1, d2] }
  | _ => none }
def HeapMakesWrongFalsely : Prop := heapMakesRow.holds Tryz.pinned (OpenSpec.ofChange heapMakesWrong)

/- THE SECOND FORM. 'bulk': how many values and letters a reading holds, each counted each time it is reached (what is shared counts as often as it is met; a slice's spare places count too). A statement '..UptoSaid' is the law's where the arguments, and the package variables that the reading takes, are together of bulk at most 1048576: NARROWER than '..Said'. Prove '..Said' where nothing that the law and all that it calls make is longer than what came in: it says more and counts as full. Else prove '..UptoSaid'. A law counts once. -/
mutual
def uptoBulk {H : Type} : DataW H → Nat
  | .lit (.string bytes) => bytes.length + 1
  | .lit _ => 1
  | .nil => 1
  | .ptr d => uptoBulk d + 1
  | .slice elems spare => uptoBulkAll elems + uptoBulkAll spare + 1
  | .agg parts => uptoBulkAll parts + 1
  | .iface _ d => uptoBulk d + 1
  | .map entries => uptoBulkEntries entries + 1
  | .held _ => 1
def uptoBulkAll {H : Type} : List (DataW H) → Nat
  | [] => 0
  | d :: r => uptoBulk d + uptoBulkAll r
def uptoBulkEntries {H : Type} : List (Lit × DataW H) → Nat
  | [] => 0
  | x :: r => uptoBulkEntry x + uptoBulkEntries r
def uptoBulkEntry {H : Type} : Lit × DataW H → Nat
  | (.string bytes, d) => bytes.length + uptoBulk d + 1
  | (_, d) => uptoBulk d + 1
 end
def uptoSmall : (H : Type) → List (DataW H) → Bool := fun _ ds => decide (uptoBulkAll ds ≤ 1048576)
def OpenSpec.upto (s : _root_.Go.ChangeSpec) : _root_.Go.OpenSpec := { _root_.Go.OpenSpec.ofChange s with cond := some uptoSmall }

/-- 'hayloftlaw15.HeapModel', WHERE WHAT IT READS IS OF BULK AT MOST 1048576: true; the input reads as it did. -/
def heapModelUptoRow : OpenClaim := { program := "ytgdjlopnhecmjaagreatdoor", sum := "8936e3a388e0d778067e2040691bae2236bfa1c2de53c5266f329f86a1ad7410", func := "hayloft/hayloftlaw15.HeapModel", spec := "heapModel", inPlace := ["slices.overlaps[*hayloft/span.Span]", "slices.overlaps[int]"], unfollowed := true, recurses := true, named := ["hayloft/class.slotBytes", "math/bits.deBruijn64tab"], apart := false, laid := [("hayloft/class.slotBytes", laid_hayloft_class_slotBytes), ("math/bits.deBruijn64tab", laid_math_bits_deBruijn64tab)], narrowed := true }
def HeapModelUptoSaid : Prop := heapModelUptoRow.holds Tryz.pinned (OpenSpec.upto heapModelSpec)

/-- 'hayloftlaw15.HeapSound', WHERE WHAT IT READS IS OF BULK AT MOST 1048576: true; the input reads as it did. -/
def heapSoundUptoRow : OpenClaim := { program := "ytgdjlopnhecmjaagreatdoor", sum := "8936e3a388e0d778067e2040691bae2236bfa1c2de53c5266f329f86a1ad7410", func := "hayloft/hayloftlaw15.HeapSound", spec := "heapSound", inPlace := ["slices.overlaps[*hayloft/span.Span]", "slices.overlaps[int]"], unfollowed := true, recurses := true, named := ["hayloft/class.slotBytes", "math/bits.deBruijn64tab"], apart := false, laid := [("hayloft/class.slotBytes", laid_hayloft_class_slotBytes), ("math/bits.deBruijn64tab", laid_math_bits_deBruijn64tab)], narrowed := true }
def HeapSoundUptoSaid : Prop := heapSoundUptoRow.holds Tryz.pinned (OpenSpec.upto heapSoundSpec)

/-- 'hayloftlaw15.HeapTight', WHERE WHAT IT READS IS OF BULK AT MOST 1048576: true; the input reads as it did. -/
def heapTightUptoRow : OpenClaim := { program := "ytgdjlopnhecmjaagreatdoor", sum := "8936e3a388e0d778067e2040691bae2236bfa1c2de53c5266f329f86a1ad7410", func := "hayloft/hayloftlaw15.HeapTight", spec := "heapTight", inPlace := ["slices.overlaps[*hayloft/span.Span]", "slices.overlaps[int]"], unfollowed := true, recurses := true, named := ["hayloft/class.slotBytes", "math/bits.deBruijn64tab"], apart := false, laid := [("hayloft/class.slotBytes", laid_hayloft_class_slotBytes), ("math/bits.deBruijn64tab", laid_math_bits_deBruijn64tab)], narrowed := true }
def HeapTightUptoSaid : Prop := heapTightUptoRow.holds Tryz.pinned (OpenSpec.upto heapTightSpec)

/-- 'hayloftlaw15.HeapQuiet', WHERE WHAT IT READS IS OF BULK AT MOST 1048576: true; the input reads as it did. -/
def heapQuietUptoRow : OpenClaim := { program := "ytgdjlopnhecmjaagreatdoor", sum := "8936e3a388e0d778067e2040691bae2236bfa1c2de53c5266f329f86a1ad7410", func := "hayloft/hayloftlaw15.HeapQuiet", spec := "heapQuiet", inPlace := ["slices.overlaps[*hayloft/span.Span]", "slices.overlaps[int]"], unfollowed := true, recurses := true, named := ["hayloft/class.slotBytes", "math/bits.deBruijn64tab"], apart := false, laid := [("hayloft/class.slotBytes", laid_hayloft_class_slotBytes), ("math/bits.deBruijn64tab", laid_math_bits_deBruijn64tab)], narrowed := true }
def HeapQuietUptoSaid : Prop := heapQuietUptoRow.holds Tryz.pinned (OpenSpec.upto heapQuietSpec)

/-- 'hayloftlaw15.HeapBases', WHERE WHAT IT READS IS OF BULK AT MOST 1048576: true; the input reads as it did. -/
def heapBasesUptoRow : OpenClaim := { program := "ytgdjlopnhecmjaagreatdoor", sum := "8936e3a388e0d778067e2040691bae2236bfa1c2de53c5266f329f86a1ad7410", func := "hayloft/hayloftlaw15.HeapBases", spec := "heapBases", inPlace := ["slices.overlaps[*hayloft/span.Span]", "slices.overlaps[int]"], unfollowed := true, recurses := true, named := ["hayloft/class.slotBytes", "math/bits.deBruijn64tab"], apart := false, laid := [("hayloft/class.slotBytes", laid_hayloft_class_slotBytes), ("math/bits.deBruijn64tab", laid_math_bits_deBruijn64tab)], narrowed := true }
def HeapBasesUptoSaid : Prop := heapBasesUptoRow.holds Tryz.pinned (OpenSpec.upto heapBasesSpec)

/-- 'hayloftlaw15.HeapWorkers', WHERE WHAT IT READS IS OF BULK AT MOST 1048576: true; the input reads as it did. -/
def heapWorkersUptoRow : OpenClaim := { program := "ytgdjlopnhecmjaagreatdoor", sum := "8936e3a388e0d778067e2040691bae2236bfa1c2de53c5266f329f86a1ad7410", func := "hayloft/hayloftlaw15.HeapWorkers", spec := "heapWorkers", inPlace := ["slices.overlaps[*hayloft/span.Span]", "slices.overlaps[int]"], unfollowed := true, recurses := true, named := ["hayloft/class.slotBytes", "math/bits.deBruijn64tab"], apart := false, laid := [("hayloft/class.slotBytes", laid_hayloft_class_slotBytes), ("math/bits.deBruijn64tab", laid_math_bits_deBruijn64tab)], narrowed := true }
def HeapWorkersUptoSaid : Prop := heapWorkersUptoRow.holds Tryz.pinned (OpenSpec.upto heapWorkersSpec)

/-- 'hayloftlaw15.HeapFields', WHERE WHAT IT READS IS OF BULK AT MOST 1048576: true; the input reads as it did. -/
def heapFieldsUptoRow : OpenClaim := { program := "ytgdjlopnhecmjaagreatdoor", sum := "8936e3a388e0d778067e2040691bae2236bfa1c2de53c5266f329f86a1ad7410", func := "hayloft/hayloftlaw15.HeapFields", spec := "heapFields", inPlace := ["slices.overlaps[*hayloft/span.Span]", "slices.overlaps[int]"], unfollowed := true, recurses := true, named := ["hayloft/class.slotBytes", "math/bits.deBruijn64tab"], apart := false, laid := [("hayloft/class.slotBytes", laid_hayloft_class_slotBytes), ("math/bits.deBruijn64tab", laid_math_bits_deBruijn64tab)], narrowed := true }
def HeapFieldsUptoSaid : Prop := heapFieldsUptoRow.holds Tryz.pinned (OpenSpec.upto heapFieldsSpec)

/-- 'hayloftlaw15.HeapOf', WHERE WHAT IT READS IS OF BULK AT MOST 1048576: true; the input reads as it did. -/
def heapOfUptoRow : OpenClaim := { program := "ytgdjlopnhecmjaagreatdoor", sum := "8936e3a388e0d778067e2040691bae2236bfa1c2de53c5266f329f86a1ad7410", func := "hayloft/hayloftlaw15.HeapOf", spec := "heapOf", inPlace := ["slices.overlaps[*hayloft/span.Span]", "slices.overlaps[int]"], unfollowed := true, recurses := true, named := ["hayloft/class.slotBytes", "math/bits.deBruijn64tab"], apart := false, laid := [("hayloft/class.slotBytes", laid_hayloft_class_slotBytes), ("math/bits.deBruijn64tab", laid_math_bits_deBruijn64tab)], narrowed := true }
def HeapOfUptoSaid : Prop := heapOfUptoRow.holds Tryz.pinned (OpenSpec.upto heapOfSpec)

/-- 'hayloftlaw15.HeapMakes', WHERE WHAT IT READS IS OF BULK AT MOST 1048576: true; the input reads as it did. -/
def heapMakesUptoRow : OpenClaim := { program := "ytgdjlopnhecmjaagreatdoor", sum := "8936e3a388e0d778067e2040691bae2236bfa1c2de53c5266f329f86a1ad7410", func := "hayloft/hayloftlaw15.HeapMakes", spec := "heapMakes", inPlace := ["slices.overlaps[*hayloft/span.Span]", "slices.overlaps[int]"], unfollowed := true, recurses := true, named := ["hayloft/class.slotBytes", "math/bits.deBruijn64tab"], apart := false, laid := [("hayloft/class.slotBytes", laid_hayloft_class_slotBytes), ("math/bits.deBruijn64tab", laid_math_bits_deBruijn64tab)], narrowed := true }
def HeapMakesUptoSaid : Prop := heapMakesUptoRow.holds Tryz.pinned (OpenSpec.upto heapMakesSpec)

end Rows
end Go.Proofs.YtgdjlopnhecmjaaGreatDoor
