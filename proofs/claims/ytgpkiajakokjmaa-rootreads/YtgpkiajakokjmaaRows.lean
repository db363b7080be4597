/-
  No cell of these rows narrows 'for every input' (looked for: loops, veiled, ifaces, maps, wideKeys, modest, calm, conditions, laid).
  DERIVED. THE GIVEN ROWS OF THIS SEAT. 5 by the template 'for every input the law returns true; each argument reads behind the call as it read before'; 0 by the template 'total and deterministic' (their statements: YtgpkiajakokjmaaTotals.lean).
  GIVEN WITH THE SEED: the statements are not yours to turn. If you find one false, say at which input.
  Laid BY PROGRAM, IN A SANDBOX (cutbox-rows.mjs): the forced cells as the released guide's own fill.sh prints them over the translation eb2c54ae4ee1f6a4… (all of the seat's roots in one cut). By AI agents, Wed Nov 11 2026. No macro, syntax, notation, axiom, sorry.
-/
import Derived.Test.YtgpkiajakokjmaaChecked
import GoSem.Claim
import GoSem.ClaimJoined
import GoSem.ClaimMapViews
import Derived.JoinedTies
import Derived.KernelRfl
namespace Go.Proofs.Ytgpkiajakokjmaa
/- THE CELL 'sum', in the pinned program and in every row, IS THE sha256 OF THE DUMP (.gsa) THAT YtgpkiajakokjmaaProg.lean LOADS. Nothing in Lean hashes anything: it is a label: what it is worth is what the hold of that sum in a sandbox is worth. -/
noncomputable def Try.pinned : Pinned := { name := "ytgpkiajakokjmaa", sum := "eb2c54ae4ee1f6a4be7398a4e6653c0339cb682815e10502ea3a20c68670a5a4", checked := Try.checked }
namespace Rows
def none {H : Type} : Left H := { results := [], args := [] }

/-- 'hayloftlaw20.RootWrites': WHATEVER THE INPUT: true; the input reads as it did. -/
def rootWritesSpec : ChangeSpec := { name := "rootWrites", fn := fun _ => fun
  | [d1, d2] => { results := [.lit (.bool true)], args := [d1, d2] }
  | _ => none }
def rootWritesRow : OpenClaim := { program := "ytgpkiajakokjmaa", sum := "eb2c54ae4ee1f6a4be7398a4e6653c0339cb682815e10502ea3a20c68670a5a4", func := "hayloft/hayloftlaw20.RootWrites", spec := "rootWrites", unfollowed := true, recurses := true, apart := false }
def RootWritesSaid : Prop := rootWritesRow.holds Try.pinned (OpenSpec.ofChange rootWritesSpec)

/-- ITS FALSE NEIGHBOUR: 'it returns false'. Refute it at one input. -/
def rootWritesWrong : ChangeSpec := { name := "rootWrites", fn := fun _ => fun
  | [d1, d2] => { results := [.lit (.bool false)], args := [d1, d2] }
  | _ => none }
def RootWritesWrongFalsely : Prop := rootWritesRow.holds Try.pinned (OpenSpec.ofChange rootWritesWrong)

/-- 'hayloftlaw20.RootReads': WHATEVER THE INPUT: true; the input reads as it did. -/
def rootReadsSpec : ChangeSpec := { name := "rootReads", fn := fun _ => fun
  | [d1, d2] => { results := [.lit (.bool true)], args := [d1, d2] }
  | _ => none }
def rootReadsRow : OpenClaim := { program := "ytgpkiajakokjmaa", sum := "eb2c54ae4ee1f6a4be7398a4e6653c0339cb682815e10502ea3a20c68670a5a4", func := "hayloft/hayloftlaw20.RootReads", spec := "rootReads", unfollowed := true, recurses := true, apart := false }
def RootReadsSaid : Prop := rootReadsRow.holds Try.pinned (OpenSpec.ofChange rootReadsSpec)

/-- ITS FALSE NEIGHBOUR: 'it returns false'. Refute it at one input. -/
def rootReadsWrong : ChangeSpec := { name := "rootReads", fn := fun _ => fun
  | [d1, d2] => { results := [.lit (.bool false)], args := [d1, d2] }
  | _ => none }
def RootReadsWrongFalsely : Prop := rootReadsRow.holds Try.pinned (OpenSpec.ofChange rootReadsWrong)

/-- 'hayloftlaw20.RootOne': WHATEVER THE INPUT: true; the input reads as it did. -/
def rootOneSpec : ChangeSpec := { name := "rootOne", fn := fun _ => fun
  | [d1, d2] => { results := [.lit (.bool true)], args := [d1, d2] }
  | _ => none }
def rootOneRow : OpenClaim := { program := "ytgpkiajakokjmaa", sum := "eb2c54ae4ee1f6a4be7398a4e6653c0339cb682815e10502ea3a20c68670a5a4", func := "hayloft/hayloftlaw20.RootOne", spec := "rootOne", unfollowed := true, recurses := true, apart := false }
def RootOneSaid : Prop := rootOneRow.holds Try.pinned (OpenSpec.ofChange rootOneSpec)

/-- ITS FALSE NEIGHBOUR: 'it returns false'. Refute it at one input. -/
def rootOneWrong : ChangeSpec := { name := "rootOne", fn := fun _ => fun
  | [d1, d2] => { results := [.lit (.bool false)], args := [d1, d2] }
  | _ => none }
def RootOneWrongFalsely : Prop := rootOneRow.holds Try.pinned (OpenSpec.ofChange rootOneWrong)

/-- 'hayloftlaw20.RootLists': WHATEVER THE INPUT: true; the input reads as it did. -/
def rootListsSpec : ChangeSpec := { name := "rootLists", fn := fun _ => fun
  | [d1, d2, d3] => { results := [.lit (.bool true)], args := [d1, d2, d3] }
  | _ => none }
def rootListsRow : OpenClaim := { program := "ytgpkiajakokjmaa", sum := "eb2c54ae4ee1f6a4be7398a4e6653c0339cb682815e10502ea3a20c68670a5a4", func := "hayloft/hayloftlaw20.RootLists", spec := "rootLists", unfollowed := true, recurses := true, apart := false }
def RootListsSaid : Prop := rootListsRow.holds Try.pinned (OpenSpec.ofChange rootListsSpec)

/-- ITS FALSE NEIGHBOUR: 'it returns false'. Refute it at one input. -/
def rootListsWrong : ChangeSpec := { name := "rootLists", fn := fun _ => fun
  | [d1, d2, d3] => { results := [.lit (.bool false)], args := [d1, d2, d3] }
  | _ => none }
def RootListsWrongFalsely : Prop := rootListsRow.holds Try.pinned (OpenSpec.ofChange rootListsWrong)

/-- 'hayloftlaw20.RootFrame': WHATEVER THE INPUT: true; the input reads as it did. -/
def rootFrameSpec : ChangeSpec := { name := "rootFrame", fn := fun _ => fun
  | [d1, d2, d3] => { results := [.lit (.bool true)], args := [d1, d2, d3] }
  | _ => none }
def rootFrameRow : OpenClaim := { program := "ytgpkiajakokjmaa", sum := "eb2c54ae4ee1f6a4be7398a4e6653c0339cb682815e10502ea3a20c68670a5a4", func := "hayloft/hayloftlaw20.RootFrame", spec := "rootFrame", unfollowed := true, recurses := true, apart := false }
def RootFrameSaid : Prop := rootFrameRow.holds Try.pinned (OpenSpec.ofChange rootFrameSpec)

/-- ITS FALSE NEIGHBOUR: 'it returns false'. Refute it at one input. -/
def rootFrameWrong : ChangeSpec := { name := "rootFrame", fn := fun _ => fun
  | [d1, d2, d3] => { results := [.lit (.bool false)], args := [d1, d2, d3] }
  | _ => none }
def RootFrameWrongFalsely : Prop := rootFrameRow.holds Try.pinned (OpenSpec.ofChange rootFrameWrong)

/- THE SECOND FORM. 'bulk': how many values and letters a reading holds, each counted each time it is reached (what is shared counts as often as it is met; a slice's spare places count too). A statement '..UptoSaid' is the law's where the arguments, and the package variables that the reading takes, are together of bulk at most 1048576: NARROWER than '..Said'. Prove '..Said' where nothing that the law and all that it calls make is longer than what came in: it says more and counts as full. Else prove '..UptoSaid'. A law counts once. -/
mutual
def uptoBulk {H : Type} : DataW H → Nat
  | .lit (.string bytes) => bytes.length + 1
  | .lit _ => 1
  | .nil => 1
  | .ptr d => uptoBulk d + 1
  | .slice elems spare => uptoBulkAll elems + uptoBulkAll spare + 1
  | .agg parts => uptoBulkAll parts + 1
  | .iface _ d => uptoBulk d + 1
  | .map entries => uptoBulkEntries entries + 1
  | .held _ => 1
def uptoBulkAll {H : Type} : List (DataW H) → Nat
  | [] => 0
  | d :: r => uptoBulk d + uptoBulkAll r
def uptoBulkEntries {H : Type} : List (Lit × DataW H) → Nat
  | [] => 0
  | x :: r => uptoBulkEntry x + uptoBulkEntries r
def uptoBulkEntry {H : Type} : Lit × DataW H → Nat
  | (.string bytes, d) => bytes.length + uptoBulk d + 1
  | (_, d) => uptoBulk d + 1
 end
def uptoSmall : (H : Type) → List (DataW H) → Bool := fun _ ds => decide (uptoBulkAll ds ≤ 1048576)
def OpenSpec.upto (s : _root_.Go.ChangeSpec) : _root_.Go.OpenSpec := { _root_.Go.OpenSpec.ofChange s with cond := some uptoSmall }

/-- 'hayloftlaw20.RootWrites', WHERE WHAT IT READS IS OF BULK AT MOST 1048576: true; the input reads as it did. -/
def rootWritesUptoRow : OpenClaim := { program := "ytgpkiajakokjmaa", sum := "eb2c54ae4ee1f6a4be7398a4e6653c0339cb682815e10502ea3a20c68670a5a4", func := "hayloft/hayloftlaw20.RootWrites", spec := "rootWrites", unfollowed := true, recurses := true, apart := false, narrowed := true }
def RootWritesUptoSaid : Prop := rootWritesUptoRow.holds Try.pinned (OpenSpec.upto rootWritesSpec)

/-- 'hayloftlaw20.RootReads', WHERE WHAT IT READS IS OF BULK AT MOST 1048576: true; the input reads as it did. -/
def rootReadsUptoRow : OpenClaim := { program := "ytgpkiajakokjmaa", sum := "eb2c54ae4ee1f6a4be7398a4e6653c0339cb682815e10502ea3a20c68670a5a4", func := "hayloft/hayloftlaw20.RootReads", spec := "rootReads", unfollowed := true, recurses := true, apart := false, narrowed := true }
def RootReadsUptoSaid : Prop := rootReadsUptoRow.holds Try.pinned (OpenSpec.upto rootReadsSpec)

/-- 'hayloftlaw20.RootOne', WHERE WHAT IT READS IS OF BULK AT MOST 1048576: true; the input reads as it did. -/
def rootOneUptoRow : OpenClaim := { program := "ytgpkiajakokjmaa", sum := "eb2c54ae4ee1f6a4be7398a4e6653c0339cb682815e10502ea3a20c68670a5a4", func := "hayloft/hayloftlaw20.RootOne", spec := "rootOne", unfollowed := true, recurses := true, apart := false, narrowed := true }
def RootOneUptoSaid : Prop := rootOneUptoRow.holds Try.pinned (OpenSpec.upto rootOneSpec)

/-- 'hayloftlaw20.RootLists', WHERE WHAT IT READS IS OF BULK AT MOST 1048576: true; the input reads as it did. -/
def rootListsUptoRow : OpenClaim := { program := "ytgpkiajakokjmaa", sum := "eb2c54ae4ee1f6a4be7398a4e6653c0339cb682815e10502ea3a20c68670a5a4", func := "hayloft/hayloftlaw20.RootLists", spec := "rootLists", unfollowed := true, recurses := true, apart := false, narrowed := true }
def RootListsUptoSaid : Prop := rootListsUptoRow.holds Try.pinned (OpenSpec.upto rootListsSpec)

/-- 'hayloftlaw20.RootFrame', WHERE WHAT IT READS IS OF BULK AT MOST 1048576: true; the input reads as it did. -/
def rootFrameUptoRow : OpenClaim := { program := "ytgpkiajakokjmaa", sum := "eb2c54ae4ee1f6a4be7398a4e6653c0339cb682815e10502ea3a20c68670a5a4", func := "hayloft/hayloftlaw20.RootFrame", spec := "rootFrame", unfollowed := true, recurses := true, apart := false, narrowed := true }
def RootFrameUptoSaid : Prop := rootFrameUptoRow.holds Try.pinned (OpenSpec.upto rootFrameSpec)

end Rows
end Go.Proofs.Ytgpkiajakokjmaa
