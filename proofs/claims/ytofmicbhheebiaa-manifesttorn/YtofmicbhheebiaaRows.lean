/-
  No cell of these rows narrows 'for every input' (looked for: loops, veiled, ifaces, maps, wideKeys, modest, calm, conditions, laid).
  DERIVED. THE GIVEN ROWS OF THIS SEAT. 5 by the template 'for every input the law returns true; each argument reads behind the call as it read before'; 0 by the template 'total and deterministic' (their statements: YtofmicbhheebiaaTotals.lean).
  GIVEN WITH THE SEED: the statements are not yours to turn. If you find one false, say at which input.
  Laid BY PROGRAM, IN A SANDBOX (cutbox-rows.mjs): the forced cells as the released guide's own fill.sh prints them over the translation 7ef7ea42c96135b5… (all of the seat's roots in one cut). By AI agents, Wed Nov 11 2026. No macro, syntax, notation, axiom, sorry.
-/
import Derived.Test.YtofmicbhheebiaaChecked
import GoSem.Claim
import GoSem.ClaimJoined
import GoSem.ClaimMapViews
import Derived.JoinedTies
import Derived.KernelRfl
namespace Go.Proofs.Ytofmicbhheebiaa
/- THE CELL 'sum', in the pinned program and in every row, IS THE sha256 OF THE DUMP (.gsa) THAT YtofmicbhheebiaaProg.lean LOADS. Nothing in Lean hashes anything: it is a label: what it is worth is what the hold of that sum in a sandbox is worth. -/
noncomputable def Try.pinned : Pinned := { name := "ytofmicbhheebiaa", sum := "7ef7ea42c96135b5f6cade90d2d62585874217ea7d8b2bd08d612d32124b8d23", checked := Try.checked }
namespace Rows
def none {H : Type} : Left H := { results := [], args := [] }

/-- 'hayloftlaw21.ManifestWrites': WHATEVER THE INPUT: true; the input reads as it did. -/
def manifestWritesSpec : ChangeSpec := { name := "manifestWrites", fn := fun _ => fun
  | [d1, d2, d3] => { results := [.lit (.bool true)], args := [d1, d2, d3] }
  | _ => none }
def manifestWritesRow : OpenClaim := { program := "ytofmicbhheebiaa", sum := "7ef7ea42c96135b5f6cade90d2d62585874217ea7d8b2bd08d612d32124b8d23", func := "hayloft/hayloftlaw21.ManifestWrites", spec := "manifestWrites", unfollowed := true, recurses := true, apart := false }
def ManifestWritesSaid : Prop := manifestWritesRow.holds Try.pinned (OpenSpec.ofChange manifestWritesSpec)

/-- ITS FALSE NEIGHBOUR: 'it returns false'. Refute it at one input. -/
def manifestWritesWrong : ChangeSpec := { name := "manifestWrites", fn := fun _ => fun
  | [d1, d2, d3] => { results := [.lit (.bool false)], args := [d1, d2, d3] }
  | _ => none }
def ManifestWritesWrongFalsely : Prop := manifestWritesRow.holds Try.pinned (OpenSpec.ofChange manifestWritesWrong)

/-- 'hayloftlaw21.ManifestReads': WHATEVER THE INPUT: true; the input reads as it did. -/
def manifestReadsSpec : ChangeSpec := { name := "manifestReads", fn := fun _ => fun
  | [d] => { results := [.lit (.bool true)], args := [d] }
  | _ => none }
def manifestReadsRow : OpenClaim := { program := "ytofmicbhheebiaa", sum := "7ef7ea42c96135b5f6cade90d2d62585874217ea7d8b2bd08d612d32124b8d23", func := "hayloft/hayloftlaw21.ManifestReads", spec := "manifestReads", unfollowed := true, recurses := true, apart := false }
def ManifestReadsSaid : Prop := manifestReadsRow.holds Try.pinned (OpenSpec.ofChange manifestReadsSpec)

/-- ITS FALSE NEIGHBOUR: 'it returns false'. Refute it at one input. -/
def manifestReadsWrong : ChangeSpec := { name := "manifestReads", fn := fun _ => fun
  | [d] => { results := [.lit (.bool false)], args := [d] }
  | _ => none }
def ManifestReadsWrongFalsely : Prop := manifestReadsRow.holds Try.pinned (OpenSpec.ofChange manifestReadsWrong)

/-- 'hayloftlaw21.ManifestTorn': WHATEVER THE INPUT: true; the input reads as it did. -/
def manifestTornSpec : ChangeSpec := { name := "manifestTorn", fn := fun _ => fun
  | [d1, d2] => { results := [.lit (.bool true)], args := [d1, d2] }
  | _ => none }
def manifestTornRow : OpenClaim := { program := "ytofmicbhheebiaa", sum := "7ef7ea42c96135b5f6cade90d2d62585874217ea7d8b2bd08d612d32124b8d23", func := "hayloft/hayloftlaw21.ManifestTorn", spec := "manifestTorn", unfollowed := true, recurses := true, apart := false }
def ManifestTornSaid : Prop := manifestTornRow.holds Try.pinned (OpenSpec.ofChange manifestTornSpec)

/-- ITS FALSE NEIGHBOUR: 'it returns false'. Refute it at one input. -/
def manifestTornWrong : ChangeSpec := { name := "manifestTorn", fn := fun _ => fun
  | [d1, d2] => { results := [.lit (.bool false)], args := [d1, d2] }
  | _ => none }
def ManifestTornWrongFalsely : Prop := manifestTornRow.holds Try.pinned (OpenSpec.ofChange manifestTornWrong)

/-- 'hayloftlaw21.ManifestBursts': WHATEVER THE INPUT: true; the input reads as it did. -/
def manifestBurstsSpec : ChangeSpec := { name := "manifestBursts", fn := fun _ => fun
  | [d1, d2] => { results := [.lit (.bool true)], args := [d1, d2] }
  | _ => none }
def manifestBurstsRow : OpenClaim := { program := "ytofmicbhheebiaa", sum := "7ef7ea42c96135b5f6cade90d2d62585874217ea7d8b2bd08d612d32124b8d23", func := "hayloft/hayloftlaw21.ManifestBursts", spec := "manifestBursts", unfollowed := true, recurses := true, apart := false }
def ManifestBurstsSaid : Prop := manifestBurstsRow.holds Try.pinned (OpenSpec.ofChange manifestBurstsSpec)

/-- ITS FALSE NEIGHBOUR: 'it returns false'. Refute it at one input. -/
def manifestBurstsWrong : ChangeSpec := { name := "manifestBursts", fn := fun _ => fun
  | [d1, d2] => { results := [.lit (.bool false)], args := [d1, d2] }
  | _ => none }
def ManifestBurstsWrongFalsely : Prop := manifestBurstsRow.holds Try.pinned (OpenSpec.ofChange manifestBurstsWrong)

/-- 'hayloftlaw21.ManifestNext': WHATEVER THE INPUT: true; the input reads as it did. -/
def manifestNextSpec : ChangeSpec := { name := "manifestNext", fn := fun _ => fun
  | [d1, d2] => { results := [.lit (.bool true)], args := [d1, d2] }
  | _ => none }
def manifestNextRow : OpenClaim := { program := "ytofmicbhheebiaa", sum := "7ef7ea42c96135b5f6cade90d2d62585874217ea7d8b2bd08d612d32124b8d23", func := "hayloft/hayloftlaw21.ManifestNext", spec := "manifestNext", unfollowed := true, recurses := true, apart := false }
def ManifestNextSaid : Prop := manifestNextRow.holds Try.pinned (OpenSpec.ofChange manifestNextSpec)

/-- ITS FALSE NEIGHBOUR: 'it returns false'. Refute it at one input. -/
def manifestNextWrong : ChangeSpec := { name := "manifestNext", fn := fun _ => fun
  | [d1, d2] => { results := [.lit (.bool false)], args := [d1, d2] }
  | _ => none }
def ManifestNextWrongFalsely : Prop := manifestNextRow.holds Try.pinned (OpenSpec.ofChange manifestNextWrong)

/- THE SECOND FORM. 'bulk': how many values and letters a reading holds, each counted each time it is reached (what is shared counts as often as it is met; a slice's spare places count too). A statement '..UptoSaid' is the law's where the arguments, and the package variables that the reading takes, are together of bulk at most 1048576: NARROWER than '..Said'. Prove '..Said' where nothing that the law and all that it calls make is longer than what came in: it says more and counts as full. Else prove '..UptoSaid'. A law counts once. -/
mutual
def uptoBulk {H : Type} : DataW H → Nat
  | .lit (.string bytes) => bytes.length + 1
  | .lit _ => 1
  | .nil => 1
  | .ptr d => uptoBulk d + 1
  | .slice elems spare => uptoBulkAll elems + uptoBulkAll spare + 1
  | .agg parts => uptoBulkAll parts + 1
  | .iface _ d => uptoBulk d + 1
  | .map entries => uptoBulkEntries entries + 1
  | .held _ => 1
def uptoBulkAll {H : Type} : List (DataW H) → Nat
  | [] => 0
  | d :: r => uptoBulk d + uptoBulkAll r
def uptoBulkEntries {H : Type} : List (Lit × DataW H) → Nat
  | [] => 0
  | x :: r => uptoBulkEntry x + uptoBulkEntries r
def uptoBulkEntry {H : Type} : Lit × DataW H → Nat
  | (.string bytes, d) => bytes.length + uptoBulk d + 1
  | (_, d) => uptoBulk d + 1
 end
def uptoSmall : (H : Type) → List (DataW H) → Bool := fun _ ds => decide (uptoBulkAll ds ≤ 1048576)
def OpenSpec.upto (s : _root_.Go.ChangeSpec) : _root_.Go.OpenSpec := { _root_.Go.OpenSpec.ofChange s with cond := some uptoSmall }

/-- 'hayloftlaw21.ManifestWrites', WHERE WHAT IT READS IS OF BULK AT MOST 1048576: true; the input reads as it did. -/
def manifestWritesUptoRow : OpenClaim := { program := "ytofmicbhheebiaa", sum := "7ef7ea42c96135b5f6cade90d2d62585874217ea7d8b2bd08d612d32124b8d23", func := "hayloft/hayloftlaw21.ManifestWrites", spec := "manifestWrites", unfollowed := true, recurses := true, apart := false, narrowed := true }
def ManifestWritesUptoSaid : Prop := manifestWritesUptoRow.holds Try.pinned (OpenSpec.upto manifestWritesSpec)

/-- 'hayloftlaw21.ManifestReads', WHERE WHAT IT READS IS OF BULK AT MOST 1048576: true; the input reads as it did. -/
def manifestReadsUptoRow : OpenClaim := { program := "ytofmicbhheebiaa", sum := "7ef7ea42c96135b5f6cade90d2d62585874217ea7d8b2bd08d612d32124b8d23", func := "hayloft/hayloftlaw21.ManifestReads", spec := "manifestReads", unfollowed := true, recurses := true, apart := false, narrowed := true }
def ManifestReadsUptoSaid : Prop := manifestReadsUptoRow.holds Try.pinned (OpenSpec.upto manifestReadsSpec)

/-- 'hayloftlaw21.ManifestTorn', WHERE WHAT IT READS IS OF BULK AT MOST 1048576: true; the input reads as it did. -/
def manifestTornUptoRow : OpenClaim := { program := "ytofmicbhheebiaa", sum := "7ef7ea42c96135b5f6cade90d2d62585874217ea7d8b2bd08d612d32124b8d23", func := "hayloft/hayloftlaw21.ManifestTorn", spec := "manifestTorn", unfollowed := true, recurses := true, apart := false, narrowed := true }
def ManifestTornUptoSaid : Prop := manifestTornUptoRow.holds Try.pinned (OpenSpec.upto manifestTornSpec)

/-- 'hayloftlaw21.ManifestBursts', WHERE WHAT IT READS IS OF BULK AT MOST 1048576: true; the input reads as it did. -/
def manifestBurstsUptoRow : OpenClaim := { program := "ytofmicbhheebiaa", sum := "7ef7ea42c96135b5f6cade90d2d62585874217ea7d8b2bd08d612d32124b8d23", func := "hayloft/hayloftlaw21.ManifestBursts", spec := "manifestBursts", unfollowed := true, recurses := true, apart := false, narrowed := true }
def ManifestBurstsUptoSaid : Prop := manifestBurstsUptoRow.holds Try.pinned (OpenSpec.upto manifestBurstsSpec)

/-- 'hayloftlaw21.ManifestNext', WHERE WHAT IT READS IS OF BULK AT MOST 1048576: true; the input reads as it did. -/
def manifestNextUptoRow : OpenClaim := { program := "ytofmicbhheebiaa", sum := "7ef7ea42c96135b5f6cade90d2d62585874217ea7d8b2bd08d612d32124b8d23", func := "hayloft/hayloftlaw21.ManifestNext", spec := "manifestNext", unfollowed := true, recurses := true, apart := false, narrowed := true }
def ManifestNextUptoSaid : Prop := manifestNextUptoRow.holds Try.pinned (OpenSpec.upto manifestNextSpec)

end Rows
end Go.Proofs.Ytofmicbhheebiaa
