/- What do answers. -/
import Derived.Test.YtjdgildeilcfiaaHgA
namespace Go.Proofs.Ytjdgildeilcfiaa
open Go.RowKit
set_option linter.unusedVariables false

def DoPost (w : World) (b mb mg n pb : Nat) (M : List Nat) (e : Ending) (w' : World) : Prop := e = .returned (.bool true) ∧ ∃ (a' : Option Addr) (c' : Nat) (L' : List Rw) (ah' : Option Addr) (ch' : Nat) (M' : List Nat), Tw w w' b a' c' mb mg n L' L' pb ah' ch' M' ∧ M'.length ≤ M.length + 1
end Go.Proofs.Ytjdgildeilcfiaa
