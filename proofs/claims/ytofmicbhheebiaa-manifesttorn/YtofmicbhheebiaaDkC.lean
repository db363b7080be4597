/- What worked, New and filled answer. -/
import Derived.Test.YtofmicbhheebiaaDkB
namespace Go.Proofs.Ytofmicbhheebiaa
open Go.RowKit Go.Maps
set_option linter.unusedVariables false
set_option maxRecDepth 4000

theorem wrap_i64 {x : Int} (h : -9223372036854775808 ≤ x ∧ x ≤ 9223372036854775807) : IntKind.i64.wrap x = x := by rw [IntKind.wrap_i64]; omega

theorem old_alloc {w : World} {i : Nat} {o o' : Obj} (h : w.heap[i]? = some o) : (w.alloc o').heap[i]? = some o := by
  rw [Go.heap_alloc_old _ _ (Array.getElem?_eq_some_iff.1 h).1]; exact h

end Go.Proofs.Ytofmicbhheebiaa
