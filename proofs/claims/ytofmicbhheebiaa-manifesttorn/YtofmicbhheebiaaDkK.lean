/- The document's example of layer 5 comes out: alive answers true, and turns nothing that was there. -/
import Derived.Test.YtofmicbhheebiaaDkJ
import Derived.Lib.SlBytesConst
namespace Go.Proofs.Ytofmicbhheebiaa
open Go.RowKit Go.Maps
set_option linter.unusedVariables false
set_option maxRecDepth 4000

theorem isB_new (w : World) (l : List Int) (fr : Nat × Nat) (hl : AllB l) : IsB (w.alloc (.cells (l.map (Value.int .u8)).toArray 5 fr)) (some ⟨w.heap.size, 0, none⟩) l := by
  refine ⟨hl, .inr ⟨w.heap.size, 0, rfl, by simp, ?_⟩⟩
  intro i hi
  rw [Nat.zero_add, cell_of_row _ _ i _ _ _ (Go.heap_alloc_new _ _)]
  simp [hi, List.getD]
theorem ex_bytes : AllB [97, 98] := by intro x hx; simp at hx; omega

def aD1 : Dk := writeD (newD 8) 3 [97, 98]
def aD : Dk := crashD aD1 [1]
theorem aD_e : writeE (newD 8) 3 [97, 98] = 0 := by decide
theorem aD_pend : aD1.pend.length = 1 := by decide
theorem aD_closed : closedE aD 3 = 0 := by decide
theorem aD_read : (readL aD 3).getD 0 0 = 97 ∧ (readL aD 3).getD 1 0 = 0 := by decide

end Go.Proofs.Ytofmicbhheebiaa
