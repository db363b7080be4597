/- A disk in memory; its small calls. -/
import Derived.Test.YtofmicbhheebiaaDkA
import Derived.Deep.RegionHeld3
import Derived.BigQuiet
namespace Go.Proofs.Ytofmicbhheebiaa
open Go.RowKit Go.Maps
set_option linter.unusedVariables false
set_option maxRecDepth 4000

/-- The cells of a disk. -/
def boxC (bs bn : Nat) (ap : Option Addr) (cp : Nat) (d : Dk) : Array Value :=
  #[.int .i64 (d.n : Nat), .map (some bs), .slice ap d.pend.length cp, .map (some bn), .int .i64 d.left, .bool d.down, .int .i64 (d.ops : Nat)]

theorem set_else (w : World) (b j : Nat) (v : Value) : ∀ i, i ≠ b → (w.setCell ⟨b, j, none⟩ v).heap[i]? = w.heap[i]? := fun i hi => Below.heap_setCell _ _ _ _ hi

theorem set_same (w : World) (b j : Nat) (v : Value) (cs cs' : Array Value) (t : TypeId) (h : w.heap[b]? = some (.cells cs t (0, 0))) (e : cs.setIfInBounds j v = cs') : (w.setCell ⟨b, j, none⟩ v).heap[b]? = some (.cells cs' t (0, 0)) := by
  rw [heap_setCell_same w b j cs t v h, e]
end Go.Proofs.Ytofmicbhheebiaa
