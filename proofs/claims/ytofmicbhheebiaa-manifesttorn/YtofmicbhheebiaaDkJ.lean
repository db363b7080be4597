/- What Flush and Crash answer. -/
import Derived.Test.YtofmicbhheebiaaDkI
namespace Go.Proofs.Ytofmicbhheebiaa
open Go.RowKit Go.Maps
set_option linter.unusedVariables false
set_option maxRecDepth 4000

/-- A slice of numbers. -/
def IsI (w : World) (a : Option Addr) (l : List Int) : Prop :=
  (∀ x ∈ l, -9223372036854775808 ≤ x ∧ x ≤ 9223372036854775807) ∧ (l = [] ∨ ∃ b off, a = some ⟨b, off, none⟩ ∧ b < w.heap.size ∧ ∀ i, i < l.length → w.cell? ⟨b, off + i, none⟩ = some (.int .i64 (l.getD i 0)))
theorem IsI.keep {w w' : World} {a : Option Addr} {l : List Int} (h : IsI w a l) (hb : Below w.heap.size w w') : IsI w' a l := by
  obtain ⟨h1, h2 | ⟨b, off, e, hs, hc⟩⟩ := h
  · exact ⟨h1, .inl h2⟩
  · refine ⟨h1, .inr ⟨b, off, e, by have := hb.size; omega, fun i hi => ?_⟩⟩
    rw [hb.cell (p := ⟨b, off + i, none⟩) hs]; exact hc i hi

theorem keep_cases (v : Int) : v < 0 ∧ (max (min v 64) 0).toNat = 0 ∨ v = 0 ∧ (max (min v 64) 0).toNat = 0 ∨ 0 < v ∧ v < 64 ∧ v = ((max (min v 64) 0).toNat : Nat) ∨ v = 64 ∧ (max (min v 64) 0).toNat = 64 ∨ 64 < v ∧ (max (min v 64) 0).toNat = 64 := by omega

end Go.Proofs.Ytofmicbhheebiaa
