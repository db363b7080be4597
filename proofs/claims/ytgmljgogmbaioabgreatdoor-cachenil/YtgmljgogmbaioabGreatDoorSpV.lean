/- What the laws share: lists of slots that are compared. -/
import Derived.Test.YtgmljgogmbaioabGreatDoorSpU
namespace Go.Proofs.YtgmljgogmbaioabGreatDoor
open Go.RowKit
set_option linter.unusedVariables false
set_option maxRecDepth 4000

theorem ls_all (f : Nat → Bool) (n : Nat) (hn : n ≤ 65536) : ∀ x ∈ lsL f n, -9223372036854775808 ≤ x ∧ x ≤ 9223372036854775807 := by
  intro x hx
  obtain ⟨i, rfl, hi, _⟩ := lsL_mem f x n hx
  omega
theorem ls_short (f : Nat → Bool) (n : Nat) (hn : n ≤ 65536) : (lsL f n).length ≤ maxLen := by
  rw [lsL_len]; have := cnt_le f n; unfold maxLen; omega

end Go.Proofs.YtgmljgogmbaioabGreatDoor
