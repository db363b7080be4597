/- Which bytes of an object are plain: what Plain answers. -/
import Derived.Test.YtjalagjnhjaaoaaKdE
namespace Go.Proofs.Ytjalagjnhjaaoaa
open Go.RowKit
set_option linter.unusedVariables false
set_option maxRecDepth 4000

theorem plain_false {s : Int} {ps : List Int} {x n : Int} (h : ¬ (rightK s ps ∧ 0 ≤ x ∧ 0 ≤ n ∧ n ≤ s - x ∧ ∀ p ∈ ps, ¬ (p < x + n ∧ x < p + 8 ∧ 0 < n))) : plainK s ps x n = false := decide_eq_false h

end Go.Proofs.Ytjalagjnhjaaoaa
