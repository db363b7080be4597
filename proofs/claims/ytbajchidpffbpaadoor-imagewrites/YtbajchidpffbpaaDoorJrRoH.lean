/- Layer 17: RoH again -/
import Derived.Test.YtbajchidpffbpaaDoorAuB
import Derived.Test.YtbajchidpffbpaaDoorMhA
import Derived.Test.YtbajchidpffbpaaDoorJrRoG
namespace Go.Proofs.YtbajchidpffbpaaDoor
open Go.RowKit
set_option linter.unusedVariables false
set_option maxRecDepth 4000
theorem ApA.zero {w w1 : World} {b l : List Int} {fr t n : Int} {g : Nat} (hr : RowB w1 g b) (hb : Below w.heap.size w w1) (hg : w.heap.size ≤ g) : ApA w w1 b l fr t n g 0 := ⟨hr, hb, hg, rfl⟩
theorem ApA.stay {w wr : World} {b l : List Int} {fr t n : Int} {g k : Nat} (h : ApA w wr b l fr t n g k) (hk : k < l.length) (h0 : wordT b (l.getD k 0) = 0) : ApA w wr b l fr t n g (k + 1) := by
  refine ⟨?_, h.below, h.ge, ?_⟩
  · rw [goT_take fr t b l b k hk, stepT, if_pos h0]; exact h.row
  · rw [allT_snoc hk, h.all, h0]; simp [inT]
theorem ApA.next {w wr w1 : World} {b l : List Int} {fr t n : Int} {g k : Nat} (h : ApA w wr b l fr t n g k) (hk : k < l.length) (h0 : wordT b (l.getD k 0) ≠ 0) (hin : inT fr n (wordT b (l.getD k 0)))
    (hr : RowB w1 g (overR (goT fr t b (l.take k) b) (l.getD k 0).toNat (putL 8 (wordT b (l.getD k 0) - fr + t)))) (hb : Below w.heap.size wr w1) : ApA w w1 b l fr t n g (k + 1) := by
  refine ⟨?_, h.below.trans hb, h.ge, ?_⟩
  · rw [goT_take fr t b l b k hk, stepT, if_neg h0]; exact hr
  · rw [allT_snoc hk, h.all, decide_eq_true hin]; rfl

end Go.Proofs.YtbajchidpffbpaaDoor
