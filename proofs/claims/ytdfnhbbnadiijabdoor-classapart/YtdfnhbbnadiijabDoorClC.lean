/- The document's examples: what alive answers; Size. -/
import Derived.Test.YtdfnhbbnadiijabDoorClB
namespace Go.Proofs.YtdfnhbbnadiijabDoor
open Go.RowKit
set_option linter.unusedVariables false

theorem ex_of1 : ofI 17 = 1 := by decide
theorem ex_of2 : ofI 129 = 7 := by decide
theorem ex_sl : slotsN 3 = 5 := by decide
theorem ex_pg : pagesN 257 = 2 := by decide
theorem ex_nd : needN [24, 300] = 3 := by decide

theorem ex_isI (w : World) : IsI (w.alloc (.cells #[.int .i64 24, .int .i64 300] 3)) (some ⟨w.heap.size, 0, none⟩) [24, 300] := by
  refine ⟨by simp, .inr ⟨w.heap.size, 0, rfl, by simp, fun i hi => ?_⟩⟩
  rw [cell_of_row _ _ _ _ _ _ (Go.heap_alloc_new w _)]
  rcases i with _ | _ | i
  · rfl
  · rfl
  · simp at hi; omega

theorem slots3 (w : World) (hT : TabIn w) : Calls Tryd.prog 7 #[.int .i64 3] w fun e w' => e = .returned (.int .i64 5) ∧ w = w' := size_small 3 w hT (by decide)
theorem pages257 (w : World) (hT : TabIn w) : Calls Tryd.prog 8 #[.int .i64 257] w fun e w' => e = .returned (.int .i64 2) ∧ w = w' := by
  have := pages_any 257 w hT
  rw [ex_pg] at this
  exact this
theorem need2 (w : World) (hT : TabIn w) : Calls Tryd.prog 5 #[.slice (some ⟨w.heap.size, 0, none⟩) 2 2] (w.alloc (.cells #[.int .i64 24, .int .i64 300] 3)) fun e w' => e = .returned (.int .i64 3) ∧ Below w.heap.size w w' := by
  have B1 : Below w.heap.size w (w.alloc (.cells #[.int .i64 24, .int .i64 300] 3)) := (Below.refl _ w).alloc (Nat.le_refl _) _
  have := need_any (some ⟨w.heap.size, 0, none⟩) 2 [24, 300] _ (hT.keep B1) (ex_isI w) (by decide)
  rw [ex_nd] at this
  exact this.mono fun e w' h => ⟨h.1, B1.trans (h.2.mono (by simp))⟩

theorem alive_any (w : World) (hT : TabIn w) :
    Calls Tryd.prog 4 #[] w fun e w' => e = .returned (.bool true) ∧ Below w.heap.size w w' := by
  have HT : Hid (TabIn w) := hT
  clear hT
  go_enter Tryd.func4, Tryd.ntmps4
  go_wp2_with (first
    | (go_at_call 6; refine (of_any _ _ HT.out).mono ?_; (first | rw [ex_of1] | rw [ex_of2]); rintro e w' ⟨rfl, rfl⟩)
    | (go_at_call 7; refine (slots3 _ HT.out).mono ?_; rintro e w' ⟨rfl, rfl⟩)
    | (go_at_call 8; refine (pages257 _ HT.out).mono ?_; rintro e w' ⟨rfl, rfl⟩)
    | (go_at_call 5; refine (need2 _ HT.out).mono ?_; rintro e w2 ⟨rfl, b2⟩; have B2 : Hid (Below w.heap.size w w2) := b2; clear b2))
  go_ret
  exact ⟨rfl, B2.out⟩
end Go.Proofs.YtdfnhbbnadiijabDoor
