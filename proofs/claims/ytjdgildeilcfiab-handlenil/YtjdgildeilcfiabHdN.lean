/- What the law HandleNil goes through. -/
import Derived.Test.YtjdgildeilcfiabHdI
namespace Go.Proofs.Ytjdgildeilcfiab
open Go.RowKit
set_option linter.unusedVariables false

theorem make_nil (k p : Int) (w : World) : Calls Try.prog 4 #[.pointer none, .int .i64 k, .int .i64 p] w fun e w' => e = .returned (.tuple #[.int .u64 0, .int .i64 1]) ∧ w = w' := by
  go_enter Try.func4, Try.ntmps4
  go_wp2
  go_ret2
  exact ⟨rfl, rfl⟩
theorem get_nil (h : Int) (w : World) : Calls Try.prog 5 #[.pointer none, .int .u64 h] w fun e w' => e = .returned (.tuple #[.int .i64 0, .int .i64 0, .int .i64 1]) ∧ w = w' := by
  go_enter Try.func5, Try.ntmps5
  go_wp2_with (go_at_call 14; refine (find_nil h _).mono ?_; rintro e w1 ⟨rfl, rfl⟩)
  refine bodyPost_ret (v := .tuple #[.int .i64 0, .int .i64 0, .int .i64 1]) (by simp [results, Try.results5, go_sem]) rfl ⟨rfl, rfl⟩
theorem put_nil (h p : Int) (w : World) : Calls Try.prog 7 #[.pointer none, .int .u64 h, .int .i64 p] w fun e w' => e = .returned (.int .i64 1) ∧ w = w' := by
  go_enter Try.func7, Try.ntmps7
  go_wp2_with (go_at_call 14; refine (find_nil h _).mono ?_; rintro e w1 ⟨rfl, rfl⟩)
  go_ret
  exact ⟨rfl, rfl⟩
theorem drop_nil (h : Int) (w : World) : Calls Try.prog 8 #[.pointer none, .int .u64 h] w fun e w' => e = .returned (.int .i64 1) ∧ w = w' := by
  go_enter Try.func8, Try.ntmps8
  go_wp2_with (go_at_call 14; refine (find_nil h _).mono ?_; rintro e w1 ⟨rfl, rfl⟩)
  go_ret
  exact ⟨rfl, rfl⟩
theorem rows_nil (w : World) : Calls Try.prog 9 #[.pointer none] w fun e w' => e = .returned (.slice none 0 0) ∧ w = w' := by
  go_enter Try.func9, Try.ntmps9
  go_wp2
  go_ret
  exact ⟨rfl, rfl⟩
theorem live_nil (w : World) : Calls Try.prog 10 #[.pointer none] w fun e w' => e = .returned (.slice none 0 0) ∧ w = w' := by
  go_enter Try.func10, Try.ntmps10
  go_wp2
  go_ret
  exact ⟨rfl, rfl⟩
theorem full_nil (w : World) : Calls Try.prog 11 #[.pointer none] w fun e w' => e = .returned (.bool true) ∧ Below w.heap.size w w' := by
  have B0 : Hid (Below w.heap.size w w) := Below.refl _ _
  go_enter Try.func11, Try.ntmps11
  go_wp2_with fail
  go_quiet (fail)
  all_goals go_wp2
  all_goals go_ret
  all_goals exact ⟨rfl, ⟨B0.out.os, B0.out.tape, B0.out.output, B0.out.size, B0.out.block⟩⟩

set_option maxHeartbeats 4000000 in
theorem handleNil_any (h n : Int) (w : World) :
    Calls Try.prog 3 #[.int .u64 h, .int .i64 n] w fun e w' => e = .returned (.bool true) ∧ Below w.heap.size w w' := by
  go_enter Try.func3, Try.ntmps3
  go_wp2_with (first
    | (go_at_call 4; refine (make_nil n n _).mono ?_; rintro e w1 ⟨rfl, rfl⟩)
    | (go_at_call 5; refine (get_nil h _).mono ?_; rintro e w1 ⟨rfl, rfl⟩)
    | (go_at_call 7; refine (put_nil h n _).mono ?_; rintro e w1 ⟨rfl, rfl⟩)
    | (go_at_call 8; refine (drop_nil h _).mono ?_; rintro e w1 ⟨rfl, rfl⟩)
    | (go_at_call 9; refine (rows_nil _).mono ?_; rintro e w1 ⟨rfl, rfl⟩)
    | (go_at_call 10; refine (live_nil _).mono ?_; rintro e w1 ⟨rfl, rfl⟩)
    | (go_at_call 11; refine (full_nil _).mono ?_; rintro e w9 ⟨rfl, b9⟩; have B9 : Hid (Below w.heap.size w w9) := B8.out.trans (b9.mono B8.out.size); clear b9)
    | (go_at_call 6; refine (alive_any _).mono ?_; rintro e w8 ⟨rfl, b8⟩; have B8 : Hid (Below w.heap.size w w8) := b8; clear b8))
  go_ret
  exact ⟨rfl, B9.out⟩
end Go.Proofs.Ytjdgildeilcfiab
