/- The walk of KindNil: the calls of a table that isn't there. -/
import Derived.Test.YtkcnanpojnbepabKdK
import Derived.Test.YtkcnanpojnbepabKdH
namespace Go.Proofs.Ytkcnanpojnbepab
open Go.RowKit
set_option linter.unusedVariables false

theorem add_nil (s : Int) (a : Option Addr) (c n : Nat) (w : World) :
    Calls Try.prog 4 #[.pointer none, .agg #[.int .i64 s, .slice a n c]] w fun e w' => e = .returned (.tuple #[.int .i64 0, .int .i64 1]) ∧ Below w.heap.size w w' := by
  have B0 : Hid (Below w.heap.size w (w.alloc (.cells #[.int .i64 s, .slice a n c] 24))) := box_below w s a n c
  go_enter Try.func4, Try.ntmps4
  go_wp2
  go_ret2
  exact ⟨rfl, B0.out⟩
theorem tget_nil (i : Int) (w : World) :
    Calls Try.prog 5 #[.pointer none, .int .i64 i] w fun e w' => e = .returned (.tuple #[.agg #[.int .i64 0, .slice none 0 0], .int .i64 1]) ∧ Below w.heap.size w w' := by
  have B0 : Hid (Below w.heap.size w (w.alloc (.cells #[.int .i64 0, .slice none 0 0] 24))) := box_below w 0 none 0 0
  go_enter Try.func5, Try.ntmps5
  go_wp2
  refine bodyPost_ret (v := .tuple #[.agg #[.int .i64 0, .slice none 0 0], .int .i64 1]) (by simp [results, Try.results5, go_sem]) rfl ⟨rfl, B0.out⟩
theorem tlen_nil (w : World) : Calls Try.prog 8 #[.pointer none] w fun e w' => e = .returned (.int .i64 0) ∧ w = w' := by
  go_enter Try.func8, Try.ntmps8
  go_wp2
  go_ret
  exact ⟨rfl, rfl⟩
theorem tall_nil (w : World) : Calls Try.prog 9 #[.pointer none] w fun e w' => e = .returned (.slice (some ⟨w.heap.size, 0, none⟩) 0 0) ∧ Below w.heap.size w w' := by
  have hmk : ∀ w : World, (Instr.makeSlice 34 (.int .i64 0) (.int .i64 0)).run Try.prog w = .ok (.slice (some ⟨w.heap.size, 0, none⟩) 0 0) (w.alloc (.cells #[] 24)) := fun _ => by kernel_rfl
  have B0 : Hid (Below w.heap.size w (w.alloc (.cells #[] 24))) := (Below.refl _ w).alloc (Nat.le_refl _) _
  go_enter Try.func9, Try.ntmps9
  go_wp2_with (go_at_call 8; refine (tlen_nil _).mono ?_; rintro e w' ⟨rfl, rfl⟩)
  refine wp_loop_rounds 1 ?_
  rw [rounds_succ]
  go_wp2
  go_ret
  exact ⟨rfl, B0.out⟩

set_option maxRecDepth 20000 in
set_option maxHeartbeats 4000000 in
theorem kindNil_any (s : Int) (a : Option Addr) (c : Nat) (ps : List Int) (i : Int) (w : World) :
    Calls Try.prog 3 #[.agg #[.int .i64 s, .slice a ps.length c], .int .i64 i] w fun e w' => e = .returned (.bool true) ∧ Below w.heap.size w w' := by
  have B0 : Hid (Below w.heap.size w (w.alloc (.cells #[.int .i64 s, .slice a ps.length c] 24))) := box_below w s a _ c
  go_enter Try.func3, Try.ntmps3
  go_wp2_with fail
  refine (add_nil s a c _ _).mono ?_
  rintro e w1 ⟨rfl, b1⟩
  have B1 : Hid (Below w.heap.size w w1) := B0.out.trans (b1.mono B0.out.size)
  clear b1
  go_wp2_with fail
  refine (tget_nil i _).mono ?_
  rintro e w2 ⟨rfl, b2⟩
  have B2 : Hid (Below w.heap.size w w2) := B1.out.trans (b2.mono B1.out.size)
  obtain ⟨D, hD⟩ : ∃ D, w2.alloc (.cells #[.int .i64 0, .slice none 0 0] 24) = D := ⟨_, rfl⟩
  have HD : Hid _ := hD
  have B3 : Hid (Below w.heap.size w D) := by show Below _ _ _; rw [← hD]; exact B2.out.alloc B2.out.size _
  have q0 : D.cell? ⟨w2.heap.size, 0, none⟩ = some (.int .i64 0) := by rw [← hD]; exact (box_cells w2 0 none 0 0).1
  have q1 : D.cell? ⟨w2.heap.size, 1, none⟩ = some (.slice none 0 0) := by rw [← hD]; exact (box_cells w2 0 none 0 0).2
  clear b2 hD
  go_wp2_with fail
  rw [HD.out]
  refine (alive_any _).mono ?_
  rintro e w4 ⟨rfl, b4⟩
  have B4 : Hid (Below w.heap.size w w4) := B3.out.trans (b4.mono B3.out.size)
  have r0 := bcellK b4 q0
  have r1 := bcellK b4 q1
  clear b4 q0 q1
  go_wp2_with fail
  refine (ksame_true 0 none none 0 0 0 0 [] _ (IsI.nil _ _) (IsI.nil _ _) rfl rfl (Nat.zero_le _)).mono ?_
  rintro e w5 ⟨rfl, b5⟩
  have B5 : Hid (Below w.heap.size w w5) := B4.out.trans (b5.mono B4.out.size)
  clear b5
  go_wp2_with fail
  refine (tlen_nil _).mono ?_
  rintro e w5' ⟨rfl, rfl⟩
  go_wp2_with fail
  refine (tall_nil _).mono ?_
  rintro e w6 ⟨rfl, b6⟩
  go_wp2
  go_ret
  exact ⟨rfl, B5.out.trans (b6.mono B5.out.size)⟩
end Go.Proofs.Ytkcnanpojnbepab
