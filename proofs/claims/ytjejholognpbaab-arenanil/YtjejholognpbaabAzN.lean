/- What the law ArenaNil goes through. -/
import Derived.Test.YtjejholognpbaabArG
namespace Go.Proofs.Ytjejholognpbaab
open Go.RowKit
set_option linter.unusedVariables false

set_option maxHeartbeats 4000000 in
theorem arenaNil_any (x n u : Int) (l : List Int) (a : Option Addr) (c : Nat) (w : World) (hu : 0 ≤ u ∧ u ≤ 18446744073709551615) :
    Calls Try.prog 3 #[.agg #[.int .i64 x, .int .i64 n, .int .u64 u, .slice a l.length c]] w fun e w' => e = .returned (.bool true) ∧ Below w.heap.size w w' := by
  obtain ⟨D, hD⟩ : ∃ D, w.alloc (.cells #[.int .i64 x, .int .i64 n, .int .u64 u, .slice a l.length c] 25) = D := ⟨_, rfl⟩
  have BD : Hid (Below w.heap.size w D) := by show Below _ _ _; rw [← hD]; exact (Below.refl _ w).alloc (Nat.le_refl _) _
  have QD : D.heap[w.heap.size]? = some (.cells #[.int .i64 x, .int .i64 n, .int .u64 u, .slice a l.length c] 25 (0, 0)) := by rw [← hD]; exact Go.heap_alloc_new w _
  have q0 : D.cell? ⟨w.heap.size, 0, none⟩ = some (.int .i64 x) := cell_of_row _ _ 0 _ _ _ QD
  have q1 : D.cell? ⟨w.heap.size, 1, none⟩ = some (.int .i64 n) := cell_of_row _ _ 1 _ _ _ QD
  have q2 : D.cell? ⟨w.heap.size, 2, none⟩ = some (.int .u64 u) := cell_of_row _ _ 2 _ _ _ QD
  have q3 : D.cell? ⟨w.heap.size, 3, none⟩ = some (.slice a l.length c) := cell_of_row _ _ 3 _ _ _ QD
  obtain ⟨u0, u1⟩ := hu
  clear QD
  go_enter Try.func3, Try.ntmps3
  go_wp2_with fail
  go_quiet (fail)
  go_wp2_with (first
    | (go_at_call 4; refine (read_nil x n _).mono ?_; rintro e w' ⟨rfl, rfl⟩)
    | (go_at_call 5; refine (word_nil x _).mono ?_; rintro e w' ⟨rfl, rfl⟩)
    | (go_at_call 6; refine (place_nil x _).mono ?_; rintro e w' ⟨rfl, rfl⟩)
    | (go_at_call 7; refine (addr_nil x n _).mono ?_; rintro e w' ⟨rfl, rfl⟩)
    | (go_at_call 8; refine (alive_any _).mono ?_; rintro e w1 ⟨rfl, b1⟩; have B1 : Hid (Below w.heap.size w w1) := (below_drewN BD.out nq).trans (b1.mono BD.out.size); clear b1)
    | (go_at_call 9; refine (write_nil a _ c x _).mono ?_; rintro e w' ⟨rfl, rfl⟩)
    | (go_at_call 10; refine (zero_nil x n _).mono ?_; rintro e w' ⟨rfl, rfl⟩)
    | (go_at_call 11; refine (move_nil x n x _).mono ?_; rintro e w' ⟨rfl, rfl⟩)
    | (go_at_call 12; refine (putw_nil x u _ u0 u1).mono ?_; rintro e w2 ⟨rfl, b2⟩; have B2 : Hid (Below w.heap.size w w2) := B1.out.trans (b2.mono B1.out.size); clear b2)
    | (go_at_call 13; refine (base_nil _).mono ?_; rintro e w' ⟨rfl, rfl⟩)
    | (go_at_call 14; refine (pages_nil _).mono ?_; rintro e w' ⟨rfl, rfl⟩)
    | (go_at_call 15; refine (end_nil _).mono ?_; rintro e w' ⟨rfl, rfl⟩)
    | (go_at_call 16; refine (bytes_nil _).mono ?_; rintro e w' ⟨rfl, rfl⟩)
    | (go_at_call 17; refine (in_nil x n _).mono ?_; rintro e w' ⟨rfl, rfl⟩))
  go_ret
  exact ⟨rfl, B2.out⟩
end Go.Proofs.Ytjejholognpbaab
