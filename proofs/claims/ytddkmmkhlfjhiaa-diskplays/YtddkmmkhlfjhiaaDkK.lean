/- The document's example of layer 5 comes out: alive answers true, and turns nothing that was there. -/
import Derived.Test.YtddkmmkhlfjhiaaDkJ
import Derived.Lib.SlBytesConst
namespace Go.Proofs.Ytddkmmkhlfjhiaa
open Go.RowKit Go.Maps
set_option linter.unusedVariables false

theorem isB_new (w : World) (l : List Int) (fr : Nat × Nat) (hl : AllB l) : IsB (w.alloc (.cells (l.map (Value.int .u8)).toArray 5 fr)) (some ⟨w.heap.size, 0, none⟩) l := by
  refine ⟨hl, .inr ⟨w.heap.size, 0, rfl, by simp, ?_⟩⟩
  intro i hi
  rw [Nat.zero_add, cell_of_row _ _ i _ _ _ (Go.heap_alloc_new _ _)]
  simp [hi, List.getD]
theorem isI_new (w : World) (x : Int) (hx : -9223372036854775808 ≤ x ∧ x ≤ 9223372036854775807) (base : Nat) : ∀ w', Turn base KC (w.alloc (.cells #[.int .i64 x] 3)) w' → IsI w' (some ⟨w.heap.size, 0, none⟩) [x] := by
  intro w' ht
  have hb : w'.heap[w.heap.size]? = some (.cells #[.int .i64 x] 3 (0, 0)) := ht.block _ _ (Go.heap_alloc_new w _) (.inr rfl)
  refine ⟨fun y hy => by simp at hy; subst hy; exact hx, .inr ⟨w.heap.size, 0, rfl, (Array.getElem?_eq_some_iff.1 hb).1, fun i hi => ?_⟩⟩
  obtain rfl : i = 0 := by simpa using hi
  rw [cell_of_row _ _ _ _ _ _ hb]; rfl

theorem ex_bytes : AllB [97, 98] := by intro x hx; simp at hx; omega

def aD1 : Dk := writeD (newD 8) 3 [97, 98]
def aD : Dk := crashD aD1 [1]
theorem aD_e : writeE (newD 8) 3 [97, 98] = 0 := by decide
theorem aD_pend : aD1.pend.length = 1 := by decide
theorem aD_closed : closedE aD 3 = 0 := by decide
theorem aD_read : (readL aD 3).getD 0 0 = 97 ∧ (readL aD 3).getD 1 0 = 0 := by decide

set_option maxHeartbeats 2000000 in
theorem alive_any (w : World) : Calls Try.prog 9 #[] w fun r w' => r = .returned (.bool true) ∧ Below w.heap.size w w' := by
  have hcv := fun (w : World) (C : Array Value) (n c : Nat) => Lib.run_convert_bytes_const (P := Try.prog) w 32 5 C n c Try.underlying32 Try.underlying5
  go_enter Try.func9, Try.ntmps9
  go_wp2_with fail
  refine (new_fit 8 w (by decide) (by decide)).mono ?_
  rintro e w1 ⟨rfl, hw1⟩
  have I1 : Hid (IsD w1 w.heap.size (w.heap.size + 2) 0 (newD 8)) := by show IsD _ _ _ _ _; rw [← hw1]; exact newW_is w _ 8 (Nat.le_refl _) (by decide)
  have B1 : Hid (Below w.heap.size w w1) := by show Below _ _ _; rw [← hw1]; exact newW_below w 8
  clear hw1
  go_wp2_with fail
  have A1 : Hid (IsD (w1.alloc (.cells #[.int .u8 97, .int .u8 98] 5 (2, 3))) w.heap.size (w.heap.size + 2) 0 (newD 8)) := I1.out.keep ((Below.refl _ _).alloc (Nat.le_refl _) _)
  have hz1 := B1.out.size
  refine (write_any w.heap.size _ 0 (newD 8) 3 _ 2 2 [97, 98] _ A1.out (by simp; omega) rfl (isB_new w1 [97, 98] _ ex_bytes) (by decide) (by decide)).mono ?_
  rw [aD_e]
  rintro e w2 ⟨rfl, i2, t2⟩
  have I2 : Hid (IsD w2 w.heap.size (w.heap.size + 2) 1 aD1) := i2
  have B2 : Hid (Below w.heap.size w w2) := (B1.out.alloc hz1 _).trans (t2.below (by simp; omega))
  clear i2 t2 A1 I1 B1 hz1
  go_wp2_with fail
  refine (pending_any _ _ _ aD1 _ I2.out).mono ?_
  rw [aD_pend]
  rintro e w' ⟨rfl, rfl⟩
  have hz2 := B2.out.size
  go_wp2_with fail
  have A2 : Hid (IsD (w2.alloc (.cells #[.int .i64 1] 3)) w.heap.size (w.heap.size + 2) 1 aD1) := I2.out.keep ((Below.refl _ _).alloc (Nat.le_refl _) _)
  refine (crash_any w.heap.size _ 1 aD1 _ 1 1 [1] _ A2.out (by simp; omega) (by decide) rfl (by decide) (isI_new w2 1 (by decide) _)).mono ?_
  rintro e w3 ⟨rfl, i3, t3⟩
  have I3 : Hid (IsD w3 w.heap.size (w.heap.size + 2) 1 aD) := i3
  have B3 : Hid (Below w.heap.size w w3) := (B2.out.alloc hz2 _).trans (t3.below (by simp; omega))
  clear i3 t3 A2 I2 B2 hz2
  go_wp2_with fail
  refine (read_open _ _ _ aD 3 _ I3.out aD_closed).mono ?_
  rintro e w4 ⟨rfl, r4, b4⟩
  have hl := (readL_ok I3.out.ok aD_closed).1
  have c0 := r4.cell 0 (by omega)
  have c1 := r4.cell 1 (by omega)
  rw [aD_read.1] at c0
  rw [aD_read.2] at c1
  have B4 : Hid (Below w.heap.size w w4) := B3.out.trans (b4.mono B3.out.size)
  clear r4 b4 hl
  go_wp2
  go_ret
  exact ⟨rfl, B4.out⟩

theorem arm_nil (i : Int) (w : World) : Calls Try.prog 21 #[.pointer none, .int .i64 i] w fun e w' => e = .returned (.tuple #[]) ∧ w = w' := by
  go_enter Try.func21, Try.ntmps21
  go_wp2_with (go_at_call 39; refine (dead_nil _).mono ?_; rintro e w' ⟨rfl, rfl⟩)
  go_end0
  exact ⟨rfl, rfl⟩
theorem pending_nil (w : World) : Calls Try.prog 25 #[.pointer none] w fun e w' => e = .returned (.int .i64 0) ∧ w = w' := by
  go_enter Try.func25, Try.ntmps25
  go_wp2
  go_ret
  exact ⟨rfl, rfl⟩
theorem ops_nil (w : World) : Calls Try.prog 27 #[.pointer none] w fun e w' => e = .returned (.int .i64 0) ∧ w = w' := by
  go_enter Try.func27, Try.ntmps27
  go_wp2
  go_ret
  exact ⟨rfl, rfl⟩
theorem len_nil (w : World) : Calls Try.prog 28 #[.pointer none] w fun e w' => e = .returned (.int .i64 0) ∧ w = w' := by
  go_enter Try.func28, Try.ntmps28
  go_wp2
  go_ret
  exact ⟨rfl, rfl⟩
theorem down_nil (w : World) : Calls Try.prog 26 #[.pointer none] w fun e w' => e = .returned (.bool false) ∧ w = w' := by
  go_enter Try.func26, Try.ntmps26
  go_wp2
  go_ret
  exact ⟨rfl, rfl⟩
theorem image_nil (w : World) : Calls Try.prog 29 #[.pointer none] w fun e w' => e = .returned (.slice none 0 0) ∧ w = w' := by
  go_enter Try.func29, Try.ntmps29
  go_wp2
  go_ret
  exact ⟨rfl, rfl⟩

set_option maxHeartbeats 2000000 in
theorem diskNil_any (i : Int) (a ka : Option Addr) (n cap kn kc : Nat) (w : World) :
    Calls Try.prog 8 #[.int .i64 i, .slice a n cap, .slice ka kn kc] w fun r w' => r = .returned (.bool true) ∧ Below w.heap.size w w' := by
  go_enter Try.func8, Try.ntmps8
  go_wp2_with fail
  refine (arm_nil i _).mono ?_
  rintro e w' ⟨rfl, rfl⟩
  go_wp2_with fail
  refine (crash_nil ka kn kc _).mono ?_
  rintro e w1 ⟨rfl, b1⟩
  go_wp2_with fail
  refine (read_nil i _).mono ?_
  rintro e w' ⟨rfl, rfl⟩
  go_wp2_with fail
  refine (alive_any _).mono ?_
  rintro e w2 ⟨rfl, b2⟩
  have B2 : Hid (Below w.heap.size w w2) := b1.trans (b2.mono b1.size)
  clear b1 b2
  go_wp2_with fail
  refine (write_nil i a n cap _).mono ?_
  rintro e w' ⟨rfl, rfl⟩
  go_wp2_with fail
  refine (flush_nil _).mono ?_
  rintro e w' ⟨rfl, rfl⟩
  go_wp2_with fail
  refine (len_nil _).mono ?_
  rintro e w' ⟨rfl, rfl⟩
  go_wp2_with fail
  refine (pending_nil _).mono ?_
  rintro e w' ⟨rfl, rfl⟩
  go_wp2_with fail
  refine (ops_nil _).mono ?_
  rintro e w' ⟨rfl, rfl⟩
  go_wp2_with fail
  refine (down_nil _).mono ?_
  rintro e w' ⟨rfl, rfl⟩
  go_wp2_with fail
  refine (image_nil _).mono ?_
  rintro e w' ⟨rfl, rfl⟩
  go_wp2
  go_ret
  exact ⟨rfl, B2.out⟩
end Go.Proofs.Ytddkmmkhlfjhiaa
