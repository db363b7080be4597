/- The document's first example: what alive answers. -/
import Derived.Test.YtjejholognpbaaaArF
namespace Go.Proofs.Ytjejholognpbaaa
open Go.RowKit
set_option linter.unusedVariables false

def z0 : List Int := List.replicate (2 * 256) 0
def z1 : List Int := writeR z0 (512 - 512) [1, 2, 3]
def z2 : List Int := moveR z1 (512 - 512) (513 - 512) 3
theorem z0_len : z0.length = 512 := List.length_replicate
theorem z1_len : z1.length = 512 := by rw [z1, writeR_len, z0_len]
theorem z2_len : z2.length = 512 := by rw [z2, moveR_len, z1_len]
theorem z_e0 : errR z0.length (512 - 512) (([1, 2, 3] : List Int).length : Nat) = 0 := by rw [z0_len]; decide
theorem z_e1 : moveE z1.length (512 - 512) (513 - 512) 3 = 0 := by rw [z1_len]; decide
theorem z_e2 : errR z2.length (512 - 512) 4 = 0 := by rw [z2_len]; decide
set_option maxRecDepth 100000 in
theorem z_r : readR z2 (512 - 512) 4 = [1, 1, 2, 3] := by decide +kernel

theorem bs_t : ((bs [1, 1, 2, 3]).toList == [1, 1, 2, 3]) = true := by decide +kernel

set_option maxHeartbeats 2000000 in
theorem alive_any (w : World) : Calls Try.prog 9 #[] w fun e w' => e = .returned (.bool true) ∧ Below w.heap.size w w' := by
  have f512 : Fits 512 := by unfold Fits; omega
  have f513 : Fits 513 := by unfold Fits; omega
  have f3 : Fits 3 := by unfold Fits; omega
  have f4 : Fits 4 := by unfold Fits; omega
  go_enter Try.func9, Try.ntmps9
  go_wp2_with fail
  refine (new_any 512 2 _ (by decide) (by decide) (by decide)).mono ?_
  rintro e w1 ⟨rfl, i1, b1, s1⟩
  have I1 : Hid (IsA w1 (w.heap.size + 1) w.heap.size 512 z0) := i1
  have B1 : Hid (Below w.heap.size w w1) := b1
  clear i1 b1 s1
  go_wp2_with fail
  refine (end_any _ _ 512 z0 _ I1.out).mono ?_
  rw [z0_len]
  rintro e w2 ⟨rfl, rfl⟩
  obtain ⟨w3, hw3⟩ : ∃ w3, w1.alloc (.cells #[.int .u8 1, .int .u8 2, .int .u8 3] 5) = w3 := ⟨_, rfl⟩
  have B3 : Hid (Below w1.heap.size w1 w3) := by show Below _ _ _; rw [← hw3]; exact (Below.refl _ _).alloc (Nat.le_refl _) _
  have R3 : Hid (RowB w3 w1.heap.size [1, 2, 3]) := by show w3.heap[w1.heap.size]? = _; rw [← hw3]; exact Go.heap_alloc_new w1 _
  have I3 : Hid (IsA w3 (w.heap.size + 1) w.heap.size 512 z0) := I1.out.keep B3.out
  go_wp2_with fail
  refine (write_any _ _ 512 512 z0 [1, 2, 3] (some ⟨w1.heap.size, 0, none⟩) 3 3 _ I3.out f512 rfl (R3.out.isB (by intro x hx; simp at hx; omega)) (by decide)).mono ?_
  rw [z_e0]
  rintro e w4 ⟨rfl, i4, t4⟩
  have I4 : Hid (IsA w4 (w.heap.size + 1) w.heap.size 512 z1) := i4
  have B4 : Hid (Below w.heap.size w w4) := (B1.out.trans (B3.out.mono B1.out.size)).trans (t4.below (Nat.le_refl _) (Nat.le_trans B1.out.size B3.out.size))
  clear i4 t4 hw3
  go_wp2_with fail
  refine (move_any _ _ 512 512 513 3 z1 _ I4.out f512 f513 f3).mono ?_
  rw [z_e1]
  rintro e w5 ⟨rfl, i5, t5⟩
  have I5 : Hid (IsA w5 (w.heap.size + 1) w.heap.size 512 z2) := i5
  have B5 : Hid (Below w.heap.size w w5) := B4.out.trans (t5.below (Nat.le_refl _) B4.out.size)
  clear i5 t5
  go_wp2_with fail
  refine (read_any _ _ 512 512 4 z2 _ I5.out f512 f4).mono ?_
  rw [z_e2, z_r]
  rintro e w6 ⟨a6, rfl, g6, b6⟩
  have k6 : (convert 35 9 (.slice a6 4 4)).run Try.prog w6 = .ok (.string (bs [1, 1, 2, 3])) w6 := conv_run w6 a6 4 [1, 1, 2, 3] (g6.isB (by intro x hx; simp at hx; omega))
  have B6 : Hid (Below w.heap.size w w6) := B5.out.trans (b6.mono B5.out.size)
  clear g6 b6
  go_wp2
  go_ret
  exact ⟨ret_bool bs_t, B6.out⟩
end Go.Proofs.Ytjejholognpbaaa
