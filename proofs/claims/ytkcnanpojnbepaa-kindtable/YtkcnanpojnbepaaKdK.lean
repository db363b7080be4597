/- The document's first examples: what alive answers. -/
import Derived.Test.YtkcnanpojnbepaaKdF
import Derived.Test.YtkcnanpojnbepaaKdG
namespace Go.Proofs.Ytkcnanpojnbepaa
open Go.RowKit
set_option linter.unusedVariables false

theorem al_c0 : checkK 24 [0, 16] = 0 := by decide
theorem al_c1 : checkK 20 [16] = 11 := by decide
theorem al_p0 : plainK 24 [0, 16] 8 8 = true := by decide
theorem al_p1 : plainK 24 [0, 16] 8 9 = false := by decide
theorem al_b : bytesK 24 [0, 16] = [24, 2, 0, 1] := by decide
theorem al_s : ((bs [24, 2, 0, 1]).toList == [24, 2, 0, 1]) = true := by decide +kernel

set_option maxRecDepth 20000 in
set_option maxHeartbeats 2000000 in
theorem alive_any (w : World) : Calls Try.prog 9 #[] w fun e w' => e = .returned (.bool true) ∧ Below w.heap.size w w' := by
  obtain ⟨D, hD⟩ : ∃ D, (w.alloc (.cells #[.int .i64 0, .int .i64 16] 3)).alloc (.cells #[.int .i64 24, .slice (some ⟨w.heap.size, 0, none⟩) 2 2] 24) = D := ⟨_, rfl⟩
  have B0 : Hid (Below w.heap.size w D) := by show Below _ _ _; rw [← hD]; exact ((Below.refl _ w).alloc (Nat.le_refl _) _).alloc (by simp) _
  have hrow : D.heap[w.heap.size]? = some (.cells #[.int .i64 0, .int .i64 16] 3 (0, 0)) := by
    rw [← hD, ((Below.refl _ (w.alloc (.cells #[.int .i64 0, .int .i64 16] 3))).alloc (Nat.le_refl _) (.cells #[.int .i64 24, .slice (some ⟨w.heap.size, 0, none⟩) 2 2] 24)).block w.heap.size (by simp)]
    exact Go.heap_alloc_new w _
  have hbox : D.heap[w.heap.size + 1]? = some (.cells #[.int .i64 24, .slice (some ⟨w.heap.size, 0, none⟩) 2 2] 24 (0, 0)) := by
    have := Go.heap_alloc_new (w.alloc (.cells #[.int .i64 0, .int .i64 16] 3)) (.cells #[.int .i64 24, .slice (some ⟨w.heap.size, 0, none⟩) 2 2] 24)
    rw [show (w.alloc (.cells #[.int .i64 0, .int .i64 16] 3)).heap.size = w.heap.size + 1 from by simp, hD] at this
    exact this
  have q0 : D.cell? ⟨w.heap.size + 1, 0, none⟩ = some (.int .i64 24) := cell_of_row _ _ 0 _ _ _ hbox
  have q1 : D.cell? ⟨w.heap.size + 1, 1, none⟩ = some (.slice (some ⟨w.heap.size, 0, none⟩) 2 2) := cell_of_row _ _ 1 _ _ _ hbox
  have I0 : Hid (IsI D (some ⟨w.heap.size, 0, none⟩) [0, 16]) := by
    refine ⟨by intro x hx; simp at hx; omega, .inr ⟨w.heap.size, 0, rfl, (Array.getElem?_eq_some_iff.1 hrow).1, fun i hi => ?_⟩⟩
    rw [cell_of_row _ _ _ _ _ _ hrow]
    rcases i with _ | _ | i
    · rfl
    · rfl
    · have hi' : i + 1 + 1 < 2 := hi
      omega
  clear hrow hbox
  go_enter Try.func9, Try.ntmps9
  go_wp2_with fail
  refine (check_is 24 (some ⟨w.heap.size, 0, none⟩) 2 2 [0, 16] 0 _ rfl al_c0 I0.out (by decide)).mono ?_
  rintro e w1 ⟨rfl, b1⟩
  have B1 : Hid (Below D.heap.size D w1) := b1
  have r0 := bcellK B1.out q0
  have r1 := bcellK B1.out q1
  clear b1 q0 q1 hD
  obtain ⟨E, hE⟩ : ∃ E, w1.alloc (.cells #[.int .i64 16] 3) = E := ⟨_, rfl⟩
  have B2 : Hid (Below w1.heap.size w1 E) := by show Below _ _ _; rw [← hE]; exact (Below.refl _ w1).alloc (Nat.le_refl _) _
  have I2 : Hid (IsI E (some ⟨w1.heap.size, 0, none⟩) [16]) := by show IsI _ _ _; rw [← hE]; exact one_isI w1 16 (by omega)
  have s0 := bcellK B2.out r0
  have s1 := bcellK B2.out r1
  go_wp2_with fail
  refine (check_is 20 (some ⟨w1.heap.size, 0, none⟩) 1 1 [16] 11 _ rfl al_c1 I2.out (by decide)).mono ?_
  rintro e w3 ⟨rfl, b3⟩
  have B3 : Hid (Below D.heap.size D w3) := (B1.out.trans (B2.out.mono B1.out.size)).trans (b3.mono (Nat.le_trans B1.out.size B2.out.size))
  have u0 := bcellK b3 s0
  have u1 := bcellK b3 s1
  clear b3 s0 s1 r0 r1 hE
  go_wp2_with fail
  refine (plain_is 24 (some ⟨w.heap.size, 0, none⟩) 2 2 [0, 16] 8 8 true _ rfl al_p0 (I0.out.keep B3.out) (by decide) (by decide) (by decide)).mono ?_
  rintro e w4 ⟨rfl, b4⟩
  have B4 : Hid (Below D.heap.size D w4) := B3.out.trans (b4.mono B3.out.size)
  have v0 := bcellK b4 u0
  have v1 := bcellK b4 u1
  clear b4 u0 u1
  go_wp2_with fail
  refine (plain_is 24 (some ⟨w.heap.size, 0, none⟩) 2 2 [0, 16] 8 9 false _ rfl al_p1 (I0.out.keep B4.out) (by decide) (by decide) (by decide)).mono ?_
  rintro e w5 ⟨rfl, b5⟩
  have B5 : Hid (Below D.heap.size D w5) := B4.out.trans (b5.mono B4.out.size)
  have x0 := bcellK b5 v0
  have x1 := bcellK b5 v1
  clear b5 v0 v1
  go_wp2_with fail
  refine (kbytes_any 24 (some ⟨w.heap.size, 0, none⟩) 2 [0, 16] _ (I0.out.keep B5.out) (by decide)).mono ?_
  rw [al_b]
  rintro e w6 ⟨a6, c6, rfl, o6, b6⟩
  have k6 : (convert 35 9 (.slice a6 4 c6)).run Try.prog w6 = .ok (.string (bs [24, 2, 0, 1])) w6 := conv_run w6 a6 c6 [24, 2, 0, 1] (ownsB_isB (by intro x hx; simp at hx; omega) o6)
  have B6 : Hid (Below w.heap.size w w6) := B0.out.trans ((B5.out.trans (b6.mono B5.out.size)).mono B0.out.size)
  clear o6 b6
  go_wp2
  go_ret
  exact ⟨ret_bool al_s, B6.out⟩
end Go.Proofs.Ytkcnanpojnbepaa
