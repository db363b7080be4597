/- Layer 18: the document's first examples: what alive answers. -/
import Derived.Test.YtjalagjnhjaaoaaPhC
import Derived.Test.YtjalagjnhjaaoaaPhD
import Derived.Test.YtjalagjnhjaaoaaKdF
namespace Go.Proofs.Ytjalagjnhjaaoaa
open Go.RowKit
set_option linter.unusedVariables false
set_option maxRecDepth 4000

theorem al_r : pgOut [⟨2, false, 0, 0⟩, ⟨1, true, 3, 48⟩] 0 = ([2, 4, 3, 3, 48], 0) := by decide +kernel
theorem al_k : pgOutK [(16, [0])] 0 = ([1, 16, 1, 0], 0) := by decide +kernel
theorem al_c : cntP 33 32 = 2 := by decide
theorem al_s1 : ((bs [2, 4, 3, 3, 48]).toList == [2, 4, 3, 3, 48]) = true := by decide +kernel
theorem al_s2 : ((bs [1, 16, 1, 0]).toList == [1, 16, 1, 0]) = true := by decide +kernel
theorem al_rows (w D : World) (hD : w.alloc (.cells #[.int .i64 2, .bool false, .int .i64 0, .int .i64 0, .int .i64 1, .bool true, .int .i64 3, .int .i64 48] 51) = D) : IsW D (some ⟨w.heap.size, 0, none⟩) [⟨2, false, 0, 0⟩, ⟨1, true, 3, 48⟩] ∧ Below w.heap.size w D := by
  have r : D.heap[w.heap.size]? = some (.cells #[.int .i64 2, .bool false, .int .i64 0, .int .i64 0, .int .i64 1, .bool true, .int .i64 3, .int .i64 48] 51 (0, 0)) := by rw [← hD]; exact Go.heap_alloc_new w _
  refine ⟨.inr ⟨w.heap.size, 0, rfl, hlt r, fun i hi => ?_⟩, by rw [← hD]; exact (Below.refl _ w).alloc (Nat.le_refl _) _⟩
  rw [cell_of_row _ _ _ _ _ _ r, cell_of_row _ _ _ _ _ _ r, cell_of_row _ _ _ _ _ _ r, cell_of_row _ _ _ _ _ _ r]
  rcases i with _ | _ | i
  · exact ⟨rfl, rfl, rfl, rfl⟩
  · exact ⟨rfl, rfl, rfl, rfl⟩
  · have hi' : i + 1 + 1 < 2 := hi
    omega
theorem al_kinds (w D : World) (hD : (w.alloc (.cells #[.int .i64 0] 3)).alloc (.cells #[.int .i64 16, .slice (some ⟨w.heap.size, 0, none⟩) 1 1] 54) = D) : IsK D (some ⟨w.heap.size + 1, 0, none⟩) [⟨16, some ⟨w.heap.size, 0, none⟩, 1, [0]⟩] ∧ Below w.heap.size w D := by
  have hrow : D.heap[w.heap.size]? = some (.cells #[.int .i64 0] 3 (0, 0)) := by
    rw [← hD, ((Below.refl _ (w.alloc (.cells #[.int .i64 0] 3))).alloc (Nat.le_refl _) (.cells #[.int .i64 16, .slice (some ⟨w.heap.size, 0, none⟩) 1 1] 54)).block w.heap.size (by simp)]
    exact Go.heap_alloc_new w _
  have hbox : D.heap[w.heap.size + 1]? = some (.cells #[.int .i64 16, .slice (some ⟨w.heap.size, 0, none⟩) 1 1] 54 (0, 0)) := by
    have := Go.heap_alloc_new (w.alloc (.cells #[.int .i64 0] 3)) (.cells #[.int .i64 16, .slice (some ⟨w.heap.size, 0, none⟩) 1 1] 54)
    rw [show (w.alloc (.cells #[.int .i64 0] 3)).heap.size = w.heap.size + 1 from by simp, hD] at this
    exact this
  refine ⟨⟨.inr ⟨w.heap.size + 1, 0, rfl, hlt hbox, fun i hi => ?_⟩, fun k hk => ?_⟩, by rw [← hD]; exact ((Below.refl _ w).alloc (Nat.le_refl _) _).alloc (by simp) _⟩
  · obtain rfl : i = 0 := by simpa using hi
    exact ⟨cell_of_row _ _ 0 _ _ _ hbox, cell_of_row _ _ 1 _ _ _ hbox⟩
  · simp at hk
    subst hk
    refine ⟨⟨by intro x hx; simp at hx; omega, .inr ⟨w.heap.size, 0, rfl, hlt hrow, fun i hi => ?_⟩⟩, (fun q => by cases q), by simp [maxLen]⟩
    obtain rfl : i = 0 := by simpa using hi
    exact cell_of_row _ _ 0 _ _ _ hrow

set_option maxRecDepth 20000 in
set_option maxHeartbeats 4000000 in
theorem alive18 (w : World) : Calls Try.prog 9 #[] w fun e w' => e = .returned (.bool true) ∧ Below w.heap.size w w' := by
  obtain ⟨D, hD⟩ : ∃ D, w.alloc (.cells #[.int .i64 2, .bool false, .int .i64 0, .int .i64 0, .int .i64 1, .bool true, .int .i64 3, .int .i64 48] 51) = D := ⟨_, rfl⟩
  obtain ⟨i0, b0⟩ := al_rows w D hD
  have I0 : Hid (IsW D (some ⟨w.heap.size, 0, none⟩) [⟨2, false, 0, 0⟩, ⟨1, true, 3, 48⟩]) := i0
  have B0 : Hid (Below w.heap.size w D) := b0
  have R0 : Hid (Calls Try.prog 10 #[.slice (some ⟨w.heap.size, 0, none⟩) 2 2, .int .i64 0] D fun e w' => ∃ a' c', e = .returned (.tuple #[.slice a' 5 c', .int .i64 0]) ∧ OwnsB w' D.heap.size a' [2, 4, 3, 3, 48] c' ∧ Below D.heap.size D w') := by
    have q := prows_any (some ⟨w.heap.size, 0, none⟩) 2 [⟨2, false, 0, 0⟩, ⟨1, true, 3, 48⟩] 0 D i0 (by decide) (by decide) (by omega)
    rw [al_r] at q
    exact q
  clear i0 b0
  go_enter Try.func9, Try.ntmps9
  go_wp2_with fail
  refine Calls.mono R0.out ?_
  rintro e w1 ⟨a1, c1, rfl, o1, b1⟩
  have B1 : Hid (Below w.heap.size w w1) := B0.out.trans (b1.mono B0.out.size)
  have I1 : Hid (IsB w1 a1 [2, 4, 3, 3, 48]) := ownsB_isB (by intro x hx; simp at hx; omega) o1
  clear b1 o1 hD R0 I0 B0
  obtain ⟨E, hE⟩ : ∃ E, (w1.alloc (.cells #[.int .i64 0] 3)).alloc (.cells #[.int .i64 16, .slice (some ⟨w1.heap.size, 0, none⟩) 1 1] 54) = E := ⟨_, rfl⟩
  obtain ⟨i2, b2⟩ := al_kinds w1 E hE
  have R2 : Hid (Calls Try.prog 18 #[.slice (some ⟨w1.heap.size + 1, 0, none⟩) 1 1, .int .i64 0] E fun e w' => ∃ a' c', e = .returned (.tuple #[.slice a' 4 c', .int .i64 0]) ∧ OwnsB w' E.heap.size a' [1, 16, 1, 0] c' ∧ Below E.heap.size E w') := by
    have q := pkinds_any (some ⟨w1.heap.size + 1, 0, none⟩) 1 [⟨16, some ⟨w1.heap.size, 0, none⟩, 1, [0]⟩] 0 E i2 (by simp) (by simp) (by omega)
    rw [show List.map kp [(⟨16, some ⟨w1.heap.size, 0, none⟩, 1, [0]⟩ : Kd)] = [(16, [0])] from rfl, al_k] at q
    exact q
  have B2 : Hid (Below w1.heap.size w1 E) := b2
  clear i2 b2
  go_wp2_with fail
  refine Calls.mono R2.out ?_
  rintro e w3 ⟨a3, c3, rfl, o3, b3⟩
  have B3 : Hid (Below w1.heap.size w1 w3) := B2.out.trans (b3.mono B2.out.size)
  have I3 : IsB w3 a3 [1, 16, 1, 0] := ownsB_isB (by intro x hx; simp at hx; omega) o3
  have k3 : (convert 24 9 (.slice a3 4 c3)).run Try.prog w3 = .ok (.string (bs [1, 16, 1, 0])) w3 := conv_run w3 a3 c3 [1, 16, 1, 0] I3
  have k1 : (convert 24 9 (.slice a1 5 c1)).run Try.prog w3 = .ok (.string (bs [2, 4, 3, 3, 48])) w3 := conv_run w3 a1 c1 [2, 4, 3, 3, 48] (I1.out.keep B3.out)
  have s1 := al_s1
  have s2 := al_s2
  have BZ : Hid (Below w.heap.size w w3) := B1.out.trans (B3.out.mono B1.out.size)
  have CN : Hid (Calls Try.prog 14 #[.int .i64 33, .int .i64 32] w3 fun e w' => e = .returned (.int .i64 2) ∧ w3 = w') := by
    have q := pcount_any 33 32 w3 (by omega) (by omega)
    rw [al_c] at q
    exact q
  clear o3 b3 I3 hE
  go_wp2_with (go_at_call 14; refine Calls.mono CN.out ?_; rintro e w' ⟨rfl, rfl⟩)
  go_ret
  exact ⟨rfl, BZ.out⟩
end Go.Proofs.Ytjalagjnhjaaoaa
