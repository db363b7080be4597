/- The document's examples of layer 2 come out: alive answers true, and turns nothing that was there. -/
import Derived.Test.YtfojmpcdgkolhaaSumK
import Derived.Lib.SlBytesConst
namespace Go.Proofs.Ytfojmpcdgkolhaa
open Go.RowKit
set_option linter.unusedVariables false

theorem ex1 : moreL 0 [49, 50, 51, 52, 53, 54, 55, 56, 57] = 3808858755 := by kernel_rfl
theorem ex2 : steps 8 1 = 4067132163 := by kernel_rfl
theorem ex3 : steps (8 * (5 : Int).toNat) (moreL 0 [49, 50, 51, 52]) ^^^ moreL 0 [53, 54, 55, 56, 57] = 3808858755 := by kernel_rfl

theorem isB_new (w : World) (l : List Int) (fr : Nat × Nat) (hl : ∀ x ∈ l, 0 ≤ x ∧ x ≤ 255) : IsB (w.alloc (.cells (l.map (Value.int .u8)).toArray 5 fr)) (some ⟨w.heap.size, 0, none⟩) l := by
  refine ⟨hl, .inr ⟨w.heap.size, 0, rfl, by simp, ?_⟩⟩
  intro i hi
  rw [Nat.zero_add, cell_of_row _ _ i _ _ _ (heap_alloc_new _ _)]
  simp [hi, List.getD]

set_option maxHeartbeats 2000000 in
theorem alive_any (w : World) : Calls Try.prog 9 #[] w fun r w' => r = .returned (.bool true) ∧ Below w.heap.size w w' := by
  have hcv := fun (w : World) (C : Array Value) (n c : Nat) => Lib.run_convert_bytes_const (P := Try.prog) w 23 5 C n c Try.underlying23 Try.underlying5
  go_enter Try.func9, Try.ntmps9
  go_wp2_with fail
  refine (sum_any _ 9 [49, 50, 51, 52, 53, 54, 55, 56, 57] _ (isB_new w [49, 50, 51, 52, 53, 54, 55, 56, 57] _ (by decide)) (by decide)).mono ?_
  rintro e w1 ⟨rfl, rfl⟩
  rw [ex1]
  go_wp2_with fail
  refine (shift_any _ 1 rfl (by decide) 1 (by decide) _).mono ?_
  rintro e w2 ⟨rfl, hb2⟩
  rw [show steps (8 * (1 : Int).toNat) 1 = 4067132163 from ex2]
  have hbw : Below w.heap.size w w2 := ((Below.refl _ w).alloc (Nat.le_refl _) _).trans (hb2.mono (by simp))
  clear hb2
  go_wp2_with fail
  refine (sum_any _ 4 [49, 50, 51, 52] _ (isB_new w2 [49, 50, 51, 52] _ (by decide)) (by decide)).mono ?_
  rintro e w3 ⟨rfl, hw⟩
  have hbw3 : Below w.heap.size w w3 := by rw [← hw]; exact hbw.alloc hbw.size _
  clear hw
  go_wp2_with fail
  refine (sum_any _ 5 [53, 54, 55, 56, 57] _ (isB_new _ [53, 54, 55, 56, 57] _ (by decide)) (by decide)).mono ?_
  rintro e w4 ⟨rfl, hw⟩
  have hbw4 : Below w.heap.size w w4 := by rw [← hw]; exact hbw3.alloc hbw3.size _
  clear hw
  go_wp2_with fail
  refine (join_any _ _ (moreL 0 [49, 50, 51, 52]) (moreL 0 [53, 54, 55, 56, 57]) rfl rfl (moreL_lt _ _ (by decide) (by decide)) (moreL_lt _ _ (by decide) (by decide)) 5 (by decide) _).mono ?_
  rintro e w5 ⟨rfl, hb5⟩
  rw [ex3]
  go_wp2
  go_ret
  exact ⟨rfl, hbw4.trans (hb5.mono hbw4.size)⟩
end Go.Proofs.Ytfojmpcdgkolhaa
