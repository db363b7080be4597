/- The document's first examples: what alive answers. -/
import Derived.Test.YthlnljabbnhfkaaRoE
import Derived.Test.YthlnljabbnhfkaaRoH
namespace Go.Proofs.Ythlnljabbnhfkaa
open Go.RowKit
set_option linter.unusedVariables false

theorem al_b : bytesT [0, 8, 24] = [3, 0, 0, 1] := by decide
theorem al_e : errT [0, 8, 24] = 0 := by decide
theorem al_r : rightT 31 [0, 8, 24] = false := by decide
theorem al_r2 : rightT 32 [0, 8, 24] = true := by decide
theorem al_a : applyB (putL 8 300) [0] 256 512 256 = putL 8 556 := by decide
theorem al_ae : applyE (putL 8 300) [0] 256 512 256 = 0 := by decide
theorem al_g : getL ((putL 8 556).take 8) = 556 := by decide
theorem three_isI (w : World) : IsI (w.alloc (.cells #[.int .i64 0, .int .i64 8, .int .i64 24] 3)) (some ⟨w.heap.size, 0, none⟩) [0, 8, 24] := by
  refine ⟨by intro x hx; simp at hx; omega, .inr ⟨w.heap.size, 0, rfl, by simp, fun i hi => ?_⟩⟩
  rw [cell_of_row _ _ _ _ _ _ (Go.heap_alloc_new w _)]
  rcases i with _ | _ | _ | i
  · rfl
  · rfl
  · rfl
  · have hi' : i + 1 + 1 + 1 < 3 := hi
    omega
theorem three_below (w : World) : Below w.heap.size w (w.alloc (.cells #[.int .i64 0, .int .i64 8, .int .i64 24] 3)) := (Below.refl _ w).alloc (Nat.le_refl _) _

set_option maxRecDepth 20000 in
set_option maxHeartbeats 4000000 in
theorem alive_any (w : World) : Calls Try.prog 9 #[] w fun e w' => e = .returned (.bool true) ∧ Below w.heap.size w w' := by
  obtain ⟨D, hD⟩ : ∃ D, w.alloc (.cells #[.int .i64 0, .int .i64 8, .int .i64 24] 3) = D := ⟨_, rfl⟩
  have I0 : Hid (IsI D (some ⟨w.heap.size, 0, none⟩) [0, 8, 24]) := by show IsI _ _ _; rw [← hD]; exact three_isI w
  have B0 : Hid (Below w.heap.size w D) := by show Below _ _ _; rw [← hD]; exact three_below w
  go_enter Try.func9, Try.ntmps9
  go_wp2_with fail
  refine (obytes_any (some ⟨w.heap.size, 0, none⟩) 3 [0, 8, 24] _ I0.out (by decide)).mono ?_
  rw [al_b, al_e]
  rintro e w1 ⟨a1, c1, rfl, o1, b1⟩
  have O1 : Hid (IsB w1 a1 [3, 0, 0, 1]) := ownsB_isB (by intro x hx; simp at hx; omega) o1
  have B1 : Hid (Below w.heap.size w w1) := B0.out.trans (b1.mono B0.out.size)
  clear o1 b1 hD
  go_wp2_with fail
  refine (put_word 300 (by omega) (by omega) _).mono ?_
  rintro e w2 ⟨rfl, r2, b2⟩
  obtain ⟨E, hE⟩ : ∃ E, w2.alloc (.cells #[.int .i64 0] 3) = E := ⟨_, rfl⟩
  have B2 : Hid (Below w2.heap.size w2 E) := by show Below _ _ _; rw [← hE]; exact (Below.refl _ w2).alloc (Nat.le_refl _) _
  have I2 : Hid (IsI E (some ⟨w2.heap.size, 0, none⟩) [0]) := by show IsI _ _ _; rw [← hE]; exact one_isI w2 0 (by omega)
  have R2 : Hid (IsB E (some ⟨w1.heap.size, 0, none⟩) (putL 8 300)) := (r2.keep B2.out).isB (putL_byte 8 _)
  have BE : Hid (Below w.heap.size w E) := (B1.out.trans (b2.mono B1.out.size)).trans (B2.out.mono (Nat.le_trans B1.out.size b2.size))
  have BF : Hid (Below w1.heap.size w1 E) := b2.trans (B2.out.mono b2.size)
  clear r2 b2
  go_wp2_with fail
  (try rw [hE])
  refine (oapply_any (some ⟨w1.heap.size, 0, none⟩) (some ⟨w2.heap.size, 0, none⟩) 8 1 (putL 8 300) [0] 256 512 256 _ R2.out (by decide) I2.out (by decide) (by decide)).mono ?_
  rw [al_a, al_ae]
  rintro e w3 ⟨a3, c3, rfl, n3, l3, m3, k3, b3⟩
  have N3 : Hid (IsB w3 a3 (putL 8 556)) := n3.isB
  have B3 : Hid (Below w.heap.size w w3) := BE.out.trans (b3.mono BE.out.size)
  have O3 : Hid (IsB w3 a1 [3, 0, 0, 1]) := O1.out.keep (BF.out.trans (b3.mono BF.out.size))
  have k6 : (convert 23 9 (.slice a1 4 c1)).run Try.prog w3 = .ok (.string (bs [3, 0, 0, 1])) w3 := conv_run w3 a1 c1 [3, 0, 0, 1] O3.out
  have s6 : (bs [3, 0, 0, 1]).toList = [3, 0, 0, 1] := by decide +kernel
  clear n3 l3 m3 k3 b3 hE
  obtain ⟨F, hF⟩ : ∃ F, w3.alloc (.cells #[.int .i64 0, .int .i64 8, .int .i64 24] 3) = F := ⟨_, rfl⟩
  have I4 : Hid (IsI F (some ⟨w3.heap.size, 0, none⟩) [0, 8, 24]) := by show IsI _ _ _; rw [← hF]; exact three_isI w3
  have B4 : Hid (Below w3.heap.size w3 F) := by show Below _ _ _; rw [← hF]; exact three_below w3
  go_wp2_with fail
  (try rw [hF])
  refine (oright_is (some ⟨w3.heap.size, 0, none⟩) 3 3 [0, 8, 24] 31 false _ rfl al_r I4.out (by decide) (by omega)).mono ?_
  rintro e w4 ⟨rfl, rfl⟩
  clear hF
  obtain ⟨G, hG⟩ : ∃ G, F.alloc (.cells #[.int .i64 0, .int .i64 8, .int .i64 24] 3) = G := ⟨_, rfl⟩
  have I5 : Hid (IsI G (some ⟨F.heap.size, 0, none⟩) [0, 8, 24]) := by show IsI _ _ _; rw [← hG]; exact three_isI F
  have B5 : Hid (Below F.heap.size F G) := by show Below _ _ _; rw [← hG]; exact three_below F
  go_wp2_with fail
  (try rw [hG])
  refine (oright_is (some ⟨F.heap.size, 0, none⟩) 3 3 [0, 8, 24] 32 true _ rfl al_r2 I5.out (by decide) (by omega)).mono ?_
  rintro e w5 ⟨rfl, rfl⟩
  clear hG
  have BG : Hid (Below w3.heap.size w3 G) := B4.out.trans (B5.out.mono B4.out.size)
  have B6 : Hid (Below w.heap.size w G) := B3.out.trans (BG.out.mono B3.out.size)
  go_wp2_with fail
  refine (get_of a3 c3 8 (putL 8 556) 556 _ rfl al_g (N3.out.keep BG.out) (by decide)).mono ?_
  rintro e w6 ⟨rfl, rfl⟩
  go_wp2
  go_ret
  exact ⟨rfl, B6.out⟩
end Go.Proofs.Ythlnljabbnhfkaa
