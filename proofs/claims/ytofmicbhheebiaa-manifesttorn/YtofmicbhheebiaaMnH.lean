/- Layer 21: what all laws ask first: the document's example. -/
import Derived.Test.YtofmicbhheebiaaMnN
namespace Go.Proofs.Ytofmicbhheebiaa
open Go.RowKit
set_option linter.unusedVariables false
set_option maxRecDepth 4000

set_option maxRecDepth 20000 in
set_option maxHeartbeats 4000000 in
theorem alive21 (w : World) : Calls Try.prog 8 #[] w fun e w' => e = .returned (.bool true) ∧ Below w.heap.size w w' := by
  have hok : okM ⟨1, 3, 40⟩ = true := by decide
  have MB : Hid (∀ w : World, Calls Try.prog 9 #[.agg #[.int .i64 1, .int .i64 3, .int .i64 40]] w fun e w' => ∃ g, w.heap.size ≤ g ∧ e = .returned (.tuple #[.slice (some ⟨g, 0, none⟩) 64 64, .int .i64 0]) ∧ RowB w' g 5 (manM ⟨1, 3, 40⟩) ∧ Below w.heap.size w w') := fun w => mbytes_ok ⟨1, 3, 40⟩ w hok
  have MR : Hid (∀ (w : World) (g : Nat), RowB w g 5 (manM ⟨1, 3, 40⟩) → Calls Try.prog 14 #[.slice (some ⟨g, 0, none⟩) 64 64] w fun e w' => e = .returned (.tuple #[.agg #[.int .i64 1, .int .i64 3, .int .i64 40], .int .i64 0]) ∧ Below w.heap.size w w') := fun w g r => by
    have q := mread_any (some ⟨g, 0, none⟩) 64 64 (manM ⟨1, 3, 40⟩) w (r.isB (manM_allB _)) (manM_len _).symm (by rw [manM_len]; decide) (by rw [manM_len]; decide)
    rw [manM_read hok, manM_right hok] at q
    exact q
  have NX : Hid (∀ w : World, Calls Try.prog 17 #[.slice none 0 0, .int .i64 (-1)] w fun e w' => e = .returned (.tuple #[.int .i64 1, .int .i64 0, .int .i64 0]) ∧ Below w.heap.size w w') := fun w => mnext_any none 0 [] (-1) w (.inl rfl) (fun x h => by cases h) (fun x h => by cases h) (by decide)
  have SC : Hid (∀ w : World, Calls Try.prog 12 #[.int .i64 1, .int .i64 8] w fun e w' => e = .returned (.int .i64 7) ∧ w = w') := fun w => msector_any 1 8 w
  have zl := manM_len ⟨1, 3, 40⟩
  have z0 : (manM ⟨1, 3, 40⟩).getD 0 0 = 1 := by decide +kernel
  have z4 : (manM ⟨1, 3, 40⟩).getD 4 0 = 3 := by decide +kernel
  have z8 : (manM ⟨1, 3, 40⟩).getD 8 0 = 40 := by decide +kernel
  have z60 : (manM ⟨1, 3, 40⟩).getD 60 0 = 1 := by decide +kernel
  obtain ⟨Z, hZ⟩ : ∃ Z, manM ⟨1, 3, 40⟩ = Z := ⟨_, rfl⟩
  rw [hZ] at MB MR zl z0 z4 z8 z60
  have CZ : Hid (∀ (w : World) (g : Nat), RowB w g 5 Z → w.cell? ⟨g, 0, none⟩ = some (.int .u8 1) ∧ w.cell? ⟨g, 4, none⟩ = some (.int .u8 3) ∧ w.cell? ⟨g, 8, none⟩ = some (.int .u8 40) ∧ w.cell? ⟨g, 60, none⟩ = some (.int .u8 1)) := fun w g r => by
    refine ⟨?_, ?_, ?_, ?_⟩
    · rw [r.cell 0 (by omega), z0]
    · rw [r.cell 4 (by omega), z4]
    · rw [r.cell 8 (by omega), z8]
    · rw [r.cell 60 (by omega), z60]
  clear hZ hok z0 z4 z8 z60 zl
  go_enter Try.func8, Try.ntmps8
  go_wp2_with fail
  refine Calls.mono (MB.out _) ?_
  rintro e w1 ⟨g, hg, rfl, r1, b1⟩
  have R1 : Hid (RowB w1 g 5 Z) := r1
  have B1 : Hid (Below w.heap.size w w1) := b1
  clear r1 b1 hg
  go_wp2_with fail
  refine Calls.mono (MR.out _ g R1.out) ?_
  rintro e w2 ⟨rfl, b2⟩
  obtain ⟨D, hD, rD, bD⟩ := box21 29 w2 1 3 40
  have HD : Hid _ := hD
  have B2 : Hid (Below w.heap.size w D) := (B1.out.trans (b2.mono B1.out.size)).trans (bD.mono (Nat.le_trans B1.out.size b2.size))
  have R2 : Hid (RowB D g 5 Z) := (R1.out.keep b2).keep bD
  have RD : Hid (D.heap[w2.heap.size]? = some (.cells #[.int .i64 1, .int .i64 3, .int .i64 40] 29 (0, 0))) := rD
  obtain ⟨n2, hn2⟩ : ∃ n, w2.heap.size = n := ⟨_, rfl⟩
  rw [hn2] at RD
  have HN2 : Hid (w2.heap.size = n2) := hn2
  clear hD rD bD b2 hn2
  go_upto_region 3 with (fail)
  rw [HD.out]
  (try rw [HN2.out])
  go_wp2_with fail
  refine Calls.mono (NX.out _) ?_
  rintro e w3 ⟨rfl, b3⟩
  have B3 : Hid (Below w.heap.size w w3) := B2.out.trans (b3.mono B2.out.size)
  obtain ⟨q0, q4, q8, q60⟩ := CZ.out w3 g (R2.out.keep b3)
  obtain ⟨y0, y1, y2⟩ := three21 (by rw [b3.block _ (Array.getElem?_eq_some_iff.1 RD.out).1]; exact RD.out : w3.heap[n2]? = some (.cells #[.int .i64 1, .int .i64 3, .int .i64 40] 29 (0, 0)))
  clear b3
  go_wp2_with (go_at_call 12; refine Calls.mono (SC.out _) ?_; rintro e w' ⟨rfl, rfl⟩)
  go_ret
  exact ⟨rfl, B3.out⟩
end Go.Proofs.Ytofmicbhheebiaa
