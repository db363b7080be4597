/- The document's examples: alive. -/
import Derived.Test.YtebmegghojiegaaDoorGsR
import Derived.Test.YtebmegghojiegaaDoorBbC
namespace Go.Proofs.YtebmegghojiegaaDoor
open Go.RowKit
set_option linter.unusedVariables false
set_option linter.unusedSimpArgs false

theorem ex_two : ∃ x y : Ob, objsV (exV 272) = [x, y] ∧ x.t = [65538] := by
  have h := ex_objs
  obtain ⟨l, hl⟩ : ∃ l, objsV (exV 272) = l := ⟨_, rfl⟩
  rw [hl] at h ⊢
  match l, h with
  | [], h => cases h
  | [x], h => simp at h
  | [x, y], h => simp at h; exact ⟨x, y, rfl, h.1⟩
  | x :: y :: z :: l, h => simp at h
set_option maxRecDepth 20000 in
set_option maxHeartbeats 4000000 in
theorem alive14 (w : World) (hT : TabC w) :
    Calls Tryd.prog 8 #[] w fun e w' => e = .returned (.bool true) ∧ Below w.heap.size w w' := by
  have HT : Hid (TabC w) := hT
  clear hT
  go_enter Tryd.func8, Tryd.ntmps8
  go_wp2_with fail
  refine (example_any 272 w (by omega) (by omega)).mono ?_
  rintro e w1 ⟨rfl, rv1, b1⟩
  have RV1 : Hid (Rv w1 (exV 272) (exA w.heap.size)) := rv1
  have B1 : Hid (Bl w w1) := b1
  have CH1 : Hid (Calls Tryd.prog 11 #[.agg #[.int .i64 256, .int .i64 1, .slice (some ⟨w.heap.size + 1 + 1, 0, none⟩) 1 1, .slice (some ⟨w.heap.size + 1 + 1 + 1, 0, none⟩) 2 2, .slice (some ⟨w.heap.size + 1 + 1 + 1 + 1 + 1, 0, none⟩) 1 1, .slice (some ⟨w.heap.size + 1 + 1 + 1 + 1 + 1 + 1, 0, none⟩) 256 256]] w1 fun e w' => ∃ x, e = .returned (.tuple #[.int .i64 0, .int .i64 x]) ∧ Below w1.heap.size w1 w') :=
    (check_any14 (exV 272) (exA w.heap.size) w1 rv1 (HT.out.keep b1)).mono (by
      rintro e w' ⟨r, x, rfl, hc, b⟩
      obtain rfl : r = 0 := hc.zero.2 ex_272
      exact ⟨x, rfl, b⟩)
  clear rv1 b1
  go_wp2_with fail
  refine CH1.out.mono ?_
  rintro e w2 ⟨x2, rfl, b2⟩
  have B2 : Hid (Bl w w2) := B1.out.trans b2
  clear b2 CH1
  go_wp2_with fail
  refine (example_any 273 w2 (by omega) (by omega)).mono ?_
  rintro e w3 ⟨rfl, rv3, b3⟩
  have B3 : Hid (Bl w w3) := B2.out.trans b3
  have CH3 : Hid (Calls Tryd.prog 11 #[.agg #[.int .i64 256, .int .i64 1, .slice (some ⟨w2.heap.size + 1 + 1, 0, none⟩) 1 1, .slice (some ⟨w2.heap.size + 1 + 1 + 1, 0, none⟩) 2 2, .slice (some ⟨w2.heap.size + 1 + 1 + 1 + 1 + 1, 0, none⟩) 1 1, .slice (some ⟨w2.heap.size + 1 + 1 + 1 + 1 + 1 + 1, 0, none⟩) 256 256]] w3 fun e w' => e = .returned (.tuple #[.int .i64 7, .int .i64 0]) ∧ Below w3.heap.size w3 w') :=
    (check_any14 (exV 273) (exA w2.heap.size) w3 rv3 (HT.out.keep B3.out)).mono (by
      rintro e w' ⟨r, x, rfl, hc, b⟩
      obtain ⟨rfl, rfl⟩ := hc.one ex_273
      exact ⟨rfl, b⟩)
  clear rv3 b3
  go_wp2_with fail
  refine CH3.out.mono ?_
  rintro e w4 ⟨rfl, b4⟩
  have B4 : Hid (Bl w w4) := B3.out.trans b4
  clear b4 CH3
  go_wp2_with fail
  refine (example_any 272 w4 (by omega) (by omega)).mono ?_
  rintro e w5 ⟨rfl, rv5, b5⟩
  have B5 : Hid (Bl w w5) := B4.out.trans b5
  have CO : Hid (Calls Tryd.prog 14 #[.agg #[.int .i64 256, .int .i64 1, .slice (some ⟨w4.heap.size + 1 + 1, 0, none⟩) 1 1, .slice (some ⟨w4.heap.size + 1 + 1 + 1, 0, none⟩) 2 2, .slice (some ⟨w4.heap.size + 1 + 1 + 1 + 1 + 1, 0, none⟩) 1 1, .slice (some ⟨w4.heap.size + 1 + 1 + 1 + 1 + 1 + 1, 0, none⟩) 256 256]] w5 fun e w' => ∃ g off c gh hk, e = .returned (.slice (some ⟨g, off, none⟩) 2 c) ∧ w'.cell? ⟨g, off + 3, none⟩ = some (.slice (some ⟨gh, 0, none⟩) 1 hk) ∧ w'.cell? ⟨gh, 0, none⟩ = some (.int .u64 65538) ∧ Below w5.heap.size w5 w') :=
    (objects_any (exV 272) (exA w4.heap.size) w5 rv5 (HT.out.keep B5.out)).mono (by
      rintro e w' ⟨r, x, hc, h, b⟩
      obtain rfl : r = 0 := hc.zero.2 ex_272
      rcases h with ⟨_, a, n, c, rfl, hn, ht⟩ | ⟨h, _⟩
      · obtain ⟨x, y, e, et⟩ := ex_two
        rw [e] at hn ht
        obtain rfl : 2 = n := hn
        obtain ⟨g, off, ba, bk, ha, hk, ea, _, _, _, c3, _, hH, _⟩ := ht.rd 0 (by simp)
        simp only [List.getElem_cons_zero, Nat.zero_mul, Nat.add_zero] at c3 hH
        rw [et] at c3 hH
        rcases hH with h0 | ⟨gh, e2, _, hq⟩
        · cases h0
        · refine ⟨g, off, c, gh, hk, by rw [ea], by rw [← e2]; exact c3, hq 0 (by simp), b⟩
      · exact absurd rfl h)
  clear rv5 b5
  go_wp2_with fail
  refine CO.out.mono ?_
  rintro e w6 ⟨g, off, c, gh, hk, rfl, c3, q0, b6⟩
  have B6 : Hid (Bl w w6) := B5.out.trans b6
  clear b6 CO
  go_wp2
  go_ret
  exact ⟨rfl, B6.out⟩
end Go.Proofs.YtebmegghojiegaaDoor
