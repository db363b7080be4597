/- So many noughts and so many more are both at once, and sums laid over one another stay so: the law SumSteps, for every input. -/
import Derived.Test.YtfojmpcdgkolhaaSumM
import Derived.Lib.SmallJoins
import Derived.Deep.RegionHeld3
namespace Go.Proofs.Ytfojmpcdgkolhaa
open Go.ChangeShapes Go.WideShapes Go.ChangeAt Go.RowKit
set_option linter.unusedVariables false

set_option maxHeartbeats 1000000 in
theorem sumSteps_any (s t A B : Nat) (hs : s < 4294967296) (ht : t < 4294967296) (hA : A < 4294967296) (hB : B < 4294967296) (w : World) :
    Calls Try.prog 7 #[.int .u32 s, .int .u32 t, .agg #[.int .u32 A, .int .u32 B]] w fun e w' => e = .returned (.bool true) ∧ Below w.heap.size w w' := by
  go_enter Try.func7, Try.ntmps7
  go_wp2_with fail
  refine (alive_any _).mono ?_
  rintro e w1 ⟨rfl, b1⟩
  have f0 : w1.cell? ⟨w.heap.size, 0, none⟩ = some (.int .u32 A) := by rw [b1.cell (by simp)]; simp
  have f1 : w1.cell? ⟨w.heap.size, 1, none⟩ = some (.int .u32 B) := by rw [b1.cell (by simp)]; simp
  have B1 : Hid (Below w.heap.size w w1) := ((Below.refl _ w).alloc (Nat.le_refl _) _).trans (b1.mono (by simp))
  clear b1
  have wa : IntKind.i64.wrap (A : Int) = A := by rw [IntKind.wrap_i64]; omega
  have wb : IntKind.i64.wrap (B : Int) = B := by rw [IntKind.wrap_i64]; omega
  go_wp2_with fail
  go_region
  have B2 : Hid (Below w.heap.size w w1.drew) := B1.out.drew
  generalize w1.drew = w2 at *
  go_wp2_with fail
  refine (shift_any _ s rfl hs A (by omega) w2).mono ?_
  rintro e w3 ⟨rfl, b3⟩
  rw [Int.toNat_natCast]
  have B3 : Hid (Below w.heap.size w w3) := B2.out.trans (b3.mono B2.out.size)
  clear b3
  go_wp2_with fail
  refine (shift_any _ (steps (8 * A) s) rfl (steps_lt _ _ hs) B (by omega) w3).mono ?_
  rintro e w4 ⟨rfl, b4⟩
  rw [Int.toNat_natCast, ← steps_add]
  have B4 : Hid (Below w.heap.size w w4) := B3.out.trans (b4.mono B3.out.size)
  clear b4
  go_wp2_with fail
  refine (shift_any _ s rfl hs (A + B : Int) (by omega) w4).mono ?_
  rintro e w5 ⟨rfl, b5⟩
  rw [show 8 * ((A : Int) + B).toNat = 8 * A + 8 * B from by omega]
  have B5 : Hid (Below w.heap.size w w5) := B4.out.trans (b5.mono B4.out.size)
  clear b5
  go_wp2_with fail
  refine (shift_any _ (s ^^^ t) (u32_xor_nat s t hs ht) (xor_lt hs ht) A (by omega) w5).mono ?_
  rintro e w6 ⟨rfl, b6⟩
  rw [Int.toNat_natCast, steps_xor, ← u32_xor_nat _ _ (steps_lt (8 * A) s hs) (steps_lt (8 * A) t ht)]
  have B6 : Hid (Below w.heap.size w w6) := B5.out.trans (b6.mono B5.out.size)
  clear b6
  go_wp2_with fail
  refine (shift_any _ s rfl hs A (by omega) w6).mono ?_
  rintro e w7 ⟨rfl, b7⟩
  rw [Int.toNat_natCast]
  have B7 : Hid (Below w.heap.size w w7) := B6.out.trans (b7.mono B6.out.size)
  clear b7
  go_wp2_with fail
  refine (shift_any _ t rfl ht A (by omega) w7).mono ?_
  rintro e w8 ⟨rfl, b8⟩
  rw [Int.toNat_natCast]
  have B8 : Hid (Below w.heap.size w w8) := B7.out.trans (b8.mono B7.out.size)
  clear b8
  go_wp2_with fail
  refine (shift_any _ s rfl hs (-(B : Int)) (by omega) w8).mono ?_
  rintro e w9 ⟨rfl, b9⟩
  rw [show 8 * (-(B : Int)).toNat = 0 from by omega, show steps 0 s = s from rfl]
  have B9 : Hid (Below w.heap.size w w9) := B8.out.trans (b9.mono B8.out.size)
  clear b9
  go_wp2
  go_ret
  exact ⟨rfl, B9.out⟩

theorem cellsSteps : Try.prog.cellsOf 35 = 2 := by kernel_rfl

set_option maxRecDepth 100000 in
theorem sumSteps_lifted (os : Os) (started : os.Started) (H : Type) (enc : TypeId × Value → H) :
    ReturnsInHanded {} Try.checked os 7 .any (Rows.sumStepsSpec.pre6 enc Try.prog Try.f7 Rows.sumStepsRow.domain false) (Rows.sumStepsSpec.post enc Try.prog Try.f7 false true false false) := by
  refine returnsInHanded_of_change (C := Try.checked) own started (by kernel_rfl) Try.func7
    (ChangeSpec.witness6 (enc := enc) (C := Try.checked) false ⟨#[], #[.int .u32 0, .int .u32 0, .agg #[.int .u32 0, .int .u32 0]], []⟩ 8 (by kernel_rfl) (by kernel_rfl) (by kernel_rfl) (by kernel_rfl)) ?_
  intro W base args ds gs before hval0 hW hcnd _
  have hval : ∀ (j : Nat) t v, Try.f7.params[j]? = some t → args[j]? = some v → Value.okWide Try.prog W .any base t v := hval0
  have hW' := hW
  obtain ⟨p, q, hA0, hV, rfl, hfz, hnd⟩ := hW
  have hA : DataW.TrodAll enc Try.prog W 0 (fun _ => true) true Try.f7.params.toList args.toList ds p := hA0
  rw [Try.params7] at hA hval
  obtain ⟨v0, vs0, d0, ds0, p0, q0, hargs, rfl, rfl, h0, r0⟩ := trodAll_cons hA
  obtain ⟨v1, vs1, d1, ds1, p1, q1, rfl, rfl, rfl, h1, r1⟩ := trodAll_cons r0
  obtain ⟨v2, vs2, d2, ds2, p2, q2, rfl, rfl, rfl, h2, r2⟩ := trodAll_cons r1
  obtain ⟨rfl, rfl, rfl⟩ := trodAll_nil r2
  obtain rfl : args = #[v0, v1, v2] := by cases args; simp_all
  obtain ⟨rfl, rfl⟩ := trodVars_none hV
  obtain ⟨a0, rfl, rfl, rfl, w0⟩ := open_int Try.underlying22 (hval 0 22 v0 rfl rfl) h0
  obtain ⟨a1, rfl, rfl, rfl, w1⟩ := open_int Try.underlying22 (hval 1 22 v1 rfl rfl) h1
  have k2 := h2
  have lt2 : ∀ x ∈ p2, x.block < W.heap.size := by obtain ⟨m, hm⟩ := k2; exact DataW.trod_lt m _ _ _ hm
  obtain ⟨c0, c1, y0, y1, n, rfl, rfl, rfl, hy0, hy1⟩ := Joins.open_agg2 Try.underlying35 (by kernel_rfl) cellsSteps (hval 2 35 v2 rfl rfl) h2
  obtain ⟨xa, ea, rfl, wa⟩ := DataW.trod_int Try.underlying22 hy0
  obtain ⟨xb, eb, rfl, wb⟩ := DataW.trod_int Try.underlying22 hy1
  simp at ea eb
  subst ea eb
  obtain ⟨m0, rfl, q0⟩ := u32_of_wf w0
  obtain ⟨m1, rfl, q1⟩ := u32_of_wf w1
  obtain ⟨A, rfl, qA⟩ := u32_of_wf wa
  obtain ⟨B, rfl, qB⟩ := u32_of_wf wb
  clear hA0 hval0
  refine (sumSteps_any m0 m1 A B q0 q1 qA qB W).mono fun e W' ⟨he, bel⟩ => ?_
  subst he
  exact ⟨_, rfl, _, _, _, [], _, [], hW', trodAll_mk1 (shut_bool Try.underlying4 _), (trodAll_cons_mk (shut_int Try.underlying22 w0) (trodAll_cons_mk (shut_int Try.underlying22 w1) (trodAll_cons_mk (Below.trod laidOut (by kernel_rfl) (of_decide_eq_true (by kernel_rfl)) k2 bel lt2) trodAll_mk0))), rfl, bel.frame _, fun h => by cases h⟩

theorem sumSteps_holds : Rows.SumStepsSaid :=
  OpenClaim.holds_of_wide 7 Try.f7 rfl rfl rfl rfl rfl rfl rfl ⟨rfl, rfl, rfl, rfl, rfl⟩ rfl rfl rfl rfl rfl (by kernel_rfl) Try.func7 (by kernel_rfl)
    (of_decide_eq_true (by kernel_rfl)) (by unfold Func.isWrapper; first | (rw [if_pos (by decide +kernel)]; kernel_rfl) | (rw [if_neg (by decide +kernel)]; exact ⟨rfl, rfl⟩))
    (fun os started H enc _ => sumSteps_lifted os started H enc)
#print axioms sumSteps_holds
end Go.Proofs.Ytfojmpcdgkolhaa
