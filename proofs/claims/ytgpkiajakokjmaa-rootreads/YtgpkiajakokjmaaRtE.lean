/- Layer 20: Right. -/
import Derived.Test.YtgpkiajakokjmaaRtD
namespace Go.Proofs.Ytgpkiajakokjmaa
open Go.RowKit
set_option linter.unusedVariables false
set_option maxRecDepth 4000

theorem good_of (x : Int) (v : Bool) (w : World) (hv : decide (goodR x) = v) : Calls Try.prog 28 #[.int .i64 x] w fun e w' => e = .returned (.bool v) ∧ w = w' := by
  subst hv; exact good_any x w
theorem rgood_of (x : Int) (v : Bool) (w : World) (hv : decide (goodR x) = v) : Calls Try.prog 32 #[.int .i64 x] w fun e w' => e = .returned (.bool v) ∧ w = w' := by
  subst hv; exact rgood_any x w
theorem right_no {x : Rt} {s : Int} (h : ¬ (goodR x.b ∧ 1 ≤ x.p ∧ x.p ≤ 4096 ∧ 1 ≤ x.w ∧ x.w ≤ 8 ∧ 1 ≤ x.h ∧ x.h ≤ 4096 ∧ 0 ≤ x.r ∧ x.r ≤ x.h ∧ 0 ≤ x.k ∧ x.k ≤ 64)) : rightR x s = false := by
  unfold rightR numOk
  rw [decide_eq_false h, Bool.false_and]
theorem right_yes {x : Rt} {s : Int} (h : goodR x.b ∧ 1 ≤ x.p ∧ x.p ≤ 4096 ∧ 1 ≤ x.w ∧ x.w ≤ 8 ∧ 1 ≤ x.h ∧ x.h ≤ 4096 ∧ 0 ≤ x.r ∧ x.r ≤ x.h ∧ 0 ≤ x.k ∧ x.k ≤ 64) : rightR x s = (okE x.p 0 (aheadE x.k x.r) x.es && x.es.all (plOk s)) := by
  unfold rightR numOk
  rw [decide_eq_true h, Bool.true_and]
set_option maxRecDepth 20000 in
set_option maxHeartbeats 8000000 in
/-- Right. -/
theorem cright_any (x : Rt) (s : Int) (a : Option Addr) (cp : Nat) (w : World) (h : IsW w a x.es) (he : EI x.es) (hl : x.es.length ≤ 4398046511104) (hs : s ≤ 9223372036854775807) (hr : -9223372036854775808 ≤ x.r) (hk : -9223372036854775808 ≤ x.k) :
    Calls Try.prog 14 #[.agg #[.int .i64 x.b, .int .i64 x.p, .int .i64 x.w, .int .i64 x.h, .int .i64 x.r, .int .i64 x.k, .slice a x.es.length cp], .int .i64 s] w fun e w' => e = .returned (.bool (rightR x s)) ∧ Below w.heap.size w w' := by
  obtain ⟨D, hD, rD, bD⟩ := rtbox w x (.slice a x.es.length cp) 26
  obtain ⟨V, hV⟩ : ∃ V, rightR x s = V := ⟨_, rfl⟩
  have NO : Hid (¬ (goodR x.b ∧ 1 ≤ x.p ∧ x.p ≤ 4096 ∧ 1 ≤ x.w ∧ x.w ≤ 8 ∧ 1 ≤ x.h ∧ x.h ≤ 4096 ∧ 0 ≤ x.r ∧ x.r ≤ x.h ∧ 0 ≤ x.k ∧ x.k ≤ 64) → V = false) := fun q => by rw [← hV]; exact right_no q
  have YES : Hid ((goodR x.b ∧ 1 ≤ x.p ∧ x.p ≤ 4096 ∧ 1 ≤ x.w ∧ x.w ≤ 8 ∧ 1 ≤ x.h ∧ x.h ≤ 4096 ∧ 0 ≤ x.r ∧ x.r ≤ x.h ∧ 0 ≤ x.k ∧ x.k ≤ 64) → V = (okE x.p 0 (aheadE x.k x.r) x.es && x.es.all (plOk s))) := fun q => by rw [← hV]; exact right_yes q
  have LI : Hid (∀ (w : World), IsW w a x.es → 1 ≤ x.p ∧ x.p ≤ 4096 → x.r ≤ 4096 → x.k ≤ 64 → Calls Try.prog 30 #[.agg #[.int .i64 x.b, .int .i64 x.p, .int .i64 x.w, .int .i64 x.h, .int .i64 x.r, .int .i64 x.k, .slice a x.es.length cp]] w fun e w' => e = .returned (.bool (okE x.p 0 (aheadE x.k x.r) x.es)) ∧ Below w.heap.size w w') := fun w h1 h2 h3 h4 => listed_any x a cp w h1 he hl h2 ⟨hr, h3⟩ ⟨hk, h4⟩
  rw [hV]
  clear hV
  obtain ⟨xb, p, xw, xh, r, k, es⟩ := x
  simp only at h he hl hr hk hD rD NO YES LI ⊢
  have HW : Hid (IsW D a es) := h.keep bD
  have PLC : Hid (∀ w : World, IsW w a es → Calls Try.prog 31 #[.slice a es.length cp, .int .i64 s] w fun e w' => e = .returned (.bool (es.all (plOk s))) ∧ Below w.heap.size w w') := fun w h => placed_any20 a cp es s w h hl hs
  have HD : Hid (w.alloc (.cells #[.int .i64 xb, .int .i64 p, .int .i64 xw, .int .i64 xh, .int .i64 r, .int .i64 k, .slice a es.length cp] 26) = D) := hD
  have BD : Hid (Below w.heap.size w D) := bD
  obtain ⟨nd, hnd⟩ : ∃ nd, w.heap.size = nd := ⟨_, rfl⟩
  rw [hnd] at rD
  have HND : Hid (w.heap.size = nd) := hnd
  have RD : Hid _ := rD
  have c0 : D.cell? ⟨nd, 0, none⟩ = some (.int .i64 xb) := cell_of_row _ _ 0 _ _ _ rD
  have c1 : D.cell? ⟨nd, 1, none⟩ = some (.int .i64 p) := cell_of_row _ _ 1 _ _ _ rD
  have c2 : D.cell? ⟨nd, 2, none⟩ = some (.int .i64 xw) := cell_of_row _ _ 2 _ _ _ rD
  have c3 : D.cell? ⟨nd, 3, none⟩ = some (.int .i64 xh) := cell_of_row _ _ 3 _ _ _ rD
  have c4 : D.cell? ⟨nd, 4, none⟩ = some (.int .i64 r) := cell_of_row _ _ 4 _ _ _ rD
  have c5 : D.cell? ⟨nd, 5, none⟩ = some (.int .i64 k) := cell_of_row _ _ 5 _ _ _ rD
  have c6 : D.cell? ⟨nd, 6, none⟩ = some (.slice a es.length cp) := cell_of_row _ _ 6 _ _ _ rD
  clear h he hD rD bD hnd
  obtain ⟨v0, hv0⟩ : ∃ v, decide (goodR xb) = v := ⟨_, rfl⟩
  obtain ⟨v1, hv1⟩ : ∃ v, decide (1 ≤ p ∧ p ≤ 4096) = v := ⟨_, rfl⟩
  obtain ⟨v2, hv2⟩ : ∃ v, decide (1 ≤ xw ∧ xw ≤ 8) = v := ⟨_, rfl⟩
  obtain ⟨v3, hv3⟩ : ∃ v, decide (1 ≤ xh ∧ xh ≤ 4096) = v := ⟨_, rfl⟩
  obtain ⟨v4, hv4⟩ : ∃ v, decide (0 ≤ r ∧ r ≤ xh) = v := ⟨_, rfl⟩
  obtain ⟨v5, hv5⟩ : ∃ v, decide (0 ≤ k ∧ k ≤ 64) = v := ⟨_, rfl⟩
  have V0 : Hid (decide (goodR xb) = v0) := hv0
  have V1 : Hid (decide (1 ≤ p ∧ p ≤ 4096) = v1) := hv1
  have V2 : Hid (decide (1 ≤ xw ∧ xw ≤ 8) = v2) := hv2
  have V3 : Hid (decide (1 ≤ xh ∧ xh ≤ 4096) = v3) := hv3
  have V4 : Hid (decide (0 ≤ r ∧ r ≤ xh) = v4) := hv4
  have V5 : Hid (decide (0 ≤ k ∧ k ≤ 64) = v5) := hv5
  clear hv0 hv1 hv2 hv3 hv4 hv5
  cases v0 with
  | false =>
    obtain rfl : V = false := NO.out (fun q => by have := of_decide_eq_false V0.out; exact this q.1)
    go_enter Try.func14, Try.ntmps14
    go_upto_region 1 with (fail)
    rw [HD.out]
    try rw [HND.out]
    go_wp2_with (go_at_call 28; refine (good_of xb false _ V0.out).mono ?_; rintro e w' ⟨rfl, rfl⟩)
    go_ret
    exact ⟨rfl, BD.out⟩
  | true =>
  cases v1 with
  | false =>
    obtain rfl : V = false := NO.out (fun q => by have := of_decide_eq_false V1.out; omega)
    go_enter Try.func14, Try.ntmps14
    go_upto_region 1 with (fail)
    rw [HD.out]
    try rw [HND.out]
    go_wp2_with (first | (go_at_call 28; refine (good_of xb true _ V0.out).mono ?_; rintro e w' ⟨rfl, rfl⟩) | (go_at_call_of 29 (Value.int .i64 p); refine (within_of p 1 4096 false _ V1.out).mono ?_; rintro e w' ⟨rfl, rfl⟩))
    go_ret
    exact ⟨rfl, BD.out⟩
  | true =>
  cases v2 with
  | false =>
    obtain rfl : V = false := NO.out (fun q => by have := of_decide_eq_false V2.out; omega)
    go_enter Try.func14, Try.ntmps14
    go_upto_region 1 with (fail)
    rw [HD.out]
    try rw [HND.out]
    go_wp2_with (first | (go_at_call 28; refine (good_of xb true _ V0.out).mono ?_; rintro e w' ⟨rfl, rfl⟩) | (go_at_call_of 29 (Value.int .i64 p); refine (within_of p 1 4096 true _ V1.out).mono ?_; rintro e w' ⟨rfl, rfl⟩) | (go_at_call_of 29 (Value.int .i64 xw); refine (within_of xw 1 8 false _ V2.out).mono ?_; rintro e w' ⟨rfl, rfl⟩))
    go_ret
    exact ⟨rfl, BD.out⟩
  | true =>
  cases v3 with
  | false =>
    obtain rfl : V = false := NO.out (fun q => by have := of_decide_eq_false V3.out; omega)
    go_enter Try.func14, Try.ntmps14
    go_upto_region 1 with (fail)
    rw [HD.out]
    try rw [HND.out]
    go_wp2_with (first | (go_at_call 28; refine (good_of xb true _ V0.out).mono ?_; rintro e w' ⟨rfl, rfl⟩) | (go_at_call_of 29 (Value.int .i64 p); refine (within_of p 1 4096 true _ V1.out).mono ?_; rintro e w' ⟨rfl, rfl⟩) | (go_at_call_of 29 (Value.int .i64 xw); refine (within_of xw 1 8 true _ V2.out).mono ?_; rintro e w' ⟨rfl, rfl⟩) | (go_at_call_of 29 (Value.int .i64 xh); refine (within_of xh 1 4096 false _ V3.out).mono ?_; rintro e w' ⟨rfl, rfl⟩))
    go_ret
    exact ⟨rfl, BD.out⟩
  | true =>
  cases v4 with
  | false =>
    obtain rfl : V = false := NO.out (fun q => by have := of_decide_eq_false V4.out; omega)
    go_enter Try.func14, Try.ntmps14
    go_upto_region 1 with (fail)
    rw [HD.out]
    try rw [HND.out]
    go_wp2_with (first | (go_at_call 28; refine (good_of xb true _ V0.out).mono ?_; rintro e w' ⟨rfl, rfl⟩) | (go_at_call_of 29 (Value.int .i64 p); refine (within_of p 1 4096 true _ V1.out).mono ?_; rintro e w' ⟨rfl, rfl⟩) | (go_at_call_of 29 (Value.int .i64 xw); refine (within_of xw 1 8 true _ V2.out).mono ?_; rintro e w' ⟨rfl, rfl⟩) | (go_at_call_of 29 (Value.int .i64 r); refine (within_of r 0 xh false _ V4.out).mono ?_; rintro e w' ⟨rfl, rfl⟩) | (go_at_call_of 29 (Value.int .i64 xh); refine (within_of xh 1 4096 true _ V3.out).mono ?_; rintro e w' ⟨rfl, rfl⟩))
    go_ret
    exact ⟨rfl, BD.out⟩
  | true =>
  cases v5 with
  | false =>
    obtain rfl : V = false := NO.out (fun q => by have := of_decide_eq_false V5.out; omega)
    go_enter Try.func14, Try.ntmps14
    go_upto_region 1 with (fail)
    rw [HD.out]
    try rw [HND.out]
    go_wp2_with (first | (go_at_call 28; refine (good_of xb true _ V0.out).mono ?_; rintro e w' ⟨rfl, rfl⟩) | (go_at_call_of 29 (Value.int .i64 p); refine (within_of p 1 4096 true _ V1.out).mono ?_; rintro e w' ⟨rfl, rfl⟩) | (go_at_call_of 29 (Value.int .i64 xw); refine (within_of xw 1 8 true _ V2.out).mono ?_; rintro e w' ⟨rfl, rfl⟩) | (go_at_call_of 29 (Value.int .i64 r); refine (within_of r 0 xh true _ V4.out).mono ?_; rintro e w' ⟨rfl, rfl⟩) | (go_at_call_of 29 (Value.int .i64 xh); refine (within_of xh 1 4096 true _ V3.out).mono ?_; rintro e w' ⟨rfl, rfl⟩) | (go_at_call_of 29 (Value.int .i64 k); refine (within_of k 0 64 false _ V5.out).mono ?_; rintro e w' ⟨rfl, rfl⟩))
    go_ret
    exact ⟨rfl, BD.out⟩
  | true =>
    have q0 := of_decide_eq_true V0.out
    have q1 := of_decide_eq_true V1.out
    have q2 := of_decide_eq_true V2.out
    have q3 := of_decide_eq_true V3.out
    have q4 := of_decide_eq_true V4.out
    have q5 := of_decide_eq_true V5.out
    have EV : Hid (V = (okE p 0 (aheadE k r) es && es.all (plOk s))) := YES.out ⟨q0, q1.1, q1.2, q2.1, q2.2, q3.1, q3.2, q4.1, q4.2, q5.1, q5.2⟩
    have L2 : Hid (∀ (w : World), IsW w a es → Calls Try.prog 30 #[.agg #[.int .i64 xb, .int .i64 p, .int .i64 xw, .int .i64 xh, .int .i64 r, .int .i64 k, .slice a es.length cp]] w fun e w' => e = .returned (.bool (okE p 0 (aheadE k r) es)) ∧ Below w.heap.size w w') := fun w h => LI.out w h q1 (by omega) q5.2
    clear q0 q1 q2 q3 q4 q5 LI YES NO
    obtain ⟨u1, hu1⟩ : ∃ u, okE p 0 (aheadE k r) es = u := ⟨_, rfl⟩
    obtain ⟨u2, hu2⟩ : ∃ u, es.all (plOk s) = u := ⟨_, rfl⟩
    rw [hu1] at EV L2
    rw [hu2] at EV PLC
    clear hu1 hu2
    obtain ⟨M, hM⟩ : ∃ M, es.length = M := ⟨_, rfl⟩
    rw [hM] at L2 PLC c6 hl HD RD ⊢
    clear hM
    go_enter Try.func14, Try.ntmps14
    go_upto_region 1 with (fail)
    rw [HD.out]
    try rw [HND.out]
    cases u1 with
    | false =>
      obtain rfl : V = false := EV.out
      go_wp2_with (first | (go_at_call 28; refine (good_of xb true _ V0.out).mono ?_; rintro e w' ⟨rfl, rfl⟩) | (go_at_call_of 29 (Value.int .i64 p); refine (within_of p 1 4096 true _ V1.out).mono ?_; rintro e w' ⟨rfl, rfl⟩) | (go_at_call_of 29 (Value.int .i64 xw); refine (within_of xw 1 8 true _ V2.out).mono ?_; rintro e w' ⟨rfl, rfl⟩) | (go_at_call_of 29 (Value.int .i64 r); refine (within_of r 0 xh true _ V4.out).mono ?_; rintro e w' ⟨rfl, rfl⟩) | (go_at_call_of 29 (Value.int .i64 xh); refine (within_of xh 1 4096 true _ V3.out).mono ?_; rintro e w' ⟨rfl, rfl⟩) | (go_at_call_of 29 (Value.int .i64 k); refine (within_of k 0 64 true _ V5.out).mono ?_; rintro e w' ⟨rfl, rfl⟩) | (go_at_call 30; refine Calls.mono (L2.out _ HW.out) ?_; rintro e w2 ⟨rfl, b2⟩; have B2 : Hid (Below w.heap.size w w2) := BD.out.trans (b2.mono BD.out.size); clear b2))
      go_ret
      exact ⟨rfl, B2.out⟩
    | true =>
      obtain rfl : V = u2 := EV.out
      go_wp2_with (first | (go_at_call 28; refine (good_of xb true _ V0.out).mono ?_; rintro e w' ⟨rfl, rfl⟩) | (go_at_call_of 29 (Value.int .i64 p); refine (within_of p 1 4096 true _ V1.out).mono ?_; rintro e w' ⟨rfl, rfl⟩) | (go_at_call_of 29 (Value.int .i64 xw); refine (within_of xw 1 8 true _ V2.out).mono ?_; rintro e w' ⟨rfl, rfl⟩) | (go_at_call_of 29 (Value.int .i64 r); refine (within_of r 0 xh true _ V4.out).mono ?_; rintro e w' ⟨rfl, rfl⟩) | (go_at_call_of 29 (Value.int .i64 xh); refine (within_of xh 1 4096 true _ V3.out).mono ?_; rintro e w' ⟨rfl, rfl⟩) | (go_at_call_of 29 (Value.int .i64 k); refine (within_of k 0 64 true _ V5.out).mono ?_; rintro e w' ⟨rfl, rfl⟩) | (go_at_call 30; refine Calls.mono (L2.out _ HW.out) ?_; rintro e w2 ⟨rfl, b2⟩; have B2 : Hid (Below w.heap.size w w2) := BD.out.trans (b2.mono BD.out.size); have W2 : Hid (IsW w2 a es) := HW.out.keep b2; have d6 := bcellK b2 c6; clear b2) | (go_at_call 31; refine Calls.mono (PLC.out _ W2.out) ?_; rintro e w3 ⟨rfl, b3⟩; have B3 : Hid (Below w.heap.size w w3) := B2.out.trans (b3.mono B2.out.size); clear b3))
      go_ret
      exact ⟨rfl, B3.out⟩
end Go.Proofs.Ytgpkiajakokjmaa
