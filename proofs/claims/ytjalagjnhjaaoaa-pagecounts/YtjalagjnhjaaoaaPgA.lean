/- Layer 18: Count and May of the document. -/
import Derived.Test.YtjalagjnhjaaoaaPgW
import Derived.Deep.CutRange
namespace Go.Proofs.Ytjalagjnhjaaoaa
open Go.RowKit
set_option linter.unusedVariables false
set_option maxRecDepth 4000

theorem cnt_quo {n per : Int} (h : ¬ (n < 1 ∨ per < 1)) : (Int.tmod n per = 0 → Int.tdiv n per = cntP n per) ∧ (¬ Int.tmod n per = 0 → Int.tdiv n per + 1 = cntP n per) := by
  have hn : 1 ≤ n := by omega
  have hp : 1 ≤ per := by omega
  rw [Int.tdiv_eq_ediv_of_nonneg (by omega), Int.tmod_eq_emod_of_nonneg (by omega)]
  unfold cntP
  rw [if_neg h]
  have e : n % per + per * (n / per) = n := by have := Int.emod_def n per; omega
  have m0 := Int.emod_nonneg n (show per ≠ 0 by omega)
  have m1 := Int.emod_lt_of_pos n (show 0 < per by omega)
  constructor
  · intro q
    rw [q] at e
    have : (n - 1) / per = n / per - 1 := by
      rw [show n - 1 = (per - 1) + per * (n / per - 1) by rw [Int.mul_sub]; omega, Int.add_mul_ediv_left _ _ (by omega), Int.ediv_eq_zero_of_lt (by omega) (by omega)]
      omega
    omega
  · intro q
    have : (n - 1) / per = n / per := by
      rw [show n - 1 = (n % per - 1) + per * (n / per) by omega, Int.add_mul_ediv_left _ _ (by omega), Int.ediv_eq_zero_of_lt (by omega) (by omega)]
      omega
    omega
theorem cnt_le {n per : Int} : 0 ≤ cntP n per ∧ (1 ≤ n → cntP n per ≤ n) := by
  unfold cntP
  by_cases h : n < 1 ∨ per < 1
  · rw [if_pos h]; omega
  · rw [if_neg h]
    have h1 := Int.ediv_nonneg (show 0 ≤ n - 1 by omega) (show 0 ≤ per by omega)
    have h2 := Int.ediv_le_self per (show 0 ≤ n - 1 by omega)
    omega

set_option maxHeartbeats 2000000 in
/-- Count of the document. -/
theorem dcount_any (n per : Int) (w : World) (hn : -9223372036854775808 ≤ n ∧ n ≤ 9223372036854775807) (hp : -9223372036854775808 ≤ per ∧ per ≤ 9223372036854775807) :
    Calls Try.prog 15 #[.int .i64 n, .int .i64 per] w fun e w' => e = .returned (.int .i64 (cntP n per)) ∧ w = w' := by
  by_cases h1 : n < 1
  · have e : cntP n per = 0 := if_pos (.inl h1)
    rw [e]
    go_enter Try.func15, Try.ntmps15
    go_wp2
    go_ret
    exact ⟨rfl, rfl⟩
  · by_cases h2 : per < 1
    · have e : cntP n per = 0 := if_pos (.inr h2)
      rw [e]
      go_enter Try.func15, Try.ntmps15
      go_wp2
      go_ret
      exact ⟨rfl, rfl⟩
    · obtain ⟨q1, q2⟩ := cnt_quo (n := n) (per := per) (by omega)
      obtain ⟨l0, l1⟩ := cnt_le (n := n) (per := per)
      have l1 := l1 (by omega)
      obtain ⟨C, hC⟩ : ∃ C, cntP n per = C := ⟨_, rfl⟩
      rw [hC] at q1 q2 l0 l1
      rw [hC]
      have p0 : ¬ per = 0 := by omega
      have p1 : ¬ per = -1 := by omega
      have d0 : 0 ≤ Int.tdiv n per := Int.tdiv_nonneg (by omega) (by omega)
      have d1 : Int.tdiv n per ≤ n := Int.tdiv_le_self per (by omega)
      have wq : IntKind.i64.wrap (Int.tdiv n per) = Int.tdiv n per := by rw [IntKind.wrap_i64]; omega
      obtain ⟨D, hD⟩ : ∃ D, Int.tdiv n per = D := ⟨_, rfl⟩
      obtain ⟨R, hR⟩ : ∃ R, Int.tmod n per = R := ⟨_, rfl⟩
      rw [hD] at q1 q2 d0 d1 wq
      rw [hR] at q1 q2
      by_cases h0 : R = 0
      · have e := q1 h0
        subst h0
        subst e
        clear q1 q2 hC
        go_enter Try.func15, Try.ntmps15
        go_wp2
        go_ret
        exact ⟨rfl, rfl⟩
      · have e := q2 h0
        have hb : (R != 0) = true := bne_iff_ne.2 h0
        have wc : IntKind.i64.wrap (D + 1) = C := by rw [e, IntKind.wrap_i64]; omega
        clear q1 q2 hC
        go_enter Try.func15, Try.ntmps15
        go_wp2
        go_ret
        exact ⟨rfl, rfl⟩

/-- A row in a box of its own. -/
theorem rbox18 (w : World) (x : HRw) : ∃ w1, w.alloc (.cells #[.int .i64 x.gen, .bool x.live, .int .i64 x.kind, .int .i64 x.pl] 51) = w1 ∧ w1.heap[w.heap.size]? = some (.cells #[.int .i64 x.gen, .bool x.live, .int .i64 x.kind, .int .i64 x.pl] 51 (0, 0)) ∧ Below w.heap.size w w1 :=
  ⟨_, rfl, Go.heap_alloc_new w _, (Below.refl _ w).alloc (Nat.le_refl _) _⟩
set_option maxRecDepth 20000 in
set_option maxHeartbeats 4000000 in
/-- May of the document. -/
theorem dmay_any (x : HRw) (v : Bool) (w : World) (hv : mayR x = v) :
    Calls Try.prog 28 #[.agg #[.int .i64 x.gen, .bool x.live, .int .i64 x.kind, .int .i64 x.pl]] w fun e w' => e = .returned (.bool v) ∧ Below w.heap.size w w' := by
  obtain ⟨D, hD, rD, bD⟩ := rbox18 w x
  obtain ⟨g, lv, k, a⟩ := x
  simp only at hD rD
  have HD : Hid (w.alloc (.cells #[.int .i64 g, .bool lv, .int .i64 k, .int .i64 a] 51) = D) := hD
  have BD : Hid (Below w.heap.size w D) := bD
  have c0 : D.cell? ⟨w.heap.size, 0, none⟩ = some (.int .i64 g) := cell_of_row _ _ 0 _ _ _ rD
  have c1 : D.cell? ⟨w.heap.size, 1, none⟩ = some (.bool lv) := cell_of_row _ _ 1 _ _ _ rD
  have c2 : D.cell? ⟨w.heap.size, 2, none⟩ = some (.int .i64 k) := cell_of_row _ _ 2 _ _ _ rD
  have c3 : D.cell? ⟨w.heap.size, 3, none⟩ = some (.int .i64 a) := cell_of_row _ _ 3 _ _ _ rD
  clear hD rD bD
  cases lv
  · have hv' : v = decide (0 ≤ g ∧ g ≤ 65535 ∧ k = 0 ∧ a = 0) := by rw [← hv]; exact if_neg (by simp)
    have HV : Hid (v = decide (0 ≤ g ∧ g ≤ 65535 ∧ k = 0 ∧ a = 0)) := hv'
    clear hv hv'
    by_cases g0 : 0 ≤ g
    · by_cases g1 : g ≤ 65535
      · by_cases k0 : k = 0
        · by_cases a0 : a = 0
          · subst k0; subst a0
            go_enter Try.func28, Try.ntmps28
            go_upto_region 1 with (fail)
            rw [HD.out]
            go_wp2
            go_ret
            exact ⟨by rw [show v = true by rw [HV.out]; exact decide_eq_true (by simp [g0, g1])]; rfl, BD.out⟩
          · subst k0
            have ab : (a == 0) = false := beq_eq_false_iff_ne.2 a0
            go_enter Try.func28, Try.ntmps28
            go_upto_region 1 with (fail)
            rw [HD.out]
            go_wp2
            go_ret
            exact ⟨by rw [show v = false by rw [HV.out]; exact decide_eq_false (by omega)]; rfl, BD.out⟩
        · have kb : (k == 0) = false := beq_eq_false_iff_ne.2 k0
          go_enter Try.func28, Try.ntmps28
          go_upto_region 1 with (fail)
          rw [HD.out]
          go_wp2
          go_ret
          exact ⟨by rw [show v = false by rw [HV.out]; exact decide_eq_false (by omega)]; rfl, BD.out⟩
      · go_enter Try.func28, Try.ntmps28
        go_upto_region 1 with (fail)
        rw [HD.out]
        go_wp2
        go_ret
        exact ⟨by rw [show v = false by rw [HV.out]; exact decide_eq_false (by omega)]; rfl, BD.out⟩
    · go_enter Try.func28, Try.ntmps28
      go_upto_region 1 with (fail)
      rw [HD.out]
      go_wp2
      go_ret
      exact ⟨by rw [show v = false by rw [HV.out]; exact decide_eq_false (by omega)]; rfl, BD.out⟩
  · have hv' : v = decide (1 ≤ g ∧ g ≤ 65535 ∧ 0 ≤ k ∧ k ≤ 63 ∧ 0 ≤ a ∧ a ≤ 1048575) := by rw [← hv]; exact if_pos rfl
    have HV : Hid (v = decide (1 ≤ g ∧ g ≤ 65535 ∧ 0 ≤ k ∧ k ≤ 63 ∧ 0 ≤ a ∧ a ≤ 1048575)) := hv'
    clear hv hv'
    by_cases g0 : 1 ≤ g
    rotate_left
    · go_enter Try.func28, Try.ntmps28
      go_upto_region 1 with (fail)
      rw [HD.out]
      go_wp2
      go_ret
      exact ⟨by rw [show v = false by rw [HV.out]; exact decide_eq_false (by omega)]; rfl, BD.out⟩
    by_cases g1 : g ≤ 65535
    rotate_left
    · go_enter Try.func28, Try.ntmps28
      go_upto_region 1 with (fail)
      rw [HD.out]
      go_wp2
      go_ret
      exact ⟨by rw [show v = false by rw [HV.out]; exact decide_eq_false (by omega)]; rfl, BD.out⟩
    by_cases k0 : 0 ≤ k
    rotate_left
    · go_enter Try.func28, Try.ntmps28
      go_upto_region 1 with (fail)
      rw [HD.out]
      go_wp2
      go_ret
      exact ⟨by rw [show v = false by rw [HV.out]; exact decide_eq_false (by omega)]; rfl, BD.out⟩
    by_cases k1 : k < 64
    rotate_left
    · go_enter Try.func28, Try.ntmps28
      go_upto_region 1 with (fail)
      rw [HD.out]
      go_wp2
      go_ret
      exact ⟨by rw [show v = false by rw [HV.out]; exact decide_eq_false (by omega)]; rfl, BD.out⟩
    by_cases a0 : 0 ≤ a
    rotate_left
    · go_enter Try.func28, Try.ntmps28
      go_upto_region 1 with (fail)
      rw [HD.out]
      go_wp2
      go_ret
      exact ⟨by rw [show v = false by rw [HV.out]; exact decide_eq_false (by omega)]; rfl, BD.out⟩
    by_cases a1 : a < 1048576
    rotate_left
    · go_enter Try.func28, Try.ntmps28
      go_upto_region 1 with (fail)
      rw [HD.out]
      go_wp2
      go_ret
      exact ⟨by rw [show v = false by rw [HV.out]; exact decide_eq_false (by omega)]; rfl, BD.out⟩
    go_enter Try.func28, Try.ntmps28
    go_upto_region 1 with (fail)
    rw [HD.out]
    go_wp2
    go_ret
    exact ⟨by rw [show v = true by rw [HV.out]; exact decide_eq_true (by omega)]; rfl, BD.out⟩
end Go.Proofs.Ytjalagjnhjaaoaa
