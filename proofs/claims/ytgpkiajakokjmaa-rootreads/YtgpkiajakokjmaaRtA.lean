/- Layer 20: the leaves: within, lastData, good bases, how many pages there are. -/
import Derived.Test.YtgpkiajakokjmaaRtW
namespace Go.Proofs.Ytgpkiajakokjmaa
open Go.RowKit
set_option linter.unusedVariables false
set_option maxRecDepth 4000

theorem good_any (x : Int) (w : World) : Calls Try.prog 28 #[.int .i64 x] w fun e w' => e = .returned (.bool (decide (goodR x))) ∧ w = w' := by
  by_cases a1 : x < 256
  · rw [decide_eq_false (p := goodR x) (by unfold goodR; omega)]
    go_enter Try.func28, Try.ntmps28
    go_wp2
    go_ret
    exact ⟨rfl, rfl⟩
  · by_cases a2 : 1099511627776 < x
    · rw [decide_eq_false (p := goodR x) (by unfold goodR; omega)]
      go_enter Try.func28, Try.ntmps28
      go_wp2
      go_ret
      exact ⟨rfl, rfl⟩
    · have n0 : 0 ≤ x := by omega
      have n2 : x ≤ 1099511627776 := by omega
      by_cases a3 : x % 256 = 0
      · rw [decide_eq_true (p := goodR x) (by unfold goodR; omega)]
        go_enter Try.func28, Try.ntmps28
        go_wp2
        go_ret
        exact ⟨rfl, rfl⟩
      · rw [decide_eq_false (p := goodR x) (by unfold goodR; omega)]
        go_enter Try.func28, Try.ntmps28
        go_wp2
        go_ret
        exact ⟨ret_bool (beq_eq_false_iff_ne.2 a3), rfl⟩
theorem rgood_any (x : Int) (w : World) : Calls Try.prog 32 #[.int .i64 x] w fun e w' => e = .returned (.bool (decide (goodR x))) ∧ w = w' := by
  by_cases a1 : x < 256
  · rw [decide_eq_false (p := goodR x) (by unfold goodR; omega)]
    go_enter Try.func32, Try.ntmps32
    go_wp2
    go_ret
    exact ⟨rfl, rfl⟩
  · by_cases a2 : 1099511627776 < x
    · rw [decide_eq_false (p := goodR x) (by unfold goodR; omega)]
      go_enter Try.func32, Try.ntmps32
      go_wp2
      go_ret
      exact ⟨rfl, rfl⟩
    · have n0 : 0 ≤ x := by omega
      have n2 : x ≤ 1099511627776 := by omega
      by_cases a3 : x % 256 = 0
      · rw [decide_eq_true (p := goodR x) (by unfold goodR; omega)]
        go_enter Try.func32, Try.ntmps32
        go_wp2
        go_ret
        exact ⟨rfl, rfl⟩
      · rw [decide_eq_false (p := goodR x) (by unfold goodR; omega)]
        go_enter Try.func32, Try.ntmps32
        go_wp2
        go_ret
        exact ⟨ret_bool (beq_eq_false_iff_ne.2 a3), rfl⟩
theorem cnt_quo {n per : Int} (h : ¬ (n < 1 ∨ per < 1)) : (Int.tmod n per = 0 → Int.tdiv n per = cntP n per) ∧ (¬ Int.tmod n per = 0 → Int.tdiv n per + 1 = cntP n per) := by
  have hn : 1 ≤ n := by omega
  have hp : 1 ≤ per := by omega
  rw [Int.tdiv_eq_ediv_of_nonneg (by omega), Int.tmod_eq_emod_of_nonneg (by omega)]
  unfold cntP
  rw [if_neg h]
  have e : n % per + per * (n / per) = n := by have := Int.emod_def n per; omega
  have m0 := Int.emod_nonneg n (show per ≠ 0 by omega)
  have m1 := Int.emod_lt_of_pos n (show 0 < per by omega)
  constructor
  · intro q
    rw [q] at e
    have : (n - 1) / per = n / per - 1 := by
      rw [show n - 1 = (per - 1) + per * (n / per - 1) by rw [Int.mul_sub]; omega, Int.add_mul_ediv_left _ _ (by omega), Int.ediv_eq_zero_of_lt (by omega) (by omega)]
      omega
    omega
  · intro q
    have : (n - 1) / per = n / per := by
      rw [show n - 1 = (n % per - 1) + per * (n / per) by omega, Int.add_mul_ediv_left _ _ (by omega), Int.ediv_eq_zero_of_lt (by omega) (by omega)]
      omega
    omega
theorem cnt_le {n per : Int} : 0 ≤ cntP n per ∧ (1 ≤ n → cntP n per ≤ n) := by
  unfold cntP
  by_cases h : n < 1 ∨ per < 1
  · rw [if_pos h]; omega
  · rw [if_neg h]
    have h1 := Int.ediv_nonneg (show 0 ≤ n - 1 by omega) (show 0 ≤ per by omega)
    have h2 := Int.ediv_le_self per (show 0 ≤ n - 1 by omega)
    omega

set_option maxHeartbeats 2000000 in
/-- Count of the document. -/
theorem dcount_any (n per : Int) (w : World) (hn : -9223372036854775808 ≤ n ∧ n ≤ 9223372036854775807) (hp : -9223372036854775808 ≤ per ∧ per ≤ 9223372036854775807) :
    Calls Try.prog 43 #[.int .i64 n, .int .i64 per] w fun e w' => e = .returned (.int .i64 (cntP n per)) ∧ w = w' := by
  by_cases h1 : n < 1
  · have e : cntP n per = 0 := if_pos (.inl h1)
    rw [e]
    go_enter Try.func43, Try.ntmps43
    go_wp2
    go_ret
    exact ⟨rfl, rfl⟩
  · by_cases h2 : per < 1
    · have e : cntP n per = 0 := if_pos (.inr h2)
      rw [e]
      go_enter Try.func43, Try.ntmps43
      go_wp2
      go_ret
      exact ⟨rfl, rfl⟩
    · obtain ⟨q1, q2⟩ := cnt_quo (n := n) (per := per) (by omega)
      obtain ⟨l0, l1⟩ := cnt_le (n := n) (per := per)
      have l1 := l1 (by omega)
      obtain ⟨C, hC⟩ : ∃ C, cntP n per = C := ⟨_, rfl⟩
      rw [hC] at q1 q2 l0 l1
      rw [hC]
      have p0 : ¬ per = 0 := by omega
      have p1 : ¬ per = -1 := by omega
      have d0 : 0 ≤ Int.tdiv n per := Int.tdiv_nonneg (by omega) (by omega)
      have d1 : Int.tdiv n per ≤ n := Int.tdiv_le_self per (by omega)
      have wq : IntKind.i64.wrap (Int.tdiv n per) = Int.tdiv n per := by rw [IntKind.wrap_i64]; omega
      obtain ⟨D, hD⟩ : ∃ D, Int.tdiv n per = D := ⟨_, rfl⟩
      obtain ⟨R, hR⟩ : ∃ R, Int.tmod n per = R := ⟨_, rfl⟩
      rw [hD] at q1 q2 d0 d1 wq
      rw [hR] at q1 q2
      by_cases h0 : R = 0
      · have e := q1 h0
        subst h0
        subst e
        clear q1 q2 hC
        go_enter Try.func43, Try.ntmps43
        go_wp2
        go_ret
        exact ⟨rfl, rfl⟩
      · have e := q2 h0
        have hb : (R != 0) = true := bne_iff_ne.2 h0
        have wc : IntKind.i64.wrap (D + 1) = C := by rw [e, IntKind.wrap_i64]; omega
        clear q1 q2 hC
        go_enter Try.func43, Try.ntmps43
        go_wp2
        go_ret
        exact ⟨rfl, rfl⟩

set_option maxHeartbeats 2000000 in
/-- Count. -/
theorem pcount_any (n per : Int) (w : World) (hn : -9223372036854775808 ≤ n ∧ n ≤ 9223372036854775807) (hp : -9223372036854775808 ≤ per ∧ per ≤ 9223372036854775807) :
    Calls Try.prog 42 #[.int .i64 n, .int .i64 per] w fun e w' => e = .returned (.int .i64 (cntP n per)) ∧ w = w' := by
  by_cases h1 : n < 1
  · have e : cntP n per = 0 := if_pos (.inl h1)
    rw [e]
    go_enter Try.func42, Try.ntmps42
    go_wp2
    go_ret
    exact ⟨rfl, rfl⟩
  · by_cases h2 : per < 1
    · have e : cntP n per = 0 := if_pos (.inr h2)
      rw [e]
      go_enter Try.func42, Try.ntmps42
      go_wp2
      go_ret
      exact ⟨rfl, rfl⟩
    · have hC : cntP n per = (n - 1) / per + 1 := if_neg (by omega)
      have l1 := (cnt_le (n := n) (per := per)).2 (by omega)
      have d0 : 0 ≤ (n - 1).tdiv per := Int.tdiv_nonneg (by omega) (by omega)
      have eD : (n - 1).tdiv per = (n - 1) / per := Int.tdiv_eq_ediv_of_nonneg (by omega)
      have w0 : IntKind.i64.wrap (n - 1) = n - 1 := by rw [IntKind.wrap_i64]; omega
      rw [← eD] at hC
      obtain ⟨D, hD⟩ : ∃ D, (n - 1).tdiv per = D := ⟨_, rfl⟩
      rw [hD] at hC d0
      rw [hC] at l1 ⊢
      have wq : IntKind.i64.wrap D = D := by rw [IntKind.wrap_i64]; omega
      have wc : IntKind.i64.wrap (D + 1) = D + 1 := by rw [IntKind.wrap_i64]; omega
      have p0 : ¬ per = 0 := by omega
      have p1 : ¬ per = -1 := by omega
      clear hC eD
      go_enter Try.func42, Try.ntmps42
      go_wp2
      go_ret
      exact ⟨rfl, rfl⟩

theorem within_any20 (n lo hi : Int) (w : World) :
    Calls Try.prog 29 #[.int .i64 n, .int .i64 lo, .int .i64 hi] w fun e w' => e = .returned (.bool (decide (lo ≤ n ∧ n ≤ hi))) ∧ w = w' := by
  by_cases h1 : lo ≤ n
  · by_cases h2 : n ≤ hi
    · rw [decide_eq_true ⟨h1, h2⟩]
      go_enter Try.func29, Try.ntmps29
      go_wp2
      go_ret
      exact ⟨rfl, rfl⟩
    · rw [decide_eq_false (fun q => h2 q.2)]
      go_enter Try.func29, Try.ntmps29
      go_wp2
      go_ret
      exact ⟨rfl, rfl⟩
  · rw [decide_eq_false (fun q => h1 q.1)]
    go_enter Try.func29, Try.ntmps29
    go_wp2
    go_ret
    exact ⟨rfl, rfl⟩
theorem within_of (n lo hi : Int) (v : Bool) (w : World) (hv : decide (lo ≤ n ∧ n ≤ hi) = v) :
    Calls Try.prog 29 #[.int .i64 n, .int .i64 lo, .int .i64 hi] w fun e w' => e = .returned (.bool v) ∧ w = w' := by
  subst hv; exact within_any20 n lo hi w
theorem last_any (s : Int) (w : World) (hs : s ≤ 9223372036854775807) :
    Calls Try.prog 47 #[.int .i64 s] w fun e w' => e = .returned (.int .i64 (lastS s)) ∧ w = w' := by
  by_cases h : s < 0
  · have e : Hid (lastS s = -2) := by show _ = _; rw [lastS, if_pos h]; rfl
    have m : ¬ 0 < s := by omega
    have m2 : s ≤ 0 := by omega
    go_enter Try.func47, Try.ntmps47
    go_wp2
    go_ret
    exact ⟨ret_int e.out.symm, rfl⟩
  · have e : Hid (lastS s = s - 2) := by show _ = _; rw [lastS, if_neg h]
    have w0 : IntKind.i64.wrap (s - 2) = s - 2 := by rw [IntKind.wrap_i64]; omega
    have m2 : 0 ≤ s := by omega
    go_enter Try.func47, Try.ntmps47
    go_wp2
    all_goals (go_ret; exact ⟨ret_int (by rw [e.out] <;> omega), rfl⟩)
end Go.Proofs.Ytgpkiajakokjmaa
