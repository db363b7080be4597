/- Which bytes of an object are plain: what Plain answers. -/
import Derived.Test.YtkcnanpojnbepaaKdE
namespace Go.Proofs.Ytkcnanpojnbepaa
open Go.RowKit
set_option linter.unusedVariables false

theorem plain_false {s : Int} {ps : List Int} {x n : Int} (h : ¬ (rightK s ps ∧ 0 ≤ x ∧ 0 ≤ n ∧ n ≤ s - x ∧ ∀ p ∈ ps, ¬ (p < x + n ∧ x < p + 8 ∧ 0 < n))) : plainK s ps x n = false := decide_eq_false h

set_option maxHeartbeats 4000000 in
theorem plain_any (s : Int) (a : Option Addr) (c : Nat) (ps : List Int) (x n : Int) (w : World) (hI : IsI w a ps) (hm : ps.length ≤ maxLen) (hx : -9223372036854775808 ≤ x ∧ x ≤ 9223372036854775807) (hn : -9223372036854775808 ≤ n ∧ n ≤ 9223372036854775807) :
    Calls Try.prog 15 #[.agg #[.int .i64 s, .slice a ps.length c], .int .i64 x, .int .i64 n] w fun e w' => e = .returned (.bool (plainK s ps x n)) ∧ Below w.heap.size w w' := by
  have HB : Hid (Below w.heap.size w (w.alloc (.cells #[.int .i64 s, .slice a ps.length c] 24))) := box_below w s a _ c
  have I1 : Hid (IsI (w.alloc (.cells #[.int .i64 s, .slice a ps.length c] 24)) a ps) := hI.keep HB.out
  have HI : Hid (IsI w a ps) := hI
  obtain ⟨q0, q1⟩ := box_cells w s a ps.length c
  have Q0 : Hid _ := q0
  have Q1 : Hid _ := q1
  clear hI q0 q1
  by_cases hr : checkK s ps = 0
  · have hR := check_zero.1 hr
    have ER : Hid (decide (checkK s ps = 0) = true) := decide_eq_true hr
    have HR : Hid (rightK s ps) := hR
    obtain ⟨s1, s2, l1, hpl⟩ := hR
    have HA : Hid (∀ p ∈ ps, 0 ≤ p ∧ p ≤ s - 8 ∧ p % 8 = 0) := placed_all s ps 0 (by omega) hpl
    clear hr hpl
    have hcs : x < 0 ∨ (0 ≤ x ∧ n < 0) ∨ (0 ≤ x ∧ 0 ≤ n ∧ s - x < n) ∨ (0 ≤ x ∧ 0 ≤ n ∧ n ≤ s - x) := by omega
    rcases hcs with h1 | ⟨h1, h2⟩ | ⟨h1, h2, h3⟩ | ⟨h1, h2, h3⟩
    rotate_right
    · go_enter Try.func15, Try.ntmps15
      go_wp2_with fail
      refine (right_is s a c _ ps true _ rfl ER.out I1.out hm).mono ?_
      rintro e w1 ⟨rfl, b1⟩
      have c0 := bcellK (b1.mono (Nat.le_refl _)) Q0.out
      have c1 := bcellK (b1.mono (Nat.le_refl _)) Q1.out
      have B1 : Hid (Below w.heap.size w w1) := HB.out.trans (b1.mono HB.out.size)
      have I2 : Hid (IsI w1 a ps) := HI.out.keep B1.out
      clear b1
      go_wp2
      go_loop [31] (fun iv => ∃ k : Nat, k ≤ ps.length ∧ iv = .int .i64 k ∧ ∀ p ∈ ps.take k, ¬ (p < x + n ∧ x < p + 8 ∧ 0 < n)) (fun iv => ps.length - (intOf iv).toNat)
      case atStart => exact ⟨0, Nat.zero_le _, rfl, fun p hp => by simp at hp⟩
      case round =>
        obtain ⟨k, hk, rfl, hcl⟩ := hrel
        have HCL : Hid (∀ p ∈ ps.take k, ¬ (p < x + n ∧ x < p + 8 ∧ 0 < n)) := hcl
        clear hcl
        by_cases hlt : k < ps.length
        · obtain ⟨hin, h0 | ⟨b, off, rfl, hsz, hc⟩⟩ := I2.out
          · rw [h0] at hlt; simp at hlt
          have hcell := hc k hlt
          have hmem : ps.getD k 0 ∈ ps := by simp [List.getD, hlt]
          have ET : ps.take (k + 1) = ps.take k ++ [ps.getD k 0] := by rw [List.take_succ_eq_append_getElem hlt]; simp [List.getD, hlt]
          obtain ⟨p, hp⟩ : ∃ p, ps.getD k 0 = p := ⟨_, rfl⟩
          rw [hp] at hcell hmem ET
          have HM : Hid (p ∈ ps) := hmem
          have HT : Hid (ps.take (k + 1) = ps.take k ++ [p]) := ET
          obtain ⟨p0, p1, _⟩ := HA.out p hmem
          clear hp hc hin hsz hmem ET
          by_cases hov : p < x + n ∧ x < p + 8 ∧ 0 < n
          · have EQ : Hid (plainK s ps x n = false) := plain_false (fun h => h.2.2.2.2 p HM.out hov)
            obtain ⟨o1, o2, o3⟩ := hov
            go_wp2
            all_goals (go_ret; exact ⟨ret_bool EQ.out.symm, B1.out⟩)
          · have NX : Hid (∀ q ∈ ps.take (k + 1), ¬ (q < x + n ∧ x < q + 8 ∧ 0 < n)) := by
              intro q hq
              rw [HT.out] at hq
              rcases List.mem_append.1 hq with hq | hq
              · exact HCL.out q hq
              · simp at hq; subst hq; exact hov
            go_wp2
            all_goals
              go_round
              case rel => exact ⟨k + 1, by omega, by go_num, NX.out⟩
              case measure => simp [intOf]; omega
        · have EQ : Hid (plainK s ps x n = true) := decide_eq_true ⟨HR.out, h1, h2, h3, by have := HCL.out; rwa [List.take_of_length_le (by omega)] at this⟩
          go_wp2
          go_ret
          exact ⟨ret_bool EQ.out.symm, B1.out⟩
    all_goals
      have EQ : Hid (plainK s ps x n = false) := plain_false (by omega)
      go_enter Try.func15, Try.ntmps15
      go_wp2_with fail
      refine (right_is s a c _ ps true _ rfl ER.out I1.out hm).mono ?_
      rintro e w1 ⟨rfl, b1⟩
      have c0 := bcellK (b1.mono (Nat.le_refl _)) Q0.out
      have c1 := bcellK (b1.mono (Nat.le_refl _)) Q1.out
      have B1 : Hid (Below w.heap.size w w1) := HB.out.trans (b1.mono HB.out.size)
      clear b1
      go_wp2
      go_ret
      exact ⟨ret_bool EQ.out.symm, B1.out⟩
  · have ER : Hid (decide (checkK s ps = 0) = false) := decide_eq_false hr
    have EQ : Hid (plainK s ps x n = false) := plain_false (fun h => hr (check_zero.2 h.1))
    clear hr
    go_enter Try.func15, Try.ntmps15
    go_wp2_with (go_at_call 35; refine (right_is s a c _ ps false _ rfl ER.out I1.out hm).mono ?_; rintro e w1 ⟨rfl, b1⟩)
    go_ret
    exact ⟨ret_bool EQ.out.symm, HB.out.trans (b1.mono HB.out.size)⟩
theorem plain_is (s : Int) (a : Option Addr) (c k : Nat) (ps : List Int) (x n : Int) (r : Bool) (w : World) (hk : k = ps.length) (hr : plainK s ps x n = r) (hI : IsI w a ps) (hm : ps.length ≤ maxLen) (hx : -9223372036854775808 ≤ x ∧ x ≤ 9223372036854775807) (hn : -9223372036854775808 ≤ n ∧ n ≤ 9223372036854775807) :
    Calls Try.prog 15 #[.agg #[.int .i64 s, .slice a k c], .int .i64 x, .int .i64 n] w fun e w' => e = .returned (.bool r) ∧ Below w.heap.size w w' := by
  subst hk hr; exact plain_any s a c ps x n w hI hm hx hn
end Go.Proofs.Ytkcnanpojnbepaa
