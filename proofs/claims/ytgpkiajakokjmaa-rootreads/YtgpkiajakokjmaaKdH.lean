/- The document's answers for kinds: what Check, Ints, Same and Copy of the reference answer; Clone, alike. -/
import Derived.Test.YtgpkiajakokjmaaKdE
namespace Go.Proofs.Ytgpkiajakokjmaa
open Go.RowKit
set_option linter.unusedVariables false
set_option maxRecDepth 4000

theorem ints_any (a a' : Option Addr) (n n' cap cap' : Nat) (l l' : List Int) (w : World) (h : IsI w a l) (h' : IsI w a' l') (hn : n = l.length) (hn' : n' = l'.length) (hm : l.length ≤ maxLen) (hm' : l'.length ≤ maxLen) :
    Calls Try.prog 23 #[.slice a n cap, .slice a' n' cap'] w fun e w' => e = .returned (.bool (decide (l = l'))) ∧ Below w.heap.size w w' := by
  subst hn hn'
  have H1 : Hid (IsI w a l) := h
  have H2 : Hid (IsI w a' l') := h'
  unfold maxLen at hm hm'
  clear h h'
  by_cases hll : l.length = l'.length
  · have HLL : Hid (l.length = l'.length) := hll
    rw [← hll]
    clear hll
    go_enter Try.func23, Try.ntmps23
    go_wp2
    go_loopw [13] (fun iv wr => ∃ k m : Nat, k ≤ l.length ∧ iv = .int .i64 k ∧ wr = w.drewN m ∧ l.take k = l'.take k) (fun iv _ => l.length - (intOf iv).toNat)
    case atStart => exact ⟨0, 0, Nat.zero_le _, rfl, rfl, rfl⟩
    case round =>
      obtain ⟨k, m, hk, rfl, rfl, ht⟩ := hrel
      have HT : Hid (l.take k = l'.take k) := ht
      clear ht
      by_cases hlt : k < l.length
      · obtain ⟨_, h0 | ⟨b1, o1, rfl, _, c1⟩⟩ := H1.out
        · rw [h0] at hlt; simp at hlt
        have hlt' : k < l'.length := by have := HLL.out; omega
        obtain ⟨_, h0 | ⟨b2, o2, rfl, _, c2⟩⟩ := H2.out
        · rw [h0] at hlt'; simp at hlt'
        have d1 := c1 k hlt
        have d2 := c2 k hlt'
        have T1 : Hid (l.take (k + 1) = l.take k ++ [l.getD k 0]) := by show _ = _; rw [List.take_succ_eq_append_getElem hlt]; simp [List.getD, hlt]
        have T2 : Hid (l'.take (k + 1) = l'.take k ++ [l'.getD k 0]) := by show _ = _; rw [List.take_succ_eq_append_getElem hlt']; simp [List.getD, hlt']
        obtain ⟨y, hy⟩ : ∃ y, l.getD k 0 = y := ⟨_, rfl⟩
        obtain ⟨y', hy'⟩ : ∃ y', l'.getD k 0 = y' := ⟨_, rfl⟩
        rw [hy] at d1
        rw [hy'] at d2
        have HY : Hid (l.getD k 0 = y) := hy
        have HY' : Hid (l'.getD k 0 = y') := hy'
        clear c1 c2 hy hy' hlt'
        by_cases he : y = y'
        · subst he
          have NX : Hid (l.take (k + 1) = l'.take (k + 1)) := by show _ = _; rw [T1.out, T2.out, HT.out, HY.out, HY'.out]
          go_wp2_with fail
          go_quiet (fail)
          go_wp2
          go_roundw
          case rel => exact ⟨k + 1, m + nq, by omega, by go_num, rfl, NX.out⟩
          case measure => simp [intOf]; omega
        · have hq : (y != y') = true := by rw [bne_iff_ne]; exact he
          have NE : Hid (decide (l = l') = false) := decide_eq_false (fun e => he (by rw [← HY.out, ← HY'.out, e]))
          clear he
          go_wp2_with fail
          go_quiet (fail)
          go_wp2
          go_ret
          exact ⟨ret_bool NE.out.symm, ⟨rfl, rfl, rfl, Nat.le_refl _, fun _ _ => rfl⟩⟩
      · have EQ : Hid (decide (l = l') = true) := decide_eq_true (by
          have := HT.out
          rwa [List.take_of_length_le (by omega), List.take_of_length_le (by have := HLL.out; omega)] at this)
        go_wp2
        go_ret
        exact ⟨ret_bool EQ.out.symm, ⟨rfl, rfl, rfl, Nat.le_refl _, fun _ _ => rfl⟩⟩
  · have NE : Hid (decide (l = l') = false) := decide_eq_false (fun e => hll (by rw [e]))
    have hq : ((l.length : Int) != (l'.length : Int)) = true := by rw [bne_iff_ne]; omega
    have hni : ¬ (l.length : Int) = (l'.length : Int) := by omega
    go_enter Try.func23, Try.ntmps23
    go_wp2
    go_ret
    exact ⟨ret_bool NE.out.symm, Below.refl _ _⟩

/-- The same kind. -/
def sameK (s s' : Int) (l l' : List Int) : Bool := decide (s = s' ∧ l = l')

end Go.Proofs.Ytgpkiajakokjmaa
