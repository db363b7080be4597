/- What the law ArenaMakes goes through. -/
import Derived.Test.YtjejholognpbaaaArG
import Derived.Test.YtjejholognpbaaaArH
namespace Go.Proofs.Ytjejholognpbaaa
open Go.RowKit
set_option linter.unusedVariables false

set_option maxHeartbeats 2000000 in
theorem arenaMakes_any (b p : Int) (w : World) :
    Calls Try.prog 5 #[.int .i64 b, .int .i64 p] w fun e w' => e = .returned (.bool true) ∧ Below w.heap.size w w' := by
  obtain ⟨v, hv⟩ : ∃ v, decide (goodR b) = v := ⟨_, rfl⟩
  have EV : Hid (decide (goodR b) = v) := hv
  by_cases hp : p < 1 ∨ 4096 < p
  · have HP : Hid (p < 1 ∨ 4096 < p) := hp
    have DP : p < 1 ∨ (¬ p < 1 ∧ 4096 < p) := by omega
    clear hv hp
    rcases DP with d1 | ⟨d1, d2⟩
    · go_enter Try.func5, Try.ntmps5
      go_wp2_with (first
        | (go_at_call 10; refine (new_arg b p _ HP.out).mono ?_; rintro e w' ⟨rfl, rfl⟩)
        | (go_at_call 23; refine (rgood_of b v _ EV.out).mono ?_; rintro e w' ⟨rfl, rfl⟩)
        | (go_at_call 22; refine (good_of b v _ EV.out).mono ?_; rintro e w' ⟨rfl, rfl⟩)
        | (go_at_call 9; refine (alive_any _).mono ?_; rintro e w1 ⟨rfl, b1⟩; have B1 : Hid (Below w.heap.size w w1) := b1; clear b1))
      go_ret
      exact ⟨rfl, B1.out⟩
    · go_enter Try.func5, Try.ntmps5
      go_wp2_with (first
        | (go_at_call 10; refine (new_arg b p _ HP.out).mono ?_; rintro e w' ⟨rfl, rfl⟩)
        | (go_at_call 23; refine (rgood_of b v _ EV.out).mono ?_; rintro e w' ⟨rfl, rfl⟩)
        | (go_at_call 22; refine (good_of b v _ EV.out).mono ?_; rintro e w' ⟨rfl, rfl⟩)
        | (go_at_call 9; refine (alive_any _).mono ?_; rintro e w1 ⟨rfl, b1⟩; have B1 : Hid (Below w.heap.size w w1) := b1; clear b1))
      go_ret
      exact ⟨rfl, B1.out⟩
  · obtain ⟨k, rfl⟩ : ∃ k : Nat, p = k := ⟨p.toNat, by omega⟩
    have h1 : 1 ≤ k := by omega
    have h2 : k ≤ 4096 := by omega
    have n1 : ¬ ((k : Int) < 1) := by omega
    have n2 : ¬ (4096 < (k : Int)) := by omega
    clear hp
    cases v
    · have NG : Hid (¬ goodR b) := of_decide_eq_false hv
      clear hv
      go_enter Try.func5, Try.ntmps5
      go_wp2_with (first
        | (go_at_call 10; refine (new_addr b k _ (by omega) (by omega) NG.out).mono ?_; rintro e w' ⟨rfl, rfl⟩)
        | (go_at_call 23; refine (rgood_of b false _ EV.out).mono ?_; rintro e w' ⟨rfl, rfl⟩)
        | (go_at_call 22; refine (good_of b false _ EV.out).mono ?_; rintro e w' ⟨rfl, rfl⟩)
        | (go_at_call 9; refine (alive_any _).mono ?_; rintro e w1 ⟨rfl, b1⟩; have B1 : Hid (Below w.heap.size w w1) := b1; clear b1))
      go_ret
      exact ⟨rfl, B1.out⟩
    · have gg : goodR b := of_decide_eq_true hv
      have GG : Hid (goodR b) := gg
      have hb1 := GG.out.1
      have hb2 := GG.out.2.1
      clear hv gg
      have EL : Hid ((List.replicate (k * 256) (0 : Int)).length = k * 256) := List.length_replicate
      have EK : Hid ((k * 256) / 256 = k) := by show _ = _; omega
      go_enter Try.func5, Try.ntmps5
      go_wp2_with fail
      refine (alive_any _).mono ?_
      rintro e w1 ⟨rfl, b1⟩
      have B1 : Hid (Below w.heap.size w w1) := b1
      clear b1
      go_wp2_with (first
        | (go_at_call 23; refine (rgood_of b true _ EV.out).mono ?_; rintro e w' ⟨rfl, rfl⟩)
        | (go_at_call 22; refine (good_of b true _ EV.out).mono ?_; rintro e w' ⟨rfl, rfl⟩))
      refine (new_any b k _ h1 h2 GG.out).mono ?_
      rintro e w2 ⟨rfl, i2, b2, s2⟩
      have I2 : Hid (IsA w2 (w1.heap.size + 1) w1.heap.size b (List.replicate (k * 256) 0)) := i2
      have B2 : Hid (Below w.heap.size w w2) := B1.out.trans (b2.mono B1.out.size)
      clear i2 b2 s2
      go_wp2_with (first
        | (go_at_call 23; refine (rgood_of b true _ EV.out).mono ?_; rintro e w' ⟨rfl, rfl⟩)
        | (go_at_call 18; refine (pages_any _ _ b _ _ I2.out).mono ?_; rw [EL.out, EK.out]; rintro e w' ⟨rfl, rfl⟩)
        | (go_at_call 19; refine (end_any _ _ b _ _ I2.out).mono ?_; rw [EL.out]; rintro e w' ⟨rfl, rfl⟩)
        | (go_at_call 17; refine (base_any _ _ b _ _ I2.out).mono ?_; rintro e w' ⟨rfl, rfl⟩))
      go_ret
      exact ⟨ret_bool (by simp; omega), B2.out⟩
end Go.Proofs.Ytjejholognpbaaa
