/- What the law RunsMakes goes through. -/
import Derived.Test.YtdpkmlkckhhcgaaRzA
namespace Go.Proofs.Ytdpkmlkckhhcgaa
open Go.RowKit
set_option linter.unusedVariables false

set_option maxHeartbeats 4000000 in
theorem runsMakes_any (n k : Int) (w : World) (hn : -9223372036854775808 ≤ n ∧ n ≤ 9223372036854775807) (hk : -9223372036854775808 ≤ k ∧ k ≤ 9223372036854775807) :
    Calls Try.prog 8 #[.int .i64 n, .int .i64 k] w fun e w' => e = .returned (.bool true) ∧ Below w.heap.size w w' := by
  by_cases hb : n < 0 ∨ 65536 < n
  · have HB : Hid (n < 0 ∨ 65536 < n) := hb
    rcases hb with hb | hb
    all_goals
      go_enter Try.func8, Try.ntmps8
      go_wp2_with (first
        | (go_at_call 9; refine (alive_any _).mono ?_; rintro e w1 ⟨rfl, b1⟩; have B1 : Hid (Below w.heap.size w w1) := b1; clear b1)
        | (go_at_call 19; refine (nil_take k _).mono ?_; rintro e w' ⟨rfl, rfl⟩)
        | (go_at_call 22; refine (nil_mark n k _).mono ?_; rintro e w' ⟨rfl, rfl⟩)
        | (go_at_call 20; refine (nil_give n k _).mono ?_; rintro e w' ⟨rfl, rfl⟩)
        | (go_at_call 16; refine (nil_has n _).mono ?_; rintro e w' ⟨rfl, rfl⟩)
        | (go_at_call 15; refine (nil_len _).mono ?_; rintro e w' ⟨rfl, rfl⟩)
        | (go_at_call 17; refine (nil_left _).mono ?_; rintro e w' ⟨rfl, rfl⟩)
        | (go_at_call 18; refine (nil_most _).mono ?_; rintro e w' ⟨rfl, rfl⟩)
        | (go_at_call 13; refine (nil_free _).mono ?_; rintro e w' ⟨rfl, rfl⟩)
        | (go_at_call 21; refine (nil_copy _).mono ?_; rintro e w' ⟨rfl, rfl⟩)
        | (go_at_call 23; refine (new_bad n _ HB.out).mono ?_; rintro e w' ⟨rfl, rfl⟩))
      go_ret
      exact ⟨rfl, B1.out⟩
  · obtain ⟨m, rfl⟩ : ∃ m : Nat, n = m := ⟨n.toNat, by omega⟩
    have hm : m ≤ 65536 := by omega
    have h1 : ¬ ((m : Int) < 0) := by omega
    have h2 : ¬ ((65536 : Int) < (m : Int)) := by omega
    have S1 : Hid (sumL (freeL (fun _ => false) m) = m) := (free_new_sum m).1
    have M1 : Hid (maxL (freeL (fun _ => false) m) = m) := (free_new_sum m).2
    clear hb
    go_enter Try.func8, Try.ntmps8
    go_wp2_with (first
      | (go_at_call 9; refine (alive_any _).mono ?_; rintro e w1 ⟨rfl, b1⟩; have B1 : Hid (Below w.heap.size w w1) := b1; clear b1)
      | (go_at_call 19; refine (nil_take k _).mono ?_; rintro e w' ⟨rfl, rfl⟩)
      | (go_at_call 22; refine (nil_mark (m : Nat) k _).mono ?_; rintro e w' ⟨rfl, rfl⟩)
      | (go_at_call 20; refine (nil_give (m : Nat) k _).mono ?_; rintro e w' ⟨rfl, rfl⟩)
      | (go_at_call 16; refine (nil_has (m : Nat) _).mono ?_; rintro e w' ⟨rfl, rfl⟩)
      | (go_at_call 18; refine (most_any (fun k => w1.heap.size ≤ k) w1.heap.size m (fun _ => false) _ I3.out hm).mono ?_; rw [M1.out]; rintro e w4 ⟨rfl, b4⟩; have B4 : Hid (Below w.heap.size w w4) := B3.out.trans (b4.mono B3.out.size); clear b4)
      | (go_at_call 17; refine (left_any (fun k => w1.heap.size ≤ k) w1.heap.size m (fun _ => false) _ I2.out hm).mono ?_; rw [S1.out]; rintro e w3 ⟨rfl, b3⟩; have I3 : Hid (IsR w3 (fun k => w1.heap.size ≤ k) w1.heap.size m (fun _ => false)) := I2.out.keep b3; have B3 : Hid (Below w.heap.size w w3) := B2.out.trans (b3.mono B2.out.size); clear b3)
      | (go_at_call 15; refine (len_any (fun k => w1.heap.size ≤ k) w1.heap.size m (fun _ => false) _ I2.out).mono ?_; rintro e w' ⟨rfl, rfl⟩)
      | (go_at_call 15; refine (nil_len _).mono ?_; rintro e w' ⟨rfl, rfl⟩)
      | (go_at_call 17; refine (nil_left _).mono ?_; rintro e w' ⟨rfl, rfl⟩)
      | (go_at_call 18; refine (nil_most _).mono ?_; rintro e w' ⟨rfl, rfl⟩)
      | (go_at_call 13; refine (nil_free _).mono ?_; rintro e w' ⟨rfl, rfl⟩)
      | (go_at_call 21; refine (nil_copy _).mono ?_; rintro e w' ⟨rfl, rfl⟩)
      | (go_at_call 23; refine (new_any m _ hm).mono ?_; rintro e w2 ⟨rfl, i2, b2⟩; have I2 : Hid (IsR w2 (fun k => w1.heap.size ≤ k) w1.heap.size m (fun _ => false)) := i2; have B2 : Hid (Below w.heap.size w w2) := B1.out.trans (b2.mono B1.out.size); clear i2 b2))
    go_ret
    exact ⟨rfl, B4.out⟩
end Go.Proofs.Ytdpkmlkckhhcgaa
