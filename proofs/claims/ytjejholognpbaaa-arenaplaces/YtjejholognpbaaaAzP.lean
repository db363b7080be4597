/- What the law ArenaPlaces goes through. -/
import Derived.Test.YtjejholognpbaaaAzA
namespace Go.Proofs.Ytjejholognpbaaa
open Go.RowKit
set_option linter.unusedVariables false

set_option maxHeartbeats 4000000 in
theorem arenaPlaces_any (n : Nat) (p o : Int) (w : World) (hn : n < 4294967296) (hp : -9223372036854775808 ≤ p ∧ p ≤ 9223372036854775807) (ho : -9223372036854775808 ≤ o ∧ o ≤ 9223372036854775807) :
    Calls Try.prog 8 #[.int .u32 (n : Nat), .int .i64 p, .int .i64 o] w fun e w' => e = .returned (.bool true) ∧ Below w.heap.size w w' := by
  obtain ⟨B, hB⟩ : ∃ B, baseN n = B := ⟨_, rfl⟩
  have EB : Hid (baseN n = B) := hB
  have HG : Hid (goodR B) := by show goodR _; rw [← hB]; exact baseN_good hn
  have bd := baseN_fits hn
  rw [hB] at bd
  obtain ⟨b1, b2⟩ := bd
  obtain ⟨Z, hZ⟩ : ∃ Z : List Int, List.replicate (5 * 256) 0 = Z := ⟨_, rfl⟩
  have EZ : Hid (List.replicate (5 * 256) 0 = Z) := hZ
  have ZL : Z.length = 1280 := by rw [← hZ]; exact List.length_replicate
  have FP : Hid (Fits p) := hp
  clear hB hZ
  by_cases hin : 0 ≤ p ∧ p < 5 ∧ 0 ≤ o ∧ o < 256
  · obtain ⟨d1, d2, d3, d4⟩ := hin
    have HH : Hid (hasP Z.length p o) := by show hasP _ _ _; rw [ZL]; unfold hasP; omega
    have FX : Hid (Fits (B + p * 256 + o)) := by show Fits _; unfold Fits; omega
    have EP : Hid (placeR Z.length (B + p * 256 + o - B) = (p, o, true)) := by
      show _ = _
      rw [placeR, if_pos (by unfold inR; omega), show (B + p * 256 + o - B) / 256 = p from by omega, show (B + p * 256 + o - B) % 256 = o from by omega]
    have EI : Hid (decide (inR Z.length (B + p * 256 + o - B) 1) = true) := decide_eq_true (by unfold inR; omega)
    clear hp ho ZL
    go_enter Try.func8, Try.ntmps8
    go_wp2_with fail
    refine (alive_any _).mono ?_
    rintro e w1 ⟨rfl, b1'⟩
    have B1 : Hid (Below w.heap.size w w1) := b1'
    clear b1'
    go_wp2_with (go_at_call 11; refine (lbase_any n _ hn).mono ?_; rw [EB.out]; rintro e w' ⟨rfl, rfl⟩)
    refine (new_any B 5 _ (by decide) (by decide) HG.out).mono ?_
    rw [EZ.out]
    rintro e w2 ⟨rfl, i2, b2', s2⟩
    have I2 : Hid (IsA w2 (w1.heap.size + 1) w1.heap.size B Z) := i2
    have B2 : Hid (Below w.heap.size w w2) := B1.out.trans (b2'.mono B1.out.size)
    clear i2 b2' s2
    go_wp2_with (first
      | (go_at_call 26; refine (addr_in _ _ B p o Z _ I2.out HH.out).mono ?_; rintro e w' ⟨rfl, rfl⟩)
      | (go_at_call 27; refine (place_any _ _ B _ Z _ I2.out FX.out).mono ?_; rw [EP.out]; rintro e w' ⟨rfl, rfl⟩)
      | (go_at_call 20; refine (in_of _ _ B _ 1 true Z _ I2.out FX.out (by unfold Fits; omega) EI.out).mono ?_; rintro e w' ⟨rfl, rfl⟩))
    go_ret
    exact ⟨ret_bool (by first | rfl | simp), B2.out⟩
  · have HH : Hid (¬ hasP Z.length p o) := by show ¬ hasP _ _ _; rw [ZL]; unfold hasP; omega
    have DD : p < 0 ∨ (¬ p < 0 ∧ 5 ≤ p) ∨ (¬ p < 0 ∧ ¬ 5 ≤ p ∧ o < 0) ∨ (¬ p < 0 ∧ ¬ 5 ≤ p ∧ ¬ o < 0 ∧ 256 ≤ o) := by omega
    clear hin
    by_cases hi : inR Z.length (p - B) 1
    · have EP : Hid (placeR Z.length (p - B) = ((p - B) / 256, (p - B) % 256, true)) := if_pos hi
      have EI : Hid (decide (inR Z.length (p - B) 1) = true) := decide_eq_true hi
      unfold inR at hi
      obtain ⟨P, hP⟩ : ∃ P, (p - B) / 256 = P := ⟨_, rfl⟩
      obtain ⟨O, hO⟩ : ∃ O, (p - B) % 256 = O := ⟨_, rfl⟩
      have EPO : Hid (placeR Z.length (p - B) = (P, O, true)) := by show _ = _; rw [EP.out, hP, hO]
      have HP2 : Hid (hasP Z.length P O) := by show hasP _ _ _; rw [ZL]; unfold hasP; omega
      have EX : Hid (B + P * 256 + O = p) := by show _ = _; omega
      clear hi hP hO hp ho ZL EP
      rcases DD with d1 | ⟨d1, d2⟩ | ⟨d1, d2, d3⟩ | ⟨d1, d2, d3, d4⟩
      all_goals
        go_enter Try.func8, Try.ntmps8
        go_wp2_with fail
        refine (alive_any _).mono ?_
        rintro e w1 ⟨rfl, b1'⟩
        have B1 : Hid (Below w.heap.size w w1) := b1'
        clear b1'
        go_wp2_with (go_at_call 11; refine (lbase_any n _ hn).mono ?_; rw [EB.out]; rintro e w' ⟨rfl, rfl⟩)
        refine (new_any B 5 _ (by decide) (by decide) HG.out).mono ?_
        rw [EZ.out]
        rintro e w2 ⟨rfl, i2, b2', s2⟩
        have I2 : Hid (IsA w2 (w1.heap.size + 1) w1.heap.size B Z) := i2
        have B2 : Hid (Below w.heap.size w w2) := B1.out.trans (b2'.mono B1.out.size)
        clear i2 b2' s2
        go_wp2_with fail
        refine (addr_out _ _ B p o Z _ I2.out HH.out).mono ?_
        rintro e w' ⟨rfl, rfl⟩
        go_wp2_with (first
          | (go_at_call 27; refine (place_any _ _ B _ Z _ I2.out FP.out).mono ?_; rw [EPO.out]; rintro e w' ⟨rfl, rfl⟩)
          | (go_at_call 26; refine (addr_in _ _ B P O Z _ I2.out HP2.out).mono ?_; rw [EX.out]; rintro e w' ⟨rfl, rfl⟩)
          | (go_at_call 20; refine (in_of _ _ B _ 1 true Z _ I2.out FP.out (by unfold Fits; omega) EI.out).mono ?_; rintro e w' ⟨rfl, rfl⟩))
        go_ret
        exact ⟨ret_bool (by first | rfl | simp), B2.out⟩
    · have EP : Hid (placeR Z.length (p - B) = (0, 0, false)) := if_neg hi
      have EI : Hid (decide (inR Z.length (p - B) 1) = false) := decide_eq_false hi
      have HP2 : Hid (hasP Z.length 0 0) := by show hasP _ _ _; rw [ZL]; unfold hasP; omega
      clear hi hp ho ZL
      rcases DD with d1 | ⟨d1, d2⟩ | ⟨d1, d2, d3⟩ | ⟨d1, d2, d3, d4⟩
      all_goals
        go_enter Try.func8, Try.ntmps8
        go_wp2_with fail
        refine (alive_any _).mono ?_
        rintro e w1 ⟨rfl, b1'⟩
        have B1 : Hid (Below w.heap.size w w1) := b1'
        clear b1'
        go_wp2_with (go_at_call 11; refine (lbase_any n _ hn).mono ?_; rw [EB.out]; rintro e w' ⟨rfl, rfl⟩)
        refine (new_any B 5 _ (by decide) (by decide) HG.out).mono ?_
        rw [EZ.out]
        rintro e w2 ⟨rfl, i2, b2', s2⟩
        have I2 : Hid (IsA w2 (w1.heap.size + 1) w1.heap.size B Z) := i2
        have B2 : Hid (Below w.heap.size w w2) := B1.out.trans (b2'.mono B1.out.size)
        clear i2 b2' s2
        go_wp2_with fail
        refine (addr_out _ _ B p o Z _ I2.out HH.out).mono ?_
        rintro e w' ⟨rfl, rfl⟩
        go_wp2_with (first
          | (go_at_call 27; refine (place_any _ _ B _ Z _ I2.out FP.out).mono ?_; rw [EP.out]; rintro e w' ⟨rfl, rfl⟩)
          | (go_at_call 26; refine (addr_in _ _ B 0 0 Z _ I2.out HP2.out).mono ?_; rintro e w' ⟨rfl, rfl⟩)
          | (go_at_call 20; refine (in_of _ _ B _ 1 false Z _ I2.out FP.out (by unfold Fits; omega) EI.out).mono ?_; rintro e w' ⟨rfl, rfl⟩))
        go_ret
        exact ⟨ret_bool (by first | rfl | simp), B2.out⟩
end Go.Proofs.Ytjejholognpbaaa
