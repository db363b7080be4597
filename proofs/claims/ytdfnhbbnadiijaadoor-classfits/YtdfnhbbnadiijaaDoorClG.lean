/- The walk of ClassFits. -/
import Derived.Test.YtdfnhbbnadiijaaDoorClD
namespace Go.Proofs.YtdfnhbbnadiijaaDoor
open Go.RowKit
set_option linter.unusedVariables false

theorem fits_none (n : Int) (w : World) (hT : TabIn w) (h : n < 1 ∨ 4096 < n) :
    Calls Tryd.prog 6 #[.int .i64 n] w fun e w' => e = .returned (.bool true) ∧ Below w.heap.size w w' := by
  have HT : Hid (TabIn w) := hT
  have HR : Hid (ofI n = -1) := by show _ = _; have := ofI_cases n; omega
  have HP : Hid (pagesN n = 0) := pagesN_none HR.out
  clear hT
  rcases h with h | h
  all_goals
    go_enter Tryd.func6, Tryd.ntmps6
    go_wp2_with (first
      | (go_at_call 9; refine (alive_any _ HT.out).mono ?_; rintro e w1 ⟨rfl, b1⟩; have B1 : Hid (Below w.heap.size w w1) := b1; have T1 : Hid (TabIn w1) := HT.out.keep b1; clear b1)
      | (go_at_call 10; refine (of_any n _ T1.out).mono ?_; rw [HR.out]; rintro e w' ⟨rfl, rfl⟩)
      | (go_at_call 16; refine (pages_any n _ T1.out).mono ?_; rw [HP.out]; rintro e w' ⟨rfl, rfl⟩))
    go_ret
    exact ⟨rfl, B1.out⟩

theorem size6 (w : World) (hT : TabIn w) : Calls Tryd.prog 12 #[.int .i64 6] w fun e w' => e = .returned (.int .i64 128) ∧ w = w' := size_code 6 w hT (by decide) (by decide)

theorem fits_large (n : Int) (w : World) (hT : TabIn w) (h1 : 129 ≤ n) (h2 : n ≤ 4096) :
    Calls Tryd.prog 6 #[.int .i64 n] w fun e w' => e = .returned (.bool true) ∧ Below w.heap.size w w' := by
  have HT : Hid (TabIn w) := hT
  have HR : Hid (ofI n = 7) := by show _ = _; have := ofI_cases n; omega
  obtain ⟨m, rfl⟩ : ∃ m : Nat, n = m := ⟨n.toNat, by omega⟩
  obtain ⟨p, hp⟩ : ∃ p, pagesN (m : Int) = p := ⟨_, rfl⟩
  have e := (pagesN_large HR.out).1
  have HP : Hid (pagesN (m : Int) = p) := hp
  have k1 : m ≤ p * 256 := by rw [← hp, e]; simp; omega
  have k2 : p * 256 < m + 256 := by rw [← hp, e]; simp; omega
  have k3 : 1 ≤ p := by omega
  have k4 : p ≤ 17 := by omega
  clear hT hp e
  go_enter Tryd.func6, Tryd.ntmps6
  go_wp2_with (first
    | (go_at_call 9; refine (alive_any _ HT.out).mono ?_; rintro e w1 ⟨rfl, b1⟩; have B1 : Hid (Below w.heap.size w w1) := b1; have T1 : Hid (TabIn w1) := HT.out.keep b1; clear b1)
    | (go_at_call 10; refine (of_any _ _ T1.out).mono ?_; rw [HR.out]; rintro e w' ⟨rfl, rfl⟩)
    | (go_at_call 12; refine (size6 _ T1.out).mono ?_; rintro e w' ⟨rfl, rfl⟩)
    | (go_at_call 16; refine (pages_any _ _ T1.out).mono ?_; rw [HP.out]; rintro e w' ⟨rfl, rfl⟩))
  go_ret
  exact ⟨ret_bool (decide_eq_true (by omega)), B1.out⟩

theorem fits_0 (n : Int) (w : World) (hT : TabIn w) (h1 : 1 ≤ n) (h2 : n ≤ 16) :
    Calls Tryd.prog 6 #[.int .i64 n] w fun e w' => e = .returned (.bool true) ∧ Below w.heap.size w w' := by
  have HT : Hid (TabIn w) := hT
  have HR : Hid (ofI n = 0) := by show _ = _; have := ofI_cases n; omega
  obtain ⟨m, rfl⟩ : ∃ m : Nat, n = m := ⟨n.toNat, by omega⟩
  have s0 : sizeI 0 = 16 := by decide
  have t0 : slotsI 0 = 16 := by decide
  clear hT
  go_enter Tryd.func6, Tryd.ntmps6
  go_wp2_with (first
    | (go_at_call 9; refine (alive_any _ HT.out).mono ?_; rintro e w1 ⟨rfl, b1⟩; have B1 : Hid (Below w.heap.size w w1) := b1; have T1 : Hid (TabIn w1) := HT.out.keep b1; clear b1)
    | (go_at_call 10; refine (of_any _ _ T1.out).mono ?_; rw [HR.out]; rintro e w' ⟨rfl, rfl⟩)
    | (go_at_call 12; refine (size_code _ _ T1.out (by decide) (by decide)).mono ?_; rw [s0]; rintro e w' ⟨rfl, rfl⟩)
    | (go_at_call 14; refine (slots_any _ _ T1.out (by decide) (by decide)).mono ?_; rw [t0]; rintro e w' ⟨rfl, rfl⟩))
  go_ret
  exact ⟨rfl, B1.out⟩

theorem fits_1 (n : Int) (w : World) (hT : TabIn w) (h1 : 17 ≤ n) (h2 : n ≤ 24) :
    Calls Tryd.prog 6 #[.int .i64 n] w fun e w' => e = .returned (.bool true) ∧ Below w.heap.size w w' := by
  have HT : Hid (TabIn w) := hT
  have HR : Hid (ofI n = 1) := by show _ = _; have := ofI_cases n; omega
  obtain ⟨m, rfl⟩ : ∃ m : Nat, n = m := ⟨n.toNat, by omega⟩
  have s0 : sizeI 1 = 24 := by decide
  have s1 : sizeI 0 = 16 := by decide
  have t0 : slotsI 1 = 10 := by decide
  clear hT
  go_enter Tryd.func6, Tryd.ntmps6
  go_wp2_with (first
    | (go_at_call 9; refine (alive_any _ HT.out).mono ?_; rintro e w1 ⟨rfl, b1⟩; have B1 : Hid (Below w.heap.size w w1) := b1; have T1 : Hid (TabIn w1) := HT.out.keep b1; clear b1)
    | (go_at_call 10; refine (of_any _ _ T1.out).mono ?_; rw [HR.out]; rintro e w' ⟨rfl, rfl⟩)
    | (go_at_call 12; refine (size_code _ _ T1.out (by decide) (by decide)).mono ?_; (first | rw [s0] | rw [s1]); rintro e w' ⟨rfl, rfl⟩)
    | (go_at_call 14; refine (slots_any _ _ T1.out (by decide) (by decide)).mono ?_; rw [t0]; rintro e w' ⟨rfl, rfl⟩))
  go_ret
  exact ⟨ret_bool (by simp only [Bool.or_eq_true, decide_eq_true_eq]; omega), B1.out⟩

theorem fits_2 (n : Int) (w : World) (hT : TabIn w) (h1 : 25 ≤ n) (h2 : n ≤ 32) :
    Calls Tryd.prog 6 #[.int .i64 n] w fun e w' => e = .returned (.bool true) ∧ Below w.heap.size w w' := by
  have HT : Hid (TabIn w) := hT
  have HR : Hid (ofI n = 2) := by show _ = _; have := ofI_cases n; omega
  obtain ⟨m, rfl⟩ : ∃ m : Nat, n = m := ⟨n.toNat, by omega⟩
  have s0 : sizeI 2 = 32 := by decide
  have s1 : sizeI 1 = 24 := by decide
  have t0 : slotsI 2 = 8 := by decide
  clear hT
  go_enter Tryd.func6, Tryd.ntmps6
  go_wp2_with (first
    | (go_at_call 9; refine (alive_any _ HT.out).mono ?_; rintro e w1 ⟨rfl, b1⟩; have B1 : Hid (Below w.heap.size w w1) := b1; have T1 : Hid (TabIn w1) := HT.out.keep b1; clear b1)
    | (go_at_call 10; refine (of_any _ _ T1.out).mono ?_; rw [HR.out]; rintro e w' ⟨rfl, rfl⟩)
    | (go_at_call 12; refine (size_code _ _ T1.out (by decide) (by decide)).mono ?_; (first | rw [s0] | rw [s1]); rintro e w' ⟨rfl, rfl⟩)
    | (go_at_call 14; refine (slots_any _ _ T1.out (by decide) (by decide)).mono ?_; rw [t0]; rintro e w' ⟨rfl, rfl⟩))
  go_ret
  exact ⟨ret_bool (by simp only [Bool.or_eq_true, decide_eq_true_eq]; omega), B1.out⟩

theorem fits_3 (n : Int) (w : World) (hT : TabIn w) (h1 : 33 ≤ n) (h2 : n ≤ 48) :
    Calls Tryd.prog 6 #[.int .i64 n] w fun e w' => e = .returned (.bool true) ∧ Below w.heap.size w w' := by
  have HT : Hid (TabIn w) := hT
  have HR : Hid (ofI n = 3) := by show _ = _; have := ofI_cases n; omega
  obtain ⟨m, rfl⟩ : ∃ m : Nat, n = m := ⟨n.toNat, by omega⟩
  have s0 : sizeI 3 = 48 := by decide
  have s1 : sizeI 2 = 32 := by decide
  have t0 : slotsI 3 = 5 := by decide
  clear hT
  go_enter Tryd.func6, Tryd.ntmps6
  go_wp2_with (first
    | (go_at_call 9; refine (alive_any _ HT.out).mono ?_; rintro e w1 ⟨rfl, b1⟩; have B1 : Hid (Below w.heap.size w w1) := b1; have T1 : Hid (TabIn w1) := HT.out.keep b1; clear b1)
    | (go_at_call 10; refine (of_any _ _ T1.out).mono ?_; rw [HR.out]; rintro e w' ⟨rfl, rfl⟩)
    | (go_at_call 12; refine (size_code _ _ T1.out (by decide) (by decide)).mono ?_; (first | rw [s0] | rw [s1]); rintro e w' ⟨rfl, rfl⟩)
    | (go_at_call 14; refine (slots_any _ _ T1.out (by decide) (by decide)).mono ?_; rw [t0]; rintro e w' ⟨rfl, rfl⟩))
  go_ret
  exact ⟨ret_bool (by simp only [Bool.or_eq_true, decide_eq_true_eq]; omega), B1.out⟩

theorem fits_4 (n : Int) (w : World) (hT : TabIn w) (h1 : 49 ≤ n) (h2 : n ≤ 64) :
    Calls Tryd.prog 6 #[.int .i64 n] w fun e w' => e = .returned (.bool true) ∧ Below w.heap.size w w' := by
  have HT : Hid (TabIn w) := hT
  have HR : Hid (ofI n = 4) := by show _ = _; have := ofI_cases n; omega
  obtain ⟨m, rfl⟩ : ∃ m : Nat, n = m := ⟨n.toNat, by omega⟩
  have s0 : sizeI 4 = 64 := by decide
  have s1 : sizeI 3 = 48 := by decide
  have t0 : slotsI 4 = 4 := by decide
  clear hT
  go_enter Tryd.func6, Tryd.ntmps6
  go_wp2_with (first
    | (go_at_call 9; refine (alive_any _ HT.out).mono ?_; rintro e w1 ⟨rfl, b1⟩; have B1 : Hid (Below w.heap.size w w1) := b1; have T1 : Hid (TabIn w1) := HT.out.keep b1; clear b1)
    | (go_at_call 10; refine (of_any _ _ T1.out).mono ?_; rw [HR.out]; rintro e w' ⟨rfl, rfl⟩)
    | (go_at_call 12; refine (size_code _ _ T1.out (by decide) (by decide)).mono ?_; (first | rw [s0] | rw [s1]); rintro e w' ⟨rfl, rfl⟩)
    | (go_at_call 14; refine (slots_any _ _ T1.out (by decide) (by decide)).mono ?_; rw [t0]; rintro e w' ⟨rfl, rfl⟩))
  go_ret
  exact ⟨ret_bool (by simp only [Bool.or_eq_true, decide_eq_true_eq]; omega), B1.out⟩

theorem fits_5 (n : Int) (w : World) (hT : TabIn w) (h1 : 65 ≤ n) (h2 : n ≤ 96) :
    Calls Tryd.prog 6 #[.int .i64 n] w fun e w' => e = .returned (.bool true) ∧ Below w.heap.size w w' := by
  have HT : Hid (TabIn w) := hT
  have HR : Hid (ofI n = 5) := by show _ = _; have := ofI_cases n; omega
  obtain ⟨m, rfl⟩ : ∃ m : Nat, n = m := ⟨n.toNat, by omega⟩
  have s0 : sizeI 5 = 96 := by decide
  have s1 : sizeI 4 = 64 := by decide
  have t0 : slotsI 5 = 2 := by decide
  clear hT
  go_enter Tryd.func6, Tryd.ntmps6
  go_wp2_with (first
    | (go_at_call 9; refine (alive_any _ HT.out).mono ?_; rintro e w1 ⟨rfl, b1⟩; have B1 : Hid (Below w.heap.size w w1) := b1; have T1 : Hid (TabIn w1) := HT.out.keep b1; clear b1)
    | (go_at_call 10; refine (of_any _ _ T1.out).mono ?_; rw [HR.out]; rintro e w' ⟨rfl, rfl⟩)
    | (go_at_call 12; refine (size_code _ _ T1.out (by decide) (by decide)).mono ?_; (first | rw [s0] | rw [s1]); rintro e w' ⟨rfl, rfl⟩)
    | (go_at_call 14; refine (slots_any _ _ T1.out (by decide) (by decide)).mono ?_; rw [t0]; rintro e w' ⟨rfl, rfl⟩))
  go_ret
  exact ⟨ret_bool (by simp only [Bool.or_eq_true, decide_eq_true_eq]; omega), B1.out⟩

theorem fits_6 (n : Int) (w : World) (hT : TabIn w) (h1 : 97 ≤ n) (h2 : n ≤ 128) :
    Calls Tryd.prog 6 #[.int .i64 n] w fun e w' => e = .returned (.bool true) ∧ Below w.heap.size w w' := by
  have HT : Hid (TabIn w) := hT
  have HR : Hid (ofI n = 6) := by show _ = _; have := ofI_cases n; omega
  obtain ⟨m, rfl⟩ : ∃ m : Nat, n = m := ⟨n.toNat, by omega⟩
  have s0 : sizeI 6 = 128 := by decide
  have s1 : sizeI 5 = 96 := by decide
  have t0 : slotsI 6 = 2 := by decide
  clear hT
  go_enter Tryd.func6, Tryd.ntmps6
  go_wp2_with (first
    | (go_at_call 9; refine (alive_any _ HT.out).mono ?_; rintro e w1 ⟨rfl, b1⟩; have B1 : Hid (Below w.heap.size w w1) := b1; have T1 : Hid (TabIn w1) := HT.out.keep b1; clear b1)
    | (go_at_call 10; refine (of_any _ _ T1.out).mono ?_; rw [HR.out]; rintro e w' ⟨rfl, rfl⟩)
    | (go_at_call 12; refine (size_code _ _ T1.out (by decide) (by decide)).mono ?_; (first | rw [s0] | rw [s1]); rintro e w' ⟨rfl, rfl⟩)
    | (go_at_call 14; refine (slots_any _ _ T1.out (by decide) (by decide)).mono ?_; rw [t0]; rintro e w' ⟨rfl, rfl⟩))
  go_ret
  exact ⟨ret_bool (by simp only [Bool.or_eq_true, decide_eq_true_eq]; omega), B1.out⟩

theorem classFits_any (n : Int) (w : World) (hT : TabIn w) :
    Calls Tryd.prog 6 #[.int .i64 n] w fun e w' => e = .returned (.bool true) ∧ Below w.heap.size w w' := by
  rcases (by omega : (n < 1 ∨ 4096 < n) ∨ (1 ≤ n ∧ n ≤ 16) ∨ (17 ≤ n ∧ n ≤ 24) ∨ (25 ≤ n ∧ n ≤ 32) ∨ (33 ≤ n ∧ n ≤ 48) ∨ (49 ≤ n ∧ n ≤ 64) ∨ (65 ≤ n ∧ n ≤ 96) ∨ (97 ≤ n ∧ n ≤ 128) ∨ (129 ≤ n ∧ n ≤ 4096)) with h | ⟨h1, h2⟩ | ⟨h1, h2⟩ | ⟨h1, h2⟩ | ⟨h1, h2⟩ | ⟨h1, h2⟩ | ⟨h1, h2⟩ | ⟨h1, h2⟩ | ⟨h1, h2⟩
  · exact fits_none n w hT h
  · exact fits_0 n w hT h1 h2
  · exact fits_1 n w hT h1 h2
  · exact fits_2 n w hT h1 h2
  · exact fits_3 n w hT h1 h2
  · exact fits_4 n w hT h1 h2
  · exact fits_5 n w hT h1 h2
  · exact fits_6 n w hT h1 h2
  · exact fits_large n w hT h1 h2
end Go.Proofs.YtdfnhbbnadiijaaDoor
