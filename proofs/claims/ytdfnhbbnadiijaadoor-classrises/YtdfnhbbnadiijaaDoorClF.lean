/- The walks of ClassOf, ClassTells, ClassRises. -/
import Derived.Test.YtdfnhbbnadiijaaDoorClD
namespace Go.Proofs.YtdfnhbbnadiijaaDoor
open Go.RowKit
set_option linter.unusedVariables false

theorem classOf_any (n : Int) (w : World) (hT : TabIn w) :
    Calls Tryd.prog 3 #[.int .i64 n] w fun e w' => e = .returned (.bool true) ∧ Below w.heap.size w w' := by
  have HT : Hid (TabIn w) := hT
  obtain ⟨r, hr⟩ : ∃ r, ofI n = r := ⟨_, rfl⟩
  have HR : Hid (ofI n = r) := hr
  clear hT hr
  go_enter Tryd.func3, Tryd.ntmps3
  go_wp2_with (first
    | (go_at_call 9; refine (alive_any _ HT.out).mono ?_; rintro e w1 ⟨rfl, b1⟩; have B1 : Hid (Below w.heap.size w w1) := b1; have T1 : Hid (TabIn w1) := HT.out.keep b1; clear b1)
    | (go_at_call 10; refine (of_any n _ T1.out).mono ?_; rw [HR.out]; rintro e w' ⟨rfl, rfl⟩)
    | (go_at_call 11; refine (rof_any n _).mono ?_; rw [HR.out]; rintro e w' ⟨rfl, rfl⟩))
  go_ret
  exact ⟨rfl, B1.out⟩

theorem classTells_any (c n : Int) (w : World) (hT : TabIn w) (h1 : -9223372036854775808 ≤ c) (h2 : c ≤ 9223372036854775807) :
    Calls Tryd.prog 4 #[.int .i64 c, .int .i64 n] w fun e w' => e = .returned (.bool true) ∧ Below w.heap.size w w' := by
  have HT : Hid (TabIn w) := hT
  obtain ⟨r, hr⟩ : ∃ r, sizeI c = r := ⟨_, rfl⟩
  have HR : Hid (sizeI c = r) := hr
  obtain ⟨s, hs⟩ : ∃ s, slotsI c = s := ⟨_, rfl⟩
  have HS : Hid (slotsI c = s) := hs
  obtain ⟨p, hp⟩ : ∃ p, pagesN n = p := ⟨_, rfl⟩
  have HP : Hid (pagesN n = p) := hp
  clear hT hr hs hp
  go_enter Tryd.func4, Tryd.ntmps4
  go_wp2_with (first
    | (go_at_call 9; refine (alive_any _ HT.out).mono ?_; rintro e w1 ⟨rfl, b1⟩; have B1 : Hid (Below w.heap.size w w1) := b1; have T1 : Hid (TabIn w1) := HT.out.keep b1; clear b1)
    | (go_at_call 12; refine (size_code c _ T1.out h1 h2).mono ?_; rw [HR.out]; rintro e w' ⟨rfl, rfl⟩)
    | (go_at_call 13; refine (rsize_any c _).mono ?_; rw [HR.out]; rintro e w' ⟨rfl, rfl⟩)
    | (go_at_call 14; refine (slots_any c _ T1.out h1 h2).mono ?_; rw [HS.out]; rintro e w' ⟨rfl, rfl⟩)
    | (go_at_call 15; refine (rslots_any c _).mono ?_; rw [HS.out]; rintro e w' ⟨rfl, rfl⟩)
    | (go_at_call 16; refine (pages_any n _ T1.out).mono ?_; rw [HP.out]; rintro e w' ⟨rfl, rfl⟩)
    | (go_at_call 17; refine (rpages_any n _).mono ?_; rw [HP.out]; rintro e w' ⟨rfl, rfl⟩))
  go_ret
  exact ⟨rfl, B1.out⟩

theorem of_mono (a b : Int) (h : a ≤ b) (h1 : 1 ≤ a) (h2 : b ≤ 4096) : ofI a ≤ ofI b := by
  have := ofI_cases a
  have := ofI_cases b
  omega
theorem pages_mid (a : Int) (h1 : 1 ≤ a) (h2 : a ≤ 4096) : a ≤ 128 ∧ pagesN a = 1 ∨ 129 ≤ a ∧ pagesN a = (a.toNat + 255) / 256 := by
  unfold pagesN
  rw [if_neg (show ¬ (a < 1 ∨ 4096 < a) by omega)]
  by_cases h : a ≤ 128
  · rw [if_pos h]; exact .inl ⟨h, rfl⟩
  · rw [if_neg h]; exact .inr ⟨by omega, rfl⟩
theorem pages_mono (a b : Int) (h : a ≤ b) (h1 : 1 ≤ a) (h2 : b ≤ 4096) : pagesN a ≤ pagesN b := by
  have := pages_mid a h1 (by omega)
  have := pages_mid b (by omega) h2
  omega

theorem classRises_any (a b : Int) (w : World) (hT : TabIn w) :
    Calls Tryd.prog 7 #[.int .i64 a, .int .i64 b] w fun e w' => e = .returned (.bool true) ∧ Below w.heap.size w w' := by
  have HT : Hid (TabIn w) := hT
  clear hT
  rcases Int.lt_trichotomy a b with h | h | h
  · rcases (by omega : a < 1 ∨ 1 ≤ a ∧ 4096 < b ∨ 1 ≤ a ∧ b ≤ 4096) with hl | ⟨hl, hh⟩ | ⟨hl, hh⟩
    · go_enter Tryd.func7, Tryd.ntmps7
      go_wp2_with (go_at_call 9; refine (alive_any _ HT.out).mono ?_; rintro e w1 ⟨rfl, b1⟩; have B1 : Hid (Below w.heap.size w w1) := b1; have T1 : Hid (TabIn w1) := HT.out.keep b1; clear b1)
      go_ret
      exact ⟨rfl, B1.out⟩
    · go_enter Tryd.func7, Tryd.ntmps7
      go_wp2_with (go_at_call 9; refine (alive_any _ HT.out).mono ?_; rintro e w1 ⟨rfl, b1⟩; have B1 : Hid (Below w.heap.size w w1) := b1; have T1 : Hid (TabIn w1) := HT.out.keep b1; clear b1)
      go_ret
      exact ⟨rfl, B1.out⟩
    · have m1 := of_mono a b (by omega) hl hh
      have m2 := pages_mono a b (by omega) hl hh
      obtain ⟨r, hr⟩ : ∃ r, ofI a = r := ⟨_, rfl⟩
      obtain ⟨s, hs⟩ : ∃ s, ofI b = s := ⟨_, rfl⟩
      obtain ⟨p, hp⟩ : ∃ p, pagesN a = p := ⟨_, rfl⟩
      obtain ⟨q, hq⟩ : ∃ q, pagesN b = q := ⟨_, rfl⟩
      rw [hr, hs] at m1
      rw [hp, hq] at m2
      have HR : Hid (ofI a = r) := hr
      have HS : Hid (ofI b = s) := hs
      have HP : Hid (pagesN a = p) := hp
      have HQ : Hid (pagesN b = q) := hq
      clear hr hs hp hq
      go_enter Tryd.func7, Tryd.ntmps7
      go_wp2_with (first
        | (go_at_call 9; refine (alive_any _ HT.out).mono ?_; rintro e w1 ⟨rfl, b1⟩; have B1 : Hid (Below w.heap.size w w1) := b1; have T1 : Hid (TabIn w1) := HT.out.keep b1; clear b1)
        | (go_at_call 10; refine (of_any _ _ T1.out).mono ?_; (first | rw [HR.out] | rw [HS.out]); rintro e w' ⟨rfl, rfl⟩)
        | (go_at_call 16; refine (pages_any _ _ T1.out).mono ?_; (first | rw [HP.out] | rw [HQ.out]); rintro e w' ⟨rfl, rfl⟩))
      go_ret
      exact ⟨rfl, B1.out⟩
  · subst h
    rcases (by omega : a < 1 ∨ 1 ≤ a ∧ 4096 < a ∨ 1 ≤ a ∧ a ≤ 4096) with hl | ⟨hl, hh⟩ | ⟨hl, hh⟩
    · go_enter Tryd.func7, Tryd.ntmps7
      go_wp2_with (go_at_call 9; refine (alive_any _ HT.out).mono ?_; rintro e w1 ⟨rfl, b1⟩; have B1 : Hid (Below w.heap.size w w1) := b1; have T1 : Hid (TabIn w1) := HT.out.keep b1; clear b1)
      go_ret
      exact ⟨rfl, B1.out⟩
    · go_enter Tryd.func7, Tryd.ntmps7
      go_wp2_with (go_at_call 9; refine (alive_any _ HT.out).mono ?_; rintro e w1 ⟨rfl, b1⟩; have B1 : Hid (Below w.heap.size w w1) := b1; have T1 : Hid (TabIn w1) := HT.out.keep b1; clear b1)
      go_ret
      exact ⟨rfl, B1.out⟩
    · obtain ⟨r, hr⟩ : ∃ r, ofI a = r := ⟨_, rfl⟩
      obtain ⟨p, hp⟩ : ∃ p, pagesN a = p := ⟨_, rfl⟩
      have HR : Hid (ofI a = r) := hr
      have HP : Hid (pagesN a = p) := hp
      clear hr hp
      go_enter Tryd.func7, Tryd.ntmps7
      go_wp2_with (first
        | (go_at_call 9; refine (alive_any _ HT.out).mono ?_; rintro e w1 ⟨rfl, b1⟩; have B1 : Hid (Below w.heap.size w w1) := b1; have T1 : Hid (TabIn w1) := HT.out.keep b1; clear b1)
        | (go_at_call 10; refine (of_any _ _ T1.out).mono ?_; rw [HR.out]; rintro e w' ⟨rfl, rfl⟩)
        | (go_at_call 16; refine (pages_any _ _ T1.out).mono ?_; rw [HP.out]; rintro e w' ⟨rfl, rfl⟩))
      go_ret
      exact ⟨rfl, B1.out⟩
  · rcases (by omega : b < 1 ∨ 1 ≤ b ∧ 4096 < a ∨ 1 ≤ b ∧ a ≤ 4096) with hl | ⟨hl, hh⟩ | ⟨hl, hh⟩
    · go_enter Tryd.func7, Tryd.ntmps7
      go_wp2_with (go_at_call 9; refine (alive_any _ HT.out).mono ?_; rintro e w1 ⟨rfl, b1⟩; have B1 : Hid (Below w.heap.size w w1) := b1; have T1 : Hid (TabIn w1) := HT.out.keep b1; clear b1)
      go_ret
      exact ⟨rfl, B1.out⟩
    · go_enter Tryd.func7, Tryd.ntmps7
      go_wp2_with (go_at_call 9; refine (alive_any _ HT.out).mono ?_; rintro e w1 ⟨rfl, b1⟩; have B1 : Hid (Below w.heap.size w w1) := b1; have T1 : Hid (TabIn w1) := HT.out.keep b1; clear b1)
      go_ret
      exact ⟨rfl, B1.out⟩
    · have m1 := of_mono b a (by omega) hl hh
      have m2 := pages_mono b a (by omega) hl hh
      obtain ⟨r, hr⟩ : ∃ r, ofI b = r := ⟨_, rfl⟩
      obtain ⟨s, hs⟩ : ∃ s, ofI a = s := ⟨_, rfl⟩
      obtain ⟨p, hp⟩ : ∃ p, pagesN b = p := ⟨_, rfl⟩
      obtain ⟨q, hq⟩ : ∃ q, pagesN a = q := ⟨_, rfl⟩
      rw [hr, hs] at m1
      rw [hp, hq] at m2
      have HR : Hid (ofI b = r) := hr
      have HS : Hid (ofI a = s) := hs
      have HP : Hid (pagesN b = p) := hp
      have HQ : Hid (pagesN a = q) := hq
      clear hr hs hp hq
      go_enter Tryd.func7, Tryd.ntmps7
      go_wp2_with (first
        | (go_at_call 9; refine (alive_any _ HT.out).mono ?_; rintro e w1 ⟨rfl, b1⟩; have B1 : Hid (Below w.heap.size w w1) := b1; have T1 : Hid (TabIn w1) := HT.out.keep b1; clear b1)
        | (go_at_call 10; refine (of_any _ _ T1.out).mono ?_; (first | rw [HR.out] | rw [HS.out]); rintro e w' ⟨rfl, rfl⟩)
        | (go_at_call 16; refine (pages_any _ _ T1.out).mono ?_; (first | rw [HP.out] | rw [HQ.out]); rintro e w' ⟨rfl, rfl⟩))
      go_ret
      exact ⟨rfl, B1.out⟩
end Go.Proofs.YtdfnhbbnadiijaaDoor
