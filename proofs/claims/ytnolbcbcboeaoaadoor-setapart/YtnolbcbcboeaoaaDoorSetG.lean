/- The document's examples: what alive answers. -/
import Derived.Test.YtnolbcbcboeaoaaDoorSetF
namespace Go.Proofs.YtnolbcbcboeaoaaDoor
open Go.RowKit
set_option linter.unusedVariables false

/-- The set of the examples: of ten places, 1 and 9 are in. -/
def ex : Nat → Bool := turn 10 (turn 10 (turn 10 (fun _ => false) 1 true) 9 true) 9 true

theorem ex_1 : (isP 10 1 && !(fun _ : Nat => false) (Int.toNat 1)) = true := by decide
theorem ex_2 : (isP 10 9 && !turn 10 (fun _ => false) 1 true (Int.toNat 9)) = true := by decide
theorem ex_3 : (isP 10 9 && !turn 10 (turn 10 (fun _ => false) 1 true) 9 true (Int.toNat 9)) = false := by decide
theorem ex_b0 : byt ex 0 = 2 := by decide
theorem ex_b1 : byt ex 1 = 2 := by decide
theorem ex_c : cnt ex 10 = 2 := by decide
theorem ex_f : nextL ex 10 (Int.toNat 2) = 9 := by decide
theorem ex_g : nextL (outB ex) 10 (Int.toNat 1) = 2 := by decide
theorem ex_h : nextL (outB ex) 10 (Int.toNat 9) = -1 := by decide

set_option maxHeartbeats 2000000 in
theorem alive_any (w : World) (hT : TabIn w) :
    Calls Tryd.prog 9 #[] w fun e w' => e = .returned (.bool true) ∧ Below w.heap.size w w' := by
  have HT : Hid (TabIn w) := hT
  have e10 : clampN 10 = 10 := by decide
  have E10 : Hid (clampN 10 = 10) := e10
  clear hT e10
  go_enter Tryd.func9, Tryd.ntmps9
  go_wp2_with (go_at_call 28; refine (new_any 10 _).mono ?_; rintro e w1 ⟨rfl, hw1⟩)
  have S1 : SetAt w1 (w.heap.size + 1) w.heap.size 10 (fun _ => false) := by rw [← hw1, E10.out]; exact newW_at w 10 (by decide)
  have B1 : Hid (Below w.heap.size w w1) := by rw [← hw1]; exact newW_below w _
  clear hw1
  obtain ⟨b, hb⟩ : ∃ b, w.heap.size + 1 = b := ⟨_, rfl⟩
  obtain ⟨g, hg⟩ : ∃ g, w.heap.size = g := ⟨_, rfl⟩
  have HG : Hid (w.heap.size = g) := hg
  rw [hb] at S1 ⊢
  rw [hg] at S1
  clear hb hg
  refine (add_any b g 10 _ 1 _ S1).mono ?_
  rintro e w2 ⟨rfl, S2, o2⟩
  rw [ex_1]
  have B2 : Hid (Below w.heap.size w w2) := B1.out.trans (o2.below (by rw [HG.out]; exact Nat.le_refl _))
  clear S1 o2
  go_wp2_with fail
  refine (add_any b g 10 _ 9 _ S2).mono ?_
  rintro e w3 ⟨rfl, S3, o3⟩
  rw [ex_2]
  have B3 : Hid (Below w.heap.size w w3) := B2.out.trans (o3.below (by rw [HG.out]; exact Nat.le_refl _))
  clear S2 o3
  go_wp2_with fail
  refine (add_any b g 10 _ 9 _ S3).mono ?_
  rintro e w4 ⟨rfl, S4, o4⟩
  rw [ex_3]
  have B4 : Hid (Below w.heap.size w w4) := B3.out.trans (o4.below (by rw [HG.out]; exact Nat.le_refl _))
  have S4 : Hid (SetAt w4 b g 10 ex) := S4
  clear S3 o4
  go_wp2_with fail
  refine (bytes_any b g 10 ex _ S4.out).mono ?_
  rintro e w5 ⟨rfl, F5, b5⟩
  have B5 : Hid (Below w.heap.size w w5) := B4.out.trans (b5.mono B4.out.size)
  have S5 : Hid (SetAt w5 b g 10 ex) := S4.out.keepAll b5
  have T5 : Hid (TabIn w5) := HT.out.keep B5.out HT.out.1
  have c0 := F5.cell 0 (by decide)
  have c1 := F5.cell 1 (by decide)
  rw [if_pos (by decide), ex_b0] at c0
  rw [if_pos (by decide), ex_b1] at c1
  clear F5 b5
  go_wp2_with (first
    | (go_at_call 13; refine (count_any b g 10 ex _ S5.out).mono ?_; rintro e w' ⟨rfl, rfl⟩; rw [ex_c])
    | (go_at_call 22; refine (first_any b g 10 ex _ _ S5.out T5.out (by omega)).mono ?_; rintro e w' ⟨rfl, rfl⟩; rw [ex_f])
    | (go_at_call 23; refine (gap_any b g 10 ex 1 _ S5.out T5.out (by omega)).mono ?_; rintro e w' ⟨rfl, rfl⟩; rw [ex_g])
    | (go_at_call 23; refine (gap_any b g 10 ex 9 _ S5.out T5.out (by omega)).mono ?_; rintro e w' ⟨rfl, rfl⟩; rw [ex_h]))
  go_ret
  exact ⟨rfl, B5.out⟩
end Go.Proofs.YtnolbcbcboeaoaaDoor
