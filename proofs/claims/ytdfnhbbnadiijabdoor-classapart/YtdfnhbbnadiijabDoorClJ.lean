/- The walk of ClassApart. -/
import Derived.Test.YtdfnhbbnadiijabDoorClE
namespace Go.Proofs.YtdfnhbbnadiijabDoor
open Go.RowKit
set_option linter.unusedVariables false

set_option maxHeartbeats 1000000 in
theorem classApart_any (a : Option Addr) (cap : Nat) (l : List Int) (b : Option Addr) (cb : Nat) (m : List Int) (w : World) (hT : TabIn w) (hI : IsI w a l) (hnil : a = none → l = [] ∧ cap = 0) (hmax : l.length ≤ maxLen) (hJ : IsI w b m) (hnil2 : b = none → m = [] ∧ cb = 0) (hmax2 : m.length ≤ maxLen) :
    Calls Tryd.prog 3 #[.slice a l.length cap, .slice b m.length cb] w fun e w' => e = .returned (.bool true) ∧ Below w.heap.size w w' := by
  have HT : Hid (TabIn w) := hT
  have HI : Hid (IsI w a l) := hI
  have HN : Hid (a = none → l = [] ∧ cap = 0) := hnil
  have HJ : Hid (IsI w b m) := hJ
  have HM : Hid (b = none → m = [] ∧ cb = 0) := hnil2
  have hmax' : l.length ≤ 9223372036854775807 := hmax
  have hmax2' : m.length ≤ 9223372036854775807 := hmax2
  clear hT hI hnil hmax hJ hnil2 hmax2
  by_cases hlen : 2000 < l.length
  · go_enter Tryd.func3, Tryd.ntmps3
    go_wp2_with (go_at_call 4; refine (alive_any _ HT.out).mono ?_; rintro e w1 ⟨rfl, b1⟩; have B1 : Hid (Below w.heap.size w w1) := b1; have T1 : Hid (TabIn w1) := HT.out.keep b1; clear b1)
    go_ret
    exact ⟨rfl, B1.out⟩
  by_cases hlen2 : 2000 < m.length
  · go_enter Tryd.func3, Tryd.ntmps3
    go_wp2_with (go_at_call 4; refine (alive_any _ HT.out).mono ?_; rintro e w1 ⟨rfl, b1⟩; have B1 : Hid (Below w.heap.size w w1) := b1; have T1 : Hid (TabIn w1) := HT.out.keep b1; clear b1)
    go_ret
    exact ⟨rfl, B1.out⟩
  · have HB1 : Hid (∀ x ∈ l ++ m, -9223372036854775808 ≤ x ∧ x ≤ 9223372036854775807) := by
      show ∀ x ∈ l ++ m, _
      intro x hx
      rcases List.mem_append.1 hx with h | h
      · exact HI.out.1 x h
      · exact HJ.out.1 x h
    have e1 := need_add l m
    have e2 := need_left l m
    have e3 := need_right l m
    have hle := need_len l
    have hle2 := need_len m
    obtain ⟨x, hx⟩ : ∃ x, needN l = x := ⟨_, rfl⟩
    obtain ⟨z, hz⟩ : ∃ z, needN m = z := ⟨_, rfl⟩
    obtain ⟨y, hy⟩ : ∃ y, needN (l ++ m) = y := ⟨_, rfl⟩
    rw [hx] at e1 e2 hle
    rw [hz] at e1 e3 hle2
    rw [hy] at e1 e2 e3
    have HX : Hid (needN l = x) := hx
    have HZ : Hid (needN m = z) := hz
    have HY : Hid (needN (l ++ m) = y) := hy
    clear hx hy hz
    obtain ⟨L1, hL1⟩ : ∃ L, l ++ m = L := ⟨_, rfl⟩
    have EL1 : Hid (l ++ m = L1) := hL1
    have ll1 : L1.length ≤ 4000 := by rw [← hL1]; simp; omega
    rw [hL1] at HB1 HY
    clear hL1
    go_enter Tryd.func3, Tryd.ntmps3
    go_wp2_with (first
      | (go_at_call 4; refine (alive_any _ HT.out).mono ?_; rintro e w1 ⟨rfl, b1⟩; have B1 : Hid (Below w.heap.size w w1) := b1; have T1 : Hid (TabIn w1) := HT.out.keep b1; clear b1)
      | (go_at_call 5; refine (need_any b cb m _ (HT.out.keep B8.out) (HJ.out.keep B8.out) (by omega)).mono ?_; rw [HZ.out]; rintro e w9 ⟨rfl, b9⟩; have B9 : Hid (Below w.heap.size w w9) := B8.out.trans (b9.mono B8.out.size); clear b9)
      | (go_at_call 5; refine (need_any a cap l _ (HT.out.keep B7.out) (HI.out.keep B7.out) (by omega)).mono ?_; rw [HX.out]; rintro e w8 ⟨rfl, b8⟩; have B8 : Hid (Below w.heap.size w w8) := B7.out.trans (b8.mono B7.out.size); clear b8)
      | (go_at_call 5; refine (need_any b cb m _ (HT.out.keep B6.out) (HJ.out.keep B6.out) (by omega)).mono ?_; rw [HZ.out]; rintro e w7 ⟨rfl, b7⟩; have B7 : Hid (Below w.heap.size w w7) := B6.out.trans (b7.mono B6.out.size); clear b7)
      | (go_at_call 5; refine (need_any a cap l _ (HT.out.keep B5.out) (HI.out.keep B5.out) (by omega)).mono ?_; rw [HX.out]; rintro e w6 ⟨rfl, b6⟩; have B6 : Hid (Below w.heap.size w w6) := B5.out.trans (b6.mono B5.out.size); clear b6)
      | (go_at_call 5; refine (need_any a4 c4 L1 _ (HT.out.keep B4.out) (ownsI_isI HB1.out O4.out) (by omega)).mono ?_; rw [HY.out]; rintro e w5 ⟨rfl, b5⟩; have B5 : Hid (Below w.heap.size w w5) := B4.out.trans (b5.mono B4.out.size); clear b5)
      | (at_builtin; refine wpList_appi rfl _ _ rfl w.heap.size B3.out.size a3 l c3 rfl O3.out b m cb rfl (HJ.out.keep B3.out) HM.out (by omega) (by omega) ?_; intro a4 c4 w4 o4 b4; rw [EL1.out] at o4 ⊢; have O4 : Hid (OwnsI w4 w.heap.size a4 L1 c4) := o4; have B4 : Hid (Below w.heap.size w w4) := B3.out.trans b4; clear o4 b4)
      | (at_builtin; refine wpList_appi rfl _ _ rfl w.heap.size (by have := B1.out.size; simp; omega) (some ⟨w1.heap.size, 0, none⟩) [] 0 rfl (ownsI_made w1 _ B1.out.size) a l cap rfl (HI.out.keep (B1.out.alloc B1.out.size _)) HN.out (by simp) (by omega) ?_; intro a3 c3 w3 o3 b3; rw [List.nil_append] at o3 ⊢; have O3 : Hid (OwnsI w3 w.heap.size a3 l c3) := o3; have B3 : Hid (Below w.heap.size w w3) := (B1.out.alloc B1.out.size _).trans b3; clear o3 b3))
    go_ret
    exact ⟨rfl, B9.out⟩
end Go.Proofs.YtdfnhbbnadiijabDoor
