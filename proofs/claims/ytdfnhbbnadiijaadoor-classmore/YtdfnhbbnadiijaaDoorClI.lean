/- The walk of ClassMore. -/
import Derived.Test.YtdfnhbbnadiijaaDoorClE
namespace Go.Proofs.YtdfnhbbnadiijaaDoor
open Go.RowKit
set_option linter.unusedVariables false

set_option maxHeartbeats 1000000 in
theorem classMore_any (a : Option Addr) (cap : Nat) (l : List Int) (n : Int) (w : World) (hT : TabIn w) (hI : IsI w a l) (hnil : a = none → l = [] ∧ cap = 0) (hmax : l.length ≤ maxLen) (h1 : -9223372036854775808 ≤ n) (h2 : n ≤ 9223372036854775807) :
    Calls Tryd.prog 8 #[.slice a l.length cap, .int .i64 n] w fun e w' => e = .returned (.bool true) ∧ Below w.heap.size w w' := by
  have HT : Hid (TabIn w) := hT
  have HI : Hid (IsI w a l) := hI
  have HN : Hid (a = none → l = [] ∧ cap = 0) := hnil
  have hmax' : l.length ≤ 9223372036854775807 := hmax
  clear hT hI hnil hmax
  by_cases hlen : 2000 < l.length
  · go_enter Tryd.func8, Tryd.ntmps8
    go_wp2_with (go_at_call 9; refine (alive_any _ HT.out).mono ?_; rintro e w1 ⟨rfl, b1⟩; have B1 : Hid (Below w.heap.size w w1) := b1; have T1 : Hid (TabIn w1) := HT.out.keep b1; clear b1)
    go_ret
    exact ⟨rfl, B1.out⟩
  · have HB1 : Hid (∀ x ∈ l ++ [n], -9223372036854775808 ≤ x ∧ x ≤ 9223372036854775807) := by
      show ∀ x ∈ l ++ [n], _
      intro x hx
      rcases List.mem_append.1 hx with h | h
      · exact HI.out.1 x h
      · simp at h; subst h; exact ⟨h1, h2⟩
    have HB2 : Hid (∀ x ∈ [n] ++ l, -9223372036854775808 ≤ x ∧ x ≤ 9223372036854775807) := by
      show ∀ x ∈ [n] ++ l, _
      intro x hx
      rcases List.mem_append.1 hx with h | h
      · simp at h; subst h; exact ⟨h1, h2⟩
      · exact HI.out.1 x h
    obtain ⟨e1, e2, e3⟩ := need_more l n
    have hle := need_len l
    obtain ⟨x, hx⟩ : ∃ x, needN l = x := ⟨_, rfl⟩
    obtain ⟨y, hy⟩ : ∃ y, needN (l ++ [n]) = y := ⟨_, rfl⟩
    obtain ⟨p, hp⟩ : ∃ p, pagesN n = p := ⟨_, rfl⟩
    have hpl := pagesN_le n
    rw [hx] at e2 e3 hle
    rw [hy] at e1 e2 e3
    rw [hp] at e3 hpl
    have HX : Hid (needN l = x) := hx
    have HY : Hid (needN (l ++ [n]) = y) := hy
    have HZ : Hid (needN ([n] ++ l) = y) := e1.symm
    have HP : Hid (pagesN n = p) := hp
    have HN1 : Hid (-9223372036854775808 ≤ n ∧ n ≤ 9223372036854775807) := ⟨h1, h2⟩
    clear hx hy hp e1
    obtain ⟨L1, hL1⟩ : ∃ L, l ++ [n] = L := ⟨_, rfl⟩
    obtain ⟨L2, hL2⟩ : ∃ L, [n] ++ l = L := ⟨_, rfl⟩
    have EL1 : Hid (l ++ [n] = L1) := hL1
    have EL2 : Hid ([n] ++ l = L2) := hL2
    have ll1 : L1.length ≤ 2001 := by rw [← hL1]; simp; omega
    have ll2 : L2.length ≤ 2001 := by rw [← hL2]; simp; omega
    rw [hL1] at HB1 HY
    rw [hL2] at HB2 HZ
    clear hL1 hL2
    go_enter Tryd.func8, Tryd.ntmps8
    go_wp2_with (first
      | (go_at_call 9; refine (alive_any _ HT.out).mono ?_; rintro e w1 ⟨rfl, b1⟩; have B1 : Hid (Below w.heap.size w w1) := b1; have T1 : Hid (TabIn w1) := HT.out.keep b1; clear b1)
      | (go_at_call 18; refine (need_any a6 c6 L2 _ (HT.out.keep B6.out) (ownsI_isI HB2.out O6.out) (by omega)).mono ?_; rw [HZ.out]; rintro e w7 ⟨rfl, b7⟩; have B7 : Hid (Below w.heap.size w w7) := B6.out.trans (b7.mono B6.out.size); clear b7)
      | (go_at_call 18; refine (need_any a4 c4 L1 _ (HT.out.keep B4.out) (ownsI_isI HB1.out O4.out) (by omega)).mono ?_; rw [HY.out]; rintro e w5 ⟨rfl, b5⟩; have B5 : Hid (Below w.heap.size w w5) := B4.out.trans (b5.mono B4.out.size); clear b5)
      | (go_at_call 18; refine (need_any a cap l _ T1.out (HI.out.keep B1.out) (by omega)).mono ?_; rw [HX.out]; rintro e w2 ⟨rfl, b2⟩; have B2 : Hid (Below w.heap.size w w2) := B1.out.trans (b2.mono B1.out.size); clear b2)
      | (go_at_call 16; refine (pages_any n _ (HT.out.keep B7.out)).mono ?_; rw [HP.out]; rintro e w' ⟨rfl, rfl⟩)
      | (at_builtin; refine wpList_appi rfl _ _ rfl w.heap.size (by have := B5.out.size; simp; omega) (some ⟨w5.heap.size, 0, none⟩) [n] 1 rfl (one_owns w5 _ n B5.out.size) a l cap rfl (HI.out.keep (B5.out.alloc B5.out.size _)) HN.out (by simp) (by omega) ?_; intro a6 c6 w6 o6 b6; rw [EL2.out] at o6 ⊢; have O6 : Hid (OwnsI w6 w.heap.size a6 L2 c6) := o6; have B6 : Hid (Below w.heap.size w w6) := (B5.out.alloc B5.out.size _).trans b6; clear o6 b6)
      | (at_builtin; refine wpList_appi rfl _ _ rfl w.heap.size (by have := B3.out.size; simp; omega) a3 l c3 rfl (O3.out.alloc _) (some ⟨w3.heap.size, 0, none⟩) [n] 1 rfl (one_isI w3 n HN1.out) (by simp) (by omega) (by simp) ?_; intro a4 c4 w4 o4 b4; rw [EL1.out] at o4 ⊢; have O4 : Hid (OwnsI w4 w.heap.size a4 L1 c4) := o4; have B4 : Hid (Below w.heap.size w w4) := (B3.out.alloc B3.out.size _).trans b4; clear o4 b4)
      | (at_builtin; refine wpList_appi rfl _ _ rfl w.heap.size (by have := B2.out.size; simp; omega) (some ⟨w2.heap.size, 0, none⟩) [] 0 rfl (ownsI_made w2 _ B2.out.size) a l cap rfl (HI.out.keep (B2.out.alloc B2.out.size _)) HN.out (by simp) (by omega) ?_; intro a3 c3 w3 o3 b3; rw [List.nil_append] at o3 ⊢; have O3 : Hid (OwnsI w3 w.heap.size a3 l c3) := o3; have B3 : Hid (Below w.heap.size w w3) := (B2.out.alloc B2.out.size _).trans b3; clear o3 b3))
    go_ret
    exact ⟨ret_bool (decide_eq_true (by omega)), B7.out⟩
end Go.Proofs.YtdfnhbbnadiijaaDoor
