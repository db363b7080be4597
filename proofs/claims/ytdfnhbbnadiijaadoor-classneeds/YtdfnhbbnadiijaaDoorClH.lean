/- The walk of ClassNeeds. -/
import Derived.Test.YtdfnhbbnadiijaaDoorClD
import Derived.Test.YtdfnhbbnadiijaaDoorClE
namespace Go.Proofs.YtdfnhbbnadiijaaDoor
open Go.RowKit
set_option linter.unusedVariables false

theorem IsI.low {w w' : World} {base : Nat} {a : Option Addr} {l : List Int} (h : IsI w a l) (hb : Below base w w') (hs : w.heap.size ≤ base) : IsI w' a l := h.keep (hb.mono hs)

theorem below_drew {w w' : World} {base : Nat} (h : Below base w w') : Below base w w'.drew := ⟨h.os, h.tape, h.output, h.size, h.block⟩
theorem IsI.drew' {w : World} {a : Option Addr} {l : List Int} (h : IsI w a l) : IsI w.drew a l := h

set_option maxHeartbeats 1000000 in
theorem classNeeds_any (a : Option Addr) (cap : Nat) (l : List Int) (w : World) (hT : TabIn w) (hI : IsI w a l) (hnil : a = none → l = [] ∧ cap = 0) (hmax : l.length ≤ maxLen) :
    Calls Tryd.prog 5 #[.slice a l.length cap] w fun e w' => e = .returned (.bool true) ∧ Below w.heap.size w w' := by
  have HT : Hid (TabIn w) := hT
  have HI : Hid (IsI w a l) := hI
  have HN : Hid (a = none → l = [] ∧ cap = 0) := hnil
  have hmax' : l.length ≤ 9223372036854775807 := hmax
  clear hT hI hnil hmax
  by_cases hlen : 5000 < l.length
  · go_enter Tryd.func5, Tryd.ntmps5
    go_wp2_with (go_at_call 9; refine (alive_any _ HT.out).mono ?_; rintro e w1 ⟨rfl, b1⟩; have B1 : Hid (Below w.heap.size w w1) := b1; have T1 : Hid (TabIn w1) := HT.out.keep b1; clear b1)
    go_ret
    exact ⟨rfl, B1.out⟩
  · have hb : ∀ x ∈ l, -9223372036854775808 ≤ x ∧ x ≤ 9223372036854775807 := HI.out.1
    have HB : Hid (∀ x ∈ l, -9223372036854775808 ≤ x ∧ x ≤ 9223372036854775807) := hb
    obtain ⟨nd, hnd⟩ : ∃ nd, needN l = nd := ⟨_, rfl⟩
    have HND : Hid (needN l = nd) := hnd
    clear hb hnd
    go_enter Tryd.func5, Tryd.ntmps5
    go_wp2_with (first
      | (go_at_call 9; refine (alive_any _ HT.out).mono ?_; rintro e w1 ⟨rfl, b1⟩; have B1 : Hid (Below w.heap.size w w1) := b1; have T1 : Hid (TabIn w1) := HT.out.keep b1; clear b1)
      | (at_builtin; refine wpList_appi rfl _ _ rfl w1.heap.size (by simp) (some ⟨w1.heap.size, 0, none⟩) [] 0 rfl (ownsI_made _ _ (Nat.le_refl _)) a l cap rfl (HI.out.keep (B1.out.trans (((Below.refl _ w1).alloc (Nat.le_refl _) _).mono B1.out.size))) HN.out (by simp) (by omega) ?_; intro a2 c2 w2 o2 b2; simp only [List.nil_append] at o2 ⊢; have O2 : Hid (OwnsI w2 w1.heap.size a2 l c2) := o2; have B2 : Hid (Below w.heap.size w w2) := B1.out.trans ((((Below.refl _ w1).alloc (Nat.le_refl _) _).trans b2).mono B1.out.size); clear o2 b2)
      | (go_at_call 18; refine (need_any a2 c2 l _ (HT.out.keep B2.out) (ownsI_isI HB.out O2.out) (by omega)).mono ?_; rw [HND.out]; rintro e w3 ⟨rfl, b3⟩; have B3 : Hid (Below w.heap.size w w3) := B2.out.trans (b3.mono B2.out.size); have I3 : Hid (IsI w3 a2 l) := (ownsI_isI HB.out O2.out).keep b3; clear b3)
      | (go_at_call 19; refine (rneed_any a cap l _ (HI.out.keep B3.out) (by omega)).mono ?_; rw [HND.out]; rintro e w' ⟨rfl, rfl⟩))
    go_loopw [20] (fun iv wr => ∃ k : Nat, k ≤ l.length ∧ iv = .int .i64 (k : Nat) ∧ Below w.heap.size w wr ∧ IsI wr a2 l) (fun iv _ => l.length - (intOf iv).toNat)
    case atStart => exact ⟨0, Nat.zero_le _, rfl, B3.out, I3.out⟩
    case round =>
      obtain ⟨k, hk, rfl, hB, hI⟩ := hrel
      have HBr : Hid (Below w.heap.size w _) := hB
      have HIr : Hid (IsI _ a2 l) := hI
      by_cases hlt : k < l.length
      · obtain ⟨_, rfl | ⟨b, off, rfl, hs, hc⟩⟩ := HI.out
        · simp at hlt
        obtain ⟨_, h2 | ⟨b', off', rfl, hs', hc'⟩⟩ := hI
        · rw [h2] at hlt; simp at hlt
        have q1 := hc k hlt
        rw [← hB.cell (p := ⟨b, off + k, none⟩) hs] at q1
        have q2 := hc' k hlt
        clear hc hc' hB
        go_wp2
        go_region
        go_wp2
        go_roundw
        case rel => exact ⟨k + 1, by omega, by go_num, below_drew HBr.out, HIr.out.drew'⟩
        case measure => simp [intOf]; omega
      · obtain rfl : k = l.length := by omega
        clear hlt hB hI
        go_wp2
        go_ret
        exact ⟨rfl, HBr.out⟩
end Go.Proofs.YtdfnhbbnadiijaaDoor
