/- The document's span: where a slot begins -/
import Derived.Test.YtebmegghojiegaaDoorAxB
import Derived.Test.YtebmegghojiegaaDoorMhA
import Derived.BigQuiet
import Derived.Deep.RegionHeld3
namespace Go.Proofs.YtebmegghojiegaaDoor
open Go.RowKit
set_option linter.unusedVariables false

theorem rsize_any (mb mg n : Nat) (p c s : Int) (f : Nat → Bool) (w : World) (h : Ref w mb mg p c s n f) :
    Calls Tryd.prog 54 #[.pointer (some ⟨mb, 0, none⟩)] w fun e w' => e = .returned (.int .i64 (szI c s)) ∧ w = w' := by
  have b1 := h.c1
  have b2 := h.c2
  clear h
  by_cases hc : c = 7
  · subst hc
    rw [show szI 7 s = s from rfl]
    go_enter Tryd.func54, Tryd.ntmps54
    go_wp2
    go_ret
    exact ⟨rfl, rfl⟩
  · have hq : (c == 7) = false := beq_eq_false_iff_ne.2 hc
    have E : Hid (szI c s = sizeI c) := by show _ = _; unfold szI; rw [if_neg hc]
    rw [E.out]
    clear hc
    go_enter Tryd.func54, Tryd.ntmps54
    go_wp2_with (go_at_call 62; refine (qsize_any c _).mono ?_; rintro e w' ⟨rfl, rfl⟩)
    go_ret
    exact ⟨rfl, rfl⟩
theorem rsize_q (mb mg n : Nat) (p c s : Int) (f : Nat → Bool) (z : Int) (w : World) (h : Ref w mb mg p c s n f) (hz : szI c s = z) :
    Calls Tryd.prog 54 #[.pointer (some ⟨mb, 0, none⟩)] w fun e w' => e = .returned (.int .i64 z) ∧ w' = w := by
  subst hz; exact (rsize_any mb mg n p c s f w h).mono fun e w' ⟨h1, h2⟩ => ⟨h1, h2.symm⟩
/-- The document's At of a slot. -/
theorem rat_in (mb mg n : Nat) (p c s : Int) (f : Nat → Bool) (i : Nat) (w : World) (h : Ref w mb mg p c s n f) (r : Rt p c s) (hn : slN c = n) (hi : i < n) :
    Calls Tryd.prog 33 #[.pointer (some ⟨mb, 0, none⟩), .int .i64 (i : Nat)] w fun e w' => e = .returned (.tuple #[.int .i64 (256 * p + (i : Int) * szI c s), .bool true]) ∧ ∃ m, w' = w.drewN m := by
  have H : Hid (Ref w mb mg p c s n f) := h
  have b0 := h.c0
  have b3 := h.c3
  obtain ⟨k1, k2, k3⟩ := r.place i (by omega)
  obtain ⟨f1, f2, f3, f4, f5, f6, f7, f8, _⟩ := r.facts
  have hp0 := r.p0
  have hp1 := r.p1
  obtain ⟨z, hz⟩ : ∃ z, szI c s = z := ⟨_, rfl⟩
  have HZ : Hid (szI c s = z) := hz
  rw [hz] at k1 k2 k3 f4 f5 f6 ⊢
  have hp2 : p ≤ 4095 := by omega
  have hn6 : n ≤ 16 := by omega
  have g1 : IntKind.i64.wrap (256 * p) = 256 * p := by rw [IntKind.wrap_i64]; omega
  have g2 : IntKind.i64.wrap ((i : Int) * z) = (i : Int) * z := by rw [IntKind.wrap_i64]; omega
  have g3 : IntKind.i64.wrap (256 * p + (i : Int) * z) = 256 * p + (i : Int) * z := by rw [IntKind.wrap_i64]; omega
  clear h r k3 f3 f6 f7 f8 hp1 hz f1 f2 hn
  go_enter Tryd.func33, Tryd.ntmps33
  go_wp2_with fail
  go_quiet ((go_at_call 54; exact Calls.quiet_of_same (rsize_q mb mg n p c s f z _ (H.out.drewN _) HZ.out)))
  go_wp2
  go_ret2
  exact ⟨rfl, _, rfl⟩
end Go.Proofs.YtebmegghojiegaaDoor
