/- Layer 21: whether bytes are written so. -/
import Derived.Test.YtofmicbhheebiaaMnE
namespace Go.Proofs.Ytofmicbhheebiaa
open Go.RowKit
set_option linter.unusedVariables false
set_option maxRecDepth 4000

def wrM (b : List Int) : Bool := decide (okM (tldM b) = true ∧ manM (tldM b) = b)
set_option maxRecDepth 20000 in
set_option maxHeartbeats 4000000 in
theorem miswritten_any (a : Option Addr) (cap n : Nat) (b : List Int) (w : World) (h : IsB w a b) (hl : b.length = 64) (hn : n = 64) (hc : 64 ≤ cap) :
    Calls Try.prog 37 #[.slice a n cap] w fun e w' => e = .returned (.bool (wrM b)) ∧ Below w.heap.size w w' := by
  subst hn
  have HI : Hid (IsB w a b) := h
  have HL : Hid (64 = b.length) := hl.symm
  have TL : Hid (∀ w1, w = w1 → Calls Try.prog 27 #[.slice a 64 cap] w1 fun e w' => e = .returned (tldM b).v ∧ Below w1.heap.size w1 w') := by
    intro w1 e1
    subst e1
    exact mtold_any a cap 64 b w h hl rfl hc
  have BY : Hid (∀ w, Calls Try.prog 9 #[(tldM b).v] w fun e w' => ∃ (a : Option Addr) (k : Nat), e = .returned (.tuple #[.slice a k k, .int .i64 (errM (tldM b))]) ∧ k = (outM (tldM b)).length ∧ IsB w' a (outM (tldM b)) ∧ (okM (tldM b) = true → ∃ g, a = some ⟨g, 0, none⟩ ∧ w.heap.size ≤ g ∧ RowB w' g 5 (manM (tldM b)) ∧ k = 64) ∧ (okM (tldM b) = false → a = none ∧ k = 0) ∧ Below w.heap.size w w') := fun w => mbytes_any (tldM b) w
  cases hok : okM (tldM b)
  · have HV : Hid (wrM b = false) := decide_eq_false (fun q => by rw [hok] at q; exact absurd q.1 (by decide))
    have e4 : errM (tldM b) = 4 := if_neg (by rw [hok]; decide)
    rw [e4] at BY
    obtain ⟨⟨s, f, n⟩, hm⟩ : ∃ m, tldM b = m := ⟨_, rfl⟩
    rw [hm] at TL BY
    unfold Mn.v at TL BY
    clear h hl hok e4 hm
    go_enter Try.func37, Try.ntmps37
    go_wp2_with (first
      | (go_at_call 9; refine Calls.mono (BY.out w1) ?_; rintro e w2 ⟨a2, k2, rfl, _, _, _, _, b2⟩; have B2 : Hid (Below w.heap.size w w2) := B1.out.trans (b2.mono B1.out.size))
      | (go_at_call 27; refine Calls.mono (TL.out _ rfl) ?_; rintro e w1 ⟨rfl, b1⟩; have B1 : Hid (Below w.heap.size w w1) := b1; clear b1))
    go_ret
    exact ⟨by rw [HV.out]; rfl, B2.out⟩
  · have HV : Hid (wrM b = decide (outM (tldM b) = b)) := by
      show _ = _
      have o : outM (tldM b) = manM (tldM b) := if_pos hok
      rw [o]
      exact decide_eq_decide.2 ⟨fun q => q.2, fun q => ⟨hok, q⟩⟩
    have e4 : errM (tldM b) = 0 := if_pos hok
    rw [e4] at BY
    obtain ⟨O, hO⟩ : ∃ O, outM (tldM b) = O := ⟨_, rfl⟩
    rw [hO] at BY HV
    obtain ⟨⟨s, f, n⟩, hm⟩ : ∃ m, tldM b = m := ⟨_, rfl⟩
    rw [hm] at TL BY
    unfold Mn.v at TL BY
    clear h hl hok e4 hm hO
    go_enter Try.func37, Try.ntmps37
    go_wp2_with (first
      | (go_at_call 35; refine Calls.mono (bequal_any a2 a k2 64 k2 cap O b w2 I2.out (HI.out.keep B2.out) K2.out HL.out) ?_; rintro e w' ⟨rfl, rfl⟩; have I3 := I2)
      | (go_at_call 9; refine Calls.mono (BY.out w1) ?_; rintro e w2 ⟨a2, k2, rfl, hk2, i2, _, _, b2⟩; have B2 : Hid (Below w.heap.size w w2) := B1.out.trans (b2.mono B1.out.size); have I2 : Hid (IsB w2 a2 O) := i2; have K2 : Hid (k2 = O.length) := hk2; clear hk2 i2 b2)
      | (go_at_call 27; refine Calls.mono (TL.out _ rfl) ?_; rintro e w1 ⟨rfl, b1⟩; have B1 : Hid (Below w.heap.size w w1) := b1; clear b1))
    go_ret
    exact ⟨by rw [HV.out]; rfl, B2.out⟩
end Go.Proofs.Ytofmicbhheebiaa
