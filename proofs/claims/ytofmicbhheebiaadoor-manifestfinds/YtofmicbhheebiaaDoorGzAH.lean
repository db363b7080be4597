/- Layer 21: what bytes tell. -/
import Derived.Test.YtofmicbhheebiaaDoorGzAG
namespace Go.Proofs.YtofmicbhheebiaaDoor
open Go.RowKit
set_option linter.unusedVariables false
set_option maxRecDepth 4000

/-- A slice's box and a manifest's, new. -/
theorem sbox21 (w : World) (a : Option Addr) (n c : Nat) : ∃ D, w.alloc (.cells #[.slice a n c] 22) = D ∧ D.heap[w.heap.size]? = some (.cells #[.slice a n c] 22 (0, 0)) ∧ Below w.heap.size w D ∧ D.heap.size = w.heap.size + 1 :=
  ⟨_, rfl, Go.heap_alloc_new w _, (Below.refl _ w).alloc (Nat.le_refl _) _, by simp⟩
set_option maxRecDepth 20000 in
set_option maxHeartbeats 4000000 in
theorem mtold_any (a : Option Addr) (cap n : Nat) (b : List Int) (w : World) (h : IsB w a b) (hl : b.length = 64) (hn : n = 64) (hc : 64 ≤ cap) :
    Calls Tryd.prog 42 #[.slice a n cap] w fun e w' => e = .returned (tldM b).v ∧ Below w.heap.size w w' := by
  subst hn
  obtain ⟨g, o, rfl⟩ : ∃ g o, a = some ⟨g, o, none⟩ := by
    obtain ⟨_, rfl | ⟨g, o, e, _⟩⟩ := h
    · cases hl
    · exact ⟨g, o, e⟩
  obtain ⟨D, hD, rD, bD, sD⟩ := sbox21 w (some ⟨g, o, none⟩) 64 cap
  obtain ⟨E, hE, rE, bE, zE⟩ := res21 48 D
  rw [sD] at rE
  have rD' : E.heap[w.heap.size]? = some (.cells #[.slice (some ⟨g, o, none⟩) 64 cap] 22 (0, 0)) := by rw [bE.block _ (by omega)]; exact rD
  have bWE : Below w.heap.size w E := bD.trans (bE.mono (by omega))
  obtain ⟨x, hx⟩ : ∃ x, getL ((b.drop 0).take 4) = x := ⟨_, rfl⟩
  obtain ⟨y, hy⟩ : ∃ y, getL ((b.drop 4).take 4) = y := ⟨_, rfl⟩
  obtain ⟨z, hz⟩ : ∃ z, getL ((b.drop 8).take 4) = z := ⟨_, rfl⟩
  have HX : Hid (Calls Tryd.prog 62 #[.int .i64 0, .pointer (some ⟨w.heap.size, 0, none⟩)] E fun e w' => e = .returned (.int .i64 x) ∧ E = w') := by
    show Calls _ _ _ _ _
    rw [← hx]
    exact mtold1_any _ g o cap 0 b E rD' (h.keep bWE) hl (by omega) hc
  have HY : Hid (Calls Tryd.prog 62 #[.int .i64 4, .pointer (some ⟨w.heap.size, 0, none⟩)] E fun e w' => e = .returned (.int .i64 y) ∧ E = w') := by
    show Calls _ _ _ _ _
    rw [← hy]
    exact mtold1_any _ g o cap 4 b E rD' (h.keep bWE) hl (by omega) hc
  have HZ : Hid (Calls Tryd.prog 62 #[.int .i64 8, .pointer (some ⟨w.heap.size, 0, none⟩)] E fun e w' => e = .returned (.int .i64 z) ∧ E = w') := by
    show Calls _ _ _ _ _
    rw [← hz]
    exact mtold1_any _ g o cap 8 b E rD' (h.keep bWE) hl (by omega) hc
  have HT : Hid ((tldM b).v = .agg #[.int .i64 x, .int .i64 y, .int .i64 z]) := by
    show _ = _
    rw [← hx, ← hy, ← hz]
    rfl
  obtain ⟨f0, f1, f2⟩ := threeF21 rE
  obtain ⟨u0, u1, u2⟩ := three21 rE
  obtain ⟨W, hW⟩ : ∃ W, lay3 E (w.heap.size + 1) (.int .i64 x) (.int .i64 y) (.int .i64 z) = W := ⟨_, rfl⟩
  obtain ⟨e0, e1, e2⟩ := three21 (lay3_row (a := .int .i64 x) (b := .int .i64 y) (c := .int .i64 z) rE)
  have BW : Hid (Below w.heap.size w W) := by
    show Below _ _ _
    rw [← hW]
    exact bWE.trans ((lay3_only _ _ _ _ _).below (by omega))
  rw [hW] at e0 e1 e2
  have HW : Hid _ := hW
  have HD : Hid _ := hD
  have HE : Hid (D.alloc (.cells #[.int .i64 0, .int .i64 0, .int .i64 0] 48) = E) := hE
  have HS : Hid (D.heap.size = w.heap.size + 1) := sD
  clear h hl hD rD bD hE rE bE zE rD' bWE sD hx hy hz hW
  go_enter Tryd.func42, Tryd.ntmps42
  go_upto_region 1 with (fail)
  rw [HD.out, HE.out]
  (try rw [HS.out])
  go_wp2_with (first
    | (go_at_call 62; have M3 := M2; refine Calls.mono HZ.out ?_; rintro e w' ⟨rfl, rfl⟩)
    | (go_at_call 62; have M2 := M1; refine Calls.mono HY.out ?_; rintro e w' ⟨rfl, rfl⟩)
    | (go_at_call 62; have M1 : Hid True := trivial; refine Calls.mono HX.out ?_; rintro e w' ⟨rfl, rfl⟩))
  have HW2 := HW.out
  unfold lay3 at HW2
  rw [HW2]
  exact bodyPost_ret (v := .agg #[.int .i64 x, .int .i64 y, .int .i64 z]) (by simp [results, Tryd.results42, go_sem, e0, e1, e2]) rfl ⟨by rw [HT.out], BW.out⟩

end Go.Proofs.YtofmicbhheebiaaDoor

/- Layer 21: whether bytes are written so. -/
namespace Go.Proofs.YtofmicbhheebiaaDoor
open Go.RowKit
set_option linter.unusedVariables false
set_option maxRecDepth 4000

def wrM (b : List Int) : Bool := decide (okM (tldM b) = true ∧ manM (tldM b) = b)
set_option maxRecDepth 20000 in
set_option maxHeartbeats 4000000 in
theorem miswritten_any (a : Option Addr) (cap n : Nat) (b : List Int) (w : World) (h : IsB w a b) (hl : b.length = 64) (hn : n = 64) (hc : 64 ≤ cap) :
    Calls Tryd.prog 61 #[.slice a n cap] w fun e w' => e = .returned (.bool (wrM b)) ∧ Below w.heap.size w w' := by
  subst hn
  have HI : Hid (IsB w a b) := h
  have HL : Hid (64 = b.length) := hl.symm
  have TL : Hid (∀ w1, w = w1 → Calls Tryd.prog 42 #[.slice a 64 cap] w1 fun e w' => e = .returned (tldM b).v ∧ Below w1.heap.size w1 w') := by
    intro w1 e1
    subst e1
    exact mtold_any a cap 64 b w h hl rfl hc
  have BY : Hid (∀ w, Calls Tryd.prog 17 #[(tldM b).v] w fun e w' => ∃ (a : Option Addr) (k : Nat), e = .returned (.tuple #[.slice a k k, .int .i64 (errM (tldM b))]) ∧ k = (outM (tldM b)).length ∧ IsB w' a (outM (tldM b)) ∧ (okM (tldM b) = true → ∃ g, a = some ⟨g, 0, none⟩ ∧ w.heap.size ≤ g ∧ RowB w' g 5 (manM (tldM b)) ∧ k = 64) ∧ (okM (tldM b) = false → a = none ∧ k = 0) ∧ Below w.heap.size w w') := fun w => mbytes_any (tldM b) w
  cases hok : okM (tldM b)
  · have HV : Hid (wrM b = false) := decide_eq_false (fun q => by rw [hok] at q; exact absurd q.1 (by decide))
    have e4 : errM (tldM b) = 4 := if_neg (by rw [hok]; decide)
    rw [e4] at BY
    obtain ⟨⟨s, f, n⟩, hm⟩ : ∃ m, tldM b = m := ⟨_, rfl⟩
    rw [hm] at TL BY
    unfold Mn.v at TL BY
    clear h hl hok e4 hm
    go_enter Tryd.func61, Tryd.ntmps61
    go_wp2_with (first
      | (go_at_call 17; refine Calls.mono (BY.out w1) ?_; rintro e w2 ⟨a2, k2, rfl, _, _, _, _, b2⟩; have B2 : Hid (Below w.heap.size w w2) := B1.out.trans (b2.mono B1.out.size))
      | (go_at_call 42; refine Calls.mono (TL.out _ rfl) ?_; rintro e w1 ⟨rfl, b1⟩; have B1 : Hid (Below w.heap.size w w1) := b1; clear b1))
    go_ret
    exact ⟨by rw [HV.out]; rfl, B2.out⟩
  · have HV : Hid (wrM b = decide (outM (tldM b) = b)) := by
      show _ = _
      have o : outM (tldM b) = manM (tldM b) := if_pos hok
      rw [o]
      exact decide_eq_decide.2 ⟨fun q => q.2, fun q => ⟨hok, q⟩⟩
    have e4 : errM (tldM b) = 0 := if_pos hok
    rw [e4] at BY
    obtain ⟨O, hO⟩ : ∃ O, outM (tldM b) = O := ⟨_, rfl⟩
    rw [hO] at BY HV
    obtain ⟨⟨s, f, n⟩, hm⟩ : ∃ m, tldM b = m := ⟨_, rfl⟩
    rw [hm] at TL BY
    unfold Mn.v at TL BY
    clear h hl hok e4 hm hO
    go_enter Tryd.func61, Tryd.ntmps61
    go_wp2_with (first
      | (go_at_call 59; refine Calls.mono (bequal_any a2 a k2 64 k2 cap O b w2 I2.out (HI.out.keep B2.out) K2.out HL.out) ?_; rintro e w' ⟨rfl, rfl⟩; have I3 := I2)
      | (go_at_call 17; refine Calls.mono (BY.out w1) ?_; rintro e w2 ⟨a2, k2, rfl, hk2, i2, _, _, b2⟩; have B2 : Hid (Below w.heap.size w w2) := B1.out.trans (b2.mono B1.out.size); have I2 : Hid (IsB w2 a2 O) := i2; have K2 : Hid (k2 = O.length) := hk2; clear hk2 i2 b2)
      | (go_at_call 42; refine Calls.mono (TL.out _ rfl) ?_; rintro e w1 ⟨rfl, b1⟩; have B1 : Hid (Below w.heap.size w w1) := b1; clear b1))
    go_ret
    exact ⟨by rw [HV.out]; rfl, B2.out⟩
end Go.Proofs.YtofmicbhheebiaaDoor
