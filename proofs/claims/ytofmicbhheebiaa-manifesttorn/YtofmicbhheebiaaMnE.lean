/- Layer 21: what bytes tell. -/
import Derived.Test.YtofmicbhheebiaaMnD
namespace Go.Proofs.Ytofmicbhheebiaa
open Go.RowKit
set_option linter.unusedVariables false
set_option maxRecDepth 4000

/-- A slice's box and a manifest's, new. -/
theorem sbox21 (w : World) (a : Option Addr) (n c : Nat) : ∃ D, w.alloc (.cells #[.slice a n c] 25) = D ∧ D.heap[w.heap.size]? = some (.cells #[.slice a n c] 25 (0, 0)) ∧ Below w.heap.size w D ∧ D.heap.size = w.heap.size + 1 :=
  ⟨_, rfl, Go.heap_alloc_new w _, (Below.refl _ w).alloc (Nat.le_refl _) _, by simp⟩
set_option maxRecDepth 20000 in
set_option maxHeartbeats 4000000 in
theorem mtold_any (a : Option Addr) (cap n : Nat) (b : List Int) (w : World) (h : IsB w a b) (hl : b.length = 64) (hn : n = 64) (hc : 64 ≤ cap) :
    Calls Try.prog 27 #[.slice a n cap] w fun e w' => e = .returned (tldM b).v ∧ Below w.heap.size w w' := by
  subst hn
  obtain ⟨g, o, rfl⟩ : ∃ g o, a = some ⟨g, o, none⟩ := by
    obtain ⟨_, rfl | ⟨g, o, e, _⟩⟩ := h
    · cases hl
    · exact ⟨g, o, e⟩
  obtain ⟨D, hD, rD, bD, sD⟩ := sbox21 w (some ⟨g, o, none⟩) 64 cap
  obtain ⟨E, hE, rE, bE, zE⟩ := res21 29 D
  rw [sD] at rE
  have rD' : E.heap[w.heap.size]? = some (.cells #[.slice (some ⟨g, o, none⟩) 64 cap] 25 (0, 0)) := by rw [bE.block _ (by omega)]; exact rD
  have bWE : Below w.heap.size w E := bD.trans (bE.mono (by omega))
  obtain ⟨x, hx⟩ : ∃ x, getL ((b.drop 0).take 4) = x := ⟨_, rfl⟩
  obtain ⟨y, hy⟩ : ∃ y, getL ((b.drop 4).take 4) = y := ⟨_, rfl⟩
  obtain ⟨z, hz⟩ : ∃ z, getL ((b.drop 8).take 4) = z := ⟨_, rfl⟩
  have HX : Hid (Calls Try.prog 38 #[.int .i64 0, .pointer (some ⟨w.heap.size, 0, none⟩)] E fun e w' => e = .returned (.int .i64 x) ∧ E = w') := by
    show Calls _ _ _ _ _
    rw [← hx]
    exact mtold1_any _ g o cap 0 b E rD' (h.keep bWE) hl (by omega) hc
  have HY : Hid (Calls Try.prog 38 #[.int .i64 4, .pointer (some ⟨w.heap.size, 0, none⟩)] E fun e w' => e = .returned (.int .i64 y) ∧ E = w') := by
    show Calls _ _ _ _ _
    rw [← hy]
    exact mtold1_any _ g o cap 4 b E rD' (h.keep bWE) hl (by omega) hc
  have HZ : Hid (Calls Try.prog 38 #[.int .i64 8, .pointer (some ⟨w.heap.size, 0, none⟩)] E fun e w' => e = .returned (.int .i64 z) ∧ E = w') := by
    show Calls _ _ _ _ _
    rw [← hz]
    exact mtold1_any _ g o cap 8 b E rD' (h.keep bWE) hl (by omega) hc
  have HT : Hid ((tldM b).v = .agg #[.int .i64 x, .int .i64 y, .int .i64 z]) := by
    show _ = _
    rw [← hx, ← hy, ← hz]
    rfl
  obtain ⟨f0, f1, f2⟩ := threeF21 rE
  obtain ⟨u0, u1, u2⟩ := three21 rE
  obtain ⟨W, hW⟩ : ∃ W, lay3 E (w.heap.size + 1) (.int .i64 x) (.int .i64 y) (.int .i64 z) = W := ⟨_, rfl⟩
  obtain ⟨e0, e1, e2⟩ := three21 (lay3_row (a := .int .i64 x) (b := .int .i64 y) (c := .int .i64 z) rE)
  have BW : Hid (Below w.heap.size w W) := by
    show Below _ _ _
    rw [← hW]
    exact bWE.trans ((lay3_only _ _ _ _ _).below (by omega))
  rw [hW] at e0 e1 e2
  have HW : Hid _ := hW
  have HD : Hid _ := hD
  have HE : Hid (D.alloc (.cells #[.int .i64 0, .int .i64 0, .int .i64 0] 29) = E) := hE
  have HS : Hid (D.heap.size = w.heap.size + 1) := sD
  clear h hl hD rD bD hE rE bE zE rD' bWE sD hx hy hz hW
  go_enter Try.func27, Try.ntmps27
  go_upto_region 1 with (fail)
  rw [HD.out, HE.out]
  (try rw [HS.out])
  go_wp2_with (first
    | (go_at_call 38; have M3 := M2; refine Calls.mono HZ.out ?_; rintro e w' ⟨rfl, rfl⟩)
    | (go_at_call 38; have M2 := M1; refine Calls.mono HY.out ?_; rintro e w' ⟨rfl, rfl⟩)
    | (go_at_call 38; have M1 : Hid True := trivial; refine Calls.mono HX.out ?_; rintro e w' ⟨rfl, rfl⟩))
  have HW2 := HW.out
  unfold lay3 at HW2
  rw [HW2]
  exact bodyPost_ret (v := .agg #[.int .i64 x, .int .i64 y, .int .i64 z]) (by simp [results, Try.results27, go_sem, e0, e1, e2]) rfl ⟨by rw [HT.out], BW.out⟩

end Go.Proofs.Ytofmicbhheebiaa
