/- Layer 21: what bytes tell, and whether they are written so. -/
import Derived.Test.YtofmicbhheebiaaMnC
import Derived.Test.YtofmicbhheebiaaCnA
namespace Go.Proofs.Ytofmicbhheebiaa
open Go.RowKit
set_option linter.unusedVariables false
set_option maxRecDepth 4000

theorem mbytes_any (m : Mn) (w : World) :
    Calls Try.prog 9 #[m.v] w fun e w' => ∃ (a : Option Addr) (k : Nat), e = .returned (.tuple #[.slice a k k, .int .i64 (errM m)]) ∧ k = (outM m).length ∧ IsB w' a (outM m) ∧ (okM m = true → ∃ g, a = some ⟨g, 0, none⟩ ∧ w.heap.size ≤ g ∧ RowB w' g 5 (manM m) ∧ k = 64) ∧ (okM m = false → a = none ∧ k = 0) ∧ Below w.heap.size w w' := by
  cases h : okM m
  · refine (mbytes_bad m w h).mono ?_
    rintro e w' ⟨rfl, b⟩
    have o : outM m = [] := if_neg (by rw [h]; decide)
    have r : errM m = 4 := if_neg (by rw [h]; decide)
    rw [o, r]
    exact ⟨none, 0, rfl, rfl, ⟨(by intro x hx; cases hx), .inl rfl⟩, fun q => (by cases q), fun _ => ⟨rfl, rfl⟩, b⟩
  · refine (mbytes_ok m w h).mono ?_
    rintro e w' ⟨g, hg, rfl, r, b⟩
    have o : outM m = manM m := if_pos h
    have q : errM m = 0 := if_pos h
    rw [o, q]
    exact ⟨_, 64, rfl, (manM_len m).symm, r.isB (manM_allB m), fun _ => ⟨g, rfl, hg, r, rfl⟩, fun q => (by cases q), b⟩

theorem get4_bd {b : List Int} (h : AllB b) (k : Nat) : 0 ≤ getL ((b.drop k).take 4) ∧ getL ((b.drop k).take 4) < 4294967296 := by
  have h1 : AllB ((b.drop k).take 4) := (AllB.drop h k).take 4
  refine ⟨getL_nonneg _ h1, ?_⟩
  have l := getL_lt _ h1
  have : (256 : Int) ^ ((b.drop k).take 4).length ≤ 256 ^ 4 := p256_mono _ _ (by rw [List.length_take]; omega)
  have e : ((256 : Int) ^ 4) = 4294967296 := by decide
  omega
theorem take48 (l : List Int) (k : Nat) : ((l.drop k).take 4).take 8 = (l.drop k).take 4 := by
  rw [List.take_take]; rfl

set_option maxRecDepth 20000 in
set_option maxHeartbeats 4000000 in
theorem mtold1_any (B g o cap k : Nat) (b : List Int) (w : World) (hB : w.heap[B]? = some (.cells #[.slice (some ⟨g, o, none⟩) 64 cap] 25 (0, 0))) (h : IsB w (some ⟨g, o, none⟩) b) (hl : b.length = 64) (hk : k ≤ 60) (hc : 64 ≤ cap) :
    Calls Try.prog 38 #[.int .i64 (k : Nat), .pointer (some ⟨B, 0, none⟩)] w fun e w' => e = .returned (.int .i64 (getL ((b.drop k).take 4))) ∧ w = w' := by
  have cB : w.cell? ⟨B, 0, none⟩ = some (.slice (some ⟨g, o, none⟩) 64 cap) := cell_of_row _ _ 0 _ _ _ hB
  obtain ⟨v0, v1⟩ := get4_bd h.1 k
  have hv := take48 b k
  have hI := h.part k 4 rfl
  have hn : ((b.drop k).take 4).length = 4 := by simp [hl]; omega
  obtain ⟨l, hL⟩ : ∃ l, (b.drop k).take 4 = l := ⟨_, rfl⟩
  rw [hL] at v0 v1 hv hI hn ⊢
  have GV : Hid (getL (l.take 8) = getL l) := by show _ = _; rw [hv]
  have HN : Hid (4 = l.length) := hn.symm
  have HI : Hid (IsB w (some ⟨g, o + k, none⟩) l) := hI
  obtain ⟨v, hV⟩ : ∃ v, getL l = v := ⟨_, rfl⟩
  rw [hV] at v0 v1 GV ⊢
  have wv : IntKind.i64.wrap v = v := by rw [IntKind.wrap_i64]; omega
  have w4 : IntKind.i64.wrap ((k : Int) + 4) = ((k + 4 : Nat) : Int) := by rw [IntKind.wrap_i64]; omega
  have k4 : k + 4 - k = 4 := by omega
  have p1 : (k : Int) ≤ ((k + 4 : Nat) : Int) := by omega
  have p2 : ((k + 4 : Nat) : Int) ≤ (cap : Int) := by omega
  have p3 : (k : Int) < (cap : Int) := by omega
  clear hB h hl hv hI hn hL hV
  go_enter Try.func38, Try.ntmps38
  go_wp2_with (go_at_call 36; refine Calls.mono (get_of _ _ 4 l v _ HN.out GV.out HI.out (by rw [← HN.out]; decide)) ?_; rintro e w' ⟨rfl, rfl⟩)
  go_ret
  exact ⟨rfl, rfl⟩
end Go.Proofs.Ytofmicbhheebiaa
