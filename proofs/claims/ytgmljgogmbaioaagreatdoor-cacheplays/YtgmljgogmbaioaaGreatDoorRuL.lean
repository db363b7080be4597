/- What is free behind join. -/
import Derived.Test.YtgmljgogmbaioaaGreatDoorRuJ
import Derived.Test.YtgmljgogmbaioaaGreatDoorRuK
namespace Go.Proofs.YtgmljgogmbaioaaGreatDoor
open Go.RowKit
set_option linter.unusedVariables false
set_option maxRecDepth 4000


theorem Front.parts {n : Nat} {f : Nat → Bool} {L : List (Nat × Nat)} {i p k fr ua um : Nat} (hF : FL n f L) (hi : FindOK L p i) (h : Front L i p k fr ua um) :
    ∃ A X, L.take i = A ++ X ∧ L.take fr = A ∧ (X = [] ∧ ua = p ∧ um = k ∨ ∃ x1 x2, X = [(x1, x2)] ∧ x1 + x2 = p ∧ ua = x1 ∧ um = x2 + k) ∧ ∀ r ∈ A, r.1 + r.2 < ua := by
  rcases h with ⟨rfl, rfl, rfl, hne⟩ | ⟨h0, rfl, h1, h2, rfl, rfl⟩
  · refine ⟨L.take fr, [], by simp, rfl, .inl ⟨rfl, rfl, rfl⟩, fun r hr => ?_⟩
    have hle := hi.2.1 r hr
    obtain ⟨j, hj, rfl⟩ := List.getElem_of_mem hr
    have hj2 : j < fr ∧ j < L.length := by simp at hj; omega
    rw [List.getElem_take] at hle ⊢
    have h1 : fr - 1 < L.length := by have := hi.1; omega
    by_cases e : j = fr - 1
    · subst e
      have := hne h1 (by omega)
      omega
    · have h2 := List.pairwise_iff_getElem.1 hF.ris j (fr - 1) hj2.2 h1 (by omega)
      have h3 := hi.2.1 L[fr - 1] (by
        have : L[fr - 1] ∈ L.take fr := by
          rw [List.mem_take_iff_getElem]
          exact ⟨fr - 1, by omega, rfl⟩
        exact this)
      have h4 := hF.pos L[fr - 1] (List.getElem_mem h1)
      omega
  · refine ⟨L.take (i - 1), [(L[i - 1].1, L[i - 1].2)], ?_, rfl, .inr ⟨_, _, rfl, h2, rfl, rfl⟩, (hF.behind h1).1⟩
    have := List.take_succ_eq_append_getElem h1
    rw [show i - 1 + 1 = i from by omega] at this
    exact this
theorem Back.parts {n : Nat} {f : Nat → Bool} {L : List (Nat × Nat)} {i t um tt ul : Nat} (hF : FL n f L) (hb : ∀ h : i < L.length, t ≤ L[i].1) (h : Back L i t um tt ul) :
    ∃ Y B, L.drop i = Y ++ B ∧ L.drop tt = B ∧ (Y = [] ∧ ul = um ∧ (∀ r ∈ B, t < r.1) ∨ ∃ y1 y2, Y = [(y1, y2)] ∧ y1 = t ∧ ul = um + y2 ∧ y1 + y2 ≤ n ∧ ∀ r ∈ B, y1 + y2 < r.1) := by
  rcases h with ⟨rfl, rfl, hne⟩ | ⟨h1, rfl, h2, rfl⟩
  · refine ⟨[], L.drop tt, rfl, rfl, .inl ⟨rfl, rfl, fun r hr => ?_⟩⟩
    obtain ⟨j, hj, rfl⟩ := List.getElem_of_mem hr
    have hj2 : tt + j < L.length := by simp at hj; omega
    rw [List.getElem_drop]
    have h1 : tt < L.length := by omega
    have h2 := hb h1
    have h3 := hne h1
    rcases Nat.eq_zero_or_pos j with rfl | h0
    · simp only [Nat.add_zero]; omega
    · have h4 := List.pairwise_iff_getElem.1 hF.ris tt (tt + j) h1 hj2 (by omega)
      omega
  · refine ⟨[(L[i].1, L[i].2)], L.drop (i + 1), ?_, rfl, .inr ⟨_, _, rfl, h2, rfl, (hF.pos L[i] (List.getElem_mem h1)).2, (hF.behind h1).2⟩⟩
    rw [List.drop_eq_getElem_cons h1]; rfl
theorem join_is {n : Nat} {f : Nat → Bool} {L : List (Nat × Nat)} {i p k fr ua um tt ul : Nat} (hF : FL n f L) (hi : FindOK L p i) (hk : 1 ≤ k) (hn : p + k ≤ n) (hb : ∀ h : i < L.length, p + k ≤ L[i].1) (h1 : Front L i p k fr ua um) (h2 : Back L i (p + k) um tt ul) :
    FL n (turnU f p k false) (L.take fr ++ [(ua, ul)] ++ L.drop tt) := by
  have hX : ∀ r ∈ L.take i, r.1 + r.2 ≤ p := hi.2.1
  have hY : ∀ r ∈ L.drop i, p + k ≤ r.1 := by
    intro r hr
    obtain ⟨j, hj, rfl⟩ := List.getElem_of_mem hr
    have hj2 : i + j < L.length := by simp at hj; omega
    rw [List.getElem_drop]
    have h3 := hb (by omega)
    rcases Nat.eq_zero_or_pos j with rfl | h0
    · simpa using h3
    · have h4 := List.pairwise_iff_getElem.1 hF.ris i (i + j) (by omega) hj2 (by omega)
      omega
  obtain ⟨A, X, e1, e2, h3, hA⟩ := h1.parts hF hi
  obtain ⟨Y, B, e3, e4, h4⟩ := h2.parts hF hb
  rw [e2, e4]
  rw [← List.take_append_drop i L, e1, e3] at hF
  rw [e1] at hX
  rw [e3] at hY
  rcases h3 with ⟨rfl, rfl, rfl⟩ | ⟨x1, x2, rfl, h5, rfl, rfl⟩
  · rcases h4 with ⟨rfl, rfl, hB⟩ | ⟨y1, y2, rfl, h6, rfl, h7, hB⟩
    · exact join_FL hF hk hn hX hY hA hB (Nat.le_refl _) (Nat.le_refl _) (fun j => by simp) hn
    · refine join_FL hF hk hn hX hY hA (fun r hr => by have := hB r hr; omega) (Nat.le_refl _) (by omega) (fun j => ?_) (by omega)
      simp; omega
  · rcases h4 with ⟨rfl, rfl, hB⟩ | ⟨y1, y2, rfl, h6, rfl, h7, hB⟩
    · refine join_FL hF hk hn hX hY hA (fun r hr => by have := hB r hr; omega) (by omega) (by omega) (fun j => ?_) (by omega)
      simp; omega
    · refine join_FL hF hk hn hX hY hA (fun r hr => by have := hB r hr; omega) (by omega) (by omega) (fun j => ?_) (by omega)
      simp; omega
end Go.Proofs.YtgmljgogmbaioaaGreatDoor
