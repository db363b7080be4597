/- Layer 15: RqP again -/
import Derived.Test.YtgdjlopnhecmjaaGreatDoorGzAJ
import Derived.Test.YtgdjlopnhecmjaaGreatDoorGzAD
import Derived.Test.YtgdjlopnhecmjaaGreatDoorRows
import Derived.WalkKit
import Derived.WalkLawsBesides
import Derived.Below
import Derived.ProofKit
import Derived.OpenShut
import Derived.ChangeOld
import Derived.SizedLaws
import Derived.OwnWalk
import Derived.WalkSmall
import Derived.Laws.AppendOwnNone
import Derived.Laws.IdiomStrings
import Derived.Laws.IdiomCopy
import Derived.Laws.CopyRow
import Derived.Deep.MidRow
import Derived.Deep.WholeRow
import Derived.Deep.OwnRows
import Derived.Deep.RegionHeld3
import Derived.Lib.AppendZerosOnto
namespace Go.Proofs.YtgdjlopnhecmjaaGreatDoor
set_option linter.unusedVariables false
set_option maxRecDepth 4000
/-- These are just the free runs of the first n units. -/
structure FL (n : Nat) (f : Nat → Bool) (L : List (Nat × Nat)) : Prop where
  pos : ∀ r ∈ L, 1 ≤ r.2 ∧ r.1 + r.2 ≤ n
  ris : L.Pairwise (fun r s => r.1 + r.2 < s.1)
  cov : ∀ i, i < n → (f i = false ↔ ∃ r ∈ L, r.1 ≤ i ∧ i < r.1 + r.2)

theorem pw_two {L : List (Nat × Nat)} (h : L.Pairwise (fun r s => r.1 + r.2 < s.1)) {r s : Nat × Nat} (hr : r ∈ L) (hs : s ∈ L) : r = s ∨ r.1 + r.2 < s.1 ∨ s.1 + s.2 < r.1 := by
  induction L with
  | nil => cases hr
  | cons x t ih =>
    rw [List.pairwise_cons] at h
    rcases List.mem_cons.1 hr with e | hr'
    · rcases List.mem_cons.1 hs with e' | hs'
      · exact .inl (e.trans e'.symm)
      · subst e; exact .inr (.inl (h.1 _ hs'))
    · rcases List.mem_cons.1 hs with e' | hs'
      · subst e'; exact .inr (.inr (h.1 _ hr'))
      · exact ih h.2 hr' hs'

/-- One unit more in the last run. -/
def bump (L : List (Nat × Nat)) : List (Nat × Nat) := L.dropLast ++ [((L.getLastD (0, 0)).1, (L.getLastD (0, 0)).2 + 1)]
theorem bump_last (A : List (Nat × Nat)) (a l : Nat) : bump (A ++ [(a, l)]) = A ++ [(a, l + 1)] := by simp [bump, List.getLastD_eq_getLast?]

/-- The free runs, unit by unit. -/
def freeL (f : Nat → Bool) : Nat → List (Nat × Nat)
  | 0 => []
  | k + 1 => if f k = true then freeL f k else bump (if k = 0 ∨ f (k - 1) = true then freeL f k ++ [(k, 0)] else freeL f k)

theorem FL.nil (f : Nat → Bool) : FL 0 f [] := ⟨by simp, by simp, by intro i hi; omega⟩

theorem FL.last {k : Nat} {f : Nat → Bool} {L : List (Nat × Nat)} (h : FL k f L) (h0 : 0 < k) (hf : f (k - 1) = false) : ∃ A a l, L = A ++ [(a, l)] ∧ a + l = k := by
  obtain ⟨r, hr, h1, h2⟩ := (h.cov (k - 1) (by omega)).1 hf
  have hp := h.pos r hr
  obtain ⟨s, t, rfl⟩ := List.append_of_mem hr
  have ht : t = [] := by
    cases t with
    | nil => rfl
    | cons x t =>
      have hx := h.pos x (by simp)
      have := (List.pairwise_append.1 h.ris).2.1
      rw [List.pairwise_cons] at this
      have := this.1 x (by simp)
      omega
  subst ht
  exact ⟨s, r.1, r.2, rfl, by omega⟩

theorem FL.more {k : Nat} {f : Nat → Bool} {L : List (Nat × Nat)} (h : FL k f L) : FL (k + 1) f (if f k = true then L else bump (if k = 0 ∨ f (k - 1) = true then L ++ [(k, 0)] else L)) := by
  by_cases hk : f k = true
  · rw [if_pos hk]
    refine ⟨fun r hr => by have := h.pos r hr; omega, h.ris, fun i hi => ?_⟩
    by_cases e : i = k
    · subst e
      simp only [hk, Bool.true_eq_false, false_iff]
      rintro ⟨r, hr, h1, h2⟩
      have := h.pos r hr
      omega
    · exact h.cov i (by omega)
  · have hk' : f k = false := by simpa using hk
    rw [if_neg hk]
    by_cases h0 : k = 0 ∨ f (k - 1) = true
    · rw [if_pos h0, bump_last]
      have hlt : ∀ r ∈ L, r.1 + r.2 < k := by
        intro r hr
        have := h.pos r hr
        rcases h0 with rfl | h0
        · omega
        · by_cases e : r.1 + r.2 = k
          · have := (h.cov (k - 1) (by omega)).2 ⟨r, hr, by omega, by omega⟩
            rw [h0] at this; cases this
          · omega
      refine ⟨?_, ?_, ?_⟩
      · intro r hr
        rcases List.mem_append.1 hr with hr | hr
        · have := h.pos r hr; omega
        · simp at hr; subst hr; simp
      · rw [List.pairwise_append]
        refine ⟨h.ris, by simp, fun a ha b hb => ?_⟩
        simp at hb; subst hb
        exact hlt a ha
      · intro i hi
        by_cases e : i = k
        · subst e
          simp only [hk', true_iff]
          exact ⟨(i, 0 + 1), by simp, by simp, by simp⟩
        · rw [h.cov i (by omega)]
          constructor
          · rintro ⟨r, hr, h1⟩; exact ⟨r, by simp [hr], h1⟩
          · rintro ⟨r, hr, h1, h2⟩
            rcases List.mem_append.1 hr with hr | hr
            · exact ⟨r, hr, h1, h2⟩
            · simp at hr; subst hr; simp at h1 h2; omega
    · rw [if_neg h0]
      have h1 : 0 < k := by omega
      have h2 : f (k - 1) = false := by
        cases e : f (k - 1)
        · rfl
        · exact absurd (.inr e) h0
      obtain ⟨A, a, l, rfl, hal⟩ := h.last h1 h2
      rw [bump_last]
      have hp := List.pairwise_append.1 h.ris
      have hl := h.pos (a, l) (by simp)
      simp only at hl
      refine ⟨?_, ?_, ?_⟩
      · intro r hr
        rcases List.mem_append.1 hr with hr | hr
        · have := h.pos r (by simp [hr]); omega
        · simp at hr; subst hr; simp; omega
      · rw [List.pairwise_append]
        refine ⟨hp.1, by simp, fun x hx b hb => ?_⟩
        simp at hb; subst hb
        exact hp.2.2 x hx (a, l) (by simp)
      · intro i hi
        by_cases e : i = k
        · subst e
          simp only [hk', true_iff]
          exact ⟨(a, l + 1), by simp, by simp; omega, by simp; omega⟩
        · rw [h.cov i (by omega)]
          constructor
          · rintro ⟨r, hr, h3, h4⟩
            rcases List.mem_append.1 hr with hr | hr
            · exact ⟨r, by simp [hr], h3, h4⟩
            · simp at hr; subst hr; exact ⟨(a, l + 1), by simp, h3, by simp at h4 ⊢; omega⟩
          · rintro ⟨r, hr, h3, h4⟩
            rcases List.mem_append.1 hr with hr | hr
            · exact ⟨r, by simp [hr], h3, h4⟩
            · simp at hr; subst hr; exact ⟨(a, l), by simp, h3, by simp at h4 ⊢; omega⟩

theorem freeL_FL (f : Nat → Bool) : ∀ n, FL n f (freeL f n)
  | 0 => FL.nil f
  | k + 1 => (freeL_FL f k).more

/-- There is one such list alone. -/
theorem cov_one : ∀ (L M : List (Nat × Nat)), L.Pairwise (fun r s => r.1 + r.2 < s.1) → M.Pairwise (fun r s => r.1 + r.2 < s.1) → (∀ r ∈ L, 1 ≤ r.2) → (∀ r ∈ M, 1 ≤ r.2) →
    (∀ i, (∃ r ∈ L, r.1 ≤ i ∧ i < r.1 + r.2) ↔ ∃ r ∈ M, r.1 ≤ i ∧ i < r.1 + r.2) → L = M
  | [], [], _, _, _, _, _ => rfl
  | [], s :: M, _, _, _, hM, h => by
    have := (h s.1).2 ⟨s, by simp, by omega, by have := hM s (by simp); omega⟩
    simp at this
  | r :: L, [], _, _, hL, _, h => by
    have := (h r.1).1 ⟨r, by simp, by omega, by have := hL r (by simp); omega⟩
    simp at this
  | r :: L, s :: M, pL, pM, hL, hM, h => by
    rw [List.pairwise_cons] at pL pM
    have hr := hL r (by simp)
    have hs := hM s (by simp)
    have h1 : s.1 ≤ r.1 := by
      obtain ⟨x, hx, h1, h2⟩ := (h r.1).1 ⟨r, by simp, by omega, by omega⟩
      rcases List.mem_cons.1 hx with rfl | hx
      · exact h1
      · have := pM.1 x hx; omega
    have h2 : r.1 ≤ s.1 := by
      obtain ⟨x, hx, h3, h4⟩ := (h s.1).2 ⟨s, by simp, by omega, by omega⟩
      rcases List.mem_cons.1 hx with e | hx
      · subst e; exact h3
      · have := pL.1 x hx; omega
    have h3 : ¬ r.1 + r.2 < s.1 + s.2 := by
      intro hlt
      obtain ⟨x, hx, h3, h4⟩ := (h (r.1 + r.2)).2 ⟨s, by simp, by omega, by omega⟩
      rcases List.mem_cons.1 hx with rfl | hx
      · omega
      · have := pL.1 x hx; omega
    have h4 : ¬ s.1 + s.2 < r.1 + r.2 := by
      intro hlt
      obtain ⟨x, hx, h3, h4⟩ := (h (s.1 + s.2)).1 ⟨r, by simp, by omega, by omega⟩
      rcases List.mem_cons.1 hx with rfl | hx
      · omega
      · have := pM.1 x hx; omega
    obtain ⟨r1, r2⟩ := r
    obtain ⟨s1, s2⟩ := s
    simp only at h1 h2 h3 h4 hr hs pL pM h
    obtain rfl : r1 = s1 := by omega
    obtain rfl : r2 = s2 := by omega
    congr 1
    refine cov_one L M pL.2 pM.2 (fun x hx => hL x (by simp [hx])) (fun x hx => hM x (by simp [hx])) (fun i => ?_)
    constructor
    · rintro ⟨x, hx, h5, h6⟩
      have := pL.1 x hx
      obtain ⟨y, hy, h7, h8⟩ := (h i).1 ⟨x, by simp [hx], h5, h6⟩
      rcases List.mem_cons.1 hy with rfl | hy
      · simp only at h7 h8; omega
      · exact ⟨y, hy, h7, h8⟩
    · rintro ⟨x, hx, h5, h6⟩
      have := pM.1 x hx
      obtain ⟨y, hy, h7, h8⟩ := (h i).2 ⟨x, by simp [hx], h5, h6⟩
      rcases List.mem_cons.1 hy with rfl | hy
      · simp only at h7 h8; omega
      · exact ⟨y, hy, h7, h8⟩

theorem FL.one {n : Nat} {f : Nat → Bool} {L M : List (Nat × Nat)} (h : FL n f L) (k : FL n f M) : L = M := by
  refine cov_one L M h.ris k.ris (fun r hr => (h.pos r hr).1) (fun r hr => (k.pos r hr).1) (fun i => ?_)
  by_cases hi : i < n
  · rw [← h.cov i hi, ← k.cov i hi]
  · constructor
    · rintro ⟨r, hr, h1, h2⟩; have := h.pos r hr; omega
    · rintro ⟨r, hr, h1, h2⟩; have := k.pos r hr; omega
theorem FL.eq {n : Nat} {f : Nat → Bool} {L : List (Nat × Nat)} (h : FL n f L) : L = freeL f n := h.one (freeL_FL f n)

theorem freeL_len (f : Nat → Bool) : ∀ n, (freeL f n).length ≤ n
  | 0 => by simp [freeL]
  | k + 1 => by
    have := freeL_len f k
    rw [freeL]
    split
    · omega
    · split
      · rw [bump_last]; simp; omega
      · rename_i h1 h2
        have h0 : 0 < k := by omega
        have hf : f (k - 1) = false := by
          cases e : f (k - 1)
          · rfl
          · exact absurd (.inr e) h2
        obtain ⟨A, a, l, e, _⟩ := (freeL_FL f k).last h0 hf
        rw [e, bump_last]
        rw [e] at this
        simp at this ⊢; omega

def turnU (f : Nat → Bool) (p k : Nat) (v : Bool) : Nat → Bool := fun i => if p ≤ i ∧ i < p + k then v else f i
/-- All k units from p on are so. -/
def AllF (f : Nat → Bool) (p k : Nat) (v : Bool) : Prop := ∀ i, p ≤ i → i < p + k → f i = v

theorem turnU_in {f : Nat → Bool} {p k : Nat} {v : Bool} {i : Nat} (h1 : p ≤ i) (h2 : i < p + k) : turnU f p k v i = v := by simp [turnU, h1, h2]
theorem turnU_out {f : Nat → Bool} {p k : Nat} {v : Bool} {i : Nat} (h : ¬ (p ≤ i ∧ i < p + k)) : turnU f p k v i = f i := by simp [turnU, h]

def notE (r : Nat × Nat) : Bool := r.2 != 0

theorem cut_FL {n : Nat} {f : Nat → Bool} {A B : List (Nat × Nat)} {a l u k : Nat} (h : FL n f (A ++ (a, l) :: B)) (h1 : a ≤ u) (h2 : u + k ≤ a + l) (hk : 1 ≤ k) :
    FL n (turnU f u k true) (A ++ [(a, u - a), (u + k, a + l - (u + k))].filter notE ++ B) := by
  obtain ⟨pA, pB, pAB⟩ := List.pairwise_append.1 h.ris
  rw [List.pairwise_cons] at pB
  have hA : ∀ r ∈ A, r.1 + r.2 < a := fun r hr => pAB r hr (a, l) (by simp)
  have hB : ∀ r ∈ B, a + l < r.1 := fun r hr => pB.1 r hr
  have hal := h.pos (a, l) (by simp)
  simp only at hal
  have hX : ∀ r ∈ [(a, u - a), (u + k, a + l - (u + k))].filter notE, 1 ≤ r.2 ∧ ((r.1 = a ∧ r.2 = u - a) ∨ (r.1 = u + k ∧ r.2 = a + l - (u + k))) := by
    intro r hr
    rw [List.mem_filter] at hr
    obtain ⟨hr, hn⟩ := hr
    simp [notE] at hn
    simp at hr
    rcases hr with rfl | rfl
    · exact ⟨by simp only at hn ⊢; omega, .inl ⟨rfl, rfl⟩⟩
    · exact ⟨by simp only at hn ⊢; omega, .inr ⟨rfl, rfl⟩⟩
  refine ⟨?_, ?_, ?_⟩
  · intro r hr
    rcases List.mem_append.1 hr with hr | hr
    · rcases List.mem_append.1 hr with hr | hr
      · exact h.pos r (by simp [hr])
      · have := hX r hr; omega
    · exact h.pos r (by simp [hr])
  · rw [List.pairwise_append, List.pairwise_append]
    refine ⟨⟨pA, ?_, ?_⟩, pB.2, ?_⟩
    · refine List.Pairwise.filter _ ?_
      rw [List.pairwise_cons]
      refine ⟨fun s hs => ?_, by simp⟩
      simp at hs; subst hs
      simp only; omega
    · intro r hr s hs
      have := hA r hr
      have := hX s hs
      omega
    · intro r hr s hs
      have h3 := hB s hs
      rcases List.mem_append.1 hr with hr | hr
      · have := hA r hr; omega
      · have := hX r hr; omega
  · intro i hi
    by_cases hin : u ≤ i ∧ i < u + k
    · rw [turnU_in hin.1 hin.2]
      simp only [Bool.true_eq_false, false_iff]
      rintro ⟨r, hr, h3, h4⟩
      rcases List.mem_append.1 hr with hr | hr
      · rcases List.mem_append.1 hr with hr | hr
        · have := hA r hr; omega
        · have := hX r hr; omega
      · have := hB r hr; omega
    · rw [turnU_out hin, h.cov i hi]
      constructor
      · rintro ⟨r, hr, h3, h4⟩
        rcases List.mem_append.1 hr with hr | hr
        · exact ⟨r, by simp [hr], h3, h4⟩
        · rcases List.mem_cons.1 hr with rfl | hr
          · simp only at h3 h4
            by_cases hu : i < u
            · exact ⟨(a, u - a), by simp [notE]; omega, h3, by simp only; omega⟩
            · exact ⟨(u + k, a + l - (u + k)), by simp [notE]; omega, by simp only; omega, by simp only; omega⟩
          · exact ⟨r, by simp [hr], h3, h4⟩
      · rintro ⟨r, hr, h3, h4⟩
        rcases List.mem_append.1 hr with hr | hr
        · rcases List.mem_append.1 hr with hr | hr
          · exact ⟨r, by simp [hr], h3, h4⟩
          · have := hX r hr
            exact ⟨(a, l), by simp, by simp only; omega, by simp only; omega⟩
        · exact ⟨r, by simp [hr], h3, h4⟩

/-- Units that are given back, and what touches them. -/
theorem join_FL {n : Nat} {f : Nat → Bool} {A B X Y : List (Nat × Nat)} {p k a l : Nat} (h : FL n f (A ++ X ++ (Y ++ B))) (hk : 1 ≤ k) (hn : p + k ≤ n)
    (hX : ∀ r ∈ A ++ X, r.1 + r.2 ≤ p) (hY : ∀ r ∈ Y ++ B, p + k ≤ r.1)
    (hA : ∀ r ∈ A, r.1 + r.2 < a) (hB : ∀ r ∈ B, a + l < r.1) (hap : a ≤ p) (hpl : p + k ≤ a + l)
    (hcov : ∀ i, (a ≤ i ∧ i < a + l) ↔ ((p ≤ i ∧ i < p + k) ∨ ∃ r ∈ X ++ Y, r.1 ≤ i ∧ i < r.1 + r.2)) (hln : a + l ≤ n) :
    FL n (turnU f p k false) (A ++ [(a, l)] ++ B) := by
  obtain ⟨p1, p2, p12⟩ := List.pairwise_append.1 h.ris
  obtain ⟨pA, pX, pAX⟩ := List.pairwise_append.1 p1
  obtain ⟨pY, pB, pYB⟩ := List.pairwise_append.1 p2
  refine ⟨?_, ?_, ?_⟩
  · intro r hr
    rcases List.mem_append.1 hr with hr | hr
    · rcases List.mem_append.1 hr with hr | hr
      · exact h.pos r (by simp [hr])
      · simp at hr; subst hr; simp only; omega
    · exact h.pos r (by simp [hr])
  · rw [List.pairwise_append, List.pairwise_append]
    refine ⟨⟨pA, by simp, ?_⟩, pB, ?_⟩
    · intro r hr s hs
      simp at hs; subst hs
      exact hA r hr
    · intro r hr s hs
      rcases List.mem_append.1 hr with hr | hr
      · have := hA r hr; have := hB s hs; omega
      · simp at hr; subst hr; exact hB s hs
  · intro i hi
    by_cases hin : p ≤ i ∧ i < p + k
    · rw [turnU_in hin.1 hin.2]
      simp only [true_iff]
      exact ⟨(a, l), by simp, by simp only; omega, by simp only; omega⟩
    · rw [turnU_out hin, h.cov i hi]
      constructor
      · rintro ⟨r, hr, h3, h4⟩
        rcases List.mem_append.1 hr with hr | hr
        · rcases List.mem_append.1 hr with hr | hr
          · exact ⟨r, by simp [hr], h3, h4⟩
          · have := (hcov i).2 (.inr ⟨r, by simp [hr], h3, h4⟩)
            exact ⟨(a, l), by simp, this.1, this.2⟩
        · rcases List.mem_append.1 hr with hr | hr
          · have := (hcov i).2 (.inr ⟨r, by simp [hr], h3, h4⟩)
            exact ⟨(a, l), by simp, this.1, this.2⟩
          · exact ⟨r, by simp [hr], h3, h4⟩
      · rintro ⟨r, hr, h3, h4⟩
        rcases List.mem_append.1 hr with hr | hr
        · rcases List.mem_append.1 hr with hr | hr
          · exact ⟨r, by simp [hr], h3, h4⟩
          · simp at hr; subst hr
            rcases (hcov i).1 ⟨h3, h4⟩ with h5 | ⟨s, hs, h5, h6⟩
            · exact absurd h5 hin
            · rcases List.mem_append.1 hs with hs | hs
              · exact ⟨s, by simp [hs], h5, h6⟩
              · exact ⟨s, by simp [hs], h5, h6⟩
        · exact ⟨r, by simp [hr], h3, h4⟩
end Go.Proofs.YtgdjlopnhecmjaaGreatDoor

/- Layer 15: RqQ again -/
namespace Go.Proofs.YtgdjlopnhecmjaaGreatDoor
set_option linter.unusedVariables false
set_option maxRecDepth 4000
/-- Ahead of the i-th run all end at or ahead of p, from it on all behind p. -/
def FindOK (L : List (Nat × Nat)) (p i : Nat) : Prop := i ≤ L.length ∧ (∀ r ∈ L.take i, r.1 + r.2 ≤ p) ∧ ∀ r ∈ L.drop i, p < r.1 + r.2

theorem list_parts {α : Type} (L : List α) (i : Nat) (h : i < L.length) : L = L.take i ++ L[i] :: L.drop (i + 1) := by
  rw [← List.drop_eq_getElem_cons h, List.take_append_drop]

theorem mem_dropU {α : Type} (L : List α) (i : Nat) (h : i < L.length) : L[i] ∈ L.drop i := by
  rw [List.drop_eq_getElem_cons h]; exact List.mem_cons_self
theorem FL.behind {n : Nat} {f : Nat → Bool} {L : List (Nat × Nat)} (h : FL n f L) {i : Nat} (hi : i < L.length) : (∀ r ∈ L.take i, r.1 + r.2 < L[i].1) ∧ ∀ r ∈ L.drop (i + 1), L[i].1 + L[i].2 < r.1 := by
  have hp := h.ris
  rw [list_parts L i hi, List.pairwise_append, List.pairwise_cons] at hp
  exact ⟨fun r hr => hp.2.2 r hr _ List.mem_cons_self, fun r hr => hp.2.1.1 r hr⟩

theorem FL.run_of {n : Nat} {f : Nat → Bool} {L : List (Nat × Nat)} (h : FL n f L) {p : Nat} : ∀ k, 1 ≤ k → p + k ≤ n → AllF f p k false → ∃ r ∈ L, r.1 ≤ p ∧ p + k ≤ r.1 + r.2
  | 0, h0, _, _ => by omega
  | 1, _, hn, ha => by
    obtain ⟨r, hr, h1, h2⟩ := (h.cov p (by omega)).1 (ha p (by omega) (by omega))
    exact ⟨r, hr, h1, by omega⟩
  | k + 2, _, hn, ha => by
    obtain ⟨r, hr, h1, h2⟩ := FL.run_of h (k + 1) (by omega) (by omega) (fun i h1 h2 => ha i h1 (by omega))
    obtain ⟨s, hs, h3, h4⟩ := (h.cov (p + (k + 1)) (by omega)).1 (ha _ (by omega) (by omega))
    refine ⟨r, hr, h1, ?_⟩
    rcases pw_two h.ris hr hs with rfl | e | e <;> omega

theorem FL.mark_ok {n : Nat} {f : Nat → Bool} {L : List (Nat × Nat)} (h : FL n f L) {p k i : Nat} (hi : i < L.length) (h1 : L[i].1 ≤ p) (h2 : p + k ≤ L[i].1 + L[i].2) : AllF f p k false := fun j h3 h4 =>
  (h.cov j (by have := h.pos L[i] (List.getElem_mem hi); omega)).2 ⟨L[i], List.getElem_mem hi, by omega, by omega⟩

theorem FL.give_ok {n : Nat} {f : Nat → Bool} {L : List (Nat × Nat)} (h : FL n f L) {p k i : Nat} (hF : FindOK L p i) (hn : p + k ≤ n) (hb : ∀ hi : i < L.length, p + k ≤ L[i].1) : AllF f p k true := by
  intro j h3 h4
  obtain ⟨h0, h1, h2⟩ := hF
  cases e : f j
  · obtain ⟨r, hr, h5, h6⟩ := (h.cov j (by omega)).1 e
    rw [← List.take_append_drop i L] at hr
    rcases List.mem_append.1 hr with hr | hr
    · have := h1 r hr; omega
    · have hi : i < L.length := by
        rcases Nat.lt_or_ge i L.length with h' | h'
        · exact h'
        · rw [List.drop_eq_nil_of_le h'] at hr; cases hr
      have h7 := hb hi
      rw [List.drop_eq_getElem_cons hi] at hr
      rcases List.mem_cons.1 hr with rfl | hr
      · omega
      · have := (h.behind hi).2 r hr; omega
  · rfl

theorem FL.give_no {n : Nat} {f : Nat → Bool} {L : List (Nat × Nat)} (h : FL n f L) {p k i : Nat} (hF : FindOK L p i) (hk : 1 ≤ k) (ha : AllF f p k true) (hi : i < L.length) : p + k ≤ L[i].1 := by
  obtain ⟨h0, h1, h2⟩ := hF
  have h5 := h2 L[i] (mem_dropU L i hi)
  have h6 := h.pos L[i] (List.getElem_mem hi)
  rcases Nat.lt_or_ge L[i].1 (p + k) with h7 | h7
  · exfalso
    have h8 : f (max p L[i].1) = false := (h.cov _ (by omega)).2 ⟨L[i], List.getElem_mem hi, by omega, by omega⟩
    rw [ha _ (by omega) (by omega)] at h8
    cases h8
  · exact h7

def TakeIs (n : Nat) (f : Nat → Bool) (k : Nat) : Option Nat → Prop
  | none => ∀ p, p + k ≤ n → ¬ AllF f p k false
  | some p => p + k ≤ n ∧ AllF f p k false ∧ ∀ q, q < p → ¬ AllF f q k false
theorem TakeIs.one {n : Nat} {f : Nat → Bool} {k : Nat} : ∀ {o o' : Option Nat}, TakeIs n f k o → TakeIs n f k o' → o = o'
  | none, none, _, _ => rfl
  | none, some p, h, h' => absurd h'.2.1 (h p h'.1)
  | some p, none, h, h' => absurd h.2.1 (h' p h.1)
  | some p, some q, h, h' => by
    rcases Nat.lt_trichotomy p q with e | e | e
    · exact absurd h.2.1 (h'.2.2 p e)
    · rw [e]
    · exact absurd h'.2.1 (h.2.2 q e)

theorem FL.take_some {n : Nat} {f : Nat → Bool} {L : List (Nat × Nat)} (h : FL n f L) {k i : Nat} (hk : 1 ≤ k) (hi : i < L.length) (h1 : k ≤ L[i].2) (h2 : ∀ r ∈ L.take i, r.2 < k) : TakeIs n f k (some L[i].1) := by
  have hp := h.pos L[i] (List.getElem_mem hi)
  refine ⟨by omega, h.mark_ok hi (Nat.le_refl _) (by omega), fun q hq ha => ?_⟩
  obtain ⟨r, hr, h3, h4⟩ := h.run_of k hk (by omega) ha
  rw [list_parts L i hi] at hr
  rcases List.mem_append.1 hr with hr | hr
  · have := h2 r hr; omega
  · rcases List.mem_cons.1 hr with rfl | hr
    · omega
    · have := (h.behind hi).2 r hr; omega
theorem FL.take_none {n : Nat} {f : Nat → Bool} {L : List (Nat × Nat)} (h : FL n f L) {k : Nat} (hk : 1 ≤ k) (h2 : ∀ r ∈ L, r.2 < k) : TakeIs n f k none := by
  intro q hq ha
  obtain ⟨r, hr, h3, h4⟩ := h.run_of k hk hq ha
  have := h2 r hr
  omega

/-- What Take answers, and what is taken behind it. -/
def TakeU (n : Nat) (f : Nat → Bool) (k : Int) (x e : Int) (f' : Nat → Bool) : Prop :=
  (k < 1 ∧ x = 0 ∧ e = 2 ∧ f' = f) ∨ (1 ≤ k ∧ TakeIs n f k.toNat none ∧ x = 0 ∧ e = 7 ∧ f' = f) ∨ (1 ≤ k ∧ ∃ p, TakeIs n f k.toNat (some p) ∧ x = (p : Nat) ∧ e = 0 ∧ f' = turnU f p k.toNat true)
/-- What Mark (v: true) and Give (v: false) answer. -/
def TurnR (n : Nat) (f : Nat → Bool) (x k : Int) (v : Bool) (e : Int) (f' : Nat → Bool) : Prop :=
  ((k < 1 ∨ x < 0 ∨ (n : Int) < x + k) ∧ e = 2 ∧ f' = f) ∨ (1 ≤ k ∧ 0 ≤ x ∧ x + k ≤ (n : Int) ∧ ¬ AllF f x.toNat k.toNat (!v) ∧ e = 9 ∧ f' = f) ∨
    (1 ≤ k ∧ 0 ≤ x ∧ x + k ≤ (n : Int) ∧ AllF f x.toNat k.toNat (!v) ∧ e = 0 ∧ f' = turnU f x.toNat k.toNat v)
theorem TurnR.one {n : Nat} {f : Nat → Bool} {x k e e' : Int} {v : Bool} {g g' : Nat → Bool} (h : TurnR n f x k v e g) (h' : TurnR n f x k v e' g') : e = e' ∧ g = g' := by
  rcases h with ⟨h1, rfl, rfl⟩ | ⟨h1, h2, h3, h4, rfl, rfl⟩ | ⟨h1, h2, h3, h4, rfl, rfl⟩
  · rcases h' with ⟨h1', rfl, rfl⟩ | ⟨h1', h2', h3', h4', rfl, rfl⟩ | ⟨h1', h2', h3', h4', rfl, rfl⟩
    · exact ⟨rfl, rfl⟩
    · omega
    · omega
  · rcases h' with ⟨h1', rfl, rfl⟩ | ⟨h1', h2', h3', h4', rfl, rfl⟩ | ⟨h1', h2', h3', h4', rfl, rfl⟩
    · omega
    · exact ⟨rfl, rfl⟩
    · exact absurd h4' h4
  · rcases h' with ⟨h1', rfl, rfl⟩ | ⟨h1', h2', h3', h4', rfl, rfl⟩ | ⟨h1', h2', h3', h4', rfl, rfl⟩
    · omega
    · exact absurd h4 h4'
    · exact ⟨rfl, rfl⟩
theorem free_all {n : Nat} {f : Nat → Bool} (h : ∀ i, i < n → f i = false) : freeL f n = if n = 0 then [] else [(0, n)] := by
  by_cases h0 : n = 0
  · subst h0; rfl
  · rw [if_neg h0]
    refine (FL.eq ⟨?_, by simp, ?_⟩).symm
    · intro r hr; simp at hr; subst hr; simp; omega
    · intro i hi
      simp only [h i hi, true_iff]
      exact ⟨(0, n), by simp, by simp, by simpa using hi⟩
theorem free_new (n : Nat) : [(0, n)].filter notE = freeL (fun _ => false) n := by
  rw [free_all (fun _ _ => rfl)]
  by_cases h0 : n = 0
  · simp [h0, notE]
  · simp [h0, notE]
end Go.Proofs.YtgdjlopnhecmjaaGreatDoor

/- Layer 15: RuA again -/
namespace Go.Proofs.YtgdjlopnhecmjaaGreatDoor
open Go.RowKit
set_option linter.unusedVariables false
set_option maxRecDepth 4000
/-- Runs as cells. -/
def cellsR : List (Nat × Nat) → List Value
  | [] => []
  | r :: l => .int .i64 (r.1 : Nat) :: .int .i64 (r.2 : Nat) :: cellsR l
theorem cellsR_len : ∀ l, (cellsR l).length = l.length * 2
  | [] => rfl
  | r :: l => by simp [cellsR, cellsR_len l]; omega
theorem cellsR_append : ∀ (a b : List (Nat × Nat)), cellsR (a ++ b) = cellsR a ++ cellsR b
  | [], _ => rfl
  | r :: a, b => by simp [cellsR, cellsR_append a b]
theorem cellsR_one : ∀ (l : List (Nat × Nat)), ∀ v ∈ cellsR l, v.oneCell' = true
  | r :: l, v, hv => by
    simp only [cellsR, List.mem_cons] at hv
    rcases hv with rfl | rfl | hv
    · rfl
    · rfl
    · exact cellsR_one l v hv
theorem cellsR_at : ∀ (l : List (Nat × Nat)) (i : Nat) (h : i < l.length), (cellsR l)[i * 2]? = some (.int .i64 (l[i].1 : Nat)) ∧ (cellsR l)[i * 2 + 1]? = some (.int .i64 (l[i].2 : Nat))
  | r :: l, 0, _ => by simp [cellsR]
  | r :: l, i + 1, h => by
    have := cellsR_at l i (by simpa using h)
    rw [show (i + 1) * 2 = i * 2 + 2 from by omega, show i * 2 + 2 + 1 = i * 2 + 1 + 2 from by omega]
    simpa [cellsR] using this
theorem cellsR_take : ∀ (l : List (Nat × Nat)) (k : Nat), (cellsR l).take (k * 2) = cellsR (l.take k)
  | [], k => by simp [cellsR]
  | r :: l, 0 => by simp [cellsR]
  | r :: l, k + 1 => by rw [show (k + 1) * 2 = k * 2 + 2 from by omega]; simp [cellsR, cellsR_take l k]
theorem cellsR_drop : ∀ (l : List (Nat × Nat)) (k : Nat), (cellsR l).drop (k * 2) = cellsR (l.drop k)
  | [], k => by simp [cellsR]
  | r :: l, 0 => by simp [cellsR]
  | r :: l, k + 1 => by rw [show (k + 1) * 2 = k * 2 + 2 from by omega]; simp [cellsR, cellsR_drop l k]
theorem size41 : (Tryz.prog.info? 260).map (·.size) = some 2 := by kernel_rfl
theorem Tryz.info41 : (Tryz.prog.info? 260).map (fun i => (i.zero, i.size, i.bytes)) = some (some (.agg #[.int .i64 0, .int .i64 0]), 2, 16) := by kernel_rfl
/-- Runs that fill a block. -/
def Row (w : World) (g : Nat) (xs : List (Nat × Nat)) : Prop := w.heap[g]? = some (.cells (cellsR xs).toArray 260 (0, 0))
theorem Row.lt {w : World} {g : Nat} {xs : List (Nat × Nat)} (h : Row w g xs) : g < w.heap.size := (Array.getElem?_eq_some_iff.1 h).1
theorem Row.cell0 {w : World} {g : Nat} {xs : List (Nat × Nat)} (h : Row w g xs) (i : Nat) (hi : i < xs.length) : w.cell? ⟨g, i * 2, none⟩ = some (.int .i64 (xs[i].1 : Nat)) := by
  rw [cell_of_row w g (i * 2) _ _ _ h]; simpa using (cellsR_at xs i hi).1
theorem Row.cell1 {w : World} {g : Nat} {xs : List (Nat × Nat)} (h : Row w g xs) (i : Nat) (hi : i < xs.length) : w.cell? ⟨g, i * 2 + 1, none⟩ = some (.int .i64 (xs[i].2 : Nat)) := by
  rw [cell_of_row w g (i * 2 + 1) _ _ _ h]; simpa using (cellsR_at xs i hi).2
theorem Row.thawed {w : World} {g : Nat} {xs : List (Nat × Nat)} (h : Row w g xs) (i : Nat) : w.frozen? ⟨g, i, none⟩ = false := frozen_of_row w g i _ _ h
/-- A slice of runs that may be read. -/
def UIsL (w : World) (a : Option Addr) (l : List (Nat × Nat)) : Prop :=
  l = [] ∨ ∃ b off, a = some ⟨b, off, none⟩ ∧ b < w.heap.size ∧ ∀ i (h : i < l.length), w.cell? ⟨b, off + i * 2, none⟩ = some (.int .i64 (l[i].1 : Nat)) ∧ w.cell? ⟨b, off + i * 2 + 1, none⟩ = some (.int .i64 (l[i].2 : Nat))
/-- A part of what lies in a row. -/
theorem Row.isL {w : World} {g : Nat} {xs l : List (Nat × Nat)} (h : Row w g xs) (o : Nat) (hl : (xs.drop o).take l.length = l) : UIsL w (some ⟨g, o * 2, none⟩) l := by
  refine .inr ⟨g, o * 2, rfl, h.lt, fun i hi => ?_⟩
  have hlen : l.length ≤ xs.length - o := by
    have := congrArg List.length hl
    simp at this; omega
  have e : l[i] = xs[o + i]'(by omega) := by
    have : l[i]? = xs[o + i]? := by rw [← hl, List.getElem?_take, if_pos hi, List.getElem?_drop]
    rw [List.getElem?_eq_getElem hi, List.getElem?_eq_getElem (by omega)] at this
    exact Option.some.inj this
  have h0 := h.cell0 (o + i) (by omega)
  have h1 := h.cell1 (o + i) (by omega)
  rw [show (o + i) * 2 = o * 2 + i * 2 from by omega] at h0 h1
  rw [e]
  exact ⟨h0, h1⟩
theorem Only.row {g g' : Nat} {w w' : World} {xs : List (Nat × Nat)} (h : Only g w w') (k : Row w g' xs) (hne : g' ≠ g) : Row w' g' xs := by
  show w'.heap[g']? = _; rw [h.block g' hne]; exact k
theorem run_copy2 {P : Program} (w : World) (dT sT ty elem : TypeId) (g o dLen dCap : Nat) (a : Addr) (sLen sCap : Nat) (cur : Array Value) (t : TypeId) (cs : List Value)
    (hu : P.underlying dT = some (.slice elem)) (hs : (P.info? elem).map (·.size) = some 2)
    (hg : w.heap[g]? = some (.cells cur t (0, 0))) (hn : cs.length = Nat.min sLen dLen * 2)
    (hsrc : ∀ j v, cs[j]? = some v → w.cell? (a.add j) = some v) (hfit : o + cs.length ≤ cur.size) (h1 : ∀ v ∈ cs, v.oneCell' = true) :
    (Builtin.copy_ #[dT, sT] ty #[.slice (some ⟨g, o, none⟩) dLen dCap, .slice (some a) sLen sCap]).run P w =
      .ok (goInt (Nat.min sLen dLen)) (w.setRow g (cur.toList.take o ++ cs ++ cur.toList.drop (o + cs.length)).toArray) := by
  have hl := run_loadCells_list (P := P) w a cs hsrc
  have hst := run_storeCells_at P g o t cs 0 cur w hg (by simpa using hfit) h1
  cases hq : P.info? elem with
  | none => simp [hq] at hs
  | some i =>
    have hi : i.size = 2 := by simpa [hq] using hs
    rw [hn] at hl
    simp [Builtin.copy_, run_underlying hu, Builtin.lenOf, Builtin.firstCells, sizeOf, typeInfo, hq, hi, hl, hst]
theorem run_copy2_none {P : Program} (w : World) (dT sT ty elem : TypeId) (d a : Option Addr) (dLen dCap sLen sCap : Nat) (hu : P.underlying dT = some (.slice elem)) (hs : (P.info? elem).map (·.size) = some 2) (hn : Nat.min sLen dLen = 0) :
    (Builtin.copy_ #[dT, sT] ty #[.slice d dLen dCap, .slice a sLen sCap]).run P w = .ok (goInt 0) w := by
  cases hq : P.info? elem with
  | none => simp [hq] at hs
  | some i =>
    have hl : ∀ (x : Addr), (loadCells x 0).run P w = .ok #[] w := fun x => by simpa using run_loadCells_list (P := P) w x [] (by simp)
    cases d <;> cases a <;> simp [Builtin.copy_, run_underlying hu, Builtin.lenOf, Builtin.firstCells, sizeOf, typeInfo, hq, hn, storeCells, hl]
theorem copyR_run (w : World) (g o dl dc : Nat) (xs l : List (Nat × Nat)) (ad a : Option Addr) (n cap k : Nat) (hn : n = l.length) (hk : k = min n dl) (hg : Row w g xs) (hB : UIsL w a l) (hfit : o + k ≤ xs.length) (had : k = 0 ∨ ad = some ⟨g, o * 2, none⟩) :
    ∃ w1, (∀ ty, (Builtin.copy_ #[255, 255] ty #[.slice ad dl dc, .slice a n cap]).run Tryz.prog w = .ok (goInt k) w1) ∧ Row w1 g (xs.take o ++ l.take k ++ xs.drop (o + k)) ∧ Only g w w1 := by
  subst hn
  by_cases h0 : k = 0
  · have hrun := fun ty => run_copy2_none (P := Tryz.prog) w 255 255 ty 260 ad a dl dc l.length cap Tryz.underlying255 size41 (hk.symm.trans h0)
    subst h0
    exact ⟨w, hrun, by simpa using hg, Only.refl _ _⟩
  · obtain rfl : ad = some ⟨g, o * 2, none⟩ := by rcases had with h | h; exact absurd h h0; exact h
    rcases hB with rfl | ⟨b, off, rfl, hs, hc⟩
    · simp at hk; omega
    · have hl : (cellsR (l.take k)).length = k * 2 := by rw [cellsR_len, List.length_take]; congr 1; omega
      have hrun := fun ty => run_copy2 (P := Tryz.prog) w 255 255 ty 260 g (o * 2) dl dc ⟨b, off, none⟩ l.length cap (cellsR xs).toArray 260 (cellsR (l.take k)) Tryz.underlying255 size41 hg (by rw [hl, hk]) (by
        intro j v hv
        have hj : j < k * 2 := by rw [← hl]; exact (List.getElem?_eq_some_iff.1 hv).1
        have hi : j / 2 < (l.take k).length := by rw [List.length_take]; omega
        have hi' : j / 2 < l.length := by omega
        have hx := cellsR_at (l.take k) (j / 2) hi
        have hy := hc (j / 2) hi'
        rw [List.getElem_take] at hx
        rw [addr_add]
        rcases Nat.mod_two_eq_zero_or_one j with e | e
        · rw [show j / 2 * 2 = j from by omega] at hx hy
          rw [hx.1] at hv; cases hv; exact hy.1
        · rw [show j / 2 * 2 + 1 = j from by omega] at hx
          rw [show off + j / 2 * 2 + 1 = off + j from by omega] at hy
          rw [hx.2] at hv; cases hv; exact hy.2) (by rw [hl]; simp [cellsR_len]; omega) (cellsR_one _)
      refine ⟨_, fun ty => by rw [hrun ty]; rw [show Nat.min l.length dl = k from hk.symm], ?_, Only.setRow _ _ _⟩
      have := setRow_heap w g _ ((cellsR xs).take (o * 2) ++ cellsR (l.take k) ++ (cellsR xs).drop (o * 2 + k * 2)).toArray 260 _ hg
      show (w.setRow g _).heap[g]? = _
      rw [show (cellsR xs).toArray.toList = cellsR xs from rfl, hl, this]
      rw [← Nat.add_mul, cellsR_take, cellsR_drop, ← cellsR_append, ← cellsR_append]
theorem wpList_copyR {ops : Array Oper} {rest : List Oper} {o : Oper} {a : Act} {Q : Exit → Act → World → Prop} {w : World} (hgd : o.guard = none) (s x : Operand)
    (ho : o.op = .call { callee := .builtin .copy, args := #[s, x], argTypes := #[255, 255] })
    (g off dl dc : Nat) (xs l : List (Nat × Nat)) (ad ax : Option Addr) (n cap k : Nat) (hs : a.eval s = .slice ad dl dc) (hx : a.eval x = .slice ax n cap) (hn : n = l.length) (hk : k = min n dl) (hg : Row w g xs) (hB : UIsL w ax l) (hfit : off + k ≤ xs.length) (had : k = 0 ∨ ad = some ⟨g, off * 2, none⟩)
    (h : ∀ w1, Row w1 g (xs.take off ++ l.take k ++ xs.drop (off + k)) → Only g w w1 → wpList Tryz.prog ops Q rest (a.put o.dst (goInt k)) w1) : wpList Tryz.prog ops Q (o :: rest) a w := by
  refine wpList_plain hgd fun K' hK' => ?_
  obtain ⟨w1, hrun, r1, r2⟩ := copyR_run w g off dl dc xs l ad ax n cap k hn hk hg hB hfit had
  unfold Oper.wp
  simp [execOp, ho, resolve, invoke, builtin, hs, hx, hrun, Result.andThen]
  exact hK' _ _ (h w1 r1 r2)
/-- No row is there to copy into. -/
theorem cwpList_copy0 {ops : Array Oper} {rest : List Oper} {o : Oper} {a : Act} {Q : Exit → Act → World → Prop} {w : World} (hgd : o.guard = none) (s x : Operand)
    (ho : o.op = .call { callee := .builtin .copy, args := #[s, x], argTypes := #[255, 255] })
    (dl dc n cap : Nat) (ad ax : Option Addr) (hs : a.eval s = .slice ad dl dc) (hx : a.eval x = .slice ax n cap) (hk : Nat.min n dl = 0)
    (h : wpList Tryz.prog ops Q rest (a.put o.dst (goInt 0)) w) : wpList Tryz.prog ops Q (o :: rest) a w := by
  refine wpList_plain hgd fun K' hK' => ?_
  have hrun := run_copy2_none (P := Tryz.prog) w 255 255 o.type 260 ad ax dl dc n cap Tryz.underlying255 size41 hk
  unfold Oper.wp
  simp [execOp, ho, resolve, invoke, builtin, hs, hx, hrun, Result.andThen]
  exact hK' _ _ h
end Go.Proofs.YtgdjlopnhecmjaaGreatDoor
