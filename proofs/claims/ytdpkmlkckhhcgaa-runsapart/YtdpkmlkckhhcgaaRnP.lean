/- Plain mathematics of layer 7: free runs of units, each taken or free. -/
namespace Go.Proofs.Ytdpkmlkckhhcgaa
set_option linter.unusedVariables false

/-- These are just the free runs of the first n units. -/
structure FL (n : Nat) (f : Nat → Bool) (L : List (Nat × Nat)) : Prop where
  pos : ∀ r ∈ L, 1 ≤ r.2 ∧ r.1 + r.2 ≤ n
  ris : L.Pairwise (fun r s => r.1 + r.2 < s.1)
  cov : ∀ i, i < n → (f i = false ↔ ∃ r ∈ L, r.1 ≤ i ∧ i < r.1 + r.2)

theorem pw_two {L : List (Nat × Nat)} (h : L.Pairwise (fun r s => r.1 + r.2 < s.1)) {r s : Nat × Nat} (hr : r ∈ L) (hs : s ∈ L) : r = s ∨ r.1 + r.2 < s.1 ∨ s.1 + s.2 < r.1 := by
  induction L with
  | nil => cases hr
  | cons x t ih =>
    rw [List.pairwise_cons] at h
    rcases List.mem_cons.1 hr with e | hr'
    · rcases List.mem_cons.1 hs with e' | hs'
      · exact .inl (e.trans e'.symm)
      · subst e; exact .inr (.inl (h.1 _ hs'))
    · rcases List.mem_cons.1 hs with e' | hs'
      · subst e'; exact .inr (.inr (h.1 _ hr'))
      · exact ih h.2 hr' hs'

/-- One unit more in the last run. -/
def bump (L : List (Nat × Nat)) : List (Nat × Nat) := L.dropLast ++ [((L.getLastD (0, 0)).1, (L.getLastD (0, 0)).2 + 1)]
theorem bump_last (A : List (Nat × Nat)) (a l : Nat) : bump (A ++ [(a, l)]) = A ++ [(a, l + 1)] := by simp [bump, List.getLastD_eq_getLast?]

/-- The free runs, unit by unit. -/
def freeL (f : Nat → Bool) : Nat → List (Nat × Nat)
  | 0 => []
  | k + 1 => if f k = true then freeL f k else bump (if k = 0 ∨ f (k - 1) = true then freeL f k ++ [(k, 0)] else freeL f k)

theorem FL.nil (f : Nat → Bool) : FL 0 f [] := ⟨by simp, by simp, by intro i hi; omega⟩

theorem FL.last {k : Nat} {f : Nat → Bool} {L : List (Nat × Nat)} (h : FL k f L) (h0 : 0 < k) (hf : f (k - 1) = false) : ∃ A a l, L = A ++ [(a, l)] ∧ a + l = k := by
  obtain ⟨r, hr, h1, h2⟩ := (h.cov (k - 1) (by omega)).1 hf
  have hp := h.pos r hr
  obtain ⟨s, t, rfl⟩ := List.append_of_mem hr
  have ht : t = [] := by
    cases t with
    | nil => rfl
    | cons x t =>
      have hx := h.pos x (by simp)
      have := (List.pairwise_append.1 h.ris).2.1
      rw [List.pairwise_cons] at this
      have := this.1 x (by simp)
      omega
  subst ht
  exact ⟨s, r.1, r.2, rfl, by omega⟩

theorem FL.more {k : Nat} {f : Nat → Bool} {L : List (Nat × Nat)} (h : FL k f L) : FL (k + 1) f (if f k = true then L else bump (if k = 0 ∨ f (k - 1) = true then L ++ [(k, 0)] else L)) := by
  by_cases hk : f k = true
  · rw [if_pos hk]
    refine ⟨fun r hr => by have := h.pos r hr; omega, h.ris, fun i hi => ?_⟩
    by_cases e : i = k
    · subst e
      simp only [hk, Bool.true_eq_false, false_iff]
      rintro ⟨r, hr, h1, h2⟩
      have := h.pos r hr
      omega
    · exact h.cov i (by omega)
  · have hk' : f k = false := by simpa using hk
    rw [if_neg hk]
    by_cases h0 : k = 0 ∨ f (k - 1) = true
    · rw [if_pos h0, bump_last]
      have hlt : ∀ r ∈ L, r.1 + r.2 < k := by
        intro r hr
        have := h.pos r hr
        rcases h0 with rfl | h0
        · omega
        · by_cases e : r.1 + r.2 = k
          · have := (h.cov (k - 1) (by omega)).2 ⟨r, hr, by omega, by omega⟩
            rw [h0] at this; cases this
          · omega
      refine ⟨?_, ?_, ?_⟩
      · intro r hr
        rcases List.mem_append.1 hr with hr | hr
        · have := h.pos r hr; omega
        · simp at hr; subst hr; simp
      · rw [List.pairwise_append]
        refine ⟨h.ris, by simp, fun a ha b hb => ?_⟩
        simp at hb; subst hb
        exact hlt a ha
      · intro i hi
        by_cases e : i = k
        · subst e
          simp only [hk', true_iff]
          exact ⟨(i, 0 + 1), by simp, by simp, by simp⟩
        · rw [h.cov i (by omega)]
          constructor
          · rintro ⟨r, hr, h1⟩; exact ⟨r, by simp [hr], h1⟩
          · rintro ⟨r, hr, h1, h2⟩
            rcases List.mem_append.1 hr with hr | hr
            · exact ⟨r, hr, h1, h2⟩
            · simp at hr; subst hr; simp at h1 h2; omega
    · rw [if_neg h0]
      have h1 : 0 < k := by omega
      have h2 : f (k - 1) = false := by
        cases e : f (k - 1)
        · rfl
        · exact absurd (.inr e) h0
      obtain ⟨A, a, l, rfl, hal⟩ := h.last h1 h2
      rw [bump_last]
      have hp := List.pairwise_append.1 h.ris
      have hl := h.pos (a, l) (by simp)
      simp only at hl
      refine ⟨?_, ?_, ?_⟩
      · intro r hr
        rcases List.mem_append.1 hr with hr | hr
        · have := h.pos r (by simp [hr]); omega
        · simp at hr; subst hr; simp; omega
      · rw [List.pairwise_append]
        refine ⟨hp.1, by simp, fun x hx b hb => ?_⟩
        simp at hb; subst hb
        exact hp.2.2 x hx (a, l) (by simp)
      · intro i hi
        by_cases e : i = k
        · subst e
          simp only [hk', true_iff]
          exact ⟨(a, l + 1), by simp, by simp; omega, by simp; omega⟩
        · rw [h.cov i (by omega)]
          constructor
          · rintro ⟨r, hr, h3, h4⟩
            rcases List.mem_append.1 hr with hr | hr
            · exact ⟨r, by simp [hr], h3, h4⟩
            · simp at hr; subst hr; exact ⟨(a, l + 1), by simp, h3, by simp at h4 ⊢; omega⟩
          · rintro ⟨r, hr, h3, h4⟩
            rcases List.mem_append.1 hr with hr | hr
            · exact ⟨r, by simp [hr], h3, h4⟩
            · simp at hr; subst hr; exact ⟨(a, l), by simp, h3, by simp at h4 ⊢; omega⟩

theorem freeL_FL (f : Nat → Bool) : ∀ n, FL n f (freeL f n)
  | 0 => FL.nil f
  | k + 1 => (freeL_FL f k).more

/-- There is one such list alone. -/
theorem cov_one : ∀ (L M : List (Nat × Nat)), L.Pairwise (fun r s => r.1 + r.2 < s.1) → M.Pairwise (fun r s => r.1 + r.2 < s.1) → (∀ r ∈ L, 1 ≤ r.2) → (∀ r ∈ M, 1 ≤ r.2) →
    (∀ i, (∃ r ∈ L, r.1 ≤ i ∧ i < r.1 + r.2) ↔ ∃ r ∈ M, r.1 ≤ i ∧ i < r.1 + r.2) → L = M
  | [], [], _, _, _, _, _ => rfl
  | [], s :: M, _, _, _, hM, h => by
    have := (h s.1).2 ⟨s, by simp, by omega, by have := hM s (by simp); omega⟩
    simp at this
  | r :: L, [], _, _, hL, _, h => by
    have := (h r.1).1 ⟨r, by simp, by omega, by have := hL r (by simp); omega⟩
    simp at this
  | r :: L, s :: M, pL, pM, hL, hM, h => by
    rw [List.pairwise_cons] at pL pM
    have hr := hL r (by simp)
    have hs := hM s (by simp)
    have h1 : s.1 ≤ r.1 := by
      obtain ⟨x, hx, h1, h2⟩ := (h r.1).1 ⟨r, by simp, by omega, by omega⟩
      rcases List.mem_cons.1 hx with rfl | hx
      · exact h1
      · have := pM.1 x hx; omega
    have h2 : r.1 ≤ s.1 := by
      obtain ⟨x, hx, h3, h4⟩ := (h s.1).2 ⟨s, by simp, by omega, by omega⟩
      rcases List.mem_cons.1 hx with e | hx
      · subst e; exact h3
      · have := pL.1 x hx; omega
    have h3 : ¬ r.1 + r.2 < s.1 + s.2 := by
      intro hlt
      obtain ⟨x, hx, h3, h4⟩ := (h (r.1 + r.2)).2 ⟨s, by simp, by omega, by omega⟩
      rcases List.mem_cons.1 hx with rfl | hx
      · omega
      · have := pL.1 x hx; omega
    have h4 : ¬ s.1 + s.2 < r.1 + r.2 := by
      intro hlt
      obtain ⟨x, hx, h3, h4⟩ := (h (s.1 + s.2)).1 ⟨r, by simp, by omega, by omega⟩
      rcases List.mem_cons.1 hx with rfl | hx
      · omega
      · have := pM.1 x hx; omega
    obtain ⟨r1, r2⟩ := r
    obtain ⟨s1, s2⟩ := s
    simp only at h1 h2 h3 h4 hr hs pL pM h
    obtain rfl : r1 = s1 := by omega
    obtain rfl : r2 = s2 := by omega
    congr 1
    refine cov_one L M pL.2 pM.2 (fun x hx => hL x (by simp [hx])) (fun x hx => hM x (by simp [hx])) (fun i => ?_)
    constructor
    · rintro ⟨x, hx, h5, h6⟩
      have := pL.1 x hx
      obtain ⟨y, hy, h7, h8⟩ := (h i).1 ⟨x, by simp [hx], h5, h6⟩
      rcases List.mem_cons.1 hy with rfl | hy
      · simp only at h7 h8; omega
      · exact ⟨y, hy, h7, h8⟩
    · rintro ⟨x, hx, h5, h6⟩
      have := pM.1 x hx
      obtain ⟨y, hy, h7, h8⟩ := (h i).2 ⟨x, by simp [hx], h5, h6⟩
      rcases List.mem_cons.1 hy with rfl | hy
      · simp only at h7 h8; omega
      · exact ⟨y, hy, h7, h8⟩

theorem FL.one {n : Nat} {f : Nat → Bool} {L M : List (Nat × Nat)} (h : FL n f L) (k : FL n f M) : L = M := by
  refine cov_one L M h.ris k.ris (fun r hr => (h.pos r hr).1) (fun r hr => (k.pos r hr).1) (fun i => ?_)
  by_cases hi : i < n
  · rw [← h.cov i hi, ← k.cov i hi]
  · constructor
    · rintro ⟨r, hr, h1, h2⟩; have := h.pos r hr; omega
    · rintro ⟨r, hr, h1, h2⟩; have := k.pos r hr; omega
theorem FL.eq {n : Nat} {f : Nat → Bool} {L : List (Nat × Nat)} (h : FL n f L) : L = freeL f n := h.one (freeL_FL f n)

theorem freeL_len (f : Nat → Bool) : ∀ n, (freeL f n).length ≤ n
  | 0 => by simp [freeL]
  | k + 1 => by
    have := freeL_len f k
    rw [freeL]
    split
    · omega
    · split
      · rw [bump_last]; simp; omega
      · rename_i h1 h2
        have h0 : 0 < k := by omega
        have hf : f (k - 1) = false := by
          cases e : f (k - 1)
          · rfl
          · exact absurd (.inr e) h2
        obtain ⟨A, a, l, e, _⟩ := (freeL_FL f k).last h0 hf
        rw [e, bump_last]
        rw [e] at this
        simp at this ⊢; omega

/-! ### units turned -/
def turn (f : Nat → Bool) (p k : Nat) (v : Bool) : Nat → Bool := fun i => if p ≤ i ∧ i < p + k then v else f i
/-- All k units from p on are so. -/
def AllF (f : Nat → Bool) (p k : Nat) (v : Bool) : Prop := ∀ i, p ≤ i → i < p + k → f i = v

theorem turn_in {f : Nat → Bool} {p k : Nat} {v : Bool} {i : Nat} (h1 : p ≤ i) (h2 : i < p + k) : turn f p k v i = v := by simp [turn, h1, h2]
theorem turn_out {f : Nat → Bool} {p k : Nat} {v : Bool} {i : Nat} (h : ¬ (p ≤ i ∧ i < p + k)) : turn f p k v i = f i := by simp [turn, h]

def notE (r : Nat × Nat) : Bool := r.2 != 0

theorem cut_FL {n : Nat} {f : Nat → Bool} {A B : List (Nat × Nat)} {a l u k : Nat} (h : FL n f (A ++ (a, l) :: B)) (h1 : a ≤ u) (h2 : u + k ≤ a + l) (hk : 1 ≤ k) :
    FL n (turn f u k true) (A ++ [(a, u - a), (u + k, a + l - (u + k))].filter notE ++ B) := by
  obtain ⟨pA, pB, pAB⟩ := List.pairwise_append.1 h.ris
  rw [List.pairwise_cons] at pB
  have hA : ∀ r ∈ A, r.1 + r.2 < a := fun r hr => pAB r hr (a, l) (by simp)
  have hB : ∀ r ∈ B, a + l < r.1 := fun r hr => pB.1 r hr
  have hal := h.pos (a, l) (by simp)
  simp only at hal
  have hX : ∀ r ∈ [(a, u - a), (u + k, a + l - (u + k))].filter notE, 1 ≤ r.2 ∧ ((r.1 = a ∧ r.2 = u - a) ∨ (r.1 = u + k ∧ r.2 = a + l - (u + k))) := by
    intro r hr
    rw [List.mem_filter] at hr
    obtain ⟨hr, hn⟩ := hr
    simp [notE] at hn
    simp at hr
    rcases hr with rfl | rfl
    · exact ⟨by simp only at hn ⊢; omega, .inl ⟨rfl, rfl⟩⟩
    · exact ⟨by simp only at hn ⊢; omega, .inr ⟨rfl, rfl⟩⟩
  refine ⟨?_, ?_, ?_⟩
  · intro r hr
    rcases List.mem_append.1 hr with hr | hr
    · rcases List.mem_append.1 hr with hr | hr
      · exact h.pos r (by simp [hr])
      · have := hX r hr; omega
    · exact h.pos r (by simp [hr])
  · rw [List.pairwise_append, List.pairwise_append]
    refine ⟨⟨pA, ?_, ?_⟩, pB.2, ?_⟩
    · refine List.Pairwise.filter _ ?_
      rw [List.pairwise_cons]
      refine ⟨fun s hs => ?_, by simp⟩
      simp at hs; subst hs
      simp only; omega
    · intro r hr s hs
      have := hA r hr
      have := hX s hs
      omega
    · intro r hr s hs
      have h3 := hB s hs
      rcases List.mem_append.1 hr with hr | hr
      · have := hA r hr; omega
      · have := hX r hr; omega
  · intro i hi
    by_cases hin : u ≤ i ∧ i < u + k
    · rw [turn_in hin.1 hin.2]
      simp only [Bool.true_eq_false, false_iff]
      rintro ⟨r, hr, h3, h4⟩
      rcases List.mem_append.1 hr with hr | hr
      · rcases List.mem_append.1 hr with hr | hr
        · have := hA r hr; omega
        · have := hX r hr; omega
      · have := hB r hr; omega
    · rw [turn_out hin, h.cov i hi]
      constructor
      · rintro ⟨r, hr, h3, h4⟩
        rcases List.mem_append.1 hr with hr | hr
        · exact ⟨r, by simp [hr], h3, h4⟩
        · rcases List.mem_cons.1 hr with rfl | hr
          · simp only at h3 h4
            by_cases hu : i < u
            · exact ⟨(a, u - a), by simp [notE]; omega, h3, by simp only; omega⟩
            · exact ⟨(u + k, a + l - (u + k)), by simp [notE]; omega, by simp only; omega, by simp only; omega⟩
          · exact ⟨r, by simp [hr], h3, h4⟩
      · rintro ⟨r, hr, h3, h4⟩
        rcases List.mem_append.1 hr with hr | hr
        · rcases List.mem_append.1 hr with hr | hr
          · exact ⟨r, by simp [hr], h3, h4⟩
          · have := hX r hr
            exact ⟨(a, l), by simp, by simp only; omega, by simp only; omega⟩
        · exact ⟨r, by simp [hr], h3, h4⟩

/-- Units that are given back, and what touches them. -/
theorem join_FL {n : Nat} {f : Nat → Bool} {A B X Y : List (Nat × Nat)} {p k a l : Nat} (h : FL n f (A ++ X ++ (Y ++ B))) (hk : 1 ≤ k) (hn : p + k ≤ n)
    (hX : ∀ r ∈ A ++ X, r.1 + r.2 ≤ p) (hY : ∀ r ∈ Y ++ B, p + k ≤ r.1)
    (hA : ∀ r ∈ A, r.1 + r.2 < a) (hB : ∀ r ∈ B, a + l < r.1) (hap : a ≤ p) (hpl : p + k ≤ a + l)
    (hcov : ∀ i, (a ≤ i ∧ i < a + l) ↔ ((p ≤ i ∧ i < p + k) ∨ ∃ r ∈ X ++ Y, r.1 ≤ i ∧ i < r.1 + r.2)) (hln : a + l ≤ n) :
    FL n (turn f p k false) (A ++ [(a, l)] ++ B) := by
  obtain ⟨p1, p2, p12⟩ := List.pairwise_append.1 h.ris
  obtain ⟨pA, pX, pAX⟩ := List.pairwise_append.1 p1
  obtain ⟨pY, pB, pYB⟩ := List.pairwise_append.1 p2
  refine ⟨?_, ?_, ?_⟩
  · intro r hr
    rcases List.mem_append.1 hr with hr | hr
    · rcases List.mem_append.1 hr with hr | hr
      · exact h.pos r (by simp [hr])
      · simp at hr; subst hr; simp only; omega
    · exact h.pos r (by simp [hr])
  · rw [List.pairwise_append, List.pairwise_append]
    refine ⟨⟨pA, by simp, ?_⟩, pB, ?_⟩
    · intro r hr s hs
      simp at hs; subst hs
      exact hA r hr
    · intro r hr s hs
      rcases List.mem_append.1 hr with hr | hr
      · have := hA r hr; have := hB s hs; omega
      · simp at hr; subst hr; exact hB s hs
  · intro i hi
    by_cases hin : p ≤ i ∧ i < p + k
    · rw [turn_in hin.1 hin.2]
      simp only [true_iff]
      exact ⟨(a, l), by simp, by simp only; omega, by simp only; omega⟩
    · rw [turn_out hin, h.cov i hi]
      constructor
      · rintro ⟨r, hr, h3, h4⟩
        rcases List.mem_append.1 hr with hr | hr
        · rcases List.mem_append.1 hr with hr | hr
          · exact ⟨r, by simp [hr], h3, h4⟩
          · have := (hcov i).2 (.inr ⟨r, by simp [hr], h3, h4⟩)
            exact ⟨(a, l), by simp, this.1, this.2⟩
        · rcases List.mem_append.1 hr with hr | hr
          · have := (hcov i).2 (.inr ⟨r, by simp [hr], h3, h4⟩)
            exact ⟨(a, l), by simp, this.1, this.2⟩
          · exact ⟨r, by simp [hr], h3, h4⟩
      · rintro ⟨r, hr, h3, h4⟩
        rcases List.mem_append.1 hr with hr | hr
        · rcases List.mem_append.1 hr with hr | hr
          · exact ⟨r, by simp [hr], h3, h4⟩
          · simp at hr; subst hr
            rcases (hcov i).1 ⟨h3, h4⟩ with h5 | ⟨s, hs, h5, h6⟩
            · exact absurd h5 hin
            · rcases List.mem_append.1 hs with hs | hs
              · exact ⟨s, by simp [hs], h5, h6⟩
              · exact ⟨s, by simp [hs], h5, h6⟩
        · exact ⟨r, by simp [hr], h3, h4⟩
end Go.Proofs.Ytdpkmlkckhhcgaa
