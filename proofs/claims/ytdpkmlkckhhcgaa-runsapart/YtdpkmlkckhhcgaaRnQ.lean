/- Plain mathematics of layer 7: what is answered. -/
import Derived.Test.YtdpkmlkckhhcgaaRnP
namespace Go.Proofs.Ytdpkmlkckhhcgaa
set_option linter.unusedVariables false

/-- Ahead of the i-th run all end at or ahead of p, from it on all behind p. -/
def FindOK (L : List (Nat × Nat)) (p i : Nat) : Prop := i ≤ L.length ∧ (∀ r ∈ L.take i, r.1 + r.2 ≤ p) ∧ ∀ r ∈ L.drop i, p < r.1 + r.2

theorem list_parts {α : Type} (L : List α) (i : Nat) (h : i < L.length) : L = L.take i ++ L[i] :: L.drop (i + 1) := by
  rw [← List.drop_eq_getElem_cons h, List.take_append_drop]

theorem mem_drop {α : Type} (L : List α) (i : Nat) (h : i < L.length) : L[i] ∈ L.drop i := by
  rw [List.drop_eq_getElem_cons h]; exact List.mem_cons_self
theorem FL.behind {n : Nat} {f : Nat → Bool} {L : List (Nat × Nat)} (h : FL n f L) {i : Nat} (hi : i < L.length) : (∀ r ∈ L.take i, r.1 + r.2 < L[i].1) ∧ ∀ r ∈ L.drop (i + 1), L[i].1 + L[i].2 < r.1 := by
  have hp := h.ris
  rw [list_parts L i hi, List.pairwise_append, List.pairwise_cons] at hp
  exact ⟨fun r hr => hp.2.2 r hr _ List.mem_cons_self, fun r hr => hp.2.1.1 r hr⟩

theorem FL.run_of {n : Nat} {f : Nat → Bool} {L : List (Nat × Nat)} (h : FL n f L) {p : Nat} : ∀ k, 1 ≤ k → p + k ≤ n → AllF f p k false → ∃ r ∈ L, r.1 ≤ p ∧ p + k ≤ r.1 + r.2
  | 0, h0, _, _ => by omega
  | 1, _, hn, ha => by
    obtain ⟨r, hr, h1, h2⟩ := (h.cov p (by omega)).1 (ha p (by omega) (by omega))
    exact ⟨r, hr, h1, by omega⟩
  | k + 2, _, hn, ha => by
    obtain ⟨r, hr, h1, h2⟩ := FL.run_of h (k + 1) (by omega) (by omega) (fun i h1 h2 => ha i h1 (by omega))
    obtain ⟨s, hs, h3, h4⟩ := (h.cov (p + (k + 1)) (by omega)).1 (ha _ (by omega) (by omega))
    refine ⟨r, hr, h1, ?_⟩
    rcases pw_two h.ris hr hs with rfl | e | e <;> omega

theorem FL.has_end {n : Nat} {f : Nat → Bool} {L : List (Nat × Nat)} (h : FL n f L) {p : Nat} (hF : FindOK L p L.length) (hp : p < n) : f p = true := by
  obtain ⟨_, h1, h2⟩ := hF
  cases e : f p
  · obtain ⟨r, hr, h3, h4⟩ := (h.cov p hp).1 e
    have := h1 r (by simpa using hr)
    omega
  · rfl

theorem FL.has_at {n : Nat} {f : Nat → Bool} {L : List (Nat × Nat)} (h : FL n f L) {p i : Nat} (hF : FindOK L p i) (hp : p < n) (hi : i < L.length) : f p = decide (p < L[i].1) := by
  obtain ⟨_, h1, h2⟩ := hF
  have hb := h.behind hi
  have h3 := h2 L[i] (mem_drop L i hi)
  by_cases e : p < L[i].1
  · rw [decide_eq_true e]
    cases e' : f p
    · obtain ⟨r, hr, h4, h5⟩ := (h.cov p hp).1 e'
      rw [list_parts L i hi] at hr
      rcases List.mem_append.1 hr with hr | hr
      · have := h1 r hr; omega
      · rcases List.mem_cons.1 hr with rfl | hr
        · omega
        · have := hb.2 r hr; omega
    · rfl
  · rw [decide_eq_false e]
    exact (h.cov p hp).2 ⟨L[i], List.getElem_mem hi, by omega, h3⟩

theorem FL.mark_ok {n : Nat} {f : Nat → Bool} {L : List (Nat × Nat)} (h : FL n f L) {p k i : Nat} (hi : i < L.length) (h1 : L[i].1 ≤ p) (h2 : p + k ≤ L[i].1 + L[i].2) : AllF f p k false := fun j h3 h4 =>
  (h.cov j (by have := h.pos L[i] (List.getElem_mem hi); omega)).2 ⟨L[i], List.getElem_mem hi, by omega, by omega⟩

theorem FL.mark_no {n : Nat} {f : Nat → Bool} {L : List (Nat × Nat)} (h : FL n f L) {p k i : Nat} (hF : FindOK L p i) (hk : 1 ≤ k) (hn : p + k ≤ n) (ha : AllF f p k false) : ∃ hi : i < L.length, L[i].1 ≤ p ∧ p + k ≤ L[i].1 + L[i].2 := by
  obtain ⟨h0, h1, h2⟩ := hF
  obtain ⟨r, hr, h3, h4⟩ := h.run_of k hk hn ha
  rw [← List.take_append_drop i L] at hr
  rcases List.mem_append.1 hr with hr | hr
  · have := h1 r hr; omega
  · have hi : i < L.length := by
      rcases Nat.lt_or_ge i L.length with h' | h'
      · exact h'
      · rw [List.drop_eq_nil_of_le h'] at hr; cases hr
    refine ⟨hi, ?_⟩
    have h5 := h2 L[i] (mem_drop L i hi)
    rw [List.drop_eq_getElem_cons hi] at hr
    rcases List.mem_cons.1 hr with rfl | hr
    · exact ⟨h3, h4⟩
    · have := (h.behind hi).2 r hr; omega

theorem FL.give_ok {n : Nat} {f : Nat → Bool} {L : List (Nat × Nat)} (h : FL n f L) {p k i : Nat} (hF : FindOK L p i) (hn : p + k ≤ n) (hb : ∀ hi : i < L.length, p + k ≤ L[i].1) : AllF f p k true := by
  intro j h3 h4
  obtain ⟨h0, h1, h2⟩ := hF
  cases e : f j
  · obtain ⟨r, hr, h5, h6⟩ := (h.cov j (by omega)).1 e
    rw [← List.take_append_drop i L] at hr
    rcases List.mem_append.1 hr with hr | hr
    · have := h1 r hr; omega
    · have hi : i < L.length := by
        rcases Nat.lt_or_ge i L.length with h' | h'
        · exact h'
        · rw [List.drop_eq_nil_of_le h'] at hr; cases hr
      have h7 := hb hi
      rw [List.drop_eq_getElem_cons hi] at hr
      rcases List.mem_cons.1 hr with rfl | hr
      · omega
      · have := (h.behind hi).2 r hr; omega
  · rfl

theorem FL.give_no {n : Nat} {f : Nat → Bool} {L : List (Nat × Nat)} (h : FL n f L) {p k i : Nat} (hF : FindOK L p i) (hk : 1 ≤ k) (ha : AllF f p k true) (hi : i < L.length) : p + k ≤ L[i].1 := by
  obtain ⟨h0, h1, h2⟩ := hF
  have h5 := h2 L[i] (mem_drop L i hi)
  have h6 := h.pos L[i] (List.getElem_mem hi)
  rcases Nat.lt_or_ge L[i].1 (p + k) with h7 | h7
  · exfalso
    have h8 : f (max p L[i].1) = false := (h.cov _ (by omega)).2 ⟨L[i], List.getElem_mem hi, by omega, by omega⟩
    rw [ha _ (by omega) (by omega)] at h8
    cases h8
  · exact h7

/-! ### units side by side -/
def TakeIs (n : Nat) (f : Nat → Bool) (k : Nat) : Option Nat → Prop
  | none => ∀ p, p + k ≤ n → ¬ AllF f p k false
  | some p => p + k ≤ n ∧ AllF f p k false ∧ ∀ q, q < p → ¬ AllF f q k false
theorem TakeIs.one {n : Nat} {f : Nat → Bool} {k : Nat} : ∀ {o o' : Option Nat}, TakeIs n f k o → TakeIs n f k o' → o = o'
  | none, none, _, _ => rfl
  | none, some p, h, h' => absurd h'.2.1 (h p h'.1)
  | some p, none, h, h' => absurd h.2.1 (h' p h.1)
  | some p, some q, h, h' => by
    rcases Nat.lt_trichotomy p q with e | e | e
    · exact absurd h.2.1 (h'.2.2 p e)
    · rw [e]
    · exact absurd h'.2.1 (h.2.2 q e)

theorem FL.take_some {n : Nat} {f : Nat → Bool} {L : List (Nat × Nat)} (h : FL n f L) {k i : Nat} (hk : 1 ≤ k) (hi : i < L.length) (h1 : k ≤ L[i].2) (h2 : ∀ r ∈ L.take i, r.2 < k) : TakeIs n f k (some L[i].1) := by
  have hp := h.pos L[i] (List.getElem_mem hi)
  refine ⟨by omega, h.mark_ok hi (Nat.le_refl _) (by omega), fun q hq ha => ?_⟩
  obtain ⟨r, hr, h3, h4⟩ := h.run_of k hk (by omega) ha
  rw [list_parts L i hi] at hr
  rcases List.mem_append.1 hr with hr | hr
  · have := h2 r hr; omega
  · rcases List.mem_cons.1 hr with rfl | hr
    · omega
    · have := (h.behind hi).2 r hr; omega
theorem FL.take_none {n : Nat} {f : Nat → Bool} {L : List (Nat × Nat)} (h : FL n f L) {k : Nat} (hk : 1 ≤ k) (h2 : ∀ r ∈ L, r.2 < k) : TakeIs n f k none := by
  intro q hq ha
  obtain ⟨r, hr, h3, h4⟩ := h.run_of k hk hq ha
  have := h2 r hr
  omega

/-- What Take answers, and what is taken behind it. -/
def TakeR (n : Nat) (f : Nat → Bool) (k : Int) (x e : Int) (f' : Nat → Bool) : Prop :=
  (k < 1 ∧ x = 0 ∧ e = 2 ∧ f' = f) ∨ (1 ≤ k ∧ TakeIs n f k.toNat none ∧ x = 0 ∧ e = 7 ∧ f' = f) ∨ (1 ≤ k ∧ ∃ p, TakeIs n f k.toNat (some p) ∧ x = (p : Nat) ∧ e = 0 ∧ f' = turn f p k.toNat true)
theorem TakeR.one {n : Nat} {f : Nat → Bool} {k x e x' e' : Int} {g g' : Nat → Bool} (h : TakeR n f k x e g) (h' : TakeR n f k x' e' g') : x = x' ∧ e = e' ∧ g = g' := by
  rcases h with ⟨h1, rfl, rfl, rfl⟩ | ⟨h1, h2, rfl, rfl, rfl⟩ | ⟨h1, p, h2, rfl, rfl, rfl⟩
  · rcases h' with ⟨h1', rfl, rfl, rfl⟩ | ⟨h1', h2', rfl, rfl, rfl⟩ | ⟨h1', p', h2', rfl, rfl, rfl⟩
    · exact ⟨rfl, rfl, rfl⟩
    · omega
    · omega
  · rcases h' with ⟨h1', rfl, rfl, rfl⟩ | ⟨h1', h2', rfl, rfl, rfl⟩ | ⟨h1', p', h2', rfl, rfl, rfl⟩
    · omega
    · exact ⟨rfl, rfl, rfl⟩
    · cases h2.one h2'
  · rcases h' with ⟨h1', rfl, rfl, rfl⟩ | ⟨h1', h2', rfl, rfl, rfl⟩ | ⟨h1', p', h2', rfl, rfl, rfl⟩
    · omega
    · cases h2.one h2'
    · cases h2.one h2'
      exact ⟨rfl, rfl, rfl⟩
/-- What Mark (v: true) and Give (v: false) answer. -/
def TurnR (n : Nat) (f : Nat → Bool) (x k : Int) (v : Bool) (e : Int) (f' : Nat → Bool) : Prop :=
  ((k < 1 ∨ x < 0 ∨ (n : Int) < x + k) ∧ e = 2 ∧ f' = f) ∨ (1 ≤ k ∧ 0 ≤ x ∧ x + k ≤ (n : Int) ∧ ¬ AllF f x.toNat k.toNat (!v) ∧ e = 9 ∧ f' = f) ∨
    (1 ≤ k ∧ 0 ≤ x ∧ x + k ≤ (n : Int) ∧ AllF f x.toNat k.toNat (!v) ∧ e = 0 ∧ f' = turn f x.toNat k.toNat v)
theorem TurnR.one {n : Nat} {f : Nat → Bool} {x k e e' : Int} {v : Bool} {g g' : Nat → Bool} (h : TurnR n f x k v e g) (h' : TurnR n f x k v e' g') : e = e' ∧ g = g' := by
  rcases h with ⟨h1, rfl, rfl⟩ | ⟨h1, h2, h3, h4, rfl, rfl⟩ | ⟨h1, h2, h3, h4, rfl, rfl⟩
  · rcases h' with ⟨h1', rfl, rfl⟩ | ⟨h1', h2', h3', h4', rfl, rfl⟩ | ⟨h1', h2', h3', h4', rfl, rfl⟩
    · exact ⟨rfl, rfl⟩
    · omega
    · omega
  · rcases h' with ⟨h1', rfl, rfl⟩ | ⟨h1', h2', h3', h4', rfl, rfl⟩ | ⟨h1', h2', h3', h4', rfl, rfl⟩
    · omega
    · exact ⟨rfl, rfl⟩
    · exact absurd h4' h4
  · rcases h' with ⟨h1', rfl, rfl⟩ | ⟨h1', h2', h3', h4', rfl, rfl⟩ | ⟨h1', h2', h3', h4', rfl, rfl⟩
    · omega
    · exact absurd h4 h4'
    · exact ⟨rfl, rfl⟩
def hasF (n : Nat) (f : Nat → Bool) (x : Int) : Bool := decide (0 ≤ x) && decide (x < (n : Int)) && f x.toNat

/-! ### sums -/
def sumL : List (Nat × Nat) → Nat
  | [] => 0
  | r :: L => r.2 + sumL L
def maxL : List (Nat × Nat) → Nat
  | [] => 0
  | r :: L => max r.2 (maxL L)
theorem sumL_append : ∀ (A B : List (Nat × Nat)), sumL (A ++ B) = sumL A + sumL B
  | [], B => by simp [sumL]
  | r :: A, B => by simp [sumL, sumL_append A B]; omega
theorem maxL_append : ∀ (A B : List (Nat × Nat)), maxL (A ++ B) = max (maxL A) (maxL B)
  | [], B => by simp [maxL]
  | r :: A, B => by simp [maxL, maxL_append A B]
theorem maxL_ge : ∀ {L : List (Nat × Nat)} {r : Nat × Nat}, r ∈ L → r.2 ≤ maxL L
  | x :: L, r, h => by
    rcases List.mem_cons.1 h with rfl | h
    · simp [maxL]; omega
    · have := maxL_ge h; simp [maxL]; omega
theorem maxL_in : ∀ (L : List (Nat × Nat)), maxL L = 0 ∨ ∃ r ∈ L, r.2 = maxL L
  | [] => .inl rfl
  | x :: L => by
    rcases maxL_in L with h | ⟨r, hr, h⟩
    · rcases Nat.eq_zero_or_pos x.2 with h0 | h0
      · left; simp [maxL, h, h0]
      · right; exact ⟨x, by simp, by simp [maxL]; omega⟩
    · rcases Nat.lt_or_ge x.2 (maxL L) with h0 | h0
      · right; exact ⟨r, by simp [hr], by simp [maxL]; omega⟩
      · right; exact ⟨x, by simp, by simp [maxL]; omega⟩
theorem sumL_snoc (L : List (Nat × Nat)) (r : Nat × Nat) : sumL (L ++ [r]) = sumL L + r.2 := by rw [sumL_append]; simp [sumL]
theorem maxL_snoc (L : List (Nat × Nat)) (r : Nat × Nat) : maxL (L ++ [r]) = max (maxL L) r.2 := by rw [maxL_append]; simp [maxL]

theorem sumL_le {n : Nat} {f : Nat → Bool} : ∀ {L : List (Nat × Nat)} {lo : Nat}, lo ≤ n → (∀ r ∈ L, lo ≤ r.1) → (∀ r ∈ L, r.1 + r.2 ≤ n) → L.Pairwise (fun r s => r.1 + r.2 < s.1) → lo + sumL L ≤ n
  | [], lo, h0, _, _, _ => by simpa [sumL] using h0
  | r :: L, lo, h0, h1, h2, h3 => by
    rw [List.pairwise_cons] at h3
    have a1 := h1 r (by simp)
    have a2 := h2 r (by simp)
    have := sumL_le (n := n) (f := f) (L := L) (lo := r.1 + r.2) a2 (fun s hs => by have := h3.1 s hs; omega) (fun s hs => h2 s (by simp [hs])) h3.2
    simp [sumL]; omega
theorem FL.sum_le {n : Nat} {f : Nat → Bool} {L : List (Nat × Nat)} (h : FL n f L) : sumL L ≤ n := by
  have := sumL_le (n := n) (f := f) (L := L) (lo := 0) (by omega) (fun _ _ => by omega) (fun r hr => (h.pos r hr).2) h.ris
  omega

theorem sumL_filter : ∀ (L : List (Nat × Nat)), sumL (L.filter notE) = sumL L
  | [] => rfl
  | r :: L => by
    by_cases h : notE r = true
    · rw [List.filter_cons_of_pos h]; simp [sumL, sumL_filter L]
    · rw [List.filter_cons_of_neg h]
      have : r.2 = 0 := by simpa [notE] using h
      simp [sumL, sumL_filter L, this]
theorem sum_cut (A B : List (Nat × Nat)) (a l u k : Nat) (h1 : a ≤ u) (h2 : u + k ≤ a + l) : sumL (A ++ [(a, u - a), (u + k, a + l - (u + k))].filter notE ++ B) + k = sumL (A ++ (a, l) :: B) := by
  have e : sumL ([(a, u - a), (u + k, a + l - (u + k))].filter notE) = l - k := by
    rw [sumL_filter]; simp [sumL]; omega
  rw [sumL_append, sumL_append, e, sumL_append]
  simp [sumL]; omega

theorem sum_turn {n : Nat} {f : Nat → Bool} {p k : Nat} (hk : 1 ≤ k) (hn : p + k ≤ n) (ha : AllF f p k false) : sumL (freeL (turn f p k true) n) + k = sumL (freeL f n) := by
  have h := freeL_FL f n
  obtain ⟨r, hr, h1, h2⟩ := h.run_of k hk hn ha
  obtain ⟨A, B, e⟩ := List.append_of_mem hr
  rw [e] at h
  have := cut_FL (A := A) (B := B) (a := r.1) (l := r.2) h h1 h2 hk
  rw [← this.eq, sum_cut A B r.1 r.2 p k h1 h2, e]

theorem turn_back {f : Nat → Bool} {p k : Nat} (ha : AllF f p k false) : turn (turn f p k true) p k false = f := by
  funext i
  by_cases h : p ≤ i ∧ i < p + k
  · rw [turn_in h.1 h.2, ha i h.1 h.2]
  · rw [turn_out h, turn_out h]

theorem free_all {n : Nat} {f : Nat → Bool} (h : ∀ i, i < n → f i = false) : freeL f n = if n = 0 then [] else [(0, n)] := by
  by_cases h0 : n = 0
  · subst h0; rfl
  · rw [if_neg h0]
    refine (FL.eq ⟨?_, by simp, ?_⟩).symm
    · intro r hr; simp at hr; subst hr; simp; omega
    · intro i hi
      simp only [h i hi, true_iff]
      exact ⟨(0, n), by simp, by simp, by simpa using hi⟩
theorem free_new (n : Nat) : [(0, n)].filter notE = freeL (fun _ => false) n := by
  rw [free_all (fun _ _ => rfl)]
  by_cases h0 : n = 0
  · simp [h0, notE]
  · simp [h0, notE]
theorem free_new_sum (n : Nat) : sumL (freeL (fun _ => false) n) = n ∧ maxL (freeL (fun _ => false) n) = n := by
  rw [free_all (fun _ _ => rfl)]
  by_cases h0 : n = 0
  · simp [h0, sumL, maxL]
  · simp [h0, sumL, maxL]
end Go.Proofs.Ytdpkmlkckhhcgaa
