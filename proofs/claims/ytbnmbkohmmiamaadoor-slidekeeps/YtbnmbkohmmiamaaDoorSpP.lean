/- Plain mathematics of layer 10: which spans may be, their slots and places, and lists of slots. -/
import Derived.Test.YtbnmbkohmmiamaaDoorSetC
import Derived.Test.YtbnmbkohmmiamaaDoorSqP
namespace Go.Proofs.YtbnmbkohmmiamaaDoor
set_option linter.unusedVariables false

/-- The pages of a span. -/
def pgsN (c s : Int) : Nat := if c = 7 then pagesN s else 1
/-- The bytes of a slot. -/
def szI (c s : Int) : Int := if c = 7 then s else sizeI c
/-- The slots of a span. -/
def slN (c : Int) : Nat := (slotsI c).toNat
/-- What forbids a span. -/
def newE (p c s : Int) : Int :=
  if c < 0 ∨ 7 < c then 11 else if (c < 7 ∧ s ≠ 0) ∨ (c = 7 ∧ ofI s ≠ 7) then 2 else if p < 0 ∨ 4096 - (pgsN c s : Int) < p then 10 else 0

/-- A span that may be. -/
structure Rt (p c s : Int) : Prop where
  c0 : 0 ≤ c
  c7 : c ≤ 7
  sm : c < 7 → s = 0
  lg : c = 7 → ofI s = 7
  p0 : 0 ≤ p
  p1 : p + (pgsN c s : Int) ≤ 4096

theorem newE_cases (p c s : Int) : ((c < 0 ∨ 7 < c) ∧ newE p c s = 11) ∨ (0 ≤ c ∧ c ≤ 7 ∧ ((c < 7 ∧ s ≠ 0) ∨ (c = 7 ∧ ofI s ≠ 7)) ∧ newE p c s = 2) ∨
    (0 ≤ c ∧ c ≤ 7 ∧ (c < 7 → s = 0) ∧ (c = 7 → ofI s = 7) ∧ (p < 0 ∨ 4096 - (pgsN c s : Int) < p) ∧ newE p c s = 10) ∨ (Rt p c s ∧ newE p c s = 0) := by
  by_cases h1 : c < 0 ∨ 7 < c
  · exact .inl ⟨h1, by unfold newE; rw [if_pos h1]⟩
  · by_cases h2 : (c < 7 ∧ s ≠ 0) ∨ (c = 7 ∧ ofI s ≠ 7)
    · exact .inr (.inl ⟨by omega, by omega, h2, by unfold newE; rw [if_neg h1, if_pos h2]⟩)
    · have h3 : c < 7 → s = 0 := fun h => Decidable.byContradiction fun e => h2 (.inl ⟨h, e⟩)
      have h4 : c = 7 → ofI s = 7 := fun h => Decidable.byContradiction fun e => h2 (.inr ⟨h, e⟩)
      by_cases h5 : p < 0 ∨ 4096 - (pgsN c s : Int) < p
      · exact .inr (.inr (.inl ⟨by omega, by omega, h3, h4, h5, by unfold newE; rw [if_neg h1, if_neg h2, if_pos h5]⟩))
      · exact .inr (.inr (.inr ⟨⟨by omega, by omega, h3, h4, by omega, by omega⟩, by unfold newE; rw [if_neg h1, if_neg h2, if_neg h5]⟩))
theorem newE_rt {p c s : Int} (h : newE p c s = 0) : Rt p c s := by
  rcases newE_cases p c s with ⟨_, e⟩ | ⟨_, _, _, e⟩ | ⟨_, _, _, _, _, e⟩ | ⟨r, _⟩
  · rw [e] at h; cases h
  · rw [e] at h; cases h
  · rw [e] at h; cases h
  · exact r

theorem eight {c : Int} (h0 : 0 ≤ c) (h7 : c ≤ 7) : c = 0 ∨ c = 1 ∨ c = 2 ∨ c = 3 ∨ c = 4 ∨ c = 5 ∨ c = 6 ∨ c = 7 := by omega
theorem pgsN_le (c s : Int) : pgsN c s ≤ 16 := by
  unfold pgsN; split
  · exact pagesN_le s
  · omega
/-- What is so of the slots of each span. -/
def Facts (c s : Int) : Prop := 1 ≤ slN c ∧ slN c ≤ 16 ∧ slotsI c = (slN c : Int) ∧ 1 ≤ szI c s ∧ szI c s ≤ 4096 ∧ (slN c : Int) * szI c s ≤ 256 * (pgsN c s : Int) ∧ 1 ≤ pgsN c s ∧ pgsN c s ≤ 16 ∧ pagesN (szI c s) = pgsN c s ∧ (2 ≤ slN c → szI c s ≤ 128) ∧ 16 ≤ szI c s
theorem facts_small (c s : Int) (k : Nat) (z : Int) (h1 : slN c = k) (h2 : szI c s = z) (h3 : pgsN c s = 1) (h4 : slotsI c = (k : Int)) (h5 : pagesN z = 1) (g1 : 1 ≤ k) (g2 : k ≤ 16) (g3 : 16 ≤ z) (g4 : z ≤ 128) (g5 : (k : Int) * z ≤ 256) : Facts c s := by
  unfold Facts
  rw [h1, h2, h3, h4, h5]
  refine ⟨g1, g2, rfl, by omega, by omega, by omega, by omega, by omega, rfl, fun _ => by omega, by omega⟩
theorem Rt.facts {p c s : Int} (h : Rt p c s) : Facts c s := by
  rcases eight h.c0 h.c7 with rfl | rfl | rfl | rfl | rfl | rfl | rfl | rfl
  · exact facts_small 0 s 16 16 rfl rfl rfl rfl (by decide) (by decide) (by decide) (by decide) (by decide) (by decide)
  · exact facts_small 1 s 10 24 rfl rfl rfl rfl (by decide) (by decide) (by decide) (by decide) (by decide) (by decide)
  · exact facts_small 2 s 8 32 rfl rfl rfl rfl (by decide) (by decide) (by decide) (by decide) (by decide) (by decide)
  · exact facts_small 3 s 5 48 rfl rfl rfl rfl (by decide) (by decide) (by decide) (by decide) (by decide) (by decide)
  · exact facts_small 4 s 4 64 rfl rfl rfl rfl (by decide) (by decide) (by decide) (by decide) (by decide) (by decide)
  · exact facts_small 5 s 2 96 rfl rfl rfl rfl (by decide) (by decide) (by decide) (by decide) (by decide) (by decide)
  · exact facts_small 6 s 2 128 rfl rfl rfl rfl (by decide) (by decide) (by decide) (by decide) (by decide) (by decide)
  have e := h.lg rfl
  obtain ⟨e1, e2, e3⟩ := pagesN_large e
  have s1 : slN 7 = 1 := rfl
  have s2 : szI 7 s = s := rfl
  have s3 : pgsN 7 s = pagesN s := rfl
  have s4 : slotsI 7 = 1 := rfl
  unfold Facts
  rw [s1, s2, s3, s4, e1]
  refine ⟨?_, ?_, ?_, ?_, ?_, ?_, ?_, ?_, ?_, ?_, ?_⟩ <;> omega

/-- A slot's place, told without wrapping. -/
theorem Rt.place {p c s : Int} (h : Rt p c s) (i : Nat) (hi : i < slN c) : 0 ≤ (i : Int) * szI c s ∧ (i : Int) * szI c s ≤ 65536 ∧ (i : Int) * szI c s + szI c s ≤ 256 * (pgsN c s : Int) := by
  obtain ⟨f1, f2, f3, f4, f5, f6, _⟩ := h.facts
  have h0 : 0 ≤ (i : Int) * szI c s := Int.mul_nonneg (by omega) (by omega)
  have h1 : (i : Int) * szI c s ≤ 16 * 4096 := Int.mul_le_mul (by omega) f5 (by omega) (by omega)
  have h2 : ((i : Int) + 1) * szI c s ≤ (slN c : Int) * szI c s := Int.mul_le_mul_of_nonneg_right (by omega) (by omega)
  rw [Int.add_mul, Int.one_mul] at h2
  exact ⟨h0, h1, by omega⟩

/-- What Slot answers. -/
def SlotR (n : Nat) (p z x : Int) (r : Int) (ok : Bool) : Prop :=
  (ok = true ∧ ∃ i : Nat, i < n ∧ r = (i : Int) ∧ x = 256 * p + (i : Int) * z) ∨ (ok = false ∧ r = 0 ∧ ∀ i : Nat, i < n → x ≠ 256 * p + (i : Int) * z)
theorem mul_inj {i j : Nat} {z : Int} (hz : 1 ≤ z) (h : (i : Int) * z = (j : Int) * z) : i = j := by
  have := Int.eq_of_mul_eq_mul_right (by omega : z ≠ 0) h
  omega
theorem SlotR.one {n : Nat} {p z x r r' : Int} {ok ok' : Bool} (hz : 1 ≤ z) (h : SlotR n p z x r ok) (h' : SlotR n p z x r' ok') : r = r' ∧ ok = ok' := by
  rcases h with ⟨rfl, i, h1, rfl, h2⟩ | ⟨rfl, rfl, h1⟩ <;> rcases h' with ⟨rfl, j, k1, rfl, k2⟩ | ⟨rfl, rfl, k1⟩
  · have := mul_inj hz (by omega : (i : Int) * z = (j : Int) * z)
    exact ⟨by omega, rfl⟩
  · exact absurd h2 (k1 i h1)
  · exact absurd k2 (h1 j k1)
  · exact ⟨rfl, rfl⟩

/-- The slot ahead of the k-th of a list. -/
def prevI (l : List Int) (k : Nat) : Int := if k = 0 then -1 else l.getD (k - 1) 0
/-- Rising from a last one on, and all slots. -/
def okL (n : Nat) : Int → List Int → Bool
  | _, [] => true
  | t, x :: l => decide (t < x ∧ x < (n : Int)) && okL n x l
/-- Which slots a list names. -/
def fOf (l : List Int) : Nat → Bool := fun i => decide ((i : Int) ∈ l)

theorem okL_step (n : Nat) (t : Int) (l : List Int) (k : Nat) (h : k < l.length) : okL n t (l.drop k) = (decide (t < l.getD k 0 ∧ l.getD k 0 < (n : Int)) && okL n (l.getD k 0) (l.drop (k + 1))) := by
  rw [List.drop_eq_getElem_cons h, okL]
  simp [List.getD, h]
theorem okL_end (n : Nat) (t : Int) (l : List Int) (k : Nat) (h : l.length ≤ k) : okL n t (l.drop k) = true := by
  rw [List.drop_of_length_le h, okL]
theorem prevI_succ (l : List Int) (k : Nat) : prevI l (k + 1) = l.getD k 0 := by simp [prevI]

theorem okL_all : ∀ (l : List Int) (n : Nat) (t : Int), okL n t l = true → (∀ x ∈ l, t < x ∧ x < (n : Int)) ∧ l.Pairwise (· < ·)
  | [], _, _, _ => ⟨by simp, List.Pairwise.nil⟩
  | x :: l, n, t, h => by
    rw [okL, Bool.and_eq_true] at h
    have h1 := of_decide_eq_true h.1
    obtain ⟨k1, k2⟩ := okL_all l n x h.2
    refine ⟨fun y hy => ?_, List.pairwise_cons.2 ⟨fun y hy => (k1 y hy).1, k2⟩⟩
    rcases List.mem_cons.1 hy with rfl | hy
    · exact h1
    · have := k1 y hy; omega
theorem okL_of : ∀ (l : List Int) (n : Nat) (t : Int), (∀ x ∈ l, t < x ∧ x < (n : Int)) → l.Pairwise (· < ·) → okL n t l = true
  | [], _, _, _, _ => rfl
  | x :: l, n, t, h, hp => by
    obtain ⟨p1, p2⟩ := List.pairwise_cons.1 hp
    rw [okL, decide_eq_true (h x (by simp)), Bool.true_and]
    exact okL_of l n x (fun y hy => ⟨p1 y hy, (h y (by simp [hy])).2⟩) p2

theorem filt_step : ∀ (l : List Int) (m : Nat), l.Pairwise (· < ·) → l.filter (fun x => decide (x < ((m + 1 : Nat) : Int))) = l.filter (fun x => decide (x < (m : Int))) ++ (if fOf l m = true then [(m : Int)] else [])
  | [], m, _ => by simp [fOf]
  | x :: l, m, hp => by
    obtain ⟨p1, p2⟩ := List.pairwise_cons.1 hp
    have ih := filt_step l m p2
    rcases Int.lt_trichotomy x (m : Int) with h | h | h
    · have e1 : fOf (x :: l) m = fOf l m := by simp [fOf]; omega
      rw [List.filter_cons_of_pos (by simp; omega), List.filter_cons_of_pos (by simp; omega), ih, e1]
      rfl
    · have e1 : fOf (x :: l) m = true := by simp [fOf]; omega
      have e2 : l.filter (fun y => decide (y < ((m + 1 : Nat) : Int))) = [] := by
        rw [List.filter_eq_nil_iff]; intro y hy; have := p1 y hy; simp; omega
      have e3 : l.filter (fun y => decide (y < (m : Int))) = [] := by
        rw [List.filter_eq_nil_iff]; intro y hy; have := p1 y hy; simp; omega
      rw [List.filter_cons_of_pos (by simp; omega), List.filter_cons_of_neg (by simp; omega), e2, e3, if_pos e1, h]
      rfl
    · have e1 : fOf (x :: l) m = false := by
        simp [fOf]
        exact ⟨by omega, fun hm => by have := p1 _ hm; omega⟩
      have e2 : l.filter (fun y => decide (y < ((m + 1 : Nat) : Int))) = [] := by
        rw [List.filter_eq_nil_iff]; intro y hy; have := p1 y hy; simp; omega
      have e3 : l.filter (fun y => decide (y < (m : Int))) = [] := by
        rw [List.filter_eq_nil_iff]; intro y hy; have := p1 y hy; simp; omega
      rw [List.filter_cons_of_neg (by simp; omega), List.filter_cons_of_neg (by simp; omega), e2, e3, e1]
      rfl
theorem ls_filt (l : List Int) (hp : l.Pairwise (· < ·)) (h0 : ∀ x ∈ l, 0 ≤ x) : ∀ m, lsL (fOf l) m = l.filter (fun x => decide (x < (m : Int)))
  | 0 => by
    rw [lsL]; symm; rw [List.filter_eq_nil_iff]; intro y hy; have := h0 y hy; simp; omega
  | m + 1 => by rw [lsL, ls_filt l hp h0 m, filt_step l m hp]
/-- The slots that are taken, of a list of slots: that list. -/
theorem ls_of {n : Nat} {l : List Int} (h : okL n (-1) l = true) : lsL (fOf l) n = l := by
  obtain ⟨h1, h2⟩ := okL_all l n (-1) h
  rw [ls_filt l h2 (fun x hx => by have := h1 x hx; omega) n, List.filter_eq_self]
  intro x hx
  have := h1 x hx
  simp; omega
theorem fOf_within {n : Nat} {l : List Int} (h : okL n (-1) l = true) : ∀ i, fOf l i = true → i < n := by
  intro i hi
  have := ((okL_all l n (-1) h).1 (i : Int) (of_decide_eq_true hi)).2
  omega
theorem ls_rises (f : Nat → Bool) : ∀ n, (lsL f n).Pairwise (· < ·)
  | 0 => List.Pairwise.nil
  | n + 1 => by
    rw [lsL, List.pairwise_append]
    refine ⟨ls_rises f n, by split <;> simp, fun a ha b hb => ?_⟩
    obtain ⟨i, rfl, hi, _⟩ := lsL_mem f a n ha
    split at hb
    · simp at hb; omega
    · simp at hb
theorem ls_ok (f : Nat → Bool) (n : Nat) : okL n (-1) (lsL f n) = true := by
  refine okL_of _ n (-1) (fun x hx => ?_) (ls_rises f n)
  obtain ⟨i, rfl, hi, _⟩ := lsL_mem f x n hx
  omega
theorem ls_has (f : Nat → Bool) (i : Nat) (h : f i = true) : ∀ n, i < n → (i : Int) ∈ lsL f n
  | n + 1, hi => by
    rw [lsL, List.mem_append]
    rcases Nat.lt_or_eq_of_le (Nat.le_of_lt_succ hi) with h' | h'
    · exact .inl (ls_has f i h n h')
    · subst h'; rw [if_pos h]; simp
theorem fOf_ls {f : Nat → Bool} {n : Nat} (hw : ∀ i, f i = true → i < n) : fOf (lsL f n) = f := by
  funext i
  cases h : f i
  · refine decide_eq_false fun hm => ?_
    obtain ⟨j, e, _, hj⟩ := lsL_mem f _ n hm
    have : j = i := by omega
    rw [this, h] at hj; cases hj
  · exact decide_eq_true (ls_has f i h n (hw i h))
/-- One slot more of a list. -/
theorem fOf_more (l : List Int) (k : Nat) (h : k < l.length) (h0 : 0 ≤ l.getD k 0) : (fun x => if x = (l.getD k 0).toNat then true else fOf (l.take k) x) = fOf (l.take (k + 1)) := by
  have e : l.take (k + 1) = l.take k ++ [l.getD k 0] := by rw [List.take_succ_eq_append_getElem h]; simp [List.getD, h]
  funext x
  rw [e]
  unfold fOf
  by_cases hx : x = (l.getD k 0).toNat
  · rw [if_pos hx]; symm; apply decide_eq_true; rw [List.mem_append]; right; rw [List.mem_singleton]; omega
  · rw [if_neg hx]
    congr 1
    rw [List.mem_append, List.mem_singleton]
    refine propext ⟨.inl, fun h => h.resolve_right fun e => hx (by omega)⟩
theorem fOf_nil : fOf [] = fun _ => false := by funext i; simp [fOf]
end Go.Proofs.YtbnmbkohmmiamaaDoor
