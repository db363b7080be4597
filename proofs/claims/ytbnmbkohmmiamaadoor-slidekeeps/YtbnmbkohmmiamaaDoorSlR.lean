/- Plain mathematics of layer 13: what was slid together stands, and is slid no more. -/
import Derived.Test.YtbnmbkohmmiamaaDoorLbB
namespace Go.Proofs.YtbnmbkohmmiamaaDoor
set_option linter.unusedVariables false

theorem newE_of {p c s : Int} (r : Rt p c s) : newE p c s = 0 := by
  rcases newE_cases p c s with ⟨q, _⟩ | ⟨_, _, q, _⟩ | ⟨_, _, _, _, q, _⟩ | ⟨_, q⟩
  · have := r.c0; have := r.c7; omega
  · rcases q with ⟨q1, q2⟩ | ⟨q1, q2⟩
    · exact absurd (r.sm q1) q2
    · exact absurd (r.lg q1) q2
  · have := r.p1; have := r.p0; omega
  · exact q
/-- Only slots that there are are taken. -/
def InF (m : List Sn) (F : Nat → Nat → Bool) : Prop := ∀ i, i < m.length → ∀ x, F i x = true → x < (sn m i).sl
theorem cnt_ne (f : Nat → Bool) (k : Nat) : cnt f k ≠ 0 ↔ ∃ x, x < k ∧ f x = true := by
  rw [← lsN_len]
  constructor
  · intro h
    obtain ⟨x, hx⟩ := List.exists_mem_of_length_pos (Nat.pos_of_ne_zero h)
    exact ⟨x, (lsN_mem f x k).1 hx⟩
  · rintro ⟨x, hx⟩ h
    have := (lsN_mem f x k).2 hx
    rw [List.eq_nil_of_length_eq_zero h] at this
    cases this
/-- The spans that have slots that are taken. -/
def keepL (m : List Sn) (F : Nat → Nat → Bool) (k : Nat) : List Nat := (List.range k).filter (hasS m F)
theorem keepL_succ (m : List Sn) (F : Nat → Nat → Bool) (k : Nat) : keepL m F (k + 1) = keepL m F k ++ if hasS m F k = true then [k] else [] := by
  unfold keepL
  rw [List.range_succ, List.filter_append]
  congr 1
  by_cases h : hasS m F k = true
  · rw [if_pos h]; simp [h]
  · rw [if_neg h]; simp [h]
theorem keepL_mem {m : List Sn} {F : Nat → Nat → Bool} {k i : Nat} : i ∈ keepL m F k ↔ i < k ∧ hasS m F i = true := by
  unfold keepL; rw [List.mem_filter, List.mem_range]
theorem ownU_filter (c : Nat) (m : List Sn) : ∀ k, ownU c m k = (List.range k).filter (fun i => decide ((sn m i).cl = c))
  | 0 => rfl
  | k + 1 => by
    rw [ownU, ownU_filter c m k, List.range_succ, List.filter_append]
    congr 1
    by_cases h : (sn m k).cl = c
    · rw [if_pos h]; simp [h]
    · rw [if_neg h]; simp [h]
theorem told_keep (m : List Sn) (F : Nat → Nat → Bool) : ∀ k, toldU m F k = (keepL m F k).map (fun i => tellOne m F i (endU m F i))
  | 0 => rfl
  | k + 1 => by
    rw [toldU, told_keep m F k, keepL_succ, List.map_append]
    congr 1
    split <;> rfl
theorem end_sum (m : List Sn) (F : Nat → Nat → Bool) : ∀ k, endU m F k = ((keepL m F k).map (fun i => (sn m i).k)).sum
  | 0 => rfl
  | k + 1 => by
    rw [endU, end_sum m F k, keepL_succ, List.map_append, List.sum_append]
    congr 1
    split <;> simp
theorem keepL_len (m : List Sn) (F : Nat → Nat → Bool) (k : Nat) : (keepL m F k).length ≤ k := by
  unfold keepL
  have := List.length_filter_le (hasS m F) (List.range k)
  simpa using this
/-- What is kept ahead of the i-th that is kept. -/
theorem keep_pre (m : List Sn) (F : Nat → Nat → Bool) : ∀ k i (h : i < (keepL m F k).length), keepL m F ((keepL m F k)[i]) = (keepL m F k).take i
  | 0, i, h => by simp [keepL] at h
  | k + 1, i, h => by
    have e := keepL_succ m F k
    by_cases hs : hasS m F k = true
    · rw [if_pos hs] at e
      by_cases hi : i < (keepL m F k).length
      · have e1 : (keepL m F (k + 1))[i] = (keepL m F k)[i] := by simp only [e]; exact List.getElem_append_left hi
        rw [e1, keep_pre m F k i hi, e, List.take_append_of_le_length (by omega)]
      · have hl : (keepL m F (k + 1)).length = (keepL m F k).length + 1 := by rw [e]; simp
        have hi' : i = (keepL m F k).length := by omega
        subst hi'
        have e1 : (keepL m F (k + 1))[(keepL m F k).length] = k := by simp only [e]; rw [List.getElem_append_right (Nat.le_refl _)]; simp
        rw [e1, e, List.take_left]
    · rw [if_neg hs, List.append_nil] at e
      have hi : i < (keepL m F k).length := by rw [e] at h; exact h
      have e1 : (keepL m F (k + 1))[i] = (keepL m F k)[i] := by simp only [e]
      rw [e1, keep_pre m F k i hi, e]
/-- A question that once fails fails from there on: what answers it is the beginning. -/
theorem filter_pre (q : Nat → Bool) : ∀ (l : List Nat), (∀ i j (hij : i < j) (hj : j < l.length), q l[j] = true → q (l[i]'(by omega)) = true) → l.filter q = l.take (l.filter q).length
  | [], _ => rfl
  | a :: l, h => by
    by_cases ha : q a = true
    · rw [List.filter_cons_of_pos ha, List.length_cons, List.take_succ_cons]
      congr 1
      exact filter_pre q l (fun i j hij hj hq => h (i + 1) (j + 1) (by omega) (by simpa using hj) hq)
    · have : l.filter q = [] := by
        rw [List.filter_eq_nil_iff]
        intro x hx hq
        obtain ⟨j, hj, rfl⟩ := List.getElem_of_mem hx
        exact ha (h 0 (j + 1) (by omega) (by simpa using hj) (by simpa using hq))
      rw [List.filter_cons_of_neg ha, this]; rfl
/-- Taken are the first N slots of a class's spans. -/
theorem from_first {m : List Sn} {F : Nat → Nat → Bool} (sl : Nat) (hs : 0 < sl) : ∀ (l : List Nat) (N : Nat), (∀ i ∈ l, (sn m i).sl = sl) → (∀ r (hr : r < l.length), F l[r] = fun x => decide (x < sl ∧ r * sl + x < N)) → fromU m F l = (slotPl m l).take N
  | [], N, _, _ => by simp [fromU, slotPl]
  | a :: l, N, hl, hF => by
    have ha := hl a (by simp)
    have h0 := hF 0 (by simp)
    have ih := from_first (m := m) (F := F) sl hs l (N - sl) (fun i hi => hl i (by simp [hi])) (fun r hr => by
      have := hF (r + 1) (by simpa using hr)
      rw [List.getElem_cons_succ] at this
      rw [this]
      funext x
      congr 1
      apply propext
      rw [Nat.add_mul, Nat.one_mul]
      omega)
    unfold fromU slotPl at ih ⊢
    rw [List.flatMap_cons, List.flatMap_cons, ih, List.take_append]
    have e1 : lsN (F a) (sn m a).sl = List.range (min N sl) := by
      rw [show F a = fun x => decide (x < sl ∧ 0 * sl + x < N) from h0, ha]
      rw [← lsN_upto N sl]
      apply lsN_congr
      intro x hx
      congr 1
      apply propext
      omega
    rw [e1, List.length_map, List.length_range, ha]
    congr 1
    rw [← List.map_take, List.take_range]
theorem from_N {m : List Sn} {F : Nat → Nat → Bool} {c : Nat} (hc : c ≤ 7) (N : Nat) (hN : N ≤ (ownL c m).length * clSl c) (hF : ∀ r, r < (ownL c m).length → F ((ownL c m).getD r 0) = fun x => decide (x < clSl c ∧ r * clSl c + x < N)) : fromL c m F = (slotPl m (ownL c m)).take N ∧ (fromL c m F).length = N := by
  have e : fromL c m F = (slotPl m (ownL c m)).take N := from_first (clSl c) (clSl_pos c hc).1 _ N (fun i hi => clSl_eq (own_all i hi).2) (fun r hr => by
    have := hF r hr
    rw [getD_eq 0 hr] at this
    exact this)
  refine ⟨e, ?_⟩
  rw [e, List.length_take, slots_len]; omega
/-- Spans that are slid together already. -/
structure Slid (m : List Sn) (F : Nat → Nat → Bool) : Prop where
  has : ∀ i, i < m.length → hasS m F i = true
  pg : ∀ i, i < m.length → (sn m i).pg = endU m F i
  cls : ∀ c, c < 7 → ∃ N, N ≤ (ownL c m).length * clSl c ∧ ∀ r, r < (ownL c m).length → F ((ownL c m).getD r 0) = fun x => decide (x < clSl c ∧ r * clSl c + x < N)
theorem mv1_none {m : List Sn} {own frm : List Nat} {sl z : Nat} : ∀ j, (∀ i, i < j → frm.getD i 0 = toJ m own sl i) → mv1U m own frm sl z j = []
  | 0, _ => rfl
  | j + 1, h => by rw [mv1U, mv1_none j (fun i hi => h i (by omega)), h j (by omega)]; simp [mvIf]
theorem slid_gath {m : List Sn} {F G : Nat → Nat → Bool} (h : Slid m F) (hG : ∀ i, i < m.length → G i = F i) {c : Nat} (hc : c < 7) : gathV c m G = [] ∧ ∀ i, i < m.length → gathF c m G i = F i := by
  obtain ⟨N, hN, hF⟩ := h.cls c hc
  have hF' : ∀ r, r < (ownL c m).length → G ((ownL c m).getD r 0) = fun x => decide (x < clSl c ∧ r * clSl c + x < N) := fun r hr => by rw [hG _ (own_lt hr).1]; exact hF r hr
  obtain ⟨e1, e2⟩ := from_N (F := G) (by omega) N hN hF'
  constructor
  · unfold gathV
    apply mv1_none
    intro i hi
    rw [e2] at hi
    rw [e1, ← slots_get (by omega) i (by omega)]
    simp only [List.getD_eq_getElem?_getD, List.getElem?_take, if_pos hi]
  · intro i hi
    by_cases hcl : (sn m i).cl = c
    · obtain ⟨r, hr, rfl⟩ := own_has hi hcl
      rw [gath_at (by omega) r hr, e2, hF r hr]
    · rw [gath_else (by omega) hi hcl, hG i hi]
theorem slid_cls {m : List Sn} {F : Nat → Nat → Bool} (h : Slid m F) : ∀ c, c ≤ 7 → clsV m F c = [] ∧ ∀ i, i < m.length → clsF m F c i = F i
  | 0, _ => ⟨rfl, fun _ _ => rfl⟩
  | c + 1, hc => by
    obtain ⟨h1, h2⟩ := slid_cls h c (by omega)
    obtain ⟨g1, g2⟩ := slid_gath h h2 (c := c) (by omega)
    rw [clsV, clsF, h1, g1]
    exact ⟨rfl, g2⟩
theorem has_congr {m : List Sn} {F G : Nat → Nat → Bool} {i : Nat} (h : G i = F i) : hasS m G i = hasS m F i := by unfold hasS; rw [h]
theorem end_congr {m : List Sn} {F G : Nat → Nat → Bool} : ∀ k, (∀ i, i < k → G i = F i) → endU m G k = endU m F k
  | 0, _ => rfl
  | k + 1, h => by rw [endU, endU, end_congr k (fun i hi => h i (by omega)), has_congr (h k (by omega))]
theorem told_congr {m : List Sn} {F G : Nat → Nat → Bool} : ∀ k, (∀ i, i < k → G i = F i) → toldU m G k = toldU m F k
  | 0, _ => rfl
  | k + 1, h => by
    rw [toldU, toldU, told_congr k (fun i hi => h i (by omega)), has_congr (h k (by omega)), end_congr k (fun i hi => h i (by omega))]
    unfold tellOne
    rw [h k (by omega)]
theorem mv2_none {m : List Sn} {F : Nat → Nat → Bool} : ∀ k, (∀ i, i < k → (sn m i).pg = endU m F i) → mv2U m F k = []
  | 0, _ => rfl
  | k + 1, h => by
    rw [mv2U, mv2_none k (fun i hi => h i (by omega)), h k (by omega)]
    simp [mvIf]
/-- What is slid together is slid no more. -/
theorem slid_plan {m : List Sn} {F : Nat → Nat → Bool} (h : Slid m F) : planV m F = [] ∧ planT m F = toldU m F m.length := by
  obtain ⟨h1, h2⟩ := slid_cls h 7 (Nat.le_refl _)
  unfold planV planT
  refine ⟨?_, told_congr _ h2⟩
  rw [h1, mv2_none _ (fun i hi => ?_)]
  · rfl
  · rw [h.pg i hi, end_congr i (fun j hj => h2 j (by omega))]
end Go.Proofs.YtbnmbkohmmiamaaDoor
