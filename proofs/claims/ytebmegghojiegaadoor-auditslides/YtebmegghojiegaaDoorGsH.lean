/- Plain mathematics of layer 13: what was slid together stands, and is slid no more. -/
import Derived.Test.YtebmegghojiegaaDoorGsF
namespace Go.Proofs.YtebmegghojiegaaDoor
set_option linter.unusedVariables false

theorem newE_of {p c s : Int} (r : Rt p c s) : newE p c s = 0 := by
  rcases newE_cases p c s with ⟨q, _⟩ | ⟨_, _, q, _⟩ | ⟨_, _, _, _, q, _⟩ | ⟨_, q⟩
  · have := r.c0; have := r.c7; omega
  · rcases q with ⟨q1, q2⟩ | ⟨q1, q2⟩
    · exact absurd (r.sm q1) q2
    · exact absurd (r.lg q1) q2
  · have := r.p1; have := r.p0; omega
  · exact q
/-- Only slots that there are are taken. -/
def InF (m : List Sn) (F : Nat → Nat → Bool) : Prop := ∀ i, i < m.length → ∀ x, F i x = true → x < (sn m i).sl
theorem cnt_ne (f : Nat → Bool) (k : Nat) : cnt f k ≠ 0 ↔ ∃ x, x < k ∧ f x = true := by
  rw [← lsN_len]
  constructor
  · intro h
    obtain ⟨x, hx⟩ := List.exists_mem_of_length_pos (Nat.pos_of_ne_zero h)
    exact ⟨x, (lsN_mem f x k).1 hx⟩
  · rintro ⟨x, hx⟩ h
    have := (lsN_mem f x k).2 hx
    rw [List.eq_nil_of_length_eq_zero h] at this
    cases this
/-- The spans that have slots that are taken. -/
def keepL (m : List Sn) (F : Nat → Nat → Bool) (k : Nat) : List Nat := (List.range k).filter (hasS m F)
theorem keepL_succ (m : List Sn) (F : Nat → Nat → Bool) (k : Nat) : keepL m F (k + 1) = keepL m F k ++ if hasS m F k = true then [k] else [] := by
  unfold keepL
  rw [List.range_succ, List.filter_append]
  congr 1
  by_cases h : hasS m F k = true
  · rw [if_pos h]; simp [h]
  · rw [if_neg h]; simp [h]
theorem keepL_mem {m : List Sn} {F : Nat → Nat → Bool} {k i : Nat} : i ∈ keepL m F k ↔ i < k ∧ hasS m F i = true := by
  unfold keepL; rw [List.mem_filter, List.mem_range]
theorem ownU_filter (c : Nat) (m : List Sn) : ∀ k, ownU c m k = (List.range k).filter (fun i => decide ((sn m i).cl = c))
  | 0 => rfl
  | k + 1 => by
    rw [ownU, ownU_filter c m k, List.range_succ, List.filter_append]
    congr 1
    by_cases h : (sn m k).cl = c
    · rw [if_pos h]; simp [h]
    · rw [if_neg h]; simp [h]
theorem told_keep (m : List Sn) (F : Nat → Nat → Bool) : ∀ k, toldU m F k = (keepL m F k).map (fun i => tellOne m F i (endU m F i))
  | 0 => rfl
  | k + 1 => by
    rw [toldU, told_keep m F k, keepL_succ, List.map_append]
    congr 1
    split <;> rfl
theorem end_sum (m : List Sn) (F : Nat → Nat → Bool) : ∀ k, endU m F k = ((keepL m F k).map (fun i => (sn m i).k)).sum
  | 0 => rfl
  | k + 1 => by
    rw [endU, end_sum m F k, keepL_succ, List.map_append, List.sum_append]
    congr 1
    split <;> simp
theorem keepL_len (m : List Sn) (F : Nat → Nat → Bool) (k : Nat) : (keepL m F k).length ≤ k := by
  unfold keepL
  have := List.length_filter_le (hasS m F) (List.range k)
  simpa using this
/-- What is kept ahead of the i-th that is kept. -/
theorem keep_pre (m : List Sn) (F : Nat → Nat → Bool) : ∀ k i (h : i < (keepL m F k).length), keepL m F ((keepL m F k)[i]) = (keepL m F k).take i
  | 0, i, h => by simp [keepL] at h
  | k + 1, i, h => by
    have e := keepL_succ m F k
    by_cases hs : hasS m F k = true
    · rw [if_pos hs] at e
      by_cases hi : i < (keepL m F k).length
      · have e1 : (keepL m F (k + 1))[i] = (keepL m F k)[i] := by simp only [e]; exact List.getElem_append_left hi
        rw [e1, keep_pre m F k i hi, e, List.take_append_of_le_length (by omega)]
      · have hl : (keepL m F (k + 1)).length = (keepL m F k).length + 1 := by rw [e]; simp
        have hi' : i = (keepL m F k).length := by omega
        subst hi'
        have e1 : (keepL m F (k + 1))[(keepL m F k).length] = k := by simp only [e]; rw [List.getElem_append_right (Nat.le_refl _)]; simp
        rw [e1, e, List.take_left]
    · rw [if_neg hs, List.append_nil] at e
      have hi : i < (keepL m F k).length := by rw [e] at h; exact h
      have e1 : (keepL m F (k + 1))[i] = (keepL m F k)[i] := by simp only [e]
      rw [e1, keep_pre m F k i hi, e]
/-- A question that once fails fails from there on: what answers it is the beginning. -/
theorem filter_pre (q : Nat → Bool) : ∀ (l : List Nat), (∀ i j (hij : i < j) (hj : j < l.length), q l[j] = true → q (l[i]'(by omega)) = true) → l.filter q = l.take (l.filter q).length
  | [], _ => rfl
  | a :: l, h => by
    by_cases ha : q a = true
    · rw [List.filter_cons_of_pos ha, List.length_cons, List.take_succ_cons]
      congr 1
      exact filter_pre q l (fun i j hij hj hq => h (i + 1) (j + 1) (by omega) (by simpa using hj) hq)
    · have : l.filter q = [] := by
        rw [List.filter_eq_nil_iff]
        intro x hx hq
        obtain ⟨j, hj, rfl⟩ := List.getElem_of_mem hx
        exact ha (h 0 (j + 1) (by omega) (by simpa using hj) (by simpa using hq))
      rw [List.filter_cons_of_neg ha, this]; rfl
/-- Taken are the first N slots of a class's spans. -/
theorem from_first {m : List Sn} {F : Nat → Nat → Bool} (sl : Nat) (hs : 0 < sl) : ∀ (l : List Nat) (N : Nat), (∀ i ∈ l, (sn m i).sl = sl) → (∀ r (hr : r < l.length), F l[r] = fun x => decide (x < sl ∧ r * sl + x < N)) → fromU m F l = (slotPl m l).take N
  | [], N, _, _ => by simp [fromU, slotPl]
  | a :: l, N, hl, hF => by
    have ha := hl a (by simp)
    have h0 := hF 0 (by simp)
    have ih := from_first (m := m) (F := F) sl hs l (N - sl) (fun i hi => hl i (by simp [hi])) (fun r hr => by
      have := hF (r + 1) (by simpa using hr)
      rw [List.getElem_cons_succ] at this
      rw [this]
      funext x
      congr 1
      apply propext
      rw [Nat.add_mul, Nat.one_mul]
      omega)
    unfold fromU slotPl at ih ⊢
    rw [List.flatMap_cons, List.flatMap_cons, ih, List.take_append]
    have e1 : lsN (F a) (sn m a).sl = List.range (min N sl) := by
      rw [show F a = fun x => decide (x < sl ∧ 0 * sl + x < N) from h0, ha]
      rw [← lsN_upto N sl]
      apply lsN_congr
      intro x hx
      congr 1
      apply propext
      omega
    rw [e1, List.length_map, List.length_range, ha]
    congr 1
    rw [← List.map_take, List.take_range]
theorem from_N {m : List Sn} {F : Nat → Nat → Bool} {c : Nat} (hc : c ≤ 7) (N : Nat) (hN : N ≤ (ownL c m).length * clSl c) (hF : ∀ r, r < (ownL c m).length → F ((ownL c m).getD r 0) = fun x => decide (x < clSl c ∧ r * clSl c + x < N)) : fromL c m F = (slotPl m (ownL c m)).take N ∧ (fromL c m F).length = N := by
  have e : fromL c m F = (slotPl m (ownL c m)).take N := from_first (clSl c) (clSl_pos c hc).1 _ N (fun i hi => clSl_eq (own_all i hi).2) (fun r hr => by
    have := hF r hr
    rw [getD_eq 0 hr] at this
    exact this)
  refine ⟨e, ?_⟩
  rw [e, List.length_take, slots_len]; omega
/-- Spans that are slid together already. -/
structure Slid (m : List Sn) (F : Nat → Nat → Bool) : Prop where
  has : ∀ i, i < m.length → hasS m F i = true
  pg : ∀ i, i < m.length → (sn m i).pg = endU m F i
  cls : ∀ c, c < 7 → ∃ N, N ≤ (ownL c m).length * clSl c ∧ ∀ r, r < (ownL c m).length → F ((ownL c m).getD r 0) = fun x => decide (x < clSl c ∧ r * clSl c + x < N)
theorem mv1_none {m : List Sn} {own frm : List Nat} {sl z : Nat} : ∀ j, (∀ i, i < j → frm.getD i 0 = toJ m own sl i) → mv1U m own frm sl z j = []
  | 0, _ => rfl
  | j + 1, h => by rw [mv1U, mv1_none j (fun i hi => h i (by omega)), h j (by omega)]; simp [mvIf]
theorem slid_gath {m : List Sn} {F G : Nat → Nat → Bool} (h : Slid m F) (hG : ∀ i, i < m.length → G i = F i) {c : Nat} (hc : c < 7) : gathV c m G = [] ∧ ∀ i, i < m.length → gathF c m G i = F i := by
  obtain ⟨N, hN, hF⟩ := h.cls c hc
  have hF' : ∀ r, r < (ownL c m).length → G ((ownL c m).getD r 0) = fun x => decide (x < clSl c ∧ r * clSl c + x < N) := fun r hr => by rw [hG _ (own_lt hr).1]; exact hF r hr
  obtain ⟨e1, e2⟩ := from_N (F := G) (by omega) N hN hF'
  constructor
  · unfold gathV
    apply mv1_none
    intro i hi
    rw [e2] at hi
    rw [e1, ← slots_get (by omega) i (by omega)]
    simp only [List.getD_eq_getElem?_getD, List.getElem?_take, if_pos hi]
  · intro i hi
    by_cases hcl : (sn m i).cl = c
    · obtain ⟨r, hr, rfl⟩ := own_has hi hcl
      rw [gath_at (by omega) r hr, e2, hF r hr]
    · rw [gath_else (by omega) hi hcl, hG i hi]
theorem slid_cls {m : List Sn} {F : Nat → Nat → Bool} (h : Slid m F) : ∀ c, c ≤ 7 → clsV m F c = [] ∧ ∀ i, i < m.length → clsF m F c i = F i
  | 0, _ => ⟨rfl, fun _ _ => rfl⟩
  | c + 1, hc => by
    obtain ⟨h1, h2⟩ := slid_cls h c (by omega)
    obtain ⟨g1, g2⟩ := slid_gath h h2 (c := c) (by omega)
    rw [clsV, clsF, h1, g1]
    exact ⟨rfl, g2⟩
theorem has_congr {m : List Sn} {F G : Nat → Nat → Bool} {i : Nat} (h : G i = F i) : hasS m G i = hasS m F i := by unfold hasS; rw [h]
theorem end_congr {m : List Sn} {F G : Nat → Nat → Bool} : ∀ k, (∀ i, i < k → G i = F i) → endU m G k = endU m F k
  | 0, _ => rfl
  | k + 1, h => by rw [endU, endU, end_congr k (fun i hi => h i (by omega)), has_congr (h k (by omega))]
theorem told_congr {m : List Sn} {F G : Nat → Nat → Bool} : ∀ k, (∀ i, i < k → G i = F i) → toldU m G k = toldU m F k
  | 0, _ => rfl
  | k + 1, h => by
    rw [toldU, toldU, told_congr k (fun i hi => h i (by omega)), has_congr (h k (by omega)), end_congr k (fun i hi => h i (by omega))]
    unfold tellOne
    rw [h k (by omega)]
theorem mv2_none {m : List Sn} {F : Nat → Nat → Bool} : ∀ k, (∀ i, i < k → (sn m i).pg = endU m F i) → mv2U m F k = []
  | 0, _ => rfl
  | k + 1, h => by
    rw [mv2U, mv2_none k (fun i hi => h i (by omega)), h k (by omega)]
    simp [mvIf]
/-- What is slid together is slid no more. -/
theorem slid_plan {m : List Sn} {F : Nat → Nat → Bool} (h : Slid m F) : planV m F = [] ∧ planT m F = toldU m F m.length := by
  obtain ⟨h1, h2⟩ := slid_cls h 7 (Nat.le_refl _)
  unfold planV planT
  refine ⟨?_, told_congr _ h2⟩
  rw [h1, mv2_none _ (fun i hi => ?_)]
  · rfl
  · rw [h.pg i hi, end_congr i (fun j hj => h2 j (by omega))]
end Go.Proofs.YtebmegghojiegaaDoor

/- Plain mathematics of layer 13: what a plan tells is slid together. -/
namespace Go.Proofs.YtebmegghojiegaaDoor
set_option linter.unusedVariables false

theorem range_getD (l : List Nat) : (List.range l.length).map (fun i => l.getD i 0) = l := by
  apply List.ext_getElem
  · simp
  · intro i h1 h2; simp [List.getElem?_eq_getElem h2]
theorem range_filter (l : List Nat) (q : Nat → Bool) : ((List.range l.length).filter (fun i => q (l.getD i 0))).map (fun i => l.getD i 0) = l.filter q := by
  have e : l.filter q = ((List.range l.length).map (fun i => l.getD i 0)).filter q := by rw [range_getD]
  rw [e, List.filter_map]
  rfl
theorem range_take (l : List Nat) (f : Nat → Nat) (i : Nat) (h : i ≤ l.length) : (List.range i).map (fun j => f (l.getD j 0)) = (l.take i).map f := by
  apply List.ext_getElem
  · simp; omega
  · intro j h1 h2
    have hj : j < i := by simpa using h1
    simp [List.getElem?_eq_getElem (show j < l.length by omega)]
/-- What was gathered takes slots that there are. -/
theorem inF_cls {m : List Sn} {F : Nat → Nat → Bool} (hI : InF m F) (h7 : ∀ i, i < m.length → (sn m i).cl ≤ 7) : InF m (clsF m F 7) := by
  intro i hi x hx
  rcases Nat.lt_or_eq_of_le (h7 i hi) with hc | hc
  · obtain ⟨r, hr, e⟩ := own_has hi (rfl : (sn m i).cl = (sn m i).cl)
    have := cls_at (F := F) hc r hr 7 hc (Nat.le_refl _)
    rw [e] at this
    rw [this] at hx
    have := (of_decide_eq_true hx).1
    rw [clSl_eq (m := m) (i := i) rfl]
    exact this
  · rw [cls_large hi hc] at hx
    exact hI i hi x hx
/-- The spans behind a plan, and what is taken of them. -/
def aftM (m : List Sn) (F : Nat → Nat → Bool) : List Sn := (planT m F).map snT
def aftF (m : List Sn) (F : Nat → Nat → Bool) : Nat → Nat → Bool := FT (planT m F)
def kept (m : List Sn) (F : Nat → Nat → Bool) : List Nat := keepL m (clsF m F 7) m.length
theorem planT_kept (m : List Sn) (F : Nat → Nat → Bool) : planT m F = (kept m F).map (fun i => tellOne m (clsF m F 7) i (endU m (clsF m F 7) i)) := told_keep _ _ _
theorem aft_len (m : List Sn) (F : Nat → Nat → Bool) : (aftM m F).length = (kept m F).length := by unfold aftM; rw [planT_kept]; simp
theorem kept_lt {m : List Sn} {F : Nat → Nat → Bool} {i : Nat} (h : i < (kept m F).length) : (kept m F).getD i 0 < m.length ∧ hasS m (clsF m F 7) ((kept m F).getD i 0) = true := keepL_mem.1 (getD_mem h)
theorem planT_at {m : List Sn} {F : Nat → Nat → Bool} {i : Nat} (h : i < (kept m F).length) : tdD (planT m F) i = tellOne m (clsF m F 7) ((kept m F).getD i 0) (endU m (clsF m F 7) ((kept m F).getD i 0)) := by
  unfold tdD
  rw [planT_kept, getD_eq _ (by simpa using h), List.getElem_map, getD_eq 0 h]
theorem aft_sn {m : List Sn} {F : Nat → Nat → Bool} {i : Nat} (h : i < (kept m F).length) : sn (aftM m F) i = ⟨endU m (clsF m F 7) ((kept m F).getD i 0), (sn m ((kept m F).getD i 0)).cl, (sn m ((kept m F).getD i 0)).bts⟩ := by
  unfold aftM
  rw [sn_map (by rw [planT_kept]; simpa using h), planT_at h]
  rfl
theorem aft_F {m : List Sn} {F : Nat → Nat → Bool} (hI : InF m (clsF m F 7)) {i : Nat} (h : i < (kept m F).length) : aftF m F i = clsF m F 7 ((kept m F).getD i 0) := by
  unfold aftF FT
  rw [planT_at h]
  exact fOf_ls (fun x hx => hI _ (kept_lt h).1 x hx)
theorem aft_end {m : List Sn} {F : Nat → Nat → Bool} {i : Nat} (h : i < (kept m F).length) : endU m (clsF m F 7) ((kept m F).getD i 0) = (((kept m F).take i).map (fun j => (sn m j).k)).sum := by
  have h' : i < (keepL m (clsF m F 7) m.length).length := h
  have e : keepL m (clsF m F 7) ((kept m F).getD i 0) = (kept m F).take i := by
    rw [getD_eq 0 h]; exact keep_pre m (clsF m F 7) m.length i h'
  rw [end_sum, e]
theorem aft_has {m : List Sn} {F : Nat → Nat → Bool} (hI : InF m (clsF m F 7)) {i : Nat} (h : i < (kept m F).length) : hasS (aftM m F) (aftF m F) i = true := by
  have := (kept_lt h).2
  unfold hasS at this ⊢
  rw [aft_F hI h, aft_sn h]
  exact this
theorem aft_keep {m : List Sn} {F : Nat → Nat → Bool} (hI : InF m (clsF m F 7)) (i : Nat) (h : i ≤ (kept m F).length) : keepL (aftM m F) (aftF m F) i = List.range i := by
  unfold keepL
  rw [List.filter_eq_self]
  intro j hj
  exact aft_has hI (by have := List.mem_range.1 hj; omega)
theorem aft_endU {m : List Sn} {F : Nat → Nat → Bool} (hI : InF m (clsF m F 7)) (i : Nat) (h : i ≤ (kept m F).length) : endU (aftM m F) (aftF m F) i = (((kept m F).take i).map (fun j => (sn m j).k)).sum := by
  rw [end_sum, aft_keep hI i h, ← range_take (kept m F) (fun j => (sn m j).k) i h]
  congr 1
  apply List.map_congr_left
  intro j hj
  have := List.mem_range.1 hj
  rw [aft_sn (by omega)]
  rfl
/-- A class's spans behind a plan are its first ones. -/
theorem aft_own {m : List Sn} {F : Nat → Nat → Bool} (hI : InF m (clsF m F 7)) (c : Nat) : (ownL c (aftM m F)).map (fun i => (kept m F).getD i 0) = (ownL c m).filter (hasS m (clsF m F 7)) := by
  have e1 : ownL c (aftM m F) = (List.range (kept m F).length).filter (fun i => decide ((sn m ((kept m F).getD i 0)).cl = c)) := by
    unfold ownL
    rw [ownU_filter, aft_len]
    apply List.filter_congr
    intro i hi
    rw [aft_sn (List.mem_range.1 hi)]
  rw [e1, range_filter (kept m F) (fun j => decide ((sn m j).cl = c))]
  unfold kept keepL ownL
  rw [ownU_filter, List.filter_filter, List.filter_filter]
  apply List.filter_congr
  intro i _
  rw [Bool.and_comm]
theorem has_at {m : List Sn} {F : Nat → Nat → Bool} {c : Nat} (hc : c < 7) {r : Nat} (hr : r < (ownL c m).length) : hasS m (clsF m F 7) ((ownL c m).getD r 0) = true ↔ r * clSl c < (fromL c m F).length := by
  have hs := (clSl_pos c (by omega)).1
  unfold hasS
  rw [decide_eq_true_iff, cls_at hc r hr 7 hc (Nat.le_refl _), cnt_ne, clSl_eq (own_lt hr).2]
  constructor
  · rintro ⟨x, hx, h⟩
    have := of_decide_eq_true h
    omega
  · intro h
    exact ⟨0, by omega, decide_eq_true (by omega)⟩
theorem own_take {m : List Sn} {F : Nat → Nat → Bool} {c : Nat} (hc : c < 7) : (ownL c m).filter (hasS m (clsF m F 7)) = (ownL c m).take ((ownL c m).filter (hasS m (clsF m F 7))).length := by
  apply filter_pre
  intro i j hij hj hq
  rw [← getD_eq 0 hj] at hq
  rw [← getD_eq 0 (by omega)]
  rw [has_at hc hj] at hq
  rw [has_at hc (by omega)]
  have : i * clSl c ≤ j * clSl c := Nat.mul_le_mul_right _ (by omega)
  omega
theorem aft_own_len {m : List Sn} {F : Nat → Nat → Bool} (hI : InF m (clsF m F 7)) (c : Nat) : (ownL c (aftM m F)).length = ((ownL c m).filter (hasS m (clsF m F 7))).length := by
  rw [← aft_own hI c, List.length_map]
theorem aft_own_at {m : List Sn} {F : Nat → Nat → Bool} (hI : InF m (clsF m F 7)) {c : Nat} (hc : c < 7) {r : Nat} (hr : r < (ownL c (aftM m F)).length) : (kept m F).getD ((ownL c (aftM m F)).getD r 0) 0 = (ownL c m).getD r 0 ∧ r < (ownL c m).length := by
  have hl := aft_own_len hI c
  have hle : ((ownL c m).filter (hasS m (clsF m F 7))).length ≤ (ownL c m).length := List.length_filter_le _ _
  have hr2 : r < (ownL c m).length := by omega
  refine ⟨?_, hr2⟩
  have e := aft_own hI c
  rw [own_take hc] at e
  have e2 : ((ownL c (aftM m F)).map (fun i => (kept m F).getD i 0)).getD r 0 = ((ownL c m).take ((ownL c m).filter (hasS m (clsF m F 7))).length).getD r 0 := by rw [e]
  rw [getD_eq 0 (by simpa using hr), List.getElem_map, ← getD_eq 0 hr] at e2
  rw [e2]
  simp only [List.getD_eq_getElem?_getD, List.getElem?_take]
  rw [if_pos (by rw [← hl]; exact hr)]
/-- All of a class's objects are there still. -/
theorem aft_room {m : List Sn} {F : Nat → Nat → Bool} (hI : InF m (clsF m F 7)) {c : Nat} (hc : c < 7) : (fromL c m F).length ≤ (ownL c (aftM m F)).length * clSl c := by
  have hl := aft_own_len hI c
  obtain ⟨R, hR⟩ : ∃ R, (ownL c (aftM m F)).length = R := ⟨_, rfl⟩
  rw [hR] at hl ⊢
  rcases Nat.lt_or_ge (R * clSl c) (fromL c m F).length with h | h
  · exfalso
    have hN := from_len (c := c) (m := m) F
    have hs := (clSl_pos c (by omega)).1
    have hRl : R < (ownL c m).length := by
      rcases Nat.lt_or_ge R (ownL c m).length with k | k
      · exact k
      · have : (ownL c m).length * clSl c ≤ R * clSl c := Nat.mul_le_mul_right _ k
        omega
    have hh := (has_at (F := F) hc hRl).2 h
    have hmem : (ownL c m).getD R 0 ∈ (ownL c m).filter (hasS m (clsF m F 7)) := List.mem_filter.2 ⟨getD_mem hRl, hh⟩
    rw [own_take hc, ← hl] at hmem
    obtain ⟨r, hr, e⟩ := List.getElem_of_mem hmem
    have hrR : r < R := by rw [List.length_take] at hr; omega
    rw [List.getElem_take] at e
    have := own_inj (c := c) (m := m) (r := r) (q := R) (by omega) hRl (by rw [getD_eq 0 (by omega)]; exact e)
    omega
  · exact h
theorem aft_cls {m : List Sn} {F : Nat → Nat → Bool} (hI : InF m (clsF m F 7)) {c : Nat} (hc : c < 7) {r : Nat} (hr : r < (ownL c (aftM m F)).length) : aftF m F ((ownL c (aftM m F)).getD r 0) = fun x => decide (x < clSl c ∧ r * clSl c + x < (fromL c m F).length) := by
  obtain ⟨e, hr2⟩ := aft_own_at hI hc hr
  have h := (own_lt hr).1
  rw [aft_len] at h
  rw [aft_F hI h, e]
  exact cls_at hc r hr2 7 hc (Nat.le_refl _)
/-- What a plan tells is slid together. -/
theorem aft_slid {m : List Sn} {F : Nat → Nat → Bool} (hI : InF m (clsF m F 7)) : Slid (aftM m F) (aftF m F) := by
  refine ⟨fun i hi => aft_has hI (by rw [aft_len] at hi; exact hi), fun i hi => ?_, fun c hc => ⟨(fromL c m F).length, aft_room hI hc, fun r hr => aft_cls hI hc hr⟩⟩
  rw [aft_len] at hi
  rw [aft_sn hi, aft_endU hI i (by omega)]
  exact aft_end hi
/-- As many objects of each class. -/
theorem aft_from {m : List Sn} {F : Nat → Nat → Bool} (hI : InF m (clsF m F 7)) {c : Nat} (hc : c < 7) : fromL c (aftM m F) (aftF m F) = (slotPl (aftM m F) (ownL c (aftM m F))).take (fromL c m F).length ∧ (fromL c (aftM m F) (aftF m F)).length = (fromL c m F).length :=
  from_N (by omega) _ (aft_room hI hc) (fun r hr => aft_cls hI hc hr)
theorem told_aft {m : List Sn} {F : Nat → Nat → Bool} (hI : InF m (clsF m F 7)) : toldU (aftM m F) (aftF m F) (aftM m F).length = planT m F := by
  rw [told_keep, aft_len, aft_keep hI _ (Nat.le_refl _), planT_kept]
  apply List.ext_getElem
  · simp
  · intro i h1 h2
    have hi : i < (kept m F).length := by simpa using h1
    simp only [List.getElem_map, List.getElem_range]
    rw [aft_endU hI i (by omega), ← aft_end hi]
    unfold tellOne
    rw [aft_sn hi, aft_F hI hi]
    simp only [getD_eq 0 hi]
    rfl
/-- A plan of a plan. -/
theorem plan_again {m : List Sn} {F : Nat → Nat → Bool} (hI : InF m (clsF m F 7)) : planV (aftM m F) (aftF m F) = [] ∧ planT (aftM m F) (aftF m F) = planT m F := by
  obtain ⟨h1, h2⟩ := slid_plan (aft_slid hI)
  exact ⟨h1, h2.trans (told_aft hI)⟩
/-- What spans that may stand are. -/
theorem stdU_ok {P : Int} {ts : List Td} : ∀ {n k : Nat}, stdU P ts n = true → k < n → okT P ts k = true
  | n + 1, k, h, hk => by
    rw [stdU, Bool.and_eq_true] at h
    rcases Nat.lt_or_eq_of_le (Nat.le_of_lt_succ hk) with e | rfl
    · exact stdU_ok h.1 e
    · exact h.2
theorem std_of {P : Nat} {ts : List Td} (h : stdB (P : Int) ts = true) : Std P (ts.map snT) ∧ InF (ts.map snT) (FT ts) := by
  unfold stdB at h
  rw [Bool.and_eq_true] at h
  have hP := of_decide_eq_true h.1
  have ok : ∀ k, k < ts.length → newE (tdD ts k).p (tdD ts k).c (tdD ts k).s = 0 ∧ okL (slN (tdD ts k).c) (-1) (tdD ts k).l = true ∧ endT ts k ≤ (tdD ts k).p ∧ (tdD ts k).p + (pgsN (tdD ts k).c (tdD ts k).s : Int) ≤ (P : Int) := fun k hk => of_decide_eq_true (stdU_ok h.2 hk)
  have nums : ∀ k, k < ts.length → (((sn (ts.map snT) k).pg : Int) = (tdD ts k).p ∧ ((sn (ts.map snT) k).cl : Int) = (tdD ts k).c ∧ ((sn (ts.map snT) k).bts : Int) = (tdD ts k).s) := fun k hk => by
    rw [sn_map hk]
    have r := newE_rt (ok k hk).1
    refine ⟨?_, ?_, ?_⟩
    · show (((tdD ts k).p.toNat : Nat) : Int) = _; have := r.p0; omega
    · show (((tdD ts k).c.toNat : Nat) : Int) = _; have := r.c0; omega
    · show (((tdD ts k).s.toNat : Nat) : Int) = _
      by_cases e : (tdD ts k).c = 7
      · have f := r.facts.2.2.2.1
        unfold szI at f
        rw [if_pos e] at f
        omega
      · have := r.sm (by have := r.c7; omega); omega
  have kk : ∀ k, k < ts.length → (sn (ts.map snT) k).k = pgsN (tdD ts k).c (tdD ts k).s := fun k hk => by
    unfold Sn.k; rw [(nums k hk).2.1, (nums k hk).2.2]
  have ends : ∀ k, k < ts.length → endT ts (k + 1) = ((sn (ts.map snT) k).pg : Int) + ((sn (ts.map snT) k).k : Int) := fun k hk => by rw [endT, kk k hk, (nums k hk).1]
  have step : ∀ k, k + 1 < ts.length → (sn (ts.map snT) k).pg + (sn (ts.map snT) k).k ≤ (sn (ts.map snT) (k + 1)).pg := fun k hk => by
    have h1 := (ok (k + 1) hk).2.2.1
    rw [ends k (by omega), ← (nums (k + 1) hk).1] at h1
    omega
  refine ⟨⟨fun i hi => ?_, fun i hi => ?_, fun i j hij hj => ?_, by omega⟩, fun i hi x hx => ?_⟩
  · rw [List.length_map] at hi
    have r := newE_rt (ok i hi).1
    obtain ⟨e1, e2, e3⟩ := nums i hi
    refine ⟨by have := r.c7; omega, fun hc => by have := r.sm (by omega); omega, fun hc => ?_⟩
    rw [e3]; exact r.lg (by omega)
  · rw [List.length_map] at hi
    have := (ok i hi).2.2.2
    rw [← kk i hi, ← (nums i hi).1] at this
    omega
  · rw [List.length_map] at hj
    induction j with
    | zero => omega
    | succ j ih =>
      have s := step j hj
      rcases Nat.lt_or_eq_of_le (Nat.le_of_lt_succ hij) with e | rfl
      · have := ih e (by omega); omega
      · exact s
  · rw [List.length_map] at hi
    have := fOf_within (ok i hi).2.1 x hx
    unfold Sn.sl
    rw [(nums i hi).2.1]
    exact this
/-- What a plan tells may stand. -/
theorem aft_std {P : Nat} {m : List Sn} {F : Nat → Nat → Bool} (h : Std P m) (hI : InF m (clsF m F 7)) (hP : 1 ≤ P) : stdB (P : Int) (planT m F) = true := by
  have hl : (planT m F).length = (kept m F).length := by rw [planT_kept]; simp
  have key : ∀ k, k ≤ (kept m F).length → stdU (P : Int) (planT m F) k = true ∧ endT (planT m F) k = ((((kept m F).take k).map (fun j => (sn m j).k)).sum : Nat) := by
    intro k
    induction k with
    | zero => intro _; exact ⟨rfl, rfl⟩
    | succ k ih =>
      intro hk
      obtain ⟨i1, i2⟩ := ih (by omega)
      have hk' : k < (kept m F).length := by omega
      obtain ⟨h1, h2⟩ := kept_lt hk'
      obtain ⟨j, hj⟩ : ∃ j, (kept m F).getD k 0 = j := ⟨_, rfl⟩
      have ea := aft_end hk'
      have ep := planT_at hk'
      rw [hj] at h1 h2 ea ep
      have okj := h.ok j h1
      have topj := h.top j h1
      have le := (end_le h (clsF m F 7) j (by omega)).1 j h1 (Nat.le_refl _)
      have hm := h.most
      have rt : Rt ((endU m (clsF m F 7) j : Nat) : Int) ((sn m j).cl : Int) ((sn m j).bts : Int) := by
        have r0 := okj.rt0
        have ek : (sn m j).k = pgsN ((sn m j).cl : Int) ((sn m j).bts : Int) := rfl
        exact ⟨r0.c0, r0.c7, r0.sm, r0.lg, by omega, by rw [← ek]; omega⟩
      refine ⟨?_, ?_⟩
      · rw [stdU, i1, Bool.true_and]
        unfold okT
        rw [ep, i2, ← ea]
        refine decide_eq_true ⟨newE_of rt, ls_ok _ _, Int.le_refl _, ?_⟩
        show ((endU m (clsF m F 7) j : Nat) : Int) + (pgsN ((sn m j).cl : Int) ((sn m j).bts : Int) : Int) ≤ (P : Int)
        have ek : (sn m j).k = pgsN ((sn m j).cl : Int) ((sn m j).bts : Int) := rfl
        rw [← ek]; omega
      · rw [endT, ep, List.take_succ_eq_append_getElem hk', List.map_append, List.sum_append]
        show ((endU m (clsF m F 7) j : Nat) : Int) + (pgsN ((sn m j).cl : Int) ((sn m j).bts : Int) : Int) = _
        have ek : (sn m j).k = pgsN ((sn m j).cl : Int) ((sn m j).bts : Int) := rfl
        have e3 : (kept m F)[k] = j := by rw [← hj, getD_eq 0 hk']
        rw [← ek, ea, e3]
        simp
  unfold stdB
  rw [decide_eq_true (by have := h.most; omega), Bool.true_and, hl]
  exact (key _ (Nat.le_refl _)).1
end Go.Proofs.YtebmegghojiegaaDoor

/- Plain mathematics of layer 13: all moves go downwards. -/
namespace Go.Proofs.YtebmegghojiegaaDoor
set_option linter.unusedVariables false

theorem mvIf_mem {a b z : Nat} {v : Mv} (h : v ∈ mvIf a b z) : v = ⟨(a : Int), (b : Int), (z : Int)⟩ ∧ a ≠ b := by
  unfold mvIf at h
  split at h
  · cases h
  · next hn => exact ⟨by simpa using h, hn⟩
theorem mv1_mem {m : List Sn} {own frm : List Nat} {sl z : Nat} : ∀ {j : Nat} {v : Mv}, v ∈ mv1U m own frm sl z j → ∃ i, i < j ∧ v = ⟨((frm.getD i 0 : Nat) : Int), ((toJ m own sl i : Nat) : Int), (z : Int)⟩ ∧ frm.getD i 0 ≠ toJ m own sl i
  | 0, v, h => by simp [mv1U] at h
  | j + 1, v, h => by
    rw [mv1U, List.mem_append] at h
    rcases h with h | h
    · obtain ⟨i, h1, h2⟩ := mv1_mem h
      exact ⟨i, by omega, h2⟩
    · exact ⟨j, by omega, mvIf_mem h⟩
theorem mv2_mem {m : List Sn} {F : Nat → Nat → Bool} : ∀ {k : Nat} {v : Mv}, v ∈ mv2U m F k → ∃ i, i < k ∧ hasS m F i = true ∧ v = ⟨((256 * (sn m i).pg : Nat) : Int), ((256 * endU m F i : Nat) : Int), ((256 * (sn m i).k : Nat) : Int)⟩ ∧ 256 * (sn m i).pg ≠ 256 * endU m F i
  | 0, v, h => by simp [mv2U] at h
  | k + 1, v, h => by
    rw [mv2U, List.mem_append] at h
    rcases h with h | h
    · obtain ⟨i, h1, h2⟩ := mv2_mem h
      exact ⟨i, by omega, h2⟩
    · split at h
      · next hs => exact ⟨k, by omega, hs, mvIf_mem h⟩
      · cases h
/-- A move downwards, within B bytes. -/
def Mv.Dn (B : Nat) (v : Mv) : Prop := 0 ≤ v.to ∧ v.to < v.fr ∧ 1 ≤ v.ln ∧ v.fr + v.ln ≤ (B : Int)
theorem from_bd {P : Nat} {m : List Sn} (h : Std P m) {c : Nat} (F : Nat → Nat → Bool) {x : Nat} (hx : x ∈ fromL c m F) : ∃ i s, i < m.length ∧ (sn m i).cl = c ∧ s < (sn m i).sl ∧ F i s = true ∧ x = (sn m i).at s ∧ 256 * (sn m i).pg ≤ x ∧ x + (sn m i).z ≤ 256 * ((sn m i).pg + (sn m i).k) ∧ (sn m i).pg + (sn m i).k ≤ P := by
  obtain ⟨i, hi, hx⟩ := List.mem_flatMap.1 hx
  obtain ⟨s, hs, rfl⟩ := List.mem_map.1 hx
  obtain ⟨h1, h2⟩ := own_all i hi
  obtain ⟨s1, s2⟩ := (lsN_mem _ _ _).1 hs
  obtain ⟨k1, k2⟩ := (h.ok i h1).at_in s1
  exact ⟨i, s, h1, h2, s1, s2, rfl, k1, k2, h.top i h1⟩
theorem cls_dn {P : Nat} {m : List Sn} (h : Std P m) (F : Nat → Nat → Bool) : ∀ c, c ≤ 7 → ∀ v ∈ clsV m F c, v.Dn (256 * P)
  | 0, _, v, hv => by simp [clsV] at hv
  | c + 1, hc, v, hv => by
    rw [clsV, List.mem_append] at hv
    rcases hv with hv | hv
    · exact cls_dn h F c (by omega) v hv
    · obtain ⟨j, hj, rfl, hne⟩ := mv1_mem hv
      have hle := to_le h (show c < 7 by omega) (clsF m F c) j hj
      obtain ⟨i, s, h1, h2, _, _, _, k1, k2, k3⟩ := from_bd h _ (getD_mem hj)
      have hz := (clZ_pos c (by omega)).1
      rw [clZ_eq h2 (by omega)] at k2
      refine ⟨by simp only; omega, by simp only; omega, by simp only; omega, ?_⟩
      show (((fromL c m (clsF m F c)).getD j 0 : Nat) : Int) + (clZ c : Int) ≤ ((256 * P : Nat) : Int)
      have : 256 * ((sn m i).pg + (sn m i).k) ≤ 256 * P := Nat.mul_le_mul_left _ k3
      omega
theorem plan_dn {P : Nat} {m : List Sn} (h : Std P m) (F : Nat → Nat → Bool) : ∀ v ∈ planV m F, v.Dn (256 * P) := by
  intro v hv
  rcases List.mem_append.1 hv with hv | hv
  · exact cls_dn h F 7 (Nat.le_refl _) v hv
  · obtain ⟨i, hi, _, rfl, hne⟩ := mv2_mem hv
    have hle := (end_le h (clsF m F 7) i (by omega)).1 i hi (Nat.le_refl _)
    have htop := h.top i hi
    have hk := (h.ok i hi).facts.2.2.2.2.1
    refine ⟨by simp only; omega, by simp only; omega, by simp only; omega, ?_⟩
    show ((256 * (sn m i).pg : Nat) : Int) + ((256 * (sn m i).k : Nat) : Int) ≤ ((256 * P : Nat) : Int)
    omega
theorem cls_len {P : Nat} {m : List Sn} (h : Std P m) (F : Nat → Nat → Bool) : ∀ c, c ≤ 7 → (clsV m F c).length ≤ c * (16 * m.length)
  | 0, _ => by simp [clsV]
  | c + 1, hc => by
    have ih := cls_len h F c (by omega)
    rw [clsV, List.length_append]
    have h1 : ∀ (own frm : List Nat) (sl z j : Nat), (mv1U m own frm sl z j).length ≤ j := by
      intro own frm sl z j
      induction j with
      | zero => simp [mv1U]
      | succ j ih =>
        rw [mv1U, List.length_append]
        unfold mvIf
        split <;> simp <;> omega
    have h2 := h1 (ownL c m) (fromL c m (clsF m F c)) (clSl c) (clZ c) (fromL c m (clsF m F c)).length
    have h3 := from_len (c := c) (m := m) (clsF m F c)
    have h4 := ownU_len c m m.length
    have h5 := (clSl_pos c (by omega)).2
    have h6 : (ownL c m).length * clSl c ≤ m.length * 16 := Nat.mul_le_mul h4 h5
    unfold gathV
    rw [Nat.add_mul]
    omega
theorem plan_len {P : Nat} {m : List Sn} (h : Std P m) (F : Nat → Nat → Bool) : (planV m F).length ≤ 113 * m.length := by
  unfold planV
  rw [List.length_append]
  have h1 := cls_len h F 7 (Nat.le_refl _)
  have h2 : ∀ k, (mv2U m (clsF m F 7) k).length ≤ k := by
    intro k
    induction k with
    | zero => simp [mv2U]
    | succ k ih =>
      rw [mv2U, List.length_append]
      have : (if hasS m (clsF m F 7) k = true then mvIf (256 * (sn m k).pg) (256 * endU m (clsF m F 7) k) (256 * (sn m k).k) else []).length ≤ 1 := by
        split
        · unfold mvIf; split <;> simp
        · simp
      omega
  have h3 := h2 m.length
  omega
theorem std_len {P : Nat} {m : List Sn} (h : Std P m) : m.length ≤ P := by
  have key : ∀ k, k < m.length → k < (sn m k).pg + (sn m k).k := by
    intro k
    induction k with
    | zero => intro hk; have := (h.ok 0 hk).facts.2.2.2.2.1; omega
    | succ k ih =>
      intro hk
      have := ih (by omega)
      have := h.rise k (k + 1) (by omega) hk
      have := (h.ok (k + 1) hk).facts.2.2.2.2.1
      omega
  rcases Nat.eq_zero_or_pos m.length with e | e
  · omega
  · have := key (m.length - 1) (by omega)
    have := h.top (m.length - 1) (by omega)
    omega
end Go.Proofs.YtebmegghojiegaaDoor
