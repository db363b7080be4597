/- Plain mathematics of layer 13: what a plan tells is slid together. -/
import Derived.Test.YtbnmbkohmmiamaaDoorSlR
namespace Go.Proofs.YtbnmbkohmmiamaaDoor
set_option linter.unusedVariables false

theorem range_getD (l : List Nat) : (List.range l.length).map (fun i => l.getD i 0) = l := by
  apply List.ext_getElem
  · simp
  · intro i h1 h2; simp [List.getElem?_eq_getElem h2]
theorem range_filter (l : List Nat) (q : Nat → Bool) : ((List.range l.length).filter (fun i => q (l.getD i 0))).map (fun i => l.getD i 0) = l.filter q := by
  have e : l.filter q = ((List.range l.length).map (fun i => l.getD i 0)).filter q := by rw [range_getD]
  rw [e, List.filter_map]
  rfl
theorem range_take (l : List Nat) (f : Nat → Nat) (i : Nat) (h : i ≤ l.length) : (List.range i).map (fun j => f (l.getD j 0)) = (l.take i).map f := by
  apply List.ext_getElem
  · simp; omega
  · intro j h1 h2
    have hj : j < i := by simpa using h1
    simp [List.getElem?_eq_getElem (show j < l.length by omega)]
/-- What was gathered takes slots that there are. -/
theorem inF_cls {m : List Sn} {F : Nat → Nat → Bool} (hI : InF m F) (h7 : ∀ i, i < m.length → (sn m i).cl ≤ 7) : InF m (clsF m F 7) := by
  intro i hi x hx
  rcases Nat.lt_or_eq_of_le (h7 i hi) with hc | hc
  · obtain ⟨r, hr, e⟩ := own_has hi (rfl : (sn m i).cl = (sn m i).cl)
    have := cls_at (F := F) hc r hr 7 hc (Nat.le_refl _)
    rw [e] at this
    rw [this] at hx
    have := (of_decide_eq_true hx).1
    rw [clSl_eq (m := m) (i := i) rfl]
    exact this
  · rw [cls_large hi hc] at hx
    exact hI i hi x hx
/-- The spans behind a plan, and what is taken of them. -/
def aftM (m : List Sn) (F : Nat → Nat → Bool) : List Sn := (planT m F).map snT
def aftF (m : List Sn) (F : Nat → Nat → Bool) : Nat → Nat → Bool := FT (planT m F)
def kept (m : List Sn) (F : Nat → Nat → Bool) : List Nat := keepL m (clsF m F 7) m.length
theorem planT_kept (m : List Sn) (F : Nat → Nat → Bool) : planT m F = (kept m F).map (fun i => tellOne m (clsF m F 7) i (endU m (clsF m F 7) i)) := told_keep _ _ _
theorem aft_len (m : List Sn) (F : Nat → Nat → Bool) : (aftM m F).length = (kept m F).length := by unfold aftM; rw [planT_kept]; simp
theorem kept_lt {m : List Sn} {F : Nat → Nat → Bool} {i : Nat} (h : i < (kept m F).length) : (kept m F).getD i 0 < m.length ∧ hasS m (clsF m F 7) ((kept m F).getD i 0) = true := keepL_mem.1 (getD_mem h)
theorem planT_at {m : List Sn} {F : Nat → Nat → Bool} {i : Nat} (h : i < (kept m F).length) : tdD (planT m F) i = tellOne m (clsF m F 7) ((kept m F).getD i 0) (endU m (clsF m F 7) ((kept m F).getD i 0)) := by
  unfold tdD
  rw [planT_kept, getD_eq _ (by simpa using h), List.getElem_map, getD_eq 0 h]
theorem aft_sn {m : List Sn} {F : Nat → Nat → Bool} {i : Nat} (h : i < (kept m F).length) : sn (aftM m F) i = ⟨endU m (clsF m F 7) ((kept m F).getD i 0), (sn m ((kept m F).getD i 0)).cl, (sn m ((kept m F).getD i 0)).bts⟩ := by
  unfold aftM
  rw [sn_map (by rw [planT_kept]; simpa using h), planT_at h]
  rfl
theorem aft_F {m : List Sn} {F : Nat → Nat → Bool} (hI : InF m (clsF m F 7)) {i : Nat} (h : i < (kept m F).length) : aftF m F i = clsF m F 7 ((kept m F).getD i 0) := by
  unfold aftF FT
  rw [planT_at h]
  exact fOf_ls (fun x hx => hI _ (kept_lt h).1 x hx)
theorem aft_end {m : List Sn} {F : Nat → Nat → Bool} {i : Nat} (h : i < (kept m F).length) : endU m (clsF m F 7) ((kept m F).getD i 0) = (((kept m F).take i).map (fun j => (sn m j).k)).sum := by
  have h' : i < (keepL m (clsF m F 7) m.length).length := h
  have e : keepL m (clsF m F 7) ((kept m F).getD i 0) = (kept m F).take i := by
    rw [getD_eq 0 h]; exact keep_pre m (clsF m F 7) m.length i h'
  rw [end_sum, e]
theorem aft_has {m : List Sn} {F : Nat → Nat → Bool} (hI : InF m (clsF m F 7)) {i : Nat} (h : i < (kept m F).length) : hasS (aftM m F) (aftF m F) i = true := by
  have := (kept_lt h).2
  unfold hasS at this ⊢
  rw [aft_F hI h, aft_sn h]
  exact this
theorem aft_keep {m : List Sn} {F : Nat → Nat → Bool} (hI : InF m (clsF m F 7)) (i : Nat) (h : i ≤ (kept m F).length) : keepL (aftM m F) (aftF m F) i = List.range i := by
  unfold keepL
  rw [List.filter_eq_self]
  intro j hj
  exact aft_has hI (by have := List.mem_range.1 hj; omega)
theorem aft_endU {m : List Sn} {F : Nat → Nat → Bool} (hI : InF m (clsF m F 7)) (i : Nat) (h : i ≤ (kept m F).length) : endU (aftM m F) (aftF m F) i = (((kept m F).take i).map (fun j => (sn m j).k)).sum := by
  rw [end_sum, aft_keep hI i h, ← range_take (kept m F) (fun j => (sn m j).k) i h]
  congr 1
  apply List.map_congr_left
  intro j hj
  have := List.mem_range.1 hj
  rw [aft_sn (by omega)]
  rfl
/-- A class's spans behind a plan are its first ones. -/
theorem aft_own {m : List Sn} {F : Nat → Nat → Bool} (hI : InF m (clsF m F 7)) (c : Nat) : (ownL c (aftM m F)).map (fun i => (kept m F).getD i 0) = (ownL c m).filter (hasS m (clsF m F 7)) := by
  have e1 : ownL c (aftM m F) = (List.range (kept m F).length).filter (fun i => decide ((sn m ((kept m F).getD i 0)).cl = c)) := by
    unfold ownL
    rw [ownU_filter, aft_len]
    apply List.filter_congr
    intro i hi
    rw [aft_sn (List.mem_range.1 hi)]
  rw [e1, range_filter (kept m F) (fun j => decide ((sn m j).cl = c))]
  unfold kept keepL ownL
  rw [ownU_filter, List.filter_filter, List.filter_filter]
  apply List.filter_congr
  intro i _
  rw [Bool.and_comm]
theorem has_at {m : List Sn} {F : Nat → Nat → Bool} {c : Nat} (hc : c < 7) {r : Nat} (hr : r < (ownL c m).length) : hasS m (clsF m F 7) ((ownL c m).getD r 0) = true ↔ r * clSl c < (fromL c m F).length := by
  have hs := (clSl_pos c (by omega)).1
  unfold hasS
  rw [decide_eq_true_iff, cls_at hc r hr 7 hc (Nat.le_refl _), cnt_ne, clSl_eq (own_lt hr).2]
  constructor
  · rintro ⟨x, hx, h⟩
    have := of_decide_eq_true h
    omega
  · intro h
    exact ⟨0, by omega, decide_eq_true (by omega)⟩
theorem own_take {m : List Sn} {F : Nat → Nat → Bool} {c : Nat} (hc : c < 7) : (ownL c m).filter (hasS m (clsF m F 7)) = (ownL c m).take ((ownL c m).filter (hasS m (clsF m F 7))).length := by
  apply filter_pre
  intro i j hij hj hq
  rw [← getD_eq 0 hj] at hq
  rw [← getD_eq 0 (by omega)]
  rw [has_at hc hj] at hq
  rw [has_at hc (by omega)]
  have : i * clSl c ≤ j * clSl c := Nat.mul_le_mul_right _ (by omega)
  omega
theorem aft_own_len {m : List Sn} {F : Nat → Nat → Bool} (hI : InF m (clsF m F 7)) (c : Nat) : (ownL c (aftM m F)).length = ((ownL c m).filter (hasS m (clsF m F 7))).length := by
  rw [← aft_own hI c, List.length_map]
theorem aft_own_at {m : List Sn} {F : Nat → Nat → Bool} (hI : InF m (clsF m F 7)) {c : Nat} (hc : c < 7) {r : Nat} (hr : r < (ownL c (aftM m F)).length) : (kept m F).getD ((ownL c (aftM m F)).getD r 0) 0 = (ownL c m).getD r 0 ∧ r < (ownL c m).length := by
  have hl := aft_own_len hI c
  have hle : ((ownL c m).filter (hasS m (clsF m F 7))).length ≤ (ownL c m).length := List.length_filter_le _ _
  have hr2 : r < (ownL c m).length := by omega
  refine ⟨?_, hr2⟩
  have e := aft_own hI c
  rw [own_take hc] at e
  have e2 : ((ownL c (aftM m F)).map (fun i => (kept m F).getD i 0)).getD r 0 = ((ownL c m).take ((ownL c m).filter (hasS m (clsF m F 7))).length).getD r 0 := by rw [e]
  rw [getD_eq 0 (by simpa using hr), List.getElem_map, ← getD_eq 0 hr] at e2
  rw [e2]
  simp only [List.getD_eq_getElem?_getD, List.getElem?_take]
  rw [if_pos (by rw [← hl]; exact hr)]
/-- All of a class's objects are there still. -/
theorem aft_room {m : List Sn} {F : Nat → Nat → Bool} (hI : InF m (clsF m F 7)) {c : Nat} (hc : c < 7) : (fromL c m F).length ≤ (ownL c (aftM m F)).length * clSl c := by
  have hl := aft_own_len hI c
  obtain ⟨R, hR⟩ : ∃ R, (ownL c (aftM m F)).length = R := ⟨_, rfl⟩
  rw [hR] at hl ⊢
  rcases Nat.lt_or_ge (R * clSl c) (fromL c m F).length with h | h
  · exfalso
    have hN := from_len (c := c) (m := m) F
    have hs := (clSl_pos c (by omega)).1
    have hRl : R < (ownL c m).length := by
      rcases Nat.lt_or_ge R (ownL c m).length with k | k
      · exact k
      · have : (ownL c m).length * clSl c ≤ R * clSl c := Nat.mul_le_mul_right _ k
        omega
    have hh := (has_at (F := F) hc hRl).2 h
    have hmem : (ownL c m).getD R 0 ∈ (ownL c m).filter (hasS m (clsF m F 7)) := List.mem_filter.2 ⟨getD_mem hRl, hh⟩
    rw [own_take hc, ← hl] at hmem
    obtain ⟨r, hr, e⟩ := List.getElem_of_mem hmem
    have hrR : r < R := by rw [List.length_take] at hr; omega
    rw [List.getElem_take] at e
    have := own_inj (c := c) (m := m) (r := r) (q := R) (by omega) hRl (by rw [getD_eq 0 (by omega)]; exact e)
    omega
  · exact h
theorem aft_cls {m : List Sn} {F : Nat → Nat → Bool} (hI : InF m (clsF m F 7)) {c : Nat} (hc : c < 7) {r : Nat} (hr : r < (ownL c (aftM m F)).length) : aftF m F ((ownL c (aftM m F)).getD r 0) = fun x => decide (x < clSl c ∧ r * clSl c + x < (fromL c m F).length) := by
  obtain ⟨e, hr2⟩ := aft_own_at hI hc hr
  have h := (own_lt hr).1
  rw [aft_len] at h
  rw [aft_F hI h, e]
  exact cls_at hc r hr2 7 hc (Nat.le_refl _)
/-- What a plan tells is slid together. -/
theorem aft_slid {m : List Sn} {F : Nat → Nat → Bool} (hI : InF m (clsF m F 7)) : Slid (aftM m F) (aftF m F) := by
  refine ⟨fun i hi => aft_has hI (by rw [aft_len] at hi; exact hi), fun i hi => ?_, fun c hc => ⟨(fromL c m F).length, aft_room hI hc, fun r hr => aft_cls hI hc hr⟩⟩
  rw [aft_len] at hi
  rw [aft_sn hi, aft_endU hI i (by omega)]
  exact aft_end hi
/-- As many objects of each class. -/
theorem aft_from {m : List Sn} {F : Nat → Nat → Bool} (hI : InF m (clsF m F 7)) {c : Nat} (hc : c < 7) : fromL c (aftM m F) (aftF m F) = (slotPl (aftM m F) (ownL c (aftM m F))).take (fromL c m F).length ∧ (fromL c (aftM m F) (aftF m F)).length = (fromL c m F).length :=
  from_N (by omega) _ (aft_room hI hc) (fun r hr => aft_cls hI hc hr)
theorem told_aft {m : List Sn} {F : Nat → Nat → Bool} (hI : InF m (clsF m F 7)) : toldU (aftM m F) (aftF m F) (aftM m F).length = planT m F := by
  rw [told_keep, aft_len, aft_keep hI _ (Nat.le_refl _), planT_kept]
  apply List.ext_getElem
  · simp
  · intro i h1 h2
    have hi : i < (kept m F).length := by simpa using h1
    simp only [List.getElem_map, List.getElem_range]
    rw [aft_endU hI i (by omega), ← aft_end hi]
    unfold tellOne
    rw [aft_sn hi, aft_F hI hi]
    simp only [getD_eq 0 hi]
    rfl
/-- A plan of a plan. -/
theorem plan_again {m : List Sn} {F : Nat → Nat → Bool} (hI : InF m (clsF m F 7)) : planV (aftM m F) (aftF m F) = [] ∧ planT (aftM m F) (aftF m F) = planT m F := by
  obtain ⟨h1, h2⟩ := slid_plan (aft_slid hI)
  exact ⟨h1, h2.trans (told_aft hI)⟩
/-- What spans that may stand are. -/
theorem stdU_ok {P : Int} {ts : List Td} : ∀ {n k : Nat}, stdU P ts n = true → k < n → okT P ts k = true
  | n + 1, k, h, hk => by
    rw [stdU, Bool.and_eq_true] at h
    rcases Nat.lt_or_eq_of_le (Nat.le_of_lt_succ hk) with e | rfl
    · exact stdU_ok h.1 e
    · exact h.2
theorem std_of {P : Nat} {ts : List Td} (h : stdB (P : Int) ts = true) : Std P (ts.map snT) ∧ InF (ts.map snT) (FT ts) := by
  unfold stdB at h
  rw [Bool.and_eq_true] at h
  have hP := of_decide_eq_true h.1
  have ok : ∀ k, k < ts.length → newE (tdD ts k).p (tdD ts k).c (tdD ts k).s = 0 ∧ okL (slN (tdD ts k).c) (-1) (tdD ts k).l = true ∧ endT ts k ≤ (tdD ts k).p ∧ (tdD ts k).p + (pgsN (tdD ts k).c (tdD ts k).s : Int) ≤ (P : Int) := fun k hk => of_decide_eq_true (stdU_ok h.2 hk)
  have nums : ∀ k, k < ts.length → (((sn (ts.map snT) k).pg : Int) = (tdD ts k).p ∧ ((sn (ts.map snT) k).cl : Int) = (tdD ts k).c ∧ ((sn (ts.map snT) k).bts : Int) = (tdD ts k).s) := fun k hk => by
    rw [sn_map hk]
    have r := newE_rt (ok k hk).1
    refine ⟨?_, ?_, ?_⟩
    · show (((tdD ts k).p.toNat : Nat) : Int) = _; have := r.p0; omega
    · show (((tdD ts k).c.toNat : Nat) : Int) = _; have := r.c0; omega
    · show (((tdD ts k).s.toNat : Nat) : Int) = _
      by_cases e : (tdD ts k).c = 7
      · have f := r.facts.2.2.2.1
        unfold szI at f
        rw [if_pos e] at f
        omega
      · have := r.sm (by have := r.c7; omega); omega
  have kk : ∀ k, k < ts.length → (sn (ts.map snT) k).k = pgsN (tdD ts k).c (tdD ts k).s := fun k hk => by
    unfold Sn.k; rw [(nums k hk).2.1, (nums k hk).2.2]
  have ends : ∀ k, k < ts.length → endT ts (k + 1) = ((sn (ts.map snT) k).pg : Int) + ((sn (ts.map snT) k).k : Int) := fun k hk => by rw [endT, kk k hk, (nums k hk).1]
  have step : ∀ k, k + 1 < ts.length → (sn (ts.map snT) k).pg + (sn (ts.map snT) k).k ≤ (sn (ts.map snT) (k + 1)).pg := fun k hk => by
    have h1 := (ok (k + 1) hk).2.2.1
    rw [ends k (by omega), ← (nums (k + 1) hk).1] at h1
    omega
  refine ⟨⟨fun i hi => ?_, fun i hi => ?_, fun i j hij hj => ?_, by omega⟩, fun i hi x hx => ?_⟩
  · rw [List.length_map] at hi
    have r := newE_rt (ok i hi).1
    obtain ⟨e1, e2, e3⟩ := nums i hi
    refine ⟨by have := r.c7; omega, fun hc => by have := r.sm (by omega); omega, fun hc => ?_⟩
    rw [e3]; exact r.lg (by omega)
  · rw [List.length_map] at hi
    have := (ok i hi).2.2.2
    rw [← kk i hi, ← (nums i hi).1] at this
    omega
  · rw [List.length_map] at hj
    induction j with
    | zero => omega
    | succ j ih =>
      have s := step j hj
      rcases Nat.lt_or_eq_of_le (Nat.le_of_lt_succ hij) with e | rfl
      · have := ih e (by omega); omega
      · exact s
  · rw [List.length_map] at hi
    have := fOf_within (ok i hi).2.1 x hx
    unfold Sn.sl
    rw [(nums i hi).2.1]
    exact this
/-- What a plan tells may stand. -/
theorem aft_std {P : Nat} {m : List Sn} {F : Nat → Nat → Bool} (h : Std P m) (hI : InF m (clsF m F 7)) (hP : 1 ≤ P) : stdB (P : Int) (planT m F) = true := by
  have hl : (planT m F).length = (kept m F).length := by rw [planT_kept]; simp
  have key : ∀ k, k ≤ (kept m F).length → stdU (P : Int) (planT m F) k = true ∧ endT (planT m F) k = ((((kept m F).take k).map (fun j => (sn m j).k)).sum : Nat) := by
    intro k
    induction k with
    | zero => intro _; exact ⟨rfl, rfl⟩
    | succ k ih =>
      intro hk
      obtain ⟨i1, i2⟩ := ih (by omega)
      have hk' : k < (kept m F).length := by omega
      obtain ⟨h1, h2⟩ := kept_lt hk'
      obtain ⟨j, hj⟩ : ∃ j, (kept m F).getD k 0 = j := ⟨_, rfl⟩
      have ea := aft_end hk'
      have ep := planT_at hk'
      rw [hj] at h1 h2 ea ep
      have okj := h.ok j h1
      have topj := h.top j h1
      have le := (end_le h (clsF m F 7) j (by omega)).1 j h1 (Nat.le_refl _)
      have hm := h.most
      have rt : Rt ((endU m (clsF m F 7) j : Nat) : Int) ((sn m j).cl : Int) ((sn m j).bts : Int) := by
        have r0 := okj.rt0
        have ek : (sn m j).k = pgsN ((sn m j).cl : Int) ((sn m j).bts : Int) := rfl
        exact ⟨r0.c0, r0.c7, r0.sm, r0.lg, by omega, by rw [← ek]; omega⟩
      refine ⟨?_, ?_⟩
      · rw [stdU, i1, Bool.true_and]
        unfold okT
        rw [ep, i2, ← ea]
        refine decide_eq_true ⟨newE_of rt, ls_ok _ _, Int.le_refl _, ?_⟩
        show ((endU m (clsF m F 7) j : Nat) : Int) + (pgsN ((sn m j).cl : Int) ((sn m j).bts : Int) : Int) ≤ (P : Int)
        have ek : (sn m j).k = pgsN ((sn m j).cl : Int) ((sn m j).bts : Int) := rfl
        rw [← ek]; omega
      · rw [endT, ep, List.take_succ_eq_append_getElem hk', List.map_append, List.sum_append]
        show ((endU m (clsF m F 7) j : Nat) : Int) + (pgsN ((sn m j).cl : Int) ((sn m j).bts : Int) : Int) = _
        have ek : (sn m j).k = pgsN ((sn m j).cl : Int) ((sn m j).bts : Int) := rfl
        have e3 : (kept m F)[k] = j := by rw [← hj, getD_eq 0 hk']
        rw [← ek, ea, e3]
        simp
  unfold stdB
  rw [decide_eq_true (by have := h.most; omega), Bool.true_and, hl]
  exact (key _ (Nat.le_refl _)).1
end Go.Proofs.YtbnmbkohmmiamaaDoor
