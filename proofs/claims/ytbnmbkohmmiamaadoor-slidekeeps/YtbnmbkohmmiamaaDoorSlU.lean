/- Plain mathematics of layer 13: behind a plan as many pages are taken as the objects need; at most one span of a class is filled in part. -/
import Derived.Test.YtbnmbkohmmiamaaDoorLfA
namespace Go.Proofs.YtbnmbkohmmiamaaDoor
set_option linter.unusedVariables false

/-- The size of a span's objects, as it is asked. -/
def szv (m : List Sn) (i : Nat) : Int := max ((sn m i).bts : Int) (sizeI ((sn m i).cl : Int))
def szU (m : List Sn) (F : Nat → Nat → Bool) : Nat → List Int
  | 0 => []
  | k + 1 => szU m F k ++ List.replicate (cnt (F k) (sn m k).sl) (szv m k)
theorem szv_of {P : Nat} {m : List Sn} (h : Std P m) {i : Nat} (hi : i < m.length) : ofI (szv m i) = ((sn m i).cl : Int) ∧ ((sn m i).cl = 7 → pagesN (szv m i) = (sn m i).k) ∧ 0 ≤ szv m i ∧ szv m i ≤ 4096 := by
  have ok := h.ok i hi
  unfold szv
  rcases Nat.lt_or_eq_of_le ok.c7 with hc | hc
  · rw [ok.sm hc]
    obtain ⟨c, hcc⟩ : ∃ c, (sn m i).cl = c := ⟨_, rfl⟩
    rw [hcc] at hc ⊢
    refine ⟨?_, fun e => by omega, ?_⟩
    · rcases c with _ | _ | _ | _ | _ | _ | _ | c
      iterate 7 · decide
      · omega
    · rcases c with _ | _ | _ | _ | _ | _ | _ | c
      iterate 7 · decide
      · omega
  · have h7 := ok.lg hc
    obtain ⟨_, hlo, hhi⟩ := pagesN_large h7
    have e : max ((sn m i).bts : Int) (sizeI ((sn m i).cl : Int)) = ((sn m i).bts : Int) := by
      rw [hc]
      have : sizeI ((7 : Nat) : Int) = 0 := by decide
      rw [this]; omega
    rw [e]
    refine ⟨by rw [h7, hc]; rfl, fun _ => ?_, by omega, by omega⟩
    unfold Sn.k pgsN
    rw [hc, if_pos (by rfl)]
theorem cntN_rep (c n : Nat) (x : Int) : cntN c (List.replicate n x) = if ofI x = (c : Int) then n else 0 := by
  unfold cntN
  rw [List.countP_replicate]
  simp
theorem largeN_rep (n : Nat) (x : Int) : largeN (List.replicate n x) = n * (if ofI x = 7 then pagesN x else 0) := by
  unfold largeN
  rw [List.map_replicate, List.sum_replicate_nat]
theorem szU_cnt {P : Nat} {m : List Sn} (h : Std P m) (F : Nat → Nat → Bool) (c : Nat) : ∀ k, k ≤ m.length → cntN c (szU m F k) = (fromU m F (ownU c m k)).length
  | 0, _ => by simp [szU, ownU, fromU, cntN]
  | k + 1, hk => by
    have ih := szU_cnt h F c k (by omega)
    rw [szU, cntN_append, ih, cntN_rep, (szv_of h (show k < m.length by omega)).1]
    by_cases hc : (sn m k).cl = c
    · rw [if_pos (by rw [hc]), ownU, if_pos hc]
      unfold fromU
      rw [List.flatMap_append, List.length_append]
      simp [lsN_len]
    · rw [if_neg (by omega), ownU, if_neg hc, List.append_nil]; rfl
/-- The pages of large objects. -/
def lgU (m : List Sn) (F : Nat → Nat → Bool) : Nat → Nat
  | 0 => 0
  | k + 1 => lgU m F k + if (sn m k).cl = 7 ∧ hasS m F k = true then (sn m k).k else 0
theorem large_one {P : Nat} {m : List Sn} (h : Std P m) {i : Nat} (hi : i < m.length) (hc : (sn m i).cl = 7) : (sn m i).sl = 1 := by unfold Sn.sl; rw [hc]; decide
theorem szU_large {P : Nat} {m : List Sn} (h : Std P m) (F : Nat → Nat → Bool) : ∀ k, k ≤ m.length → largeN (szU m F k) = lgU m F k
  | 0, _ => rfl
  | k + 1, hk => by
    have hk' : k < m.length := by omega
    have ih := szU_large h F k (by omega)
    obtain ⟨e1, e2, _⟩ := szv_of h hk'
    rw [szU, largeN_append, ih, largeN_rep, e1, lgU]
    congr 1
    by_cases hc : (sn m k).cl = 7
    · rw [if_pos (by omega), e2 hc, large_one h hk' hc]
      by_cases hh : hasS m F k = true
      · rw [if_pos ⟨hc, hh⟩]
        have h1 := of_decide_eq_true hh
        rw [large_one h hk' hc] at h1
        have h2 := cnt_le (F k) 1
        have : cnt (F k) 1 = 1 := by omega
        rw [this, Nat.one_mul]
      · rw [if_neg (fun q => hh q.2)]
        have h1 : ¬ (cnt (F k) (sn m k).sl ≠ 0) := fun q => hh (decide_eq_true q)
        rw [large_one h hk' hc] at h1
        have : cnt (F k) 1 = 0 := by omega
        rw [this, Nat.zero_mul]
    · rw [if_neg (by omega), if_neg (fun q => hc q.1), Nat.mul_zero]
/-- The spans of a class that are kept, and their pages. -/
def clSum (m : List Sn) (c : Nat) (l : List Nat) : Nat := ((l.filter (fun i => decide ((sn m i).cl = c))).map (fun i => (sn m i).k)).sum
theorem clSum_cons (m : List Sn) (c a : Nat) (l : List Nat) : clSum m c (a :: l) = (if (sn m a).cl = c then (sn m a).k else 0) + clSum m c l := by
  unfold clSum
  by_cases h : (sn m a).cl = c
  · rw [List.filter_cons_of_pos (by simpa using h), if_pos h]; simp
  · rw [List.filter_cons_of_neg (by simpa using h), if_neg h]; simp
theorem sum_parts (m : List Sn) : ∀ (l : List Nat), (∀ i ∈ l, (sn m i).cl ≤ 7) → (l.map (fun i => (sn m i).k)).sum = clSum m 0 l + clSum m 1 l + clSum m 2 l + clSum m 3 l + clSum m 4 l + clSum m 5 l + clSum m 6 l + clSum m 7 l
  | [], _ => by simp [clSum]
  | a :: l, h => by
    have ih := sum_parts m l (fun i hi => h i (by simp [hi]))
    have ha := h a (by simp)
    simp only [clSum_cons, List.map_cons, List.sum_cons, ih]
    obtain ⟨c, hc⟩ : ∃ c, (sn m a).cl = c := ⟨_, rfl⟩
    rw [hc] at ha ⊢
    rcases c with _ | _ | _ | _ | _ | _ | _ | _ | c
    all_goals first | (simp; omega) | omega
theorem keep_own (m : List Sn) (G : Nat → Nat → Bool) (c : Nat) : (keepL m G m.length).filter (fun i => decide ((sn m i).cl = c)) = (ownL c m).filter (hasS m G) := by
  unfold keepL ownL
  rw [ownU_filter, List.filter_filter, List.filter_filter]
  apply List.filter_congr
  intro i _
  rw [Bool.and_comm]
theorem small_k {P : Nat} {m : List Sn} {i c : Nat} (hc : c < 7) (h : (sn m i).cl = c) : (sn m i).k = 1 := by
  unfold Sn.k pgsN
  rw [h, if_neg (by omega)]
theorem sum_ones (m : List Sn) : ∀ (l : List Nat), (∀ i ∈ l, (sn m i).k = 1) → (l.map (fun i => (sn m i).k)).sum = l.length
  | [], _ => rfl
  | a :: l, h => by
    rw [List.map_cons, List.sum_cons, sum_ones m l (fun i hi => h i (by simp [hi])), h a (by simp), List.length_cons]; omega
/-- Of a small class as many spans are kept as are needed. -/
theorem own_ceil {m : List Sn} {F : Nat → Nat → Bool} (hI : InF m (clsF m F 7)) {c : Nat} (hc : c < 7) : ((ownL c m).filter (hasS m (clsF m F 7))).length = ceilN (fromL c m F).length (clSl c) := by
  have hs := (clSl_pos c (by omega)).1
  have hroom := aft_room hI hc
  rw [aft_own_len hI c] at hroom
  obtain ⟨R, hR⟩ : ∃ R, ((ownL c m).filter (hasS m (clsF m F 7))).length = R := ⟨_, rfl⟩
  have htk := own_take (F := F) (m := m) hc
  rw [hR] at hroom htk ⊢
  have hle : R ≤ (ownL c m).length := by rw [← hR]; exact List.length_filter_le _ _
  have hlow : 1 ≤ R → (R - 1) * clSl c < (fromL c m F).length := fun h1 => by
    have hm : (ownL c m).getD (R - 1) 0 ∈ (ownL c m).filter (hasS m (clsF m F 7)) := by
      rw [htk, List.mem_iff_getElem]
      exact ⟨R - 1, by rw [List.length_take]; omega, by rw [List.getElem_take, getD_eq 0 (by omega)]⟩
    exact (has_at hc (by omega)).1 (List.mem_filter.1 hm).2
  unfold ceilN
  symm
  apply Nat.div_eq_of_lt_le
  · rcases Nat.eq_zero_or_pos R with e | e
    · rw [e]; omega
    · have := hlow e
      have e2 : R * clSl c = (R - 1) * clSl c + clSl c := by
        obtain ⟨q, rfl⟩ : ∃ q, R = q + 1 := ⟨R - 1, by omega⟩
        rw [Nat.add_sub_cancel, Nat.add_mul, Nat.one_mul]
      omega
  · rw [Nat.add_mul, Nat.one_mul]; omega
theorem clSl_slots (c : Nat) (hc : c < 7) : clSl c = slotsN c := by
  rcases c with _ | _ | _ | _ | _ | _ | _ | c
  iterate 7 · decide
  · omega
theorem lg_keep {m : List Sn} {F G : Nat → Nat → Bool} (hG : ∀ i, i < m.length → (sn m i).cl = 7 → G i = F i) : ∀ k, k ≤ m.length → clSum m 7 (keepL m G k) = lgU m F k
  | 0, _ => rfl
  | k + 1, hk => by
    have ih := lg_keep hG k (by omega)
    rw [keepL_succ, lgU, ← ih]
    have app : ∀ a b : List Nat, clSum m 7 (a ++ b) = clSum m 7 a + clSum m 7 b := by
      intro a b; unfold clSum; rw [List.filter_append, List.map_append, List.sum_append]
    rw [app]
    congr 1
    by_cases hc : (sn m k).cl = 7
    · rw [has_congr (hG k (by omega) hc)]
      by_cases hh : hasS m F k = true
      · rw [if_pos hh, if_pos ⟨hc, hh⟩, clSum_cons, if_pos hc]; rfl
      · rw [if_neg hh, if_neg (fun q => hh q.2)]; rfl
    · have e2 : (if (sn m k).cl = 7 ∧ hasS m F k = true then (sn m k).k else 0) = 0 := if_neg (fun q => hc q.1)
      rw [e2]
      split
      · rw [clSum_cons, if_neg hc]; rfl
      · rfl
/-- The pages behind a plan. -/
theorem plan_need {P : Nat} {m : List Sn} {F : Nat → Nat → Bool} (h : Std P m) (hI : InF m (clsF m F 7)) : endU m (clsF m F 7) m.length = needN (szU m F m.length) := by
  have hk7 : ∀ i ∈ keepL m (clsF m F 7) m.length, (sn m i).cl ≤ 7 := fun i hi => (h.ok i (keepL_mem.1 hi).1).c7
  rw [end_sum, sum_parts m _ hk7, lg_keep (F := F) (fun i hi hc => cls_large hi hc) m.length (Nat.le_refl _)]
  have small : ∀ c, c < 7 → clSum m c (keepL m (clsF m F 7) m.length) = ceilN (cntN c (szU m F m.length)) (slotsN c) := fun c hc => by
    unfold clSum
    rw [keep_own, sum_ones m _ (fun i hi => small_k (P := P) hc (own_all i (List.mem_filter.1 hi).1).2), own_ceil hI hc, szU_cnt h F c m.length (Nat.le_refl _), clSl_slots c hc]
    rfl
  unfold needN
  rw [szU_large h F m.length (Nat.le_refl _)]
  simp only [upN, small 0 (by omega), small 1 (by omega), small 2 (by omega), small 3 (by omega), small 4 (by omega), small 5 (by omega), small 6 (by omega)]
  omega
theorem szU_len {P : Nat} {m : List Sn} (h : Std P m) (F : Nat → Nat → Bool) : ∀ k, k ≤ m.length → (szU m F k).length ≤ 16 * k
  | 0, _ => by simp [szU]
  | k + 1, hk => by
    have ih := szU_len h F k (by omega)
    have := cnt_le (F k) (sn m k).sl
    have := (h.ok k (by omega)).facts.2.1
    rw [szU, List.length_append, List.length_replicate]; omega
theorem szU_all {P : Nat} {m : List Sn} (h : Std P m) (F : Nat → Nat → Bool) : ∀ k, k ≤ m.length → ∀ x ∈ szU m F k, 0 ≤ x ∧ x ≤ 4096
  | 0, _, x, hx => by simp [szU] at hx
  | k + 1, hk, x, hx => by
    rw [szU, List.mem_append] at hx
    rcases hx with hx | hx
    · exact szU_all h F k (by omega) x hx
    · obtain ⟨_, rfl⟩ := List.mem_replicate.1 hx
      exact (szv_of h (by omega)).2.2
/-- How many spans of a class are filled in part. -/
def partB (m : List Sn) (F : Nat → Nat → Bool) (i : Nat) : Bool := decide (cnt (F i) (sn m i).sl < (sn m i).sl)
def pU (m : List Sn) (F : Nat → Nat → Bool) (c : Nat) : Nat → Nat
  | 0 => 0
  | k + 1 => pU m F c k + if (sn m k).cl = c ∧ partB m F k = true then 1 else 0
theorem pU_has {m : List Sn} {F : Nat → Nat → Bool} {c : Nat} : ∀ {k : Nat}, pU m F c k ≠ 0 → ∃ i, i < k ∧ (sn m i).cl = c ∧ partB m F i = true
  | 0, h => absurd rfl h
  | k + 1, h => by
    by_cases hk : (sn m k).cl = c ∧ partB m F k = true
    · exact ⟨k, by omega, hk⟩
    · rw [pU, if_neg hk, Nat.add_zero] at h
      obtain ⟨i, h1, h2⟩ := pU_has h
      exact ⟨i, by omega, h2⟩
theorem pU_le {m : List Sn} {F : Nat → Nat → Bool} {c : Nat} (h1 : ∀ i j, i < j → j < m.length → (sn m i).cl = c → (sn m j).cl = c → partB m F i = true → partB m F j = true → False) : ∀ k, k ≤ m.length → pU m F c k ≤ 1
  | 0, _ => by simp [pU]
  | k + 1, hk => by
    have ih := pU_le h1 k (by omega)
    rw [pU]
    by_cases hh : (sn m k).cl = c ∧ partB m F k = true
    · rw [if_pos hh]
      rcases Nat.eq_zero_or_pos (pU m F c k) with e | e
      · omega
      · obtain ⟨i, q1, q2, q3⟩ := pU_has (show pU m F c k ≠ 0 by omega)
        exact absurd (h1 i k q1 (by omega) q2 hh.1 q3 hh.2) id
    · rw [if_neg hh]; omega
theorem cnt_full {f : Nat → Bool} : ∀ {n : Nat}, (∀ x, x < n → f x = true) → cnt f n = n
  | 0, _ => rfl
  | n + 1, h => by rw [cnt, cnt_full (fun x hx => h x (by omega)), h n (by omega)]; rfl
/-- At most one span of a class is filled in part. -/
theorem slid_part {m : List Sn} {F : Nat → Nat → Bool} (h : Slid m F) (h7 : ∀ i, i < m.length → (sn m i).cl = 7 → (sn m i).sl = 1) (c : Nat) (hc : c ≤ 7) : pU m F c m.length ≤ 1 := by
  refine pU_le (fun i j hij hj ci cj pi pj => ?_) _ (Nat.le_refl _)
  rcases Nat.lt_or_eq_of_le hc with hc | rfl
  · obtain ⟨N, hN, hF⟩ := h.cls c hc
    obtain ⟨r, hr, er⟩ := own_has (show i < m.length by omega) ci
    obtain ⟨q, hq, eq⟩ := own_has hj cj
    have hrq : r < q := by
      rcases Nat.lt_trichotomy r q with e | e | e
      · exact e
      · subst e; omega
      · have := own_mono e hr; omega
    have Fi := hF r hr
    have Fj := hF q hq
    rw [er] at Fi
    rw [eq] at Fj
    have hj2 := of_decide_eq_true (h.has j hj)
    rw [Fj, cnt_ne] at hj2
    obtain ⟨x, _, hx⟩ := hj2
    have hx := of_decide_eq_true hx
    have hpi := of_decide_eq_true pi
    rw [Fi, clSl_eq ci] at hpi
    have hfull : cnt (fun x => decide (x < clSl c ∧ r * clSl c + x < N)) (clSl c) = clSl c := cnt_full (fun y hy => by
      have : (r + 1) * clSl c ≤ q * clSl c := Nat.mul_le_mul_right _ hrq
      rw [Nat.add_mul, Nat.one_mul] at this
      exact decide_eq_true ⟨hy, by omega⟩)
    omega
  · have hs := of_decide_eq_true (h.has i (by omega))
    have hp := of_decide_eq_true pi
    rw [h7 i (by omega) ci] at hs hp
    omega
end Go.Proofs.YtbnmbkohmmiamaaDoor
