/- Plain mathematics of layer 13: behind a plan as many pages are taken as the objects need; at most one span of a class is filled in part. -/
import Derived.Test.YtebmegghojiegaaDoorLfA
import Derived.Test.YtebmegghojiegaaDoorGsG
namespace Go.Proofs.YtebmegghojiegaaDoor
set_option linter.unusedVariables false

/-- The size of a span's objects, as it is asked. -/
def szv (m : List Sn) (i : Nat) : Int := max ((sn m i).bts : Int) (sizeI ((sn m i).cl : Int))
def szU (m : List Sn) (F : Nat → Nat → Bool) : Nat → List Int
  | 0 => []
  | k + 1 => szU m F k ++ List.replicate (cnt (F k) (sn m k).sl) (szv m k)
theorem szv_of {P : Nat} {m : List Sn} (h : Std P m) {i : Nat} (hi : i < m.length) : ofI (szv m i) = ((sn m i).cl : Int) ∧ ((sn m i).cl = 7 → pagesN (szv m i) = (sn m i).k) ∧ 0 ≤ szv m i ∧ szv m i ≤ 4096 := by
  have ok := h.ok i hi
  unfold szv
  rcases Nat.lt_or_eq_of_le ok.c7 with hc | hc
  · rw [ok.sm hc]
    obtain ⟨c, hcc⟩ : ∃ c, (sn m i).cl = c := ⟨_, rfl⟩
    rw [hcc] at hc ⊢
    refine ⟨?_, fun e => by omega, ?_⟩
    · rcases c with _ | _ | _ | _ | _ | _ | _ | c
      iterate 7 · decide
      · omega
    · rcases c with _ | _ | _ | _ | _ | _ | _ | c
      iterate 7 · decide
      · omega
  · have h7 := ok.lg hc
    obtain ⟨_, hlo, hhi⟩ := pagesN_large h7
    have e : max ((sn m i).bts : Int) (sizeI ((sn m i).cl : Int)) = ((sn m i).bts : Int) := by
      rw [hc]
      have : sizeI ((7 : Nat) : Int) = 0 := by decide
      rw [this]; omega
    rw [e]
    refine ⟨by rw [h7, hc]; rfl, fun _ => ?_, by omega, by omega⟩
    unfold Sn.k pgsN
    rw [hc, if_pos (by rfl)]
theorem cntN_rep (c n : Nat) (x : Int) : cntN c (List.replicate n x) = if ofI x = (c : Int) then n else 0 := by
  unfold cntN
  rw [List.countP_replicate]
  simp
theorem largeN_rep (n : Nat) (x : Int) : largeN (List.replicate n x) = n * (if ofI x = 7 then pagesN x else 0) := by
  unfold largeN
  rw [List.map_replicate, List.sum_replicate_nat]
theorem szU_cnt {P : Nat} {m : List Sn} (h : Std P m) (F : Nat → Nat → Bool) (c : Nat) : ∀ k, k ≤ m.length → cntN c (szU m F k) = (fromU m F (ownU c m k)).length
  | 0, _ => by simp [szU, ownU, fromU, cntN]
  | k + 1, hk => by
    have ih := szU_cnt h F c k (by omega)
    rw [szU, cntN_append, ih, cntN_rep, (szv_of h (show k < m.length by omega)).1]
    by_cases hc : (sn m k).cl = c
    · rw [if_pos (by rw [hc]), ownU, if_pos hc]
      unfold fromU
      rw [List.flatMap_append, List.length_append]
      simp [lsN_len]
    · rw [if_neg (by omega), ownU, if_neg hc, List.append_nil]; rfl
/-- The pages of large objects. -/
def lgU (m : List Sn) (F : Nat → Nat → Bool) : Nat → Nat
  | 0 => 0
  | k + 1 => lgU m F k + if (sn m k).cl = 7 ∧ hasS m F k = true then (sn m k).k else 0
theorem large_one {P : Nat} {m : List Sn} (h : Std P m) {i : Nat} (hi : i < m.length) (hc : (sn m i).cl = 7) : (sn m i).sl = 1 := by unfold Sn.sl; rw [hc]; decide
theorem szU_large {P : Nat} {m : List Sn} (h : Std P m) (F : Nat → Nat → Bool) : ∀ k, k ≤ m.length → largeN (szU m F k) = lgU m F k
  | 0, _ => rfl
  | k + 1, hk => by
    have hk' : k < m.length := by omega
    have ih := szU_large h F k (by omega)
    obtain ⟨e1, e2, _⟩ := szv_of h hk'
    rw [szU, largeN_append, ih, largeN_rep, e1, lgU]
    congr 1
    by_cases hc : (sn m k).cl = 7
    · rw [if_pos (by omega), e2 hc, large_one h hk' hc]
      by_cases hh : hasS m F k = true
      · rw [if_pos ⟨hc, hh⟩]
        have h1 := of_decide_eq_true hh
        rw [large_one h hk' hc] at h1
        have h2 := cnt_le (F k) 1
        have : cnt (F k) 1 = 1 := by omega
        rw [this, Nat.one_mul]
      · rw [if_neg (fun q => hh q.2)]
        have h1 : ¬ (cnt (F k) (sn m k).sl ≠ 0) := fun q => hh (decide_eq_true q)
        rw [large_one h hk' hc] at h1
        have : cnt (F k) 1 = 0 := by omega
        rw [this, Nat.zero_mul]
    · rw [if_neg (by omega), if_neg (fun q => hc q.1), Nat.mul_zero]
/-- The spans of a class that are kept, and their pages. -/
def clSum (m : List Sn) (c : Nat) (l : List Nat) : Nat := ((l.filter (fun i => decide ((sn m i).cl = c))).map (fun i => (sn m i).k)).sum
theorem clSum_cons (m : List Sn) (c a : Nat) (l : List Nat) : clSum m c (a :: l) = (if (sn m a).cl = c then (sn m a).k else 0) + clSum m c l := by
  unfold clSum
  by_cases h : (sn m a).cl = c
  · rw [List.filter_cons_of_pos (by simpa using h), if_pos h]; simp
  · rw [List.filter_cons_of_neg (by simpa using h), if_neg h]; simp
theorem sum_parts (m : List Sn) : ∀ (l : List Nat), (∀ i ∈ l, (sn m i).cl ≤ 7) → (l.map (fun i => (sn m i).k)).sum = clSum m 0 l + clSum m 1 l + clSum m 2 l + clSum m 3 l + clSum m 4 l + clSum m 5 l + clSum m 6 l + clSum m 7 l
  | [], _ => by simp [clSum]
  | a :: l, h => by
    have ih := sum_parts m l (fun i hi => h i (by simp [hi]))
    have ha := h a (by simp)
    simp only [clSum_cons, List.map_cons, List.sum_cons, ih]
    obtain ⟨c, hc⟩ : ∃ c, (sn m a).cl = c := ⟨_, rfl⟩
    rw [hc] at ha ⊢
    rcases c with _ | _ | _ | _ | _ | _ | _ | _ | c
    all_goals first | (simp; omega) | omega
theorem keep_own (m : List Sn) (G : Nat → Nat → Bool) (c : Nat) : (keepL m G m.length).filter (fun i => decide ((sn m i).cl = c)) = (ownL c m).filter (hasS m G) := by
  unfold keepL ownL
  rw [ownU_filter, List.filter_filter, List.filter_filter]
  apply List.filter_congr
  intro i _
  rw [Bool.and_comm]
theorem small_k {P : Nat} {m : List Sn} {i c : Nat} (hc : c < 7) (h : (sn m i).cl = c) : (sn m i).k = 1 := by
  unfold Sn.k pgsN
  rw [h, if_neg (by omega)]
theorem sum_ones (m : List Sn) : ∀ (l : List Nat), (∀ i ∈ l, (sn m i).k = 1) → (l.map (fun i => (sn m i).k)).sum = l.length
  | [], _ => rfl
  | a :: l, h => by
    rw [List.map_cons, List.sum_cons, sum_ones m l (fun i hi => h i (by simp [hi])), h a (by simp), List.length_cons]; omega
/-- Of a small class as many spans are kept as are needed. -/
theorem own_ceil {m : List Sn} {F : Nat → Nat → Bool} (hI : InF m (clsF m F 7)) {c : Nat} (hc : c < 7) : ((ownL c m).filter (hasS m (clsF m F 7))).length = ceilN (fromL c m F).length (clSl c) := by
  have hs := (clSl_pos c (by omega)).1
  have hroom := aft_room hI hc
  rw [aft_own_len hI c] at hroom
  obtain ⟨R, hR⟩ : ∃ R, ((ownL c m).filter (hasS m (clsF m F 7))).length = R := ⟨_, rfl⟩
  have htk := own_take (F := F) (m := m) hc
  rw [hR] at hroom htk ⊢
  have hle : R ≤ (ownL c m).length := by rw [← hR]; exact List.length_filter_le _ _
  have hlow : 1 ≤ R → (R - 1) * clSl c < (fromL c m F).length := fun h1 => by
    have hm : (ownL c m).getD (R - 1) 0 ∈ (ownL c m).filter (hasS m (clsF m F 7)) := by
      rw [htk, List.mem_iff_getElem]
      exact ⟨R - 1, by rw [List.length_take]; omega, by rw [List.getElem_take, getD_eq 0 (by omega)]⟩
    exact (has_at hc (by omega)).1 (List.mem_filter.1 hm).2
  unfold ceilN
  symm
  apply Nat.div_eq_of_lt_le
  · rcases Nat.eq_zero_or_pos R with e | e
    · rw [e]; omega
    · have := hlow e
      have e2 : R * clSl c = (R - 1) * clSl c + clSl c := by
        obtain ⟨q, rfl⟩ : ∃ q, R = q + 1 := ⟨R - 1, by omega⟩
        rw [Nat.add_sub_cancel, Nat.add_mul, Nat.one_mul]
      omega
  · rw [Nat.add_mul, Nat.one_mul]; omega
theorem clSl_slots (c : Nat) (hc : c < 7) : clSl c = slotsN c := by
  rcases c with _ | _ | _ | _ | _ | _ | _ | c
  iterate 7 · decide
  · omega
theorem lg_keep {m : List Sn} {F G : Nat → Nat → Bool} (hG : ∀ i, i < m.length → (sn m i).cl = 7 → G i = F i) : ∀ k, k ≤ m.length → clSum m 7 (keepL m G k) = lgU m F k
  | 0, _ => rfl
  | k + 1, hk => by
    have ih := lg_keep hG k (by omega)
    rw [keepL_succ, lgU, ← ih]
    have app : ∀ a b : List Nat, clSum m 7 (a ++ b) = clSum m 7 a + clSum m 7 b := by
      intro a b; unfold clSum; rw [List.filter_append, List.map_append, List.sum_append]
    rw [app]
    congr 1
    by_cases hc : (sn m k).cl = 7
    · rw [has_congr (hG k (by omega) hc)]
      by_cases hh : hasS m F k = true
      · rw [if_pos hh, if_pos ⟨hc, hh⟩, clSum_cons, if_pos hc]; rfl
      · rw [if_neg hh, if_neg (fun q => hh q.2)]; rfl
    · have e2 : (if (sn m k).cl = 7 ∧ hasS m F k = true then (sn m k).k else 0) = 0 := if_neg (fun q => hc q.1)
      rw [e2]
      split
      · rw [clSum_cons, if_neg hc]; rfl
      · rfl
/-- The pages behind a plan. -/
theorem plan_need {P : Nat} {m : List Sn} {F : Nat → Nat → Bool} (h : Std P m) (hI : InF m (clsF m F 7)) : endU m (clsF m F 7) m.length = needN (szU m F m.length) := by
  have hk7 : ∀ i ∈ keepL m (clsF m F 7) m.length, (sn m i).cl ≤ 7 := fun i hi => (h.ok i (keepL_mem.1 hi).1).c7
  rw [end_sum, sum_parts m _ hk7, lg_keep (F := F) (fun i hi hc => cls_large hi hc) m.length (Nat.le_refl _)]
  have small : ∀ c, c < 7 → clSum m c (keepL m (clsF m F 7) m.length) = ceilN (cntN c (szU m F m.length)) (slotsN c) := fun c hc => by
    unfold clSum
    rw [keep_own, sum_ones m _ (fun i hi => small_k (P := P) hc (own_all i (List.mem_filter.1 hi).1).2), own_ceil hI hc, szU_cnt h F c m.length (Nat.le_refl _), clSl_slots c hc]
    rfl
  unfold needN
  rw [szU_large h F m.length (Nat.le_refl _)]
  simp only [upN, small 0 (by omega), small 1 (by omega), small 2 (by omega), small 3 (by omega), small 4 (by omega), small 5 (by omega), small 6 (by omega)]
  omega
theorem szU_len {P : Nat} {m : List Sn} (h : Std P m) (F : Nat → Nat → Bool) : ∀ k, k ≤ m.length → (szU m F k).length ≤ 16 * k
  | 0, _ => by simp [szU]
  | k + 1, hk => by
    have ih := szU_len h F k (by omega)
    have := cnt_le (F k) (sn m k).sl
    have := (h.ok k (by omega)).facts.2.1
    rw [szU, List.length_append, List.length_replicate]; omega
theorem szU_all {P : Nat} {m : List Sn} (h : Std P m) (F : Nat → Nat → Bool) : ∀ k, k ≤ m.length → ∀ x ∈ szU m F k, 0 ≤ x ∧ x ≤ 4096
  | 0, _, x, hx => by simp [szU] at hx
  | k + 1, hk, x, hx => by
    rw [szU, List.mem_append] at hx
    rcases hx with hx | hx
    · exact szU_all h F k (by omega) x hx
    · obtain ⟨_, rfl⟩ := List.mem_replicate.1 hx
      exact (szv_of h (by omega)).2.2
/-- How many spans of a class are filled in part. -/
def partB (m : List Sn) (F : Nat → Nat → Bool) (i : Nat) : Bool := decide (cnt (F i) (sn m i).sl < (sn m i).sl)
def pU (m : List Sn) (F : Nat → Nat → Bool) (c : Nat) : Nat → Nat
  | 0 => 0
  | k + 1 => pU m F c k + if (sn m k).cl = c ∧ partB m F k = true then 1 else 0
theorem pU_has {m : List Sn} {F : Nat → Nat → Bool} {c : Nat} : ∀ {k : Nat}, pU m F c k ≠ 0 → ∃ i, i < k ∧ (sn m i).cl = c ∧ partB m F i = true
  | 0, h => absurd rfl h
  | k + 1, h => by
    by_cases hk : (sn m k).cl = c ∧ partB m F k = true
    · exact ⟨k, by omega, hk⟩
    · rw [pU, if_neg hk, Nat.add_zero] at h
      obtain ⟨i, h1, h2⟩ := pU_has h
      exact ⟨i, by omega, h2⟩
theorem pU_le {m : List Sn} {F : Nat → Nat → Bool} {c : Nat} (h1 : ∀ i j, i < j → j < m.length → (sn m i).cl = c → (sn m j).cl = c → partB m F i = true → partB m F j = true → False) : ∀ k, k ≤ m.length → pU m F c k ≤ 1
  | 0, _ => by simp [pU]
  | k + 1, hk => by
    have ih := pU_le h1 k (by omega)
    rw [pU]
    by_cases hh : (sn m k).cl = c ∧ partB m F k = true
    · rw [if_pos hh]
      rcases Nat.eq_zero_or_pos (pU m F c k) with e | e
      · omega
      · obtain ⟨i, q1, q2, q3⟩ := pU_has (show pU m F c k ≠ 0 by omega)
        exact absurd (h1 i k q1 (by omega) q2 hh.1 q3 hh.2) id
    · rw [if_neg hh]; omega
theorem cnt_full {f : Nat → Bool} : ∀ {n : Nat}, (∀ x, x < n → f x = true) → cnt f n = n
  | 0, _ => rfl
  | n + 1, h => by rw [cnt, cnt_full (fun x hx => h x (by omega)), h n (by omega)]; rfl
/-- At most one span of a class is filled in part. -/
theorem slid_part {m : List Sn} {F : Nat → Nat → Bool} (h : Slid m F) (h7 : ∀ i, i < m.length → (sn m i).cl = 7 → (sn m i).sl = 1) (c : Nat) (hc : c ≤ 7) : pU m F c m.length ≤ 1 := by
  refine pU_le (fun i j hij hj ci cj pi pj => ?_) _ (Nat.le_refl _)
  rcases Nat.lt_or_eq_of_le hc with hc | rfl
  · obtain ⟨N, hN, hF⟩ := h.cls c hc
    obtain ⟨r, hr, er⟩ := own_has (show i < m.length by omega) ci
    obtain ⟨q, hq, eq⟩ := own_has hj cj
    have hrq : r < q := by
      rcases Nat.lt_trichotomy r q with e | e | e
      · exact e
      · subst e; omega
      · have := own_mono e hr; omega
    have Fi := hF r hr
    have Fj := hF q hq
    rw [er] at Fi
    rw [eq] at Fj
    have hj2 := of_decide_eq_true (h.has j hj)
    rw [Fj, cnt_ne] at hj2
    obtain ⟨x, _, hx⟩ := hj2
    have hx := of_decide_eq_true hx
    have hpi := of_decide_eq_true pi
    rw [Fi, clSl_eq ci] at hpi
    have hfull : cnt (fun x => decide (x < clSl c ∧ r * clSl c + x < N)) (clSl c) = clSl c := cnt_full (fun y hy => by
      have : (r + 1) * clSl c ≤ q * clSl c := Nat.mul_le_mul_right _ hrq
      rw [Nat.add_mul, Nat.one_mul] at this
      exact decide_eq_true ⟨hy, by omega⟩)
    omega
  · have hs := of_decide_eq_true (h.has i (by omega))
    have hp := of_decide_eq_true pi
    rw [h7 i (by omega) ci] at hs hp
    omega
end Go.Proofs.YtebmegghojiegaaDoor

/- Plain mathematics of SlideKeeps: what moves bring along. -/
namespace Go.Proofs.YtebmegghojiegaaDoor
set_option linter.unusedVariables false

/-- A move takes an object along whole, or touches it nowhere. -/
def Gm (v : Mv) (p z : Nat) : Prop := (v.fr ≤ (p : Int) ∧ (p : Int) + z ≤ v.fr + v.ln) ∨ (((p : Int) + z ≤ v.fr ∨ v.fr + v.ln ≤ (p : Int)) ∧ ((p : Int) + z ≤ v.to ∨ v.to + v.ln ≤ (p : Int)))
/-- Moves bring objects from places to places. -/
def Br (S : Nat → Nat → Prop) (z : Nat → Nat → Nat) : (Nat → Nat → Nat) → List Mv → (Nat → Nat → Nat) → Prop
  | cur, [], cur' => ∀ c j, S c j → cur c j = cur' c j
  | cur, v :: l, cur' => (∀ c j, S c j → Gm v (cur c j) (z c j)) ∧ Br S z (fun c j => (v.go (cur c j)).toNat) l cur'
theorem Br.congr {S : Nat → Nat → Prop} {z : Nat → Nat → Nat} : ∀ {l : List Mv} {a b c : Nat → Nat → Nat}, (∀ x j, S x j → a x j = b x j) → Br S z b l c → Br S z a l c
  | [], a, b, c, e, h => fun x j hs => (e x j hs).trans (h x j hs)
  | v :: l, a, b, c, e, h => ⟨fun x j hs => by rw [e x j hs]; exact h.1 x j hs, Br.congr (fun x j hs => by rw [e x j hs]) h.2⟩
theorem Br.append {S : Nat → Nat → Prop} {z : Nat → Nat → Nat} : ∀ {l : List Mv} {k : List Mv} {a b c : Nat → Nat → Nat}, Br S z a l b → Br S z b k c → Br S z a (l ++ k) c
  | [], k, a, b, c, h, q => Br.congr h q
  | v :: l, k, a, b, c, h, q => ⟨h.1, h.2.append q⟩
theorem Br.same {S : Nat → Nat → Prop} {z : Nat → Nat → Nat} {a b : Nat → Nat → Nat} (h : ∀ c j, S c j → a c j = b c j) : Br S z a [] b := h
theorem Br.one {S : Nat → Nat → Prop} {z : Nat → Nat → Nat} {a b : Nat → Nat → Nat} {v : Mv} (g : ∀ c j, S c j → Gm v (a c j) (z c j)) (h : ∀ c j, S c j → v.go (a c j) = (b c j : Nat)) : Br S z a [v] b :=
  ⟨g, fun c j hs => by show (v.go (a c j)).toNat = _; rw [h c j hs]; rfl⟩
theorem go_nn {v : Mv} (h : 0 ≤ v.to) {p : Nat} : 0 ≤ v.go (p : Int) := by
  unfold Mv.go
  split <;> omega
/-- Where tells the place. -/
theorem Br.where {S : Nat → Nat → Prop} {z : Nat → Nat → Nat} : ∀ {l : List Mv} {a b : Nat → Nat → Nat}, (∀ v ∈ l, 0 ≤ v.to) → Br S z a l b → ∀ c j, S c j → whereI (a c j : Nat) l = (b c j : Nat)
  | [], a, b, _, h, c, j, hs => by rw [← h c j hs]; rfl
  | v :: l, a, b, hv, h, c, j, hs => by
    have ih := Br.where (fun x hx => hv x (by simp [hx])) h.2 c j hs
    have e : (((v.go (a c j : Nat)).toNat : Nat) : Int) = v.go (a c j : Nat) := Int.toNat_of_nonneg (go_nn (hv v (by simp)))
    rw [e] at ih
    exact ih
/-- The bytes behind a move. -/
def mvB {α : Type} (v : Mv) (b : Nat → α) : Nat → α := fun p => if v.to ≤ (p : Int) ∧ (p : Int) < v.to + v.ln then b ((p : Int) - v.to + v.fr).toNat else b p
def Hol {α : Type} (S : Nat → Nat → Prop) (z : Nat → Nat → Nat) (T : Nat → Nat → Nat → α) (b : Nat → α) (cur : Nat → Nat → Nat) : Prop := ∀ c j, S c j → ∀ k, k < z c j → b (cur c j + k) = T c j k
theorem Hol.move {α : Type} {S : Nat → Nat → Prop} {z : Nat → Nat → Nat} {T : Nat → Nat → Nat → α} {b : Nat → α} {cur : Nat → Nat → Nat} (h : Hol S z T b cur) {v : Mv} (hv : 0 ≤ v.to) (hf : 0 ≤ v.fr) (g : ∀ c j, S c j → Gm v (cur c j) (z c j)) : Hol S z T (mvB v b) (fun c j => (v.go (cur c j)).toNat) := by
  intro c j hs k hk
  have e := h c j hs k hk
  have gm := g c j hs
  show (if v.to ≤ (((v.go (cur c j)).toNat + k : Nat) : Int) ∧ (((v.go (cur c j)).toNat + k : Nat) : Int) < v.to + v.ln then b ((((v.go (cur c j)).toNat + k : Nat) : Int) - v.to + v.fr).toNat else b ((v.go (cur c j)).toNat + k)) = _
  have hn := go_nn hv (p := cur c j)
  rcases gm with ⟨g1, g2⟩ | ⟨g1, g2⟩
  · have eg : v.go (cur c j : Nat) = (cur c j : Nat) + (v.to - v.fr) := by unfold Mv.go; rw [if_pos (by omega)]
    rw [eg] at hn ⊢
    rw [if_pos (by omega), ← e]
    congr 1
    omega
  · have eg : v.go (cur c j : Nat) = (cur c j : Nat) := by unfold Mv.go; rw [if_neg (by omega)]
    rw [eg, if_neg (by omega), ← e]
    congr 1
theorem Br.holds {α : Type} {S : Nat → Nat → Prop} {z : Nat → Nat → Nat} {T : Nat → Nat → Nat → α} : ∀ {l : List Mv} {a b : Nat → Nat → Nat} {x : Nat → α}, (∀ v ∈ l, 0 ≤ v.to ∧ 0 ≤ v.fr) → Br S z a l b → Hol S z T x a → Hol S z T (l.foldl (fun x v => mvB v x) x) b
  | [], a, b, x, _, h, hx => fun c j hs k hk => by rw [← h c j hs]; exact hx c j hs k hk
  | v :: l, a, b, x, hv, h, hx => by
    rw [List.foldl_cons]
    exact Br.holds (l := l) (fun u hu => hv u (by simp [hu])) h.2 (hx.move (hv v (by simp)).1 (hv v (by simp)).2 h.1)

/-- The large spans that have. -/
def bigL (m : List Sn) (F : Nat → Nat → Bool) : List Nat := (ownL 7 m).filter (hasS m F)
theorem from7 {P : Nat} {m : List Sn} (h : Std P m) (F : Nat → Nat → Bool) : fromL 7 m F = (bigL m F).map (fun i => 256 * (sn m i).pg) := by
  have go : ∀ l : List Nat, (∀ i ∈ l, i < m.length ∧ (sn m i).cl = 7) → fromU m F l = (l.filter (hasS m F)).map (fun i => 256 * (sn m i).pg) := by
    intro l
    induction l with
    | nil => intro _; rfl
    | cons i l ih =>
      intro hl
      have hi := hl i (by simp)
      have ih := ih (fun x hx => hl x (by simp [hx]))
      have s1 := large_one h hi.1 hi.2
      have e : fromU m F (i :: l) = (lsN (F i) (sn m i).sl).map (sn m i).at ++ fromU m F l := rfl
      rw [e, ih, s1]
      cases hf : F i 0 with
      | true =>
        have hh : hasS m F i = true := by unfold hasS; rw [s1]; simp [cnt, hf]
        rw [List.filter_cons_of_pos hh]
        simp [lsN, hf, Sn.at]
      | false =>
        have hh : ¬ (hasS m F i = true) := by unfold hasS; rw [s1]; simp [cnt, hf]
        rw [List.filter_cons_of_neg hh]
        simp [lsN, hf]
  exact go _ own_all
/-- Which objects there are, and where; the span that one comes to, and where in it. -/
def SO (m : List Sn) (F : Nat → Nat → Bool) (c j : Nat) : Prop := c ≤ 7 ∧ j < (fromL c m F).length
def frO (m : List Sn) (F : Nat → Nat → Bool) (c j : Nat) : Nat := (fromL c m F).getD j 0
def sgO (m : List Sn) (F : Nat → Nat → Bool) (c j : Nat) : Nat := if c < 7 then (ownL c m).getD (j / clSl c) 0 else (bigL m F).getD j 0
def omO (c j : Nat) : Nat := if c < 7 then (j % clSl c) * clZ c else 0
def zzO (m : List Sn) (F : Nat → Nat → Bool) (c j : Nat) : Nat := (sn m (sgO m F c j)).z
def miO (m : List Sn) (F : Nat → Nat → Bool) (c j : Nat) : Nat := 256 * (sn m (sgO m F c j)).pg + omO c j
def fiO (m : List Sn) (F : Nat → Nat → Bool) (c j : Nat) : Nat := 256 * endU m (clsF m F 7) (sgO m F c j) + omO c j
theorem div_lt {j n s : Nat} (h : j < n * s) (hs : 0 < s) : j / s < n := (Nat.div_lt_iff_lt_mul hs).2 h
structure Obj1 (P : Nat) (m : List Sn) (F : Nat → Nat → Bool) (c j : Nat) : Prop where
  lt : sgO m F c j < m.length
  cl : (sn m (sgO m F c j)).cl = c
  fit : omO c j + zzO m F c j ≤ 256 * (sn m (sgO m F c j)).k
  pos : 1 ≤ zzO m F c j
  has : hasS m (clsF m F 7) (sgO m F c j) = true
theorem obj_ok {P : Nat} {m : List Sn} (h : Std P m) (F : Nat → Nat → Bool) {c j : Nat} (hs : SO m F c j) : Obj1 P m F c j := by
  obtain ⟨hc, hj⟩ := hs
  rcases Nat.lt_or_eq_of_le hc with hc7 | rfl
  · have hsl := clSl_pos c hc
    have hlen := from_len (c := c) (m := m) F
    have hr : j / clSl c < (ownL c m).length := div_lt (by omega) hsl.1
    obtain ⟨h1, h2⟩ := own_lt hr
    have es : sgO m F c j = (ownL c m).getD (j / clSl c) 0 := by unfold sgO; rw [if_pos hc7]
    have eo : omO c j = (j % clSl c) * clZ c := by unfold omO; rw [if_pos hc7]
    have ez : zzO m F c j = clZ c := by unfold zzO; rw [es]; exact clZ_eq h2 hc7
    refine ⟨by rw [es]; exact h1, by rw [es]; exact h2, ?_, by rw [ez]; have := (clZ_pos c hc7).1; omega, ?_⟩
    · rw [eo, ez, es, small_k (P := P) hc7 h2]
      have hm : j % clSl c < clSl c := Nat.mod_lt _ hsl.1
      have := (clZ_pos c hc7).2.2
      have q : (j % clSl c + 1) * clZ c ≤ clSl c * clZ c := Nat.mul_le_mul_right _ hm
      rw [Nat.add_mul, Nat.one_mul] at q
      omega
    · rw [es, has_at hc7 hr]
      have := Nat.div_mul_le_self j (clSl c)
      omega
  · have hb : j < (bigL m F).length := by rw [from7 h] at hj; simpa using hj
    have es : sgO m F 7 j = (bigL m F).getD j 0 := by unfold sgO; rw [if_neg (by omega)]
    have hm := getD_mem hb
    obtain ⟨hm1, hm2⟩ := List.mem_filter.1 hm
    obtain ⟨h1, h2⟩ := own_all _ hm1
    have hf := (h.ok _ h1).facts
    have s1 := large_one h h1 h2
    refine ⟨by rw [es]; exact h1, by rw [es]; exact h2, ?_, ?_, ?_⟩
    · unfold omO zzO; rw [if_neg (by omega), es]
      have := hf.2.2.2.2.2.2.1
      rw [s1] at this
      omega
    · unfold zzO; rw [es]; omega
    · rw [es]
      unfold hasS at hm2 ⊢
      rw [cls_large h1 h2]; exact hm2
theorem fr_obj {P : Nat} {m : List Sn} (h : Std P m) (F : Nat → Nat → Bool) {c j : Nat} (hs : SO m F c j) : ∃ i, i < m.length ∧ (sn m i).cl = c ∧ 256 * (sn m i).pg ≤ frO m F c j ∧ frO m F c j + zzO m F c j ≤ 256 * ((sn m i).pg + (sn m i).k) := by
  have ob := obj_ok h F hs
  obtain ⟨hc, hj⟩ := hs
  rcases Nat.lt_or_eq_of_le hc with hc7 | rfl
  · obtain ⟨i, s, h1, h2, _, _, _, k1, k2, _⟩ := from_bd h F (getD_mem hj)
    refine ⟨i, h1, h2, k1, ?_⟩
    have e1 := clZ_eq h2 hc7
    have e2 := clZ_eq ob.cl hc7
    unfold zzO
    rw [e2, ← e1]
    exact k2
  · have hb : j < (bigL m F).length := by rw [from7 h] at hj; simpa using hj
    have es : sgO m F 7 j = (bigL m F).getD j 0 := by unfold sgO; rw [if_neg (by omega)]
    have ef : frO m F 7 j = 256 * (sn m (sgO m F 7 j)).pg := by
      unfold frO
      rw [from7 h, es, getD_eq 0 (by simpa using hb), List.getElem_map, getD_eq 0 hb]
    have fit := ob.fit
    refine ⟨sgO m F 7 j, ob.lt, ob.cl, by omega, by rw [ef]; omega⟩
theorem mi_obj {P : Nat} {m : List Sn} (h : Std P m) (F : Nat → Nat → Bool) {c j : Nat} (hs : SO m F c j) : ∃ i, i < m.length ∧ (sn m i).cl = c ∧ 256 * (sn m i).pg ≤ miO m F c j ∧ miO m F c j + zzO m F c j ≤ 256 * ((sn m i).pg + (sn m i).k) := by
  have ob := obj_ok h F hs
  have fit := ob.fit
  exact ⟨sgO m F c j, ob.lt, ob.cl, by unfold miO; omega, by unfold miO; omega⟩
theorem lie_apart {P : Nat} {m : List Sn} (h : Std P m) {c d p q z y : Nat} (hp : ∃ i, i < m.length ∧ (sn m i).cl = c ∧ 256 * (sn m i).pg ≤ p ∧ p + z ≤ 256 * ((sn m i).pg + (sn m i).k)) (hq : ∃ i, i < m.length ∧ (sn m i).cl = d ∧ 256 * (sn m i).pg ≤ q ∧ q + y ≤ 256 * ((sn m i).pg + (sn m i).k)) (hcd : c ≠ d) : p + z ≤ q ∨ q + y ≤ p := by
  obtain ⟨i, h1, h2, h3, h4⟩ := hp
  obtain ⟨k, g1, g2, g3, g4⟩ := hq
  rcases Nat.lt_trichotomy i k with e | e | e
  · have := h.rise i k e g1; omega
  · subst e; omega
  · have := h.rise k i e h1; omega
theorem mi_to {m : List Sn} {F : Nat → Nat → Bool} {c j : Nat} (hc : c < 7) (hj : j < (fromL c m F).length) : miO m F c j = toJ m (ownL c m) (clSl c) j := by
  have hsl := clSl_pos c (by omega)
  have hlen := from_len (c := c) (m := m) F
  have hr : j / clSl c < (ownL c m).length := div_lt (by omega) hsl.1
  obtain ⟨h1, h2⟩ := own_lt hr
  unfold miO toJ Sn.at sgO omO
  rw [if_pos hc, if_pos hc, clZ_eq h2 hc]
theorem z_small {P : Nat} {m : List Sn} (h : Std P m) (F : Nat → Nat → Bool) {c j : Nat} (hc : c < 7) (hs : SO m F c j) : zzO m F c j = clZ c := clZ_eq (obj_ok h F hs).cl hc
theorem pw_get {l : List Nat} {z : Nat} (h : l.Pairwise (fun a b => a + z ≤ b)) {i j : Nat} (hij : i < j) (hj : j < l.length) : l.getD i 0 + z ≤ l.getD j 0 := by
  rw [getD_eq 0 (show i < l.length by omega), getD_eq 0 hj]
  exact (List.pairwise_iff_getElem.1 h) i j (by omega) hj hij
/-- Where the objects are while a class is gathered. -/
def cuO (m : List Sn) (F : Nat → Nat → Bool) (c j : Nat) (d i : Nat) : Nat := if d < c ∨ (d = c ∧ i < j) then miO m F d i else frO m F d i
theorem step1 {P : Nat} {m : List Sn} (h : Std P m) (F : Nat → Nat → Bool) {c : Nat} (hc : c < 7) {j : Nat} (hj : j < (fromL c m F).length) : Br (SO m F) (zzO m F) (cuO m F c j) (mvIf (frO m F c j) (miO m F c j) (clZ c)) (cuO m F c (j + 1)) := by
  have hso : SO m F c j := ⟨by omega, hj⟩
  have hz : zzO m F c j = clZ c := z_small h F hc hso
  have hto := to_le h hc F j hj
  rw [← mi_to hc hj] at hto
  have hto : miO m F c j ≤ frO m F c j := hto
  have hlen := from_len (c := c) (m := m) F
  have hsub := (slots_rise h hc).sublist (from_sub m F (ownL c m))
  have cother : ∀ d i, ¬ (d = c ∧ i = j) → cuO m F c j d i = cuO m F c (j + 1) d i := fun d i hne => by
    unfold cuO
    by_cases q : d < c ∨ (d = c ∧ i < j)
    · rw [if_pos q, if_pos (by omega)]
    · rw [if_neg q, if_neg (by omega)]
  have cown : cuO m F c j c j = frO m F c j ∧ cuO m F c (j + 1) c j = miO m F c j := by
    unfold cuO
    exact ⟨by rw [if_neg (by omega)], by rw [if_pos (by omega)]⟩
  by_cases he : frO m F c j = miO m F c j
  · unfold mvIf
    rw [if_pos he]
    refine Br.same fun d i hs => ?_
    by_cases hne : d = c ∧ i = j
    · obtain ⟨rfl, rfl⟩ := hne
      rw [cown.1, cown.2, he]
    · exact cother d i hne
  · unfold mvIf
    rw [if_neg he]
    have apart : ∀ d i, SO m F d i → ¬ (d = c ∧ i = j) → (cuO m F c j d i + zzO m F d i ≤ frO m F c j ∨ frO m F c j + clZ c ≤ cuO m F c j d i) ∧ (cuO m F c j d i + zzO m F d i ≤ miO m F c j ∨ miO m F c j + clZ c ≤ cuO m F c j d i) := fun d i hs hne => by
      by_cases hd : d = c
      · subst hd
        rw [z_small h F hc hs]
        rcases Nat.lt_or_gt_of_ne (show i ≠ j by omega) with hij | hij
        · have e : cuO m F d j d i = miO m F d i := by unfold cuO; rw [if_pos (by omega)]
          have q := pw_get (slots_rise h hc) hij (by rw [slots_len]; omega)
          rw [slots_get (by omega) i (by omega), slots_get (by omega) j (by omega), ← mi_to hc hs.2, ← mi_to hc hj] at q
          rw [e]
          omega
        · have e : cuO m F d j d i = frO m F d i := by unfold cuO; rw [if_neg (by omega)]
          have q : frO m F d j + clZ d ≤ frO m F d i := pw_get hsub hij hs.2
          rw [e]
          omega
      · have lie : ∃ k, k < m.length ∧ (sn m k).cl = d ∧ 256 * (sn m k).pg ≤ cuO m F c j d i ∧ cuO m F c j d i + zzO m F d i ≤ 256 * ((sn m k).pg + (sn m k).k) := by
          unfold cuO
          split
          · exact mi_obj h F hs
          · exact fr_obj h F hs
        have a1 := lie_apart h lie (fr_obj h F hso) hd
        have a2 := lie_apart h lie (mi_obj h F hso) hd
        rw [hz] at a1 a2
        exact ⟨a1, a2⟩
    refine Br.one (fun d i hs => ?_) (fun d i hs => ?_)
    · by_cases hne : d = c ∧ i = j
      · obtain ⟨rfl, rfl⟩ := hne
        rw [cown.1, hz]
        exact .inl ⟨Int.le_refl _, Int.le_refl _⟩
      · have a := apart d i hs hne
        refine .inr ⟨?_, ?_⟩
        · show ((cuO m F c j d i : Nat) : Int) + (zzO m F d i : Nat) ≤ (frO m F c j : Nat) ∨ ((frO m F c j : Nat) : Int) + (clZ c : Nat) ≤ (cuO m F c j d i : Nat)
          omega
        · show ((cuO m F c j d i : Nat) : Int) + (zzO m F d i : Nat) ≤ (miO m F c j : Nat) ∨ ((miO m F c j : Nat) : Int) + (clZ c : Nat) ≤ (cuO m F c j d i : Nat)
          omega
    · by_cases hne : d = c ∧ i = j
      · obtain ⟨rfl, rfl⟩ := hne
        rw [cown.1, cown.2]
        have hp := (obj_ok h F hso).pos
        rw [hz] at hp
        show (if ((frO m F d i : Nat) : Int) ≤ (frO m F d i : Nat) ∧ ((frO m F d i : Nat) : Int) < (frO m F d i : Nat) + (clZ d : Nat) then ((frO m F d i : Nat) : Int) + ((miO m F d i : Nat) - (frO m F d i : Nat)) else (frO m F d i : Nat)) = (miO m F d i : Nat)
        rw [if_pos (by omega)]
        omega
      · have a := apart d i hs hne
        have hp := (obj_ok h F hs).pos
        rw [← cother d i hne]
        show (if ((frO m F c j : Nat) : Int) ≤ (cuO m F c j d i : Nat) ∧ ((cuO m F c j d i : Nat) : Int) < (frO m F c j : Nat) + (clZ c : Nat) then ((cuO m F c j d i : Nat) : Int) + ((miO m F c j : Nat) - (frO m F c j : Nat)) else (cuO m F c j d i : Nat)) = (cuO m F c j d i : Nat)
        rw [if_neg (by omega)]
theorem gath_br {P : Nat} {m : List Sn} (h : Std P m) (F : Nat → Nat → Bool) {c : Nat} (hc : c < 7) : ∀ j, j ≤ (fromL c m F).length → Br (SO m F) (zzO m F) (cuO m F c 0) (mv1U m (ownL c m) (fromL c m F) (clSl c) (clZ c) j) (cuO m F c j)
  | 0, _ => Br.same fun _ _ _ => rfl
  | j + 1, hj => by
    rw [mv1U]
    refine (gath_br h F hc j (by omega)).append ?_
    have q := step1 h F hc (show j < (fromL c m F).length by omega)
    rw [mi_to hc (by omega)] at q
    exact q
theorem cls_br {P : Nat} {m : List Sn} (h : Std P m) (F : Nat → Nat → Bool) : ∀ c, c ≤ 7 → Br (SO m F) (zzO m F) (frO m F) (clsV m F c) (cuO m F c 0)
  | 0, _ => Br.same fun d i _ => by unfold cuO; rw [if_neg (by omega)]
  | c + 1, hc => by
    rw [clsV]
    refine (cls_br h F c (by omega)).append ?_
    unfold gathV
    rw [cls_from (show c ≤ 7 by omega)]
    have q := (gath_br h F (show c < 7 by omega) _ (Nat.le_refl _)).append (k := []) (c := cuO m F (c + 1) 0) (Br.same fun d i hs => by
      unfold cuO
      by_cases e : d < c ∨ (d = c ∧ i < (fromL c m F).length)
      · rw [if_pos e, if_pos (by omega)]
      · rw [if_neg e, if_neg (fun q => e (by
          rcases q with q | q
          · rcases Nat.lt_or_eq_of_le (Nat.le_of_lt_succ q) with q | q
            · exact .inl q
            · subst q; exact .inr ⟨rfl, hs.2⟩
          · omega))])
    rw [List.append_nil] at q
    exact q
theorem mid_fr {P : Nat} {m : List Sn} (h : Std P m) (F : Nat → Nat → Bool) {j : Nat} (hs : SO m F 7 j) : frO m F 7 j = miO m F 7 j := by
  have hj := hs.2
  have hb : j < (bigL m F).length := by rw [from7 h] at hj; simpa using hj
  unfold miO frO sgO omO
  rw [if_neg (by omega), if_neg (by omega), from7 h, getD_eq 0 (by simpa using hb), List.getElem_map, getD_eq 0 hb]
  omega
/-- Where the objects are while spans are closed up. -/
def clO (m : List Sn) (F : Nat → Nat → Bool) (k d i : Nat) : Nat := if sgO m F d i < k then fiO m F d i else miO m F d i
theorem step2 {P : Nat} {m : List Sn} (h : Std P m) (F : Nat → Nat → Bool) {k : Nat} (hk : k < m.length) : Br (SO m F) (zzO m F) (clO m F k) (if hasS m (clsF m F 7) k then mvIf (256 * (sn m k).pg) (256 * endU m (clsF m F 7) k) (256 * (sn m k).k) else []) (clO m F (k + 1)) := by
  have other : ∀ d i, sgO m F d i ≠ k → clO m F k d i = clO m F (k + 1) d i := fun d i hne => by
    unfold clO
    by_cases q : sgO m F d i < k
    · rw [if_pos q, if_pos (by omega)]
    · rw [if_neg q, if_neg (by omega)]
  by_cases hh : hasS m (clsF m F 7) k = true
  · rw [if_pos hh]
    have hle := (end_le h (clsF m F 7) k (by omega)).1 k hk (Nat.le_refl _)
    have place : ∀ d i, SO m F d i → sgO m F d i ≠ k → clO m F k d i + zzO m F d i ≤ 256 * endU m (clsF m F 7) k ∨ 256 * ((sn m k).pg + (sn m k).k) ≤ clO m F k d i := fun d i hs hne => by
      have ob := obj_ok h F hs
      have fit := ob.fit
      unfold clO
      by_cases q : sgO m F d i < k
      · rw [if_pos q]
        have e1 : endU m (clsF m F 7) (sgO m F d i + 1) = endU m (clsF m F 7) (sgO m F d i) + (sn m (sgO m F d i)).k := by rw [endU, if_pos ob.has]
        have e2 := end_mono m (clsF m F 7) (show sgO m F d i + 1 ≤ k by omega)
        unfold fiO
        omega
      · rw [if_neg q]
        have := h.rise k (sgO m F d i) (by omega) ob.lt
        unfold miO
        omega
    have own : ∀ d i, sgO m F d i = k → clO m F k d i = 256 * (sn m k).pg + omO d i ∧ clO m F (k + 1) d i = 256 * endU m (clsF m F 7) k + omO d i := fun d i e => by
      unfold clO miO fiO
      rw [e]
      exact ⟨by rw [if_neg (by omega)], by rw [if_pos (by omega)]⟩
    by_cases he : 256 * (sn m k).pg = 256 * endU m (clsF m F 7) k
    · unfold mvIf
      rw [if_pos he]
      refine Br.same fun d i hs => ?_
      by_cases e : sgO m F d i = k
      · rw [(own d i e).1, (own d i e).2, he]
      · exact other d i e
    · unfold mvIf
      rw [if_neg he]
      refine Br.one (fun d i hs => ?_) (fun d i hs => ?_)
      · by_cases e : sgO m F d i = k
        · have ob := obj_ok h F hs
          have fit := ob.fit
          rw [e] at fit
          refine .inl ⟨?_, ?_⟩
          · show ((256 * (sn m k).pg : Nat) : Int) ≤ (clO m F k d i : Nat)
            rw [(own d i e).1]; omega
          · show ((clO m F k d i : Nat) : Int) + (zzO m F d i : Nat) ≤ ((256 * (sn m k).pg : Nat) : Int) + ((256 * (sn m k).k : Nat) : Int)
            rw [(own d i e).1]; omega
        · have a := place d i hs e
          refine .inr ⟨?_, ?_⟩
          · show ((clO m F k d i : Nat) : Int) + (zzO m F d i : Nat) ≤ ((256 * (sn m k).pg : Nat) : Int) ∨ ((256 * (sn m k).pg : Nat) : Int) + ((256 * (sn m k).k : Nat) : Int) ≤ (clO m F k d i : Nat)
            omega
          · show ((clO m F k d i : Nat) : Int) + (zzO m F d i : Nat) ≤ ((256 * endU m (clsF m F 7) k : Nat) : Int) ∨ ((256 * endU m (clsF m F 7) k : Nat) : Int) + ((256 * (sn m k).k : Nat) : Int) ≤ (clO m F k d i : Nat)
            omega
      · have ob := obj_ok h F hs
        have hp := ob.pos
        by_cases e : sgO m F d i = k
        · have fit := ob.fit
          rw [e] at fit
          rw [(own d i e).1, (own d i e).2]
          show (if ((256 * (sn m k).pg : Nat) : Int) ≤ ((256 * (sn m k).pg + omO d i : Nat) : Int) ∧ ((256 * (sn m k).pg + omO d i : Nat) : Int) < ((256 * (sn m k).pg : Nat) : Int) + ((256 * (sn m k).k : Nat) : Int) then ((256 * (sn m k).pg + omO d i : Nat) : Int) + (((256 * endU m (clsF m F 7) k : Nat) : Int) - ((256 * (sn m k).pg : Nat) : Int)) else ((256 * (sn m k).pg + omO d i : Nat) : Int)) = ((256 * endU m (clsF m F 7) k + omO d i : Nat) : Int)
          rw [if_pos (by omega)]
          omega
        · have a := place d i hs e
          rw [← other d i e]
          show (if ((256 * (sn m k).pg : Nat) : Int) ≤ (clO m F k d i : Nat) ∧ ((clO m F k d i : Nat) : Int) < ((256 * (sn m k).pg : Nat) : Int) + ((256 * (sn m k).k : Nat) : Int) then ((clO m F k d i : Nat) : Int) + (((256 * endU m (clsF m F 7) k : Nat) : Int) - ((256 * (sn m k).pg : Nat) : Int)) else (clO m F k d i : Nat)) = (clO m F k d i : Nat)
          rw [if_neg (by omega)]
  · rw [if_neg hh]
    refine Br.same fun d i hs => other d i fun e => ?_
    have := (obj_ok h F hs).has
    rw [e] at this
    exact hh this
theorem close_br {P : Nat} {m : List Sn} (h : Std P m) (F : Nat → Nat → Bool) : ∀ k, k ≤ m.length → Br (SO m F) (zzO m F) (miO m F) (mv2U m (clsF m F 7) k) (clO m F k)
  | 0, _ => Br.same fun d i _ => by unfold clO; rw [if_neg (by omega)]
  | k + 1, hk => by
    rw [mv2U]
    exact (close_br h F k (by omega)).append (step2 h F (by omega))
/-- A plan's moves bring each object to its place. -/
theorem plan_br {P : Nat} {m : List Sn} (h : Std P m) (F : Nat → Nat → Bool) : Br (SO m F) (zzO m F) (frO m F) (planV m F) (fiO m F) := by
  unfold planV
  have q1 := (cls_br h F 7 (Nat.le_refl _)).append (k := []) (c := miO m F) (Br.same fun d i hs => by
    unfold cuO
    rcases Nat.lt_or_eq_of_le hs.1 with hd | rfl
    · rw [if_pos (.inl hd)]
    · rw [if_neg (by omega)]; exact mid_fr h F hs)
  have q2 := (close_br h F m.length (Nat.le_refl _)).append (k := []) (c := fiO m F) (Br.same fun d i hs => by
    unfold clO
    rw [if_pos (obj_ok h F hs).lt])
  rw [List.append_nil] at q1 q2
  exact q1.append q2
end Go.Proofs.YtebmegghojiegaaDoor

/- Plain mathematics of SlideKeeps: the list of the objects. -/
namespace Go.Proofs.YtebmegghojiegaaDoor
set_option linter.unusedVariables false

/-- The live slots of a span: where, and how many bytes. -/
def oneO (m : List Sn) (F : Nat → Nat → Bool) (i : Nat) : List (Nat × Nat) := (lsN (F i) (sn m i).sl).map (fun s => ((sn m i).at s, (sn m i).z))
/-- Those of a class among the first k spans; of the first classes. -/
def obK (m : List Sn) (F : Nat → Nat → Bool) (c : Nat) : Nat → List (Nat × Nat)
  | 0 => []
  | k + 1 => obK m F c k ++ if (sn m k).cl = c then oneO m F k else []
def obP (m : List Sn) (F : Nat → Nat → Bool) : Nat → List (Nat × Nat)
  | 0 => []
  | c + 1 => obP m F c ++ obK m F c m.length
theorem obK_own (m : List Sn) (F : Nat → Nat → Bool) (c : Nat) : ∀ k, obK m F c k = (ownU c m k).flatMap (oneO m F)
  | 0 => rfl
  | k + 1 => by
    rw [obK, ownU, List.flatMap_append, obK_own m F c k]
    congr 1
    split <;> simp
theorem map_getD {α : Type} (l : List Nat) (f : Nat → α) : (List.range l.length).map (fun j => f (l.getD j 0)) = l.map f := by
  have := congrArg (List.map f) (range_getD l)
  rw [List.map_map] at this
  exact this
theorem obK_small {m : List Sn} {F : Nat → Nat → Bool} {c : Nat} (hc : c < 7) : obK m F c m.length = (fromL c m F).map (fun p => (p, clZ c)) := by
  rw [obK_own]
  unfold fromL fromU
  rw [List.map_flatMap]
  have go : ∀ l : List Nat, (∀ i ∈ l, i < m.length ∧ (sn m i).cl = c) → l.flatMap (oneO m F) = l.flatMap (fun i => ((lsN (F i) (sn m i).sl).map (sn m i).at).map (fun p => (p, clZ c))) := by
    intro l
    induction l with
    | nil => intro _; rfl
    | cons i l ih =>
      intro hl
      rw [List.flatMap_cons, List.flatMap_cons, ih (fun x hx => hl x (by simp [hx]))]
      congr 1
      unfold oneO
      rw [List.map_map, clZ_eq (hl i (by simp)).2 hc]
      rfl
  exact go _ own_all
theorem obK_large {P : Nat} {m : List Sn} (h : Std P m) (F : Nat → Nat → Bool) : obK m F 7 m.length = (bigL m F).map (fun i => (256 * (sn m i).pg, (sn m i).z)) := by
  rw [obK_own]
  have go : ∀ l : List Nat, (∀ i ∈ l, i < m.length ∧ (sn m i).cl = 7) → l.flatMap (oneO m F) = (l.filter (hasS m F)).map (fun i => (256 * (sn m i).pg, (sn m i).z)) := by
    intro l
    induction l with
    | nil => intro _; rfl
    | cons i l ih =>
      intro hl
      have hi := hl i (by simp)
      have s1 := large_one h hi.1 hi.2
      rw [List.flatMap_cons, ih (fun x hx => hl x (by simp [hx]))]
      unfold oneO
      rw [s1]
      cases hf : F i 0 with
      | true =>
        have hh : hasS m F i = true := by unfold hasS; rw [s1]; simp [cnt, hf]
        rw [List.filter_cons_of_pos hh]
        simp [lsN, hf, Sn.at]
      | false =>
        have hh : ¬ (hasS m F i = true) := by unfold hasS; rw [s1]; simp [cnt, hf]
        rw [List.filter_cons_of_neg hh]
        simp [lsN, hf]
  exact go _ own_all
/-- The objects by their numbers. -/
def idU (m : List Sn) (F : Nat → Nat → Bool) : Nat → List (Nat × Nat)
  | 0 => []
  | c + 1 => idU m F c ++ (List.range (fromL c m F).length).map (fun j => (c, j))
theorem idU_mem {m : List Sn} {F : Nat → Nat → Bool} : ∀ {n : Nat} {x : Nat × Nat}, x ∈ idU m F n ↔ x.1 < n ∧ x.2 < (fromL x.1 m F).length
  | 0, x => by simp [idU]
  | n + 1, x => by
    rw [idU, List.mem_append, idU_mem, List.mem_map]
    constructor
    · rintro (⟨h1, h2⟩ | ⟨j, hj, rfl⟩)
      · exact ⟨by omega, h2⟩
      · exact ⟨by simp, by simpa using hj⟩
    · rintro ⟨h1, h2⟩
      by_cases e : x.1 = n
      · exact .inr ⟨x.2, by rw [← e]; simpa using h2, by rw [← e]⟩
      · exact .inl ⟨by omega, h2⟩
theorem idU_nodup (m : List Sn) (F : Nat → Nat → Bool) : ∀ n, (idU m F n).Nodup
  | 0 => List.nodup_nil
  | n + 1 => by
    rw [idU, List.nodup_append]
    refine ⟨idU_nodup m F n, ?_, ?_⟩
    · rw [List.nodup_iff_pairwise_ne, List.pairwise_map]
      refine List.nodup_range.imp ?_
      intro a b hab e
      exact hab (by injection e)
    · intro a ha b hb e
      have h1 := (idU_mem.1 ha).1
      obtain ⟨j, _, rfl⟩ := List.mem_map.1 hb
      subst e
      simp at h1
theorem ob_old {P : Nat} {m : List Sn} (h : Std P m) (F : Nat → Nat → Bool) : ∀ n, n ≤ 8 → obP m F n = (idU m F n).map (fun x => (frO m F x.1 x.2, zzO m F x.1 x.2))
  | 0, _ => rfl
  | c + 1, hc => by
    rw [obP, idU, List.map_append, ob_old h F c (by omega)]
    congr 1
    rw [List.map_map]
    have key : ∀ j, j < (fromL c m F).length → ((fun x : Nat × Nat => (frO m F x.1 x.2, zzO m F x.1 x.2)) ∘ fun j => (c, j)) j = (frO m F c j, zzO m F c j) := fun j _ => rfl
    rcases Nat.lt_or_eq_of_le (show c ≤ 7 by omega) with hc7 | rfl
    · rw [obK_small hc7, ← map_getD (fromL c m F) (fun p => (p, clZ c))]
      apply List.map_congr_left
      intro j hj
      rw [key j (by simpa using hj), z_small h F hc7 ⟨by omega, by simpa using hj⟩]
      rfl
    · have el : (fromL 7 m F).length = (bigL m F).length := by rw [from7 h]; simp
      rw [obK_large h F, ← map_getD (bigL m F) (fun i => (256 * (sn m i).pg, (sn m i).z)), el]
      apply List.map_congr_left
      intro j hj
      have hj : j < (bigL m F).length := by simpa using hj
      have es : sgO m F 7 j = (bigL m F).getD j 0 := by unfold sgO; rw [if_neg (by omega)]
      rw [key j (by omega), mid_fr h F ⟨Nat.le_refl _, by omega⟩]
      unfold miO zzO omO
      rw [es, if_neg (by omega), Nat.add_zero]
theorem aft_z {m : List Sn} {F : Nat → Nat → Bool} {i : Nat} (h : i < (kept m F).length) : (sn (aftM m F) i).z = (sn m ((kept m F).getD i 0)).z := by
  rw [aft_sn h]; rfl
theorem big_has {m : List Sn} (F : Nat → Nat → Bool) : (ownL 7 m).filter (hasS m (clsF m F 7)) = bigL m F := by
  unfold bigL
  apply List.filter_congr
  intro i hi
  obtain ⟨h1, h2⟩ := own_all i hi
  exact has_congr (cls_large h1 h2)
theorem fin_small {m : List Sn} {F : Nat → Nat → Bool} (hI : InF m (clsF m F 7)) {c : Nat} (hc : c < 7) {j : Nat} (hj : j < (fromL c m F).length) : (fromL c (aftM m F) (aftF m F)).getD j 0 = fiO m F c j := by
  obtain ⟨e1, e2⟩ := aft_from hI hc
  have hroom := aft_room hI hc
  have hsl := clSl_pos c (by omega)
  have hr : j / clSl c < (ownL c (aftM m F)).length := div_lt (by omega) hsl.1
  obtain ⟨a1, a2⟩ := aft_own_at hI hc hr
  have hk := (own_lt hr).1
  rw [aft_len] at hk
  have e3 : (fromL c (aftM m F) (aftF m F)).getD j 0 = (slotPl (aftM m F) (ownL c (aftM m F))).getD j 0 := by
    rw [e1]
    simp only [List.getD_eq_getElem?_getD, List.getElem?_take]
    rw [if_pos hj]
  rw [e3, slots_get (by omega) j (by omega)]
  have hcl := (own_lt hr).2
  unfold toJ Sn.at fiO sgO omO
  rw [if_pos hc, if_pos hc, clZ_eq hcl hc, aft_sn hk, a1]
theorem ob_new {P : Nat} {m : List Sn} (h : Std P m) (F : Nat → Nat → Bool) (hI : InF m (clsF m F 7)) (hA : Std P (aftM m F)) : ∀ n, n ≤ 8 → obP (aftM m F) (aftF m F) n = (idU m F n).map (fun x => (fiO m F x.1 x.2, zzO m F x.1 x.2))
  | 0, _ => rfl
  | c + 1, hc => by
    rw [obP, idU, List.map_append, ob_new h F hI hA c (by omega)]
    congr 1
    rw [List.map_map]
    rcases Nat.lt_or_eq_of_le (show c ≤ 7 by omega) with hc7 | rfl
    · rw [obK_small hc7, ← map_getD (fromL c (aftM m F) (aftF m F)) (fun p => (p, clZ c)), (aft_from hI hc7).2]
      apply List.map_congr_left
      intro j hj
      have hj : j < (fromL c m F).length := by simpa using hj
      show ((fromL c (aftM m F) (aftF m F)).getD j 0, clZ c) = (fiO m F c j, zzO m F c j)
      rw [fin_small hI hc7 hj, z_small h F hc7 ⟨by omega, hj⟩]
    · have el : (fromL 7 m F).length = (bigL m F).length := by rw [from7 h]; simp
      have eb : bigL (aftM m F) (aftF m F) = ownL 7 (aftM m F) := by
        unfold bigL
        rw [List.filter_eq_self]
        intro i hi
        have hk := (own_all i hi).1
        rw [aft_len] at hk
        exact aft_has hI hk
      have em : (ownL 7 (aftM m F)).map (fun i => (256 * (sn (aftM m F) i).pg, (sn (aftM m F) i).z)) = (bigL m F).map (fun i => (256 * endU m (clsF m F 7) i, (sn m i).z)) := by
        rw [← big_has F, ← aft_own hI 7, List.map_map]
        apply List.map_congr_left
        intro i hi
        have hk := (own_all i hi).1
        rw [aft_len] at hk
        show _ = (256 * endU m (clsF m F 7) ((kept m F).getD i 0), (sn m ((kept m F).getD i 0)).z)
        rw [aft_z hk, aft_sn hk]
      rw [obK_large hA, eb, em, ← map_getD (bigL m F) (fun i => (256 * endU m (clsF m F 7) i, (sn m i).z)), el]
      apply List.map_congr_left
      intro j hj
      have es : sgO m F 7 j = (bigL m F).getD j 0 := by unfold sgO; rw [if_neg (by omega)]
      show _ = (fiO m F 7 j, zzO m F 7 j)
      unfold fiO zzO omO
      rw [es, if_neg (by omega), Nat.add_zero]
/-- No two objects lie on one another. -/
theorem fr_apart {P : Nat} {m : List Sn} (h : Std P m) (F : Nat → Nat → Bool) {c j d i : Nat} (hs : SO m F c j) (ht : SO m F d i) (hne : ¬ (c = d ∧ j = i)) : frO m F c j + zzO m F c j ≤ frO m F d i ∨ frO m F d i + zzO m F d i ≤ frO m F c j := by
  by_cases hcd : c = d
  · subst hcd
    rcases Nat.lt_or_eq_of_le hs.1 with hc7 | rfl
    · have hsub := (slots_rise h hc7).sublist (from_sub m F (ownL c m))
      rw [z_small h F hc7 hs, z_small h F hc7 ht]
      rcases Nat.lt_or_gt_of_ne (show j ≠ i by omega) with q | q
      · exact .inl (pw_get hsub q ht.2)
      · exact .inr (pw_get hsub q hs.2)
    · have el : (fromL 7 m F).length = (bigL m F).length := by rw [from7 h]; simp
      have h1 := hs.2
      have h2 := ht.2
      have hrise : (bigL m F).Pairwise (· < ·) := (ownU_rises 7 m m.length).sublist List.filter_sublist
      have es : ∀ j, sgO m F 7 j = (bigL m F).getD j 0 := fun j => by unfold sgO; rw [if_neg (by omega)]
      have lt : ∀ a b, a < b → b < (bigL m F).length → sgO m F 7 a < sgO m F 7 b := fun a b hab hb => by
        rw [es, es, getD_eq 0 (show a < (bigL m F).length by omega), getD_eq 0 hb]
        exact (List.pairwise_iff_getElem.1 hrise) a b (by omega) hb hab
      have o1 := obj_ok h F hs
      have o2 := obj_ok h F ht
      have f1 := o1.fit
      have f2 := o2.fit
      rw [mid_fr h F hs, mid_fr h F ht]
      unfold miO
      rcases Nat.lt_or_gt_of_ne (show j ≠ i by omega) with q | q
      · have := h.rise _ _ (lt j i q (by omega)) o2.lt
        omega
      · have := h.rise _ _ (lt i j q (by omega)) o1.lt
        omega
  · exact lie_apart h (fr_obj h F hs) (fr_obj h F ht) hcd
theorem fr_in {P : Nat} {m : List Sn} (h : Std P m) (F : Nat → Nat → Bool) {c j : Nat} (hs : SO m F c j) : frO m F c j + zzO m F c j ≤ 256 * P := by
  obtain ⟨i, h1, _, _, h4⟩ := fr_obj h F hs
  have := h.top i h1
  omega
theorem fi_in {P : Nat} {m : List Sn} (h : Std P m) (F : Nat → Nat → Bool) {c j : Nat} (hs : SO m F c j) : fiO m F c j + zzO m F c j ≤ 256 * P := by
  have ob := obj_ok h F hs
  have fit := ob.fit
  have hle := (end_le h (clsF m F 7) (sgO m F c j) (Nat.le_of_lt ob.lt)).1 _ ob.lt (Nat.le_refl _)
  have := h.top _ ob.lt
  unfold fiO
  omega
end Go.Proofs.YtebmegghojiegaaDoor

/- Plain mathematics of SlideKeeps: what the law asks. -/
namespace Go.Proofs.YtebmegghojiegaaDoor
set_option linter.unusedVariables false

/-- Objects by number: where they were, where they are, and what the moves do. -/
structure Kp (B : Nat) (O N : List (Nat × Nat)) (V : List Mv) : Prop where
  len : O.length = N.length
  same : ∀ i, i < O.length → (O.getD i (0, 0)).2 = (N.getD i (0, 0)).2
  pos : ∀ i, i < O.length → 1 ≤ (O.getD i (0, 0)).2
  wh : ∀ i, i < O.length → whereI ((O.getD i (0, 0)).1 : Nat) V = ((N.getD i (0, 0)).1 : Nat)
  old : ∀ i, i < O.length → (O.getD i (0, 0)).1 + (O.getD i (0, 0)).2 ≤ B
  new : ∀ i, i < O.length → (N.getD i (0, 0)).1 + (N.getD i (0, 0)).2 ≤ B
  apart : ∀ i j, i < O.length → j < O.length → i ≠ j → (O.getD i (0, 0)).1 + (O.getD i (0, 0)).2 ≤ (O.getD j (0, 0)).1 ∨ (O.getD j (0, 0)).1 + (O.getD j (0, 0)).2 ≤ (O.getD i (0, 0)).1
  bytes : ∀ b : Nat → Nat × Nat, (∀ i, i < O.length → ∀ k, k < (O.getD i (0, 0)).2 → b ((O.getD i (0, 0)).1 + k) = (i + 1, k)) → ∀ i, i < O.length → ∀ k, k < (O.getD i (0, 0)).2 → (V.foldl (fun x v => mvB v x) b) ((N.getD i (0, 0)).1 + k) = (i + 1, k)
  dn : ∀ v ∈ V, v.Dn B
theorem keeps_kp {P : Nat} {m : List Sn} (h : Std P m) (F : Nat → Nat → Bool) (hI : InF m (clsF m F 7)) (hA : Std P (aftM m F)) : Kp (256 * P) (obP m F 8) (obP (aftM m F) (aftF m F) 8) (planV m F) := by
  have eo := ob_old h F 8 (Nat.le_refl _)
  have en := ob_new h F hI hA 8 (Nat.le_refl _)
  have br := plan_br h F
  have dn := plan_dn h F
  have nd := idU_nodup m F 8
  obtain ⟨D, hD⟩ : ∃ D, idU m F 8 = D := ⟨_, rfl⟩
  have mem : ∀ x, x ∈ D ↔ SO m F x.1 x.2 := fun x => by
    rw [← hD, idU_mem]
    unfold SO
    constructor <;> rintro ⟨a, b⟩ <;> exact ⟨by omega, b⟩
  rw [hD] at eo en nd
  rw [eo, en]
  have L : (D.map (fun x => (frO m F x.1 x.2, zzO m F x.1 x.2))).length = D.length := List.length_map _
  have go : ∀ i (hi : i < D.length), (D.map (fun x => (frO m F x.1 x.2, zzO m F x.1 x.2))).getD i (0, 0) = (frO m F D[i].1 D[i].2, zzO m F D[i].1 D[i].2) := fun i hi => by
    simp [List.getD_eq_getElem?_getD, List.getElem?_eq_getElem hi]
  have gn : ∀ i (hi : i < D.length), (D.map (fun x => (fiO m F x.1 x.2, zzO m F x.1 x.2))).getD i (0, 0) = (fiO m F D[i].1 D[i].2, zzO m F D[i].1 D[i].2) := fun i hi => by
    simp [List.getD_eq_getElem?_getD, List.getElem?_eq_getElem hi]
  have so : ∀ i (hi : i < D.length), SO m F D[i].1 D[i].2 := fun i hi => (mem _).1 (List.getElem_mem hi)
  refine ⟨by simp, ?_, ?_, ?_, ?_, ?_, ?_, ?_, dn⟩
  · intro i hi
    rw [L] at hi
    rw [go i hi, gn i hi]
  · intro i hi
    rw [L] at hi
    rw [go i hi]
    exact (obj_ok h F (so i hi)).pos
  · intro i hi
    rw [L] at hi
    rw [go i hi, gn i hi]
    exact br.where (fun v hv => (dn v hv).1) _ _ (so i hi)
  · intro i hi
    rw [L] at hi
    rw [go i hi]
    exact fr_in h F (so i hi)
  · intro i hi
    rw [L] at hi
    rw [gn i hi]
    exact fi_in h F (so i hi)
  · intro i j hi hj hne
    rw [L] at hi hj
    rw [go i hi, go j hj]
    refine fr_apart h F (so i hi) (so j hj) fun e => hne ?_
    have : D[i] = D[j] := Prod.ext e.1 e.2
    exact (List.getElem_inj nd).1 this
  · intro b hb i hi k hk
    rw [L] at hi
    rw [go i hi] at hk
    rw [gn i hi]
    have hol : Hol (SO m F) (zzO m F) (fun c j k => (D.idxOf (c, j) + 1, k)) b (frO m F) := fun c j hs k hk => by
      have hm : (c, j) ∈ D := (mem (c, j)).2 hs
      have hx : D.idxOf (c, j) < D.length := List.idxOf_lt_length_iff.2 hm
      have e : D[D.idxOf (c, j)] = (c, j) := List.getElem_idxOf hx
      have q := hb (D.idxOf (c, j)) (by rw [L]; exact hx) k (by rw [go _ hx, e]; exact hk)
      rw [go _ hx, e] at q
      exact q
    have q := br.holds (fun v hv => ⟨(dn v hv).1, by have := dn v hv; unfold Mv.Dn at this; omega⟩) hol _ _ (so i hi) k hk
    have e : D.idxOf (D[i].1, D[i].2) = i := by
      show D.idxOf D[i] = i
      exact nd.idxOf_getElem i hi
    simp only [e] at q
    exact q
end Go.Proofs.YtebmegghojiegaaDoor
