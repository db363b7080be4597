/- Plain mathematics of layer 13: the j-th live slot never lies ahead of the j-th slot; what is taken behind it. -/
import Derived.Test.YtbnmbkohmmiamaaDoorSlP
namespace Go.Proofs.YtbnmbkohmmiamaaDoor
set_option linter.unusedVariables false

theorem getD_eq {α : Type} {l : List α} {i : Nat} (d : α) (h : i < l.length) : l.getD i d = l[i] := by simp [List.getD_eq_getElem?_getD, List.getElem?_eq_getElem h]
theorem getD_mem {l : List Nat} {i : Nat} (h : i < l.length) : l.getD i 0 ∈ l := by rw [getD_eq 0 h]; exact List.getElem_mem h
/-- Rows of the same length one behind the other. -/
theorem flat_get (g : Nat → List Nat) (n : Nat) (hn : 0 < n) : ∀ (l : List Nat), (∀ i ∈ l, (g i).length = n) → ∀ j, j < l.length * n → (l.flatMap g).getD j 0 = (g (l.getD (j / n) 0)).getD (j % n) 0
  | [], _, j, h => by simp at h
  | a :: l, hl, j, h => by
    have ha := hl a (by simp)
    rw [List.flatMap_cons]
    by_cases hj : j < n
    · rw [Nat.div_eq_of_lt hj, Nat.mod_eq_of_lt hj]
      simp only [List.getD_eq_getElem?_getD, List.getElem?_append_left (show j < (g a).length by omega)]
      rfl
    · have e1 : j / n = (j - n) / n + 1 := by rw [Nat.div_eq_sub_div hn (by omega)]
      have e2 : j % n = (j - n) % n := Nat.mod_eq_sub_mod (by omega)
      have ih := flat_get g n hn l (fun i hi => hl i (by simp [hi])) (j - n) (by rw [List.length_cons, Nat.add_mul] at h; omega)
      rw [e1, e2]
      have e3 : (g a ++ List.flatMap g l).getD j 0 = (List.flatMap g l).getD (j - n) 0 := by
        simp only [List.getD_eq_getElem?_getD, List.getElem?_append_right (show (g a).length ≤ j by omega), ha]
      rw [e3, ih]
      simp [List.getD_eq_getElem?_getD]
theorem flat_len (g : Nat → List Nat) (n : Nat) : ∀ (l : List Nat), (∀ i ∈ l, (g i).length = n) → (l.flatMap g).length = l.length * n
  | [], _ => by simp
  | a :: l, hl => by
    rw [List.flatMap_cons, List.length_append, flat_len g n l (fun i hi => hl i (by simp [hi])), hl a (by simp), List.length_cons, Nat.add_mul]
    omega
theorem flat_sub (g h : Nat → List Nat) : ∀ (l : List Nat), (∀ i ∈ l, (g i).Sublist (h i)) → (l.flatMap g).Sublist (l.flatMap h)
  | [], _ => List.Sublist.refl _
  | a :: l, hl => by
    rw [List.flatMap_cons, List.flatMap_cons]
    exact (hl a (by simp)).append (flat_sub g h l (fun i hi => hl i (by simp [hi])))
/-- Of a row that rises, what is left of it: no entry lies ahead of the one at its place. -/
theorem sub_ge {l1 l2 : List Nat} (h : l1.Sublist l2) : l2.Pairwise (· < ·) → ∀ j, j < l1.length → l2.getD j 0 ≤ l1.getD j 0 := by
  induction h with
  | slnil => intro _ j hj; simp at hj
  | @cons l1 l2 a hs ih =>
    intro hp j hj
    obtain ⟨p1, p2⟩ := List.pairwise_cons.1 hp
    have hl := hs.length_le
    cases j with
    | zero =>
      have := p1 _ (hs.subset (getD_mem hj))
      simp only [List.getD_cons_zero]; omega
    | succ j =>
      have h1 := ih p2 (j + 1) hj
      have h2 := (List.pairwise_iff_getElem.1 p2) j (j + 1) (by omega) (by omega) (by omega)
      simp only [List.getD_cons_succ]
      rw [getD_eq 0 (by omega)] at h1
      rw [getD_eq 0 (by omega)]
      omega
  | @cons_cons l1 l2 a hs ih =>
    intro hp j hj
    obtain ⟨p1, p2⟩ := List.pairwise_cons.1 hp
    cases j with
    | zero => simp
    | succ j =>
      simp only [List.getD_cons_succ]
      exact ih p2 j (by simpa using hj)

/-- All slots of spans. -/
def slotPl (m : List Sn) (l : List Nat) : List Nat := l.flatMap (fun i => (List.range (sn m i).sl).map (sn m i).at)
theorem from_sub (m : List Sn) (F : Nat → Nat → Bool) (l : List Nat) : (fromU m F l).Sublist (slotPl m l) :=
  flat_sub _ _ l (fun i _ => (lsN_sub (F i) (sn m i).sl).map _)
theorem clSl_eq {m : List Sn} {c i : Nat} (h : (sn m i).cl = c) : (sn m i).sl = clSl c := by unfold Sn.sl clSl; rw [h]
theorem clZ_eq {m : List Sn} {c i : Nat} (h : (sn m i).cl = c) (hc : c < 7) : (sn m i).z = clZ c := by
  unfold Sn.z clZ szI; rw [h, if_neg (by omega)]
theorem clSl_pos (c : Nat) (hc : c ≤ 7) : 1 ≤ clSl c ∧ clSl c ≤ 16 := by
  rcases h : c with _ | _ | _ | _ | _ | _ | _ | _ | c
  iterate 8 · decide
  · omega
theorem clZ_pos (c : Nat) (hc : c < 7) : 16 ≤ clZ c ∧ clZ c ≤ 128 ∧ clSl c * clZ c ≤ 256 := by
  rcases h : c with _ | _ | _ | _ | _ | _ | _ | c
  iterate 7 · decide
  · omega
theorem sizeI_Z (c : Nat) (hc : c < 7) : sizeI (c : Int) = (clZ c : Int) := by
  rcases h : c with _ | _ | _ | _ | _ | _ | _ | c
  iterate 7 · decide
  · omega
theorem slotPl_rises {P : Nat} {m : List Sn} (h : Std P m) (z : Nat) : ∀ (l : List Nat), l.Pairwise (· < ·) → (∀ i ∈ l, i < m.length ∧ (sn m i).z = z) → (slotPl m l).Pairwise (fun a b => a + z ≤ b)
  | [], _, _ => List.Pairwise.nil
  | a :: l, hp, hl => by
    obtain ⟨p1, p2⟩ := List.pairwise_cons.1 hp
    obtain ⟨ha, hz⟩ := hl a (by simp)
    unfold slotPl
    rw [List.flatMap_cons, List.pairwise_append]
    refine ⟨?_, slotPl_rises h z l p2 (fun i hi => hl i (by simp [hi])), fun x hx y hy => ?_⟩
    · rw [List.pairwise_map]
      refine List.Pairwise.imp ?_ (List.pairwise_lt_range (n := (sn m a).sl))
      intro i j hij
      rw [← hz]; exact Sn.at_lt hij
    · obtain ⟨i, hi, rfl⟩ := List.mem_map.1 hx
      obtain ⟨b, hb, hy⟩ := List.mem_flatMap.1 hy
      obtain ⟨j, hj, rfl⟩ := List.mem_map.1 hy
      have k1 := ((h.ok a ha).at_in (List.mem_range.1 hi)).2
      have hbl := hl b (by simp [hb])
      have k2 := ((h.ok b hbl.1).at_in (List.mem_range.1 hj)).1
      have k3 := h.rise a b (p1 b hb) hbl.1
      rw [hz] at k1
      omega
/-- What is so of a small class's slots. -/
theorem own_all {c : Nat} {m : List Sn} : ∀ i ∈ ownL c m, i < m.length ∧ (sn m i).cl = c := fun i hi => (ownU_mem c m i _).1 hi
theorem slots_get {c : Nat} {m : List Sn} (hc : c ≤ 7) (j : Nat) (hj : j < (ownL c m).length * clSl c) : (slotPl m (ownL c m)).getD j 0 = toJ m (ownL c m) (clSl c) j := by
  have hs := (clSl_pos c hc).1
  unfold slotPl toJ
  rw [flat_get _ (clSl c) hs _ (fun i hi => by rw [List.length_map, List.length_range]; exact clSl_eq (own_all i hi).2) j hj]
  have hr : j / clSl c < (ownL c m).length := Nat.div_lt_of_lt_mul (by rw [Nat.mul_comm]; exact hj)
  have hm : j % clSl c < (sn m ((ownL c m).getD (j / clSl c) 0)).sl := by rw [clSl_eq (own_lt hr).2]; exact Nat.mod_lt _ hs
  rw [getD_eq 0 (by rw [List.length_map, List.length_range]; exact hm)]
  simp
theorem slots_len {c : Nat} {m : List Sn} : (slotPl m (ownL c m)).length = (ownL c m).length * clSl c :=
  flat_len _ _ _ (fun i hi => by rw [List.length_map, List.length_range]; exact clSl_eq (own_all i hi).2)
theorem from_len {c : Nat} {m : List Sn} (F : Nat → Nat → Bool) : (fromL c m F).length ≤ (ownL c m).length * clSl c := by
  rw [← slots_len]; exact (from_sub m F _).length_le
theorem slots_rise {P c : Nat} {m : List Sn} (h : Std P m) (hc : c < 7) : (slotPl m (ownL c m)).Pairwise (fun a b => a + clZ c ≤ b) :=
  slotPl_rises h (clZ c) _ (ownU_rises c m _) (fun i hi => ⟨(own_all i hi).1, clZ_eq (own_all i hi).2 hc⟩)
theorem slots_lt {P c : Nat} {m : List Sn} (h : Std P m) (hc : c < 7) : (slotPl m (ownL c m)).Pairwise (· < ·) :=
  (slots_rise h hc).imp (fun {a b} k => by have := (clZ_pos c hc).1; omega)
/-- A slot comes downwards. -/
theorem to_le {P c : Nat} {m : List Sn} (h : Std P m) (hc : c < 7) (F : Nat → Nat → Bool) (j : Nat) (hj : j < (fromL c m F).length) : toJ m (ownL c m) (clSl c) j ≤ (fromL c m F).getD j 0 := by
  rw [← slots_get (by omega) j (by have := from_len (c := c) (m := m) F; omega)]
  exact sub_ge (from_sub m F _) (slots_lt h hc) j hj

/-- What is taken behind j slots. -/
theorem fill_else {own : List Nat} {sl : Nat} {F : Nat → Nat → Bool} {i : Nat} (hs : 0 < sl) (hi : i ∉ own) : ∀ j, j ≤ own.length * sl → fillF own sl F j i = F i
  | 0, _ => rfl
  | j + 1, h => by
    have hq : j / sl < own.length := Nat.div_lt_of_lt_mul (by rw [Nat.mul_comm]; omega)
    rw [fillF, updF, if_neg (fun e => hi (by rw [e]; exact getD_mem hq))]
    exact fill_else hs hi j (by omega)
theorem fill_at {own : List Nat} {sl : Nat} {F : Nat → Nat → Bool} (hs : 0 < sl) (hinj : ∀ r q, r < own.length → q < own.length → own.getD r 0 = own.getD q 0 → r = q) (r : Nat) (hr : r < own.length) : ∀ j, j ≤ own.length * sl → fillF own sl (clrF F own) j (own.getD r 0) = fun x => decide (x < sl ∧ r * sl + x < j)
  | 0, _ => by
    rw [fillF, clrF, if_pos (getD_mem hr)]
    funext x; simp
  | j + 1, h => by
    have ih := fill_at (F := F) hs hinj r hr j (by omega)
    have hq : j / sl < own.length := Nat.div_lt_of_lt_mul (by rw [Nat.mul_comm]; omega)
    have hm : j % sl < sl := Nat.mod_lt _ hs
    have hd : j = j / sl * sl + j % sl := by have := Nat.div_add_mod j sl; rw [Nat.mul_comm] at this; omega
    obtain ⟨q, hqe⟩ : ∃ q, j / sl = q := ⟨_, rfl⟩
    obtain ⟨y, hye⟩ : ∃ y, j % sl = y := ⟨_, rfl⟩
    rw [fillF, hqe, hye]
    rw [hqe] at hq hd
    rw [hye] at hm hd
    by_cases e : r = q
    · subst e
      rw [updF, if_pos rfl, ih]
      funext x
      unfold put
      by_cases ex : x = y
      · rw [if_pos ex]; symm; exact decide_eq_true ⟨by omega, by omega⟩
      · rw [if_neg ex]
        show decide _ = decide _
        congr 1
        apply propext
        constructor
        · rintro ⟨a, b⟩; exact ⟨a, by omega⟩
        · rintro ⟨a, b⟩; exact ⟨a, by omega⟩
    · rw [updF, if_neg (fun k => e (hinj r q hr hq k)), ih]
      funext x
      congr 1
      apply propext
      constructor
      · rintro ⟨a, b⟩; exact ⟨a, by omega⟩
      · rintro ⟨a, b⟩
        refine ⟨a, ?_⟩
        rcases Nat.lt_or_gt_of_ne e with k | k
        · have : (r + 1) * sl ≤ q * sl := Nat.mul_le_mul_right _ k
          rw [Nat.add_mul, Nat.one_mul] at this
          omega
        · have : (q + 1) * sl ≤ r * sl := Nat.mul_le_mul_right _ k
          rw [Nat.add_mul, Nat.one_mul] at this
          omega
theorem gath_at {c : Nat} {m : List Sn} {F : Nat → Nat → Bool} (hc : c ≤ 7) (r : Nat) (hr : r < (ownL c m).length) : gathF c m F ((ownL c m).getD r 0) = fun x => decide (x < clSl c ∧ r * clSl c + x < (fromL c m F).length) :=
  fill_at (clSl_pos c hc).1 (fun r q h1 h2 h3 => own_inj h1 h2 h3) r hr _ (from_len F)
theorem gath_else {c : Nat} {m : List Sn} {F : Nat → Nat → Bool} (hc : c ≤ 7) {i : Nat} (hi : i < m.length) (h : (sn m i).cl ≠ c) : gathF c m F i = F i := by
  unfold gathF
  have hn : i ∉ ownL c m := fun k => h (own_all i k).2
  rw [fill_else (clSl_pos c hc).1 hn _ (from_len F), clrF, if_neg hn]
/-- A class that was not gathered yet. -/
theorem cls_else {m : List Sn} {F : Nat → Nat → Bool} {i : Nat} (hi : i < m.length) : ∀ c, c ≤ 7 → c ≤ (sn m i).cl → clsF m F c i = F i
  | 0, _, _ => rfl
  | c + 1, h7, h => by rw [clsF, gath_else (by omega) hi (by omega), cls_else hi c (by omega) (by omega)]
theorem from_congr {m : List Sn} {F G : Nat → Nat → Bool} : ∀ (l : List Nat), (∀ i ∈ l, F i = G i) → fromU m F l = fromU m G l
  | [], _ => rfl
  | a :: l, h => by
    have := from_congr (m := m) l (fun i hi => h i (by simp [hi]))
    unfold fromU at this ⊢
    rw [List.flatMap_cons, List.flatMap_cons, this, h a (by simp)]
theorem cls_from {m : List Sn} {F : Nat → Nat → Bool} {c : Nat} (hc : c ≤ 7) : fromL c m (clsF m F c) = fromL c m F :=
  from_congr _ (fun i hi => cls_else (own_all i hi).1 c hc (by rw [(own_all i hi).2]; exact Nat.le_refl _))
/-- A class that was gathered. -/
theorem cls_at {m : List Sn} {F : Nat → Nat → Bool} {c : Nat} (hc : c < 7) (r : Nat) (hr : r < (ownL c m).length) : ∀ d, c < d → d ≤ 7 → clsF m F d ((ownL c m).getD r 0) = fun x => decide (x < clSl c ∧ r * clSl c + x < (fromL c m F).length)
  | d + 1, h, h7 => by
    rw [clsF]
    by_cases e : c = d
    · subst e
      rw [gath_at (by omega) r hr, cls_from (by omega)]
    · rw [gath_else (by omega) (own_lt hr).1 (by rw [(own_lt hr).2]; exact e), cls_at hc r hr d (by omega) (by omega)]
theorem cls_large {m : List Sn} {F : Nat → Nat → Bool} {i : Nat} (hi : i < m.length) (h : (sn m i).cl = 7) : clsF m F 7 i = F i := cls_else hi 7 (Nat.le_refl _) (by omega)
/-- Each span of a class is one of its row. -/
theorem own_has {c : Nat} {m : List Sn} {i : Nat} (hi : i < m.length) (h : (sn m i).cl = c) : ∃ r, r < (ownL c m).length ∧ (ownL c m).getD r 0 = i := by
  obtain ⟨r, hr, e⟩ := List.getElem_of_mem ((ownU_mem c m i m.length).2 ⟨hi, h⟩)
  exact ⟨r, hr, by rw [show (ownL c m).getD r 0 = (ownL c m)[r]'hr from getD_eq 0 hr]; exact e⟩
/-- Spans come downwards. -/
theorem end_le {P : Nat} {m : List Sn} (h : Std P m) (F : Nat → Nat → Bool) : ∀ k, k ≤ m.length → (∀ i, i < m.length → k ≤ i → endU m F k ≤ (sn m i).pg) ∧ endU m F k ≤ P
  | 0, _ => ⟨fun i _ _ => Nat.zero_le _, Nat.zero_le _⟩
  | k + 1, hk => by
    obtain ⟨h1, h2⟩ := end_le h F k (by omega)
    have h3 := h1 k (by omega) (Nat.le_refl _)
    have h4 := h.top k (by omega)
    have : endU m F (k + 1) ≤ (sn m k).pg + (sn m k).k := by rw [endU]; split <;> omega
    exact ⟨fun i hi hki => by have := h.rise k i (by omega) hi; omega, by omega⟩
theorem end_mono (m : List Sn) (F : Nat → Nat → Bool) {a b : Nat} (h : a ≤ b) : endU m F a ≤ endU m F b := by
  induction b with
  | zero => obtain rfl : a = 0 := by omega
            exact Nat.le_refl _
  | succ b ih =>
    rcases Nat.lt_or_eq_of_le h with k | rfl
    · have := ih (by omega); rw [endU]; omega
    · exact Nat.le_refl _
end Go.Proofs.YtbnmbkohmmiamaaDoor
