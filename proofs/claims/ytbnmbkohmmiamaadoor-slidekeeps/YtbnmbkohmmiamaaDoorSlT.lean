/- Plain mathematics of layer 13: all moves go downwards. -/
import Derived.Test.YtbnmbkohmmiamaaDoorSlS
namespace Go.Proofs.YtbnmbkohmmiamaaDoor
set_option linter.unusedVariables false

theorem mvIf_mem {a b z : Nat} {v : Mv} (h : v ∈ mvIf a b z) : v = ⟨(a : Int), (b : Int), (z : Int)⟩ ∧ a ≠ b := by
  unfold mvIf at h
  split at h
  · cases h
  · next hn => exact ⟨by simpa using h, hn⟩
theorem mv1_mem {m : List Sn} {own frm : List Nat} {sl z : Nat} : ∀ {j : Nat} {v : Mv}, v ∈ mv1U m own frm sl z j → ∃ i, i < j ∧ v = ⟨((frm.getD i 0 : Nat) : Int), ((toJ m own sl i : Nat) : Int), (z : Int)⟩ ∧ frm.getD i 0 ≠ toJ m own sl i
  | 0, v, h => by simp [mv1U] at h
  | j + 1, v, h => by
    rw [mv1U, List.mem_append] at h
    rcases h with h | h
    · obtain ⟨i, h1, h2⟩ := mv1_mem h
      exact ⟨i, by omega, h2⟩
    · exact ⟨j, by omega, mvIf_mem h⟩
theorem mv2_mem {m : List Sn} {F : Nat → Nat → Bool} : ∀ {k : Nat} {v : Mv}, v ∈ mv2U m F k → ∃ i, i < k ∧ hasS m F i = true ∧ v = ⟨((256 * (sn m i).pg : Nat) : Int), ((256 * endU m F i : Nat) : Int), ((256 * (sn m i).k : Nat) : Int)⟩ ∧ 256 * (sn m i).pg ≠ 256 * endU m F i
  | 0, v, h => by simp [mv2U] at h
  | k + 1, v, h => by
    rw [mv2U, List.mem_append] at h
    rcases h with h | h
    · obtain ⟨i, h1, h2⟩ := mv2_mem h
      exact ⟨i, by omega, h2⟩
    · split at h
      · next hs => exact ⟨k, by omega, hs, mvIf_mem h⟩
      · cases h
/-- A move downwards, within B bytes. -/
def Mv.Dn (B : Nat) (v : Mv) : Prop := 0 ≤ v.to ∧ v.to < v.fr ∧ 1 ≤ v.ln ∧ v.fr + v.ln ≤ (B : Int)
theorem from_bd {P : Nat} {m : List Sn} (h : Std P m) {c : Nat} (F : Nat → Nat → Bool) {x : Nat} (hx : x ∈ fromL c m F) : ∃ i s, i < m.length ∧ (sn m i).cl = c ∧ s < (sn m i).sl ∧ F i s = true ∧ x = (sn m i).at s ∧ 256 * (sn m i).pg ≤ x ∧ x + (sn m i).z ≤ 256 * ((sn m i).pg + (sn m i).k) ∧ (sn m i).pg + (sn m i).k ≤ P := by
  obtain ⟨i, hi, hx⟩ := List.mem_flatMap.1 hx
  obtain ⟨s, hs, rfl⟩ := List.mem_map.1 hx
  obtain ⟨h1, h2⟩ := own_all i hi
  obtain ⟨s1, s2⟩ := (lsN_mem _ _ _).1 hs
  obtain ⟨k1, k2⟩ := (h.ok i h1).at_in s1
  exact ⟨i, s, h1, h2, s1, s2, rfl, k1, k2, h.top i h1⟩
theorem cls_dn {P : Nat} {m : List Sn} (h : Std P m) (F : Nat → Nat → Bool) : ∀ c, c ≤ 7 → ∀ v ∈ clsV m F c, v.Dn (256 * P)
  | 0, _, v, hv => by simp [clsV] at hv
  | c + 1, hc, v, hv => by
    rw [clsV, List.mem_append] at hv
    rcases hv with hv | hv
    · exact cls_dn h F c (by omega) v hv
    · obtain ⟨j, hj, rfl, hne⟩ := mv1_mem hv
      have hle := to_le h (show c < 7 by omega) (clsF m F c) j hj
      obtain ⟨i, s, h1, h2, _, _, _, k1, k2, k3⟩ := from_bd h _ (getD_mem hj)
      have hz := (clZ_pos c (by omega)).1
      rw [clZ_eq h2 (by omega)] at k2
      refine ⟨by simp only; omega, by simp only; omega, by simp only; omega, ?_⟩
      show (((fromL c m (clsF m F c)).getD j 0 : Nat) : Int) + (clZ c : Int) ≤ ((256 * P : Nat) : Int)
      have : 256 * ((sn m i).pg + (sn m i).k) ≤ 256 * P := Nat.mul_le_mul_left _ k3
      omega
theorem plan_dn {P : Nat} {m : List Sn} (h : Std P m) (F : Nat → Nat → Bool) : ∀ v ∈ planV m F, v.Dn (256 * P) := by
  intro v hv
  rcases List.mem_append.1 hv with hv | hv
  · exact cls_dn h F 7 (Nat.le_refl _) v hv
  · obtain ⟨i, hi, _, rfl, hne⟩ := mv2_mem hv
    have hle := (end_le h (clsF m F 7) i (by omega)).1 i hi (Nat.le_refl _)
    have htop := h.top i hi
    have hk := (h.ok i hi).facts.2.2.2.2.1
    refine ⟨by simp only; omega, by simp only; omega, by simp only; omega, ?_⟩
    show ((256 * (sn m i).pg : Nat) : Int) + ((256 * (sn m i).k : Nat) : Int) ≤ ((256 * P : Nat) : Int)
    omega
theorem cls_len {P : Nat} {m : List Sn} (h : Std P m) (F : Nat → Nat → Bool) : ∀ c, c ≤ 7 → (clsV m F c).length ≤ c * (16 * m.length)
  | 0, _ => by simp [clsV]
  | c + 1, hc => by
    have ih := cls_len h F c (by omega)
    rw [clsV, List.length_append]
    have h1 : ∀ (own frm : List Nat) (sl z j : Nat), (mv1U m own frm sl z j).length ≤ j := by
      intro own frm sl z j
      induction j with
      | zero => simp [mv1U]
      | succ j ih =>
        rw [mv1U, List.length_append]
        unfold mvIf
        split <;> simp <;> omega
    have h2 := h1 (ownL c m) (fromL c m (clsF m F c)) (clSl c) (clZ c) (fromL c m (clsF m F c)).length
    have h3 := from_len (c := c) (m := m) (clsF m F c)
    have h4 := ownU_len c m m.length
    have h5 := (clSl_pos c (by omega)).2
    have h6 : (ownL c m).length * clSl c ≤ m.length * 16 := Nat.mul_le_mul h4 h5
    unfold gathV
    rw [Nat.add_mul]
    omega
theorem plan_len {P : Nat} {m : List Sn} (h : Std P m) (F : Nat → Nat → Bool) : (planV m F).length ≤ 113 * m.length := by
  unfold planV
  rw [List.length_append]
  have h1 := cls_len h F 7 (Nat.le_refl _)
  have h2 : ∀ k, (mv2U m (clsF m F 7) k).length ≤ k := by
    intro k
    induction k with
    | zero => simp [mv2U]
    | succ k ih =>
      rw [mv2U, List.length_append]
      have : (if hasS m (clsF m F 7) k = true then mvIf (256 * (sn m k).pg) (256 * endU m (clsF m F 7) k) (256 * (sn m k).k) else []).length ≤ 1 := by
        split
        · unfold mvIf; split <;> simp
        · simp
      omega
  have h3 := h2 m.length
  omega
theorem std_len {P : Nat} {m : List Sn} (h : Std P m) : m.length ≤ P := by
  have key : ∀ k, k < m.length → k < (sn m k).pg + (sn m k).k := by
    intro k
    induction k with
    | zero => intro hk; have := (h.ok 0 hk).facts.2.2.2.2.1; omega
    | succ k ih =>
      intro hk
      have := ih (by omega)
      have := h.rise k (k + 1) (by omega) hk
      have := (h.ok (k + 1) hk).facts.2.2.2.2.1
      omega
  rcases Nat.eq_zero_or_pos m.length with e | e
  · omega
  · have := key (m.length - 1) (by omega)
    have := h.top (m.length - 1) (by omega)
    omega
end Go.Proofs.YtbnmbkohmmiamaaDoor
