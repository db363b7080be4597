/- Plain mathematics of layer 14: the one span in which a place lies. -/
import Derived.Test.YtebmegghojiegaaDoorAvA
namespace Go.Proofs.YtebmegghojiegaaDoor
open Go.RowKit
set_option linter.unusedVariables false

theorem right_at {t : Td} (h : rightT t) {k : Int} (hk : k ∈ t.l) : 0 ≤ k ∧ k < slN t.c ∧ 256 * t.p ≤ atS t k ∧ atS t k < 256 * t.p + 256 ∧ 0 ≤ t.p := by
  have rt := newE_rt h.1
  have fa := rt.facts
  obtain ⟨h1, h2⟩ := (okL_all _ _ _ h.2).1 k hk
  have p0 := rt.p0
  obtain ⟨f1, f2, f3, f4, f5, f6, f7, f8, f9, f10, f11⟩ := fa
  have n0 : 0 ≤ k * szI t.c t.s := Int.mul_nonneg (by omega) (by omega)
  unfold atS
  by_cases c7 : t.c = 7
  · have s1 : slN t.c = 1 := by rw [c7]; rfl
    obtain rfl : k = 0 := by omega
    rw [Int.zero_mul] at *
    exact ⟨by omega, by omega, by omega, by omega, p0⟩
  · have s1 : pgsN t.c t.s = 1 := by unfold pgsN; rw [if_neg c7]
    rw [s1] at f6
    have m : (k + 1) * szI t.c t.s ≤ (slN t.c : Int) * szI t.c t.s := Int.mul_le_mul_of_nonneg_right (by omega) (by omega)
    rw [Int.add_mul, Int.one_mul] at m
    exact ⟨by omega, h2, by omega, by omega, p0⟩
theorem page_of {x p : Int} (h0 : 0 ≤ p) (h1 : 256 * p ≤ x) (h2 : x < 256 * p + 256) : x.tdiv 256 = p := by
  rw [Int.tdiv_eq_ediv_of_nonneg (by omega)]; omega
theorem Hold.right {V : Vw} {j : Nat} (h : Hold V j) (hj : 3 ≤ j) (i : Nat) (hi : i < V.ts.length) : rightT (tdD V.ts i) ∧ (tdD V.ts i).p + (pgsN (tdD V.ts i).c (tdD V.ts i).s : Int) ≤ V.pgs := by
  have := of_decide_eq_true (h.r3 hj i hi)
  exact ⟨⟨this.1, this.2.1⟩, this.2.2.2⟩
theorem std_rise {P : Int} {ts : List Td} (h : stdB P ts = true) : ∀ j, j < ts.length → ∀ i, i < j → (tdD ts i).p + (pgsN (tdD ts i).c (tdD ts i).s : Int) ≤ (tdD ts j).p := by
  unfold stdB at h
  rw [Bool.and_eq_true] at h
  have ok : ∀ n, stdU P ts n = true → ∀ k, k < n → okT P ts k = true := by
    intro n
    induction n with
    | zero => intro _ k hk; omega
    | succ n ih =>
      intro hh k hk
      rw [stdU, Bool.and_eq_true] at hh
      rcases Nat.lt_or_eq_of_le (Nat.le_of_lt_succ hk) with e | rfl
      · exact ih hh.1 k e
      · exact hh.2
  intro j
  induction j with
  | zero => intro _ i hi; omega
  | succ j ih =>
    intro hj i hi
    have h1 := of_decide_eq_true (ok _ h.2 (j + 1) hj)
    have h2 : (tdD ts j).p + (pgsN (tdD ts j).c (tdD ts j).s : Int) ≤ (tdD ts (j + 1)).p := h1.2.2.1
    rcases Nat.lt_or_eq_of_le (Nat.le_of_lt_succ hi) with e | rfl
    · have := ih (by omega) i e
      omega
    · exact h2
theorem std_same {P : Int} {ts : List Td} (h : stdB P ts = true) (hr : ∀ i, i < ts.length → rightT (tdD ts i)) {i j : Nat} (hi : i < ts.length) (hj : j < ts.length) (e : (tdD ts i).p = (tdD ts j).p) : i = j := by
  have k1 := (newE_rt (hr i hi).1).facts.2.2.2.2.2.2.1
  have k2 := (newE_rt (hr j hj).1).facts.2.2.2.2.2.2.1
  rcases Nat.lt_trichotomy i j with q | q | q
  · have := std_rise h j hj i q; omega
  · exact q
  · have := std_rise h i hi j q; omega
theorem slot_of {V : Vw} {q : Nat} (h : Hold V q) (hq : 3 ≤ q) {x z : Int} {i : Nat} (hi : i < V.ts.length) (hp : (tdD V.ts i).p = x.tdiv 256) : slotB V.ts x z = (fitS (tdD V.ts i) z && (tdD V.ts i).l.any (fun k => decide (atS (tdD V.ts i) k = x))) := by
  have hr : ∀ i, i < V.ts.length → rightT (tdD V.ts i) := fun i hi => (h.right hq i hi).1
  rw [Bool.eq_iff_iff]
  unfold slotB
  rw [List.any_eq_true]
  constructor
  · rintro ⟨t, ht, hh⟩
    obtain ⟨j, hj, rfl⟩ := List.getElem_of_mem ht
    rw [← tdD_at hj] at hh
    rw [Bool.and_eq_true, List.any_eq_true] at hh
    obtain ⟨h1, k, hk, h2⟩ := hh
    obtain ⟨_, _, a1, a2, a3⟩ := right_at (hr j hj) hk
    have e := of_decide_eq_true h2
    rw [e] at a1 a2
    have := page_of a3 a1 a2
    obtain rfl := std_same (h.std hq) hr hi hj (by omega)
    rw [Bool.and_eq_true, List.any_eq_true]
    exact ⟨h1, k, hk, h2⟩
  · intro hh
    exact ⟨tdD V.ts i, by rw [tdD_at hi]; exact List.getElem_mem hi, hh⟩
theorem slot_no {V : Vw} {q : Nat} (h : Hold V q) (hq : 3 ≤ q) {x z : Int} (hp : ∀ i, i < V.ts.length → (tdD V.ts i).p ≠ x.tdiv 256) : slotB V.ts x z = false := by
  cases e : slotB V.ts x z with
  | false => rfl
  | true =>
    unfold slotB at e
    obtain ⟨t, ht, hh⟩ := List.any_eq_true.1 e
    obtain ⟨j, hj, rfl⟩ := List.getElem_of_mem ht
    rw [← tdD_at hj] at hh
    rw [Bool.and_eq_true, List.any_eq_true] at hh
    obtain ⟨h1, k, hk, h2⟩ := hh
    obtain ⟨_, _, a1, a2, a3⟩ := right_at (h.right hq j hj).1 hk
    rw [of_decide_eq_true h2] at a1 a2
    exact absurd (page_of a3 a1 a2).symm (hp j hj)
/-- A slot that is told, by its number. -/
theorem any_at {t : Td} (h : rightT t) {x : Int} {y : Int} {ok : Bool} (hs : SlotR (slN t.c) t.p (szI t.c t.s) x y ok) : (t.l.any fun k => decide (atS t k = x)) = (ok && hasB (slN t.c) (fOf t.l) y) := by
  have fa := (newE_rt h.1).facts
  rw [Bool.eq_iff_iff, List.any_eq_true, Bool.and_eq_true]
  rcases hs with ⟨rfl, i, h1, rfl, h2⟩ | ⟨rfl, rfl, h2⟩
  · unfold hasB
    rw [isP_true.2 (⟨by omega, by omega⟩ : 0 ≤ (i : Int) ∧ (i : Int) < (slN t.c : Nat)), Bool.true_and]
    have e : fOf t.l ((i : Int).toNat) = decide ((i : Int) ∈ t.l) := by unfold fOf; simp
    rw [e]
    constructor
    · rintro ⟨k, hk, hd⟩
      have hd := of_decide_eq_true hd
      obtain ⟨k0, k1, _⟩ := right_at h hk
      unfold atS at hd
      obtain ⟨n, rfl⟩ : ∃ n : Nat, k = (n : Int) := ⟨k.toNat, by omega⟩
      have := mul_inj (i := n) (j := i) fa.2.2.2.1 (by omega)
      subst this
      exact ⟨rfl, decide_eq_true hk⟩
    · rintro ⟨_, hk⟩
      exact ⟨(i : Int), of_decide_eq_true hk, decide_eq_true h2.symm⟩
  · constructor
    · rintro ⟨k, hk, hd⟩
      have hd := of_decide_eq_true hd
      obtain ⟨k0, k1, _⟩ := right_at h hk
      unfold atS at hd
      obtain ⟨n, rfl⟩ : ∃ n : Nat, k = (n : Int) := ⟨k.toNat, by omega⟩
      exact absurd hd.symm (h2 n (by omega))
    · rintro ⟨hf, _⟩
      cases hf
end Go.Proofs.YtebmegghojiegaaDoor
