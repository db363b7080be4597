/- Layer 17: SetU again -/
import Derived.Test.YtbajchidpffbpaaDoorAuB
import Derived.Test.YtbajchidpffbpaaDoorMhA
import Derived.Test.YtbajchidpffbpaaDoorGsA
namespace Go.Proofs.YtbajchidpffbpaaDoor
set_option linter.unusedVariables false
set_option maxRecDepth 4000
/-- Which places the bytes say. -/
def fB (l : List Int) (i : Nat) : Bool := (l.getD (i / 8) 0).toNat.testBit (i % 8)
/-- Of these the first p. -/
def cutP (l : List Int) (p : Nat) : Nat → Bool := fun i => decide (i < p) && fB l i

theorem fB_at (l : List Int) (j k : Nat) (hk : k < 8) : fB l (8 * j + k) = (l.getD j 0).toNat.testBit k := by
  rw [fB, show (8 * j + k) / 8 = j from by omega, show (8 * j + k) % 8 = k from by omega]

theorem fB_lt (l : List Int) (i : Nat) (h : fB l i = true) : i < 8 * l.length := by
  rcases Nat.lt_or_ge (i / 8) l.length with h' | h'
  · omega
  · rw [fB, List.getD, List.getElem?_eq_none h'] at h
    simp at h

theorem cutP_all (l : List Int) : ∀ i, cutP l (8 * l.length) i = fB l i := by
  intro i
  rw [cutP]
  cases h : fB l i
  · simp
  · have := fB_lt l i h
    simp [this]

theorem cutP_zero (l : List Int) : ∀ i, false = cutP l 0 i := fun i => by simp [cutP]

theorem byte_lt (l : List Int) (h : ∀ x ∈ l, 0 ≤ x ∧ x ≤ 255) (j : Nat) : 0 ≤ l.getD j 0 ∧ l.getD j 0 ≤ 255 := by
  rcases Nat.lt_or_ge j l.length with h' | h'
  · have : l.getD j 0 ∈ l := by simp [List.getD, h']
    exact h _ this
  · simp [List.getD, List.getElem?_eq_none h']

theorem byt_fB (l : List Int) (h : ∀ x ∈ l, 0 ≤ x ∧ x ≤ 255) (j : Nat) : ((byt (fB l) j : Nat) : Int) = l.getD j 0 := by
  have hb := byte_lt l h j
  have : (l.getD j 0).toNat = byt (fB l) j := by
    refine eq_numOf (show (l.getD j 0).toNat < 2 ^ 8 by omega) fun k hk => ?_
    rw [fB_at l j k hk]
  omega

/-- Bits of the word k / 8 where a byte is laid in. -/
theorem read_word (l : List Int) (h : ∀ x ∈ l, 0 ≤ x ∧ x ≤ 255) (k : Nat) : wd (cutP l (8 * k)) (k / 8) ||| (l.getD k 0).toNat * 2 ^ (k % 8 * 8) = wd (cutP l (8 * (k + 1))) (k / 8) := by
  have hb := byte_lt l h k
  have h1 : (l.getD k 0).toNat < 2 ^ 8 := by omega
  have h2 : (l.getD k 0).toNat * 2 ^ (k % 8 * 8) < 2 ^ 64 := by
    have : (l.getD k 0).toNat * 2 ^ (k % 8 * 8) < 2 ^ 8 * 2 ^ (k % 8 * 8) := Nat.mul_lt_mul_of_pos_right h1 (Nat.two_pow_pos _)
    rw [← Nat.pow_add] at this
    exact Nat.lt_of_lt_of_le this (Nat.pow_le_pow_right (by decide) (by omega))
  refine eq_numOf (Nat.or_lt_two_pow (numOf_lt _ 64) h2) fun t ht => ?_
  rw [Nat.testBit_or, wd_bit _ _ _ ht, Nat.testBit_mul_two_pow, cutP, cutP]
  by_cases ha : t < k % 8 * 8
  · simp [show ¬ k % 8 * 8 ≤ t by omega, show 64 * (k / 8) + t < 8 * k by omega, show 64 * (k / 8) + t < 8 * (k + 1) by omega]
  · by_cases hc : t < k % 8 * 8 + 8
    · have e := fB_at l k (t - k % 8 * 8) (by omega)
      rw [show 8 * k + (t - k % 8 * 8) = 64 * (k / 8) + t from by omega] at e
      simp [show k % 8 * 8 ≤ t by omega, show ¬ 64 * (k / 8) + t < 8 * k by omega, show 64 * (k / 8) + t < 8 * (k + 1) by omega, e]
    · have hz : (l.getD k 0).toNat.testBit (t - k % 8 * 8) = false :=
        Nat.testBit_lt_two_pow (Nat.lt_of_lt_of_le h1 (Nat.pow_le_pow_right (by decide) (by omega)))
      rw [hz]
      simp [show ¬ 64 * (k / 8) + t < 8 * k by omega, show ¬ 64 * (k / 8) + t < 8 * (k + 1) by omega]

theorem read_else (l : List Int) (k j : Nat) (h : j ≠ k / 8) : wd (cutP l (8 * (k + 1))) j = wd (cutP l (8 * k)) j := by
  refine numOf_congr fun t ht => ?_
  rw [cutP, cutP]
  congr 1
  by_cases h' : 64 * j + t < 8 * k
  · simp [h', show 64 * j + t < 8 * (k + 1) by omega]
  · simp [h', show ¬ 64 * j + t < 8 * (k + 1) by omega]

/-- Is what is left over 0? -/
theorem left_over (l : List Int) (hb : ∀ x ∈ l, 0 ≤ x ∧ x ≤ 255) (n : Nat) (hl : l.length = (n + 7) / 8) (h : 0 < n % 8) (hz : (l.getD ((n + 7) / 8 - 1) 0).toNat / 2 ^ (n % 8) = 0) : ∀ i, fB l i = true → i < n := by
  intro i hi
  have h1 := fB_lt l i hi
  rcases Nat.lt_or_ge i n with h' | h'
  · exact h'
  · have e : i / 8 = (n + 7) / 8 - 1 := by omega
    rw [fB, e, show i % 8 = n % 8 + (i - n) from by omega, ← Nat.testBit_shiftRight, Nat.shiftRight_eq_div_pow, hz] at hi
    simp at hi

theorem left_whole (l : List Int) (n : Nat) (hl : l.length = (n + 7) / 8) (h : n % 8 = 0) : ∀ i, fB l i = true → i < n := by
  intro i hi
  have h1 := fB_lt l i hi
  omega

theorem left_some (l : List Int) (hb : ∀ x ∈ l, 0 ≤ x ∧ x ≤ 255) (n : Nat) (hl : l.length = (n + 7) / 8) (h : 0 < n % 8) (hz : (l.getD ((n + 7) / 8 - 1) 0).toNat / 2 ^ (n % 8) ≠ 0) : ∃ i, fB l i = true ∧ n ≤ i := by
  have hb' := byte_lt l hb ((n + 7) / 8 - 1)
  obtain ⟨t, ht⟩ := Nat.exists_testBit_of_ne_zero hz
  rw [← Nat.shiftRight_eq_div_pow, Nat.testBit_shiftRight] at ht
  have h8 : n % 8 + t < 8 := by
    rcases Nat.lt_or_ge (n % 8 + t) 8 with h' | h'
    · exact h'
    · have : (l.getD ((n + 7) / 8 - 1) 0).toNat < 2 ^ (n % 8 + t) := Nat.lt_of_lt_of_le (show _ < 2 ^ 8 by omega) (Nat.pow_le_pow_right (by decide) h')
      rw [Nat.testBit_lt_two_pow this] at ht
      cases ht
  refine ⟨8 * ((n + 7) / 8 - 1) + (n % 8 + t), ?_, by omega⟩
  rw [fB_at l _ _ h8]
  exact ht

/-- The bytes of a set say that set. -/
theorem fB_bys (f : Nat → Bool) (n : Nat) (h : ∀ i, f i = true → i < n) (l : List Int) (hl : l.length = (n + 7) / 8) (hc : ∀ j, j < (n + 7) / 8 → l.getD j 0 = (byt f j : Nat)) : ∀ i, fB l i = f i := by
  intro i
  rcases Nat.lt_or_ge (i / 8) ((n + 7) / 8) with h' | h'
  · rw [fB, hc _ h', Int.toNat_natCast, byt, numOf_bit]
    simp only [show i % 8 < 8 by omega, decide_true, Bool.true_and]
    congr 1
    omega
  · have e1 : fB l i ≠ true := fun e => by have := fB_lt l i e; omega
    have e2 : f i ≠ true := fun e => by have := h i e; omega
    simp at e1 e2
    rw [e1, e2]
end Go.Proofs.YtbajchidpffbpaaDoor
