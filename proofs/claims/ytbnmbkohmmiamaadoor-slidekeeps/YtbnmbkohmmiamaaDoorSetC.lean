/- Plain mathematics of layer 3: the least place from a place on; lists of places. -/
import Derived.Test.YtbnmbkohmmiamaaDoorSetQ
namespace Go.Proofs.YtbnmbkohmmiamaaDoor
set_option linter.unusedVariables false

def nextF (g : Nat → Bool) : Nat → Nat → Int
  | 0, _ => -1
  | d + 1, i => if g i then (i : Int) else nextF g d (i + 1)
/-- The least place from i on, below n, of which g says yes; else -1. -/
def nextL (g : Nat → Bool) (n i : Nat) : Int := nextF g (n - i) i

theorem nextL_stop (g : Nat → Bool) {n i : Nat} (h : n ≤ i) : nextL g n i = -1 := by
  rw [nextL, show n - i = 0 from by omega, nextF]
theorem nextL_at (g : Nat → Bool) {n i : Nat} (h : i < n) (hg : g i = true) : nextL g n i = i := by
  rw [nextL, show n - i = (n - (i + 1)) + 1 from by omega, nextF, if_pos hg]
theorem nextL_step (g : Nat → Bool) {n i : Nat} (hg : i < n → g i = false) : nextL g n i = nextL g n (i + 1) := by
  by_cases h : i < n
  · rw [nextL, show n - i = (n - (i + 1)) + 1 from by omega, nextF, if_neg (by rw [hg h]; decide), nextL]
  · rw [nextL_stop g (by omega), nextL_stop g (by omega)]
theorem nextL_skip (g : Nat → Bool) (n i : Nat) : ∀ d, (∀ k, i ≤ k → k < i + d → k < n → g k = false) → nextL g n i = nextL g n (i + d)
  | 0, _ => rfl
  | d + 1, h => by
    rw [nextL_skip g n i d (fun k h1 h2 h3 => h k h1 (by omega) h3), nextL_step g (fun h3 => h _ (by omega) (by omega) h3)]
    rfl

theorem nextL_cases (g : Nat → Bool) (n i : Nat) : (nextL g n i = -1 ∧ ∀ k, i ≤ k → k < n → g k = false) ∨ ∃ j : Nat, nextL g n i = (j : Int) ∧ i ≤ j ∧ j < n ∧ g j = true ∧ ∀ k, i ≤ k → k < j → g k = false := by
  generalize hd : n - i = d
  induction d generalizing i with
  | zero => exact .inl ⟨nextL_stop g (by omega), fun k h1 h2 => by omega⟩
  | succ d ih =>
    cases hg : g i
    · rw [nextL_step g (fun _ => hg)]
      rcases ih (i + 1) (by omega) with ⟨h1, h2⟩ | ⟨j, h1, h2, h3, h4, h5⟩
      · refine .inl ⟨h1, fun k a b => ?_⟩
        by_cases e : k = i
        · rw [e]; exact hg
        · exact h2 k (by omega) b
      · refine .inr ⟨j, h1, by omega, h3, h4, fun k a b => ?_⟩
        by_cases e : k = i
        · rw [e]; exact hg
        · exact h5 k (by omega) b
    · exact .inr ⟨i, nextL_at g (by omega) hg, Nat.le_refl _, by omega, hg, fun k a b => by omega⟩

theorem nextL_bound (g : Nat → Bool) (n i : Nat) : -1 ≤ nextL g n i ∧ nextL g n i < (n : Int) + 1 := by
  rcases nextL_cases g n i with ⟨h, _⟩ | ⟨j, h, h1, h2, _⟩ <;> omega

theorem rest_zero (g : Nat → Bool) (X k : Nat) (hX : ∀ t, t < 64 → X.testBit t = g (64 * (k / 64) + t)) (h : X / 2 ^ (k % 64) = 0) : ∀ m, k ≤ m → m < k + (64 - k % 64) → g m = false := by
  intro m h1 h2
  have e := hX (m - 64 * (k / 64)) (by omega)
  rw [show 64 * (k / 64) + (m - 64 * (k / 64)) = m from by omega] at e
  rw [← e, show m - 64 * (k / 64) = k % 64 + (m - k) from by omega, ← Nat.testBit_shiftRight, Nat.shiftRight_eq_div_pow, h]
  simp

theorem ctz_bits (r : Nat) (h0 : r ≠ 0) (h : r < 18446744073709551616) : r.testBit (Lib.ctz 64 r) = true ∧ (∀ t, t < Lib.ctz 64 r → r.testBit t = false) ∧ Lib.ctz 64 r < 64 := by
  obtain ⟨m, hm, hk⟩ := Lib.ctzFrom_spec 64 r (by omega) h
  have e : Lib.ctz 64 r = Lib.ctzFrom 64 r := by simp [Lib.ctz, h0]
  rw [e]
  refine ⟨?_, fun t ht => ?_, hk⟩
  · have := Nat.testBit_mul_two_pow (2 * m + 1) (Lib.ctzFrom 64 r) (Lib.ctzFrom 64 r)
    rw [Nat.mul_comm, ← hm] at this
    rw [this]
    simp [Nat.testBit_zero]
  · have := Nat.testBit_mul_two_pow (2 * m + 1) t (Lib.ctzFrom 64 r)
    rw [Nat.mul_comm, ← hm] at this
    rw [this]
    simp [show ¬ Lib.ctzFrom 64 r ≤ t by omega]

theorem rest_some (g : Nat → Bool) (X k r c : Nat) (hx : X < 18446744073709551616) (hX : ∀ t, t < 64 → X.testBit t = g (64 * (k / 64) + t)) (h : X / 2 ^ (k % 64) = r) (h0 : r ≠ 0) (hc : c = Lib.ctz 64 r) :
    k % 64 + c < 64 ∧ g (k + c) = true ∧ ∀ m, k ≤ m → m < k + c → g m = false := by
  have hr : r < 18446744073709551616 := by rw [← h]; exact Nat.lt_of_le_of_lt (Nat.div_le_self _ _) hx
  obtain ⟨b1, b2, b3⟩ := ctz_bits r h0 hr
  rw [← hc] at b1 b2 b3
  rw [← h, ← Nat.shiftRight_eq_div_pow, Nat.testBit_shiftRight] at b1
  have hlt : k % 64 + c < 64 := by
    rcases Nat.lt_or_ge (k % 64 + c) 64 with h' | h'
    · exact h'
    · have : X < 2 ^ (k % 64 + c) := Nat.lt_of_lt_of_le (show X < 2 ^ 64 from hx) (Nat.pow_le_pow_right (by decide) h')
      rw [Nat.testBit_lt_two_pow this] at b1
      cases b1
  refine ⟨hlt, ?_, fun m h1 h2 => ?_⟩
  · rw [hX _ hlt] at b1
    rw [← b1]
    congr 1
    omega
  · have := b2 (m - k) (by omega)
    rw [← h, ← Nat.shiftRight_eq_div_pow, Nat.testBit_shiftRight, hX _ (by omega)] at this
    rw [← this]
    congr 1
    omega

theorem same_bits (f : Nat → Bool) (j k : Nat) (h : k < 64) : (wd f j ^^^ 0).testBit k = f (64 * j + k) := by
  rw [Nat.xor_zero, wd_bit f j k h]
theorem turned_bits (f : Nat → Bool) (j k : Nat) (h : k < 64) : (wd f j ^^^ 18446744073709551615).testBit k = !f (64 * j + k) := by
  rw [Nat.testBit_xor, wd_bit f j k h, show (18446744073709551615 : Nat) = 2 ^ 64 - 1 from rfl, Nat.testBit_two_pow_sub_one]
  simp [h]

/-- The places below k that are in, rising. -/
def lsL (f : Nat → Bool) : Nat → List Int
  | 0 => []
  | k + 1 => lsL f k ++ (if f k then [(k : Int)] else [])

theorem lsL_len (f : Nat → Bool) : ∀ k, (lsL f k).length = cnt f k
  | 0 => rfl
  | k + 1 => by rw [lsL, cnt, List.length_append, lsL_len f k]; split <;> rfl

theorem lsL_skip (f : Nat → Bool) (k : Nat) : ∀ d, (∀ i, k ≤ i → i < k + d → f i = false) → lsL f (k + d) = lsL f k
  | 0, _ => rfl
  | d + 1, h => by
    rw [← Nat.add_assoc, lsL, lsL_skip f k d (fun i a b => h i a (by omega)), if_neg (by rw [h _ (by omega) (by omega)]; decide)]
    simp

theorem lsL_one (f : Nat → Bool) (k j : Nat) (hkj : k ≤ j) (h : ∀ i, k ≤ i → i < j → f i = false) (hj : f j = true) : lsL f (j + 1) = lsL f k ++ [(j : Int)] := by
  have := lsL_skip f k (j - k) (fun i a b => h i a (by omega))
  rw [show k + (j - k) = j from by omega] at this
  rw [lsL, this, if_pos hj]

theorem lsL_mem (f : Nat → Bool) (x : Int) : ∀ k, x ∈ lsL f k → ∃ i : Nat, x = i ∧ i < k ∧ f i = true
  | 0, h => by simp [lsL] at h
  | k + 1, h => by
    rw [lsL] at h
    rcases List.mem_append.1 h with h | h
    · obtain ⟨i, a, b, c⟩ := lsL_mem f x k h
      exact ⟨i, a, by omega, c⟩
    · split at h
      · rename_i hf
        exact ⟨k, by simpa using h, by omega, hf⟩
      · simp at h

theorem lsL_congr {f g : Nat → Bool} : ∀ {k : Nat}, (∀ i, i < k → f i = g i) → lsL f k = lsL g k
  | 0, _ => rfl
  | k + 1, h => by rw [lsL, lsL, lsL_congr (k := k) (fun i hi => h i (by omega)), h k (by omega)]
end Go.Proofs.YtbnmbkohmmiamaaDoor
