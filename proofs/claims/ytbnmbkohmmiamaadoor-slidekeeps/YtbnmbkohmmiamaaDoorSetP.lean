/- Plain mathematics of layer 3: numbers made of bits, how many bits are set, the least that is, and lists of them. -/
import Derived.Lib.BitFns
import Derived.Lib.TrailingZeros
namespace Go.Proofs.YtbnmbkohmmiamaaDoor
set_option linter.unusedVariables false

/-- The number whose bits are g's, the first c of them. -/
def numOf (g : Nat → Bool) : Nat → Nat
  | 0 => 0
  | c + 1 => numOf g c + (if g c then 2 ^ c else 0)

theorem numOf_lt (g : Nat → Bool) : ∀ c, numOf g c < 2 ^ c
  | 0 => by simp [numOf]
  | c + 1 => by
    have := numOf_lt g c
    rw [numOf, Nat.pow_succ]
    split <;> omega

theorem numOf_bit (g : Nat → Bool) : ∀ c k, (numOf g c).testBit k = (decide (k < c) && g k)
  | 0, k => by simp [numOf]
  | c + 1, k => by
    have hl := numOf_lt g c
    have ih := numOf_bit g c
    rw [numOf]
    by_cases hg : g c = true
    · rw [if_pos hg, Nat.add_comm]
      by_cases hk : k < c
      · rw [Nat.testBit_two_pow_add_gt hk, ih]
        simp [hk, show k < c + 1 by omega]
      · by_cases he : k = c
        · subst he
          rw [Nat.testBit_two_pow_add_eq, Nat.testBit_lt_two_pow hl]
          simp [hg]
        · have h2 : 2 ^ c + numOf g c < 2 ^ k := by
            have : 2 ^ (c + 1) ≤ 2 ^ k := Nat.pow_le_pow_right (by decide) (by omega)
            rw [Nat.pow_succ] at this
            omega
          rw [Nat.testBit_lt_two_pow h2]
          simp [show ¬ k < c + 1 by omega]
    · have hf : g c = false := by simpa using hg
      rw [if_neg hg, Nat.add_zero, ih]
      by_cases he : k = c
      · subst he; simp [hf]
      · by_cases hk : k < c
        · simp [hk, show k < c + 1 by omega]
        · simp [hk, show ¬ k < c + 1 by omega]

theorem numOf_congr {g h : Nat → Bool} {c : Nat} (e : ∀ k, k < c → g k = h k) : numOf g c = numOf h c := by
  apply Nat.eq_of_testBit_eq
  intro i
  rw [numOf_bit, numOf_bit]
  by_cases hi : i < c
  · rw [e i hi]
  · simp [hi]

theorem eq_numOf {x : Nat} {g : Nat → Bool} {c : Nat} (hx : x < 2 ^ c) (h : ∀ k, k < c → x.testBit k = g k) : x = numOf g c := by
  apply Nat.eq_of_testBit_eq
  intro i
  rw [numOf_bit]
  by_cases hi : i < c
  · simp [hi, h i hi]
  · have : x < 2 ^ i := Nat.lt_of_lt_of_le hx (Nat.pow_le_pow_right (by decide) (by omega))
    simp [Nat.testBit_lt_two_pow this, hi]

/-- The word j of a set. -/
def wd (f : Nat → Bool) (j : Nat) : Nat := numOf (fun k => f (64 * j + k)) 64
/-- The byte j of a set. -/
def byt (f : Nat → Bool) (j : Nat) : Nat := numOf (fun k => f (8 * j + k)) 8

theorem wd_lt (f : Nat → Bool) (j : Nat) : wd f j < 18446744073709551616 := numOf_lt _ 64
theorem byt_lt (f : Nat → Bool) (j : Nat) : byt f j < 256 := numOf_lt _ 8

theorem wd_bit (f : Nat → Bool) (j k : Nat) (h : k < 64) : (wd f j).testBit k = f (64 * j + k) := by
  rw [wd, numOf_bit]; simp [h]

/-- A place is turned. -/
def put (f : Nat → Bool) (i : Nat) (b : Bool) : Nat → Bool := fun x => if x = i then b else f x

theorem has_word (f : Nat → Bool) (i : Nat) : wd f (i / 64) / 2 ^ (i % 64) % 2 = (if f i then 1 else 0) := by
  have h := wd_bit f (i / 64) (i % 64) (by omega)
  rw [Nat.testBit_eq_decide_div_mod_eq, show 64 * (i / 64) + i % 64 = i from by omega] at h
  cases hf : f i
  · rw [hf] at h
    have := of_decide_eq_false h
    simp
    omega
  · rw [hf] at h
    have := of_decide_eq_true h
    simp
    omega

theorem add_word (f : Nat → Bool) (i : Nat) : wd f (i / 64) ||| 2 ^ (i % 64) = wd (put f i true) (i / 64) := by
  refine eq_numOf (Nat.or_lt_two_pow (numOf_lt _ 64) (Nat.pow_lt_pow_right (by decide) (by omega))) fun k hk => ?_
  rw [Nat.testBit_or, wd_bit _ _ _ hk, Nat.testBit_two_pow, put]
  by_cases he : i % 64 = k
  · rw [if_pos (by omega)]; simp [he]
  · rw [if_neg (by omega)]; simp [he]

theorem word_else (f : Nat → Bool) (i j : Nat) (b : Bool) (h : j ≠ i / 64) : wd (put f i b) j = wd f j := by
  refine numOf_congr fun k hk => ?_
  rw [put, if_neg (by omega)]

/-- x without the bits of y. -/
theorem del_word (f : Nat → Bool) (i : Nat) : wd f (i / 64) &&& (18446744073709551615 - 2 ^ (i % 64)) = wd (put f i false) (i / 64) := by
  have hp : 2 ^ (i % 64) < 2 ^ 64 := Nat.pow_lt_pow_right (by decide) (by omega)
  refine eq_numOf (Nat.lt_of_le_of_lt Nat.and_le_left (numOf_lt _ 64)) fun k hk => ?_
  have e : 18446744073709551615 - 2 ^ (i % 64) = 2 ^ 64 - (2 ^ (i % 64) + 1) := by omega
  rw [Nat.testBit_and, wd_bit _ _ _ hk, e, Nat.testBit_two_pow_sub_succ hp, Nat.testBit_two_pow, put]
  by_cases he : i % 64 = k
  · rw [if_pos (by omega)]; simp [he]
  · rw [if_neg (by omega)]; simp [he, hk]

theorem wd_none (j : Nat) : wd (fun _ => false) j = 0 := by
  refine (eq_numOf (by decide) fun k hk => ?_).symm
  simp

theorem byte_word (f : Nat → Bool) (i : Nat) : wd f (i / 8) / 2 ^ (i % 8 * 8) % 256 = byt f i := by
  refine eq_numOf (Nat.mod_lt _ (by decide)) fun k hk => ?_
  rw [show (256 : Nat) = 2 ^ 8 from rfl, Nat.testBit_mod_two_pow, ← Nat.shiftRight_eq_div_pow, Nat.testBit_shiftRight, wd_bit _ _ _ (by omega)]
  simp only [hk, decide_true, Bool.true_and]
  congr 1
  omega

/-- How many of the first c are set. -/
def cnt (g : Nat → Bool) : Nat → Nat
  | 0 => 0
  | c + 1 => cnt g c + (if g c then 1 else 0)

theorem cnt_le (g : Nat → Bool) : ∀ c, cnt g c ≤ c
  | 0 => Nat.le_refl _
  | c + 1 => by have := cnt_le g c; rw [cnt]; split <;> omega

theorem cnt_front (g : Nat → Bool) : ∀ c, cnt g (c + 1) = (if g 0 then 1 else 0) + cnt (fun k => g (k + 1)) c
  | 0 => by simp [cnt]
  | c + 1 => by
    rw [cnt, cnt_front g c, cnt]
    omega

theorem cnt_congr {g h : Nat → Bool} : ∀ {c : Nat}, (∀ k, k < c → g k = h k) → cnt g c = cnt h c
  | 0, _ => rfl
  | c + 1, e => by rw [cnt, cnt, cnt_congr (c := c) (fun k hk => e k (by omega)), e c (by omega)]

theorem cnt_add (g : Nat → Bool) (a : Nat) : ∀ b, cnt g (a + b) = cnt g a + cnt (fun k => g (a + k)) b
  | 0 => by simp [cnt]
  | b + 1 => by rw [← Nat.add_assoc, cnt, cnt_add g a b, cnt]; omega

theorem popAux_cnt : ∀ c x, Lib.popAux c x = cnt x.testBit c
  | 0, _ => rfl
  | c + 1, x => by
    rw [Lib.popAux, popAux_cnt c, cnt_front]
    have e : x % 2 = (if x.testBit 0 then 1 else 0) := by
      rw [Nat.testBit_zero]
      rcases Nat.mod_two_eq_zero_or_one x with h | h <;> simp [h]
    rw [e]
    congr 1
    exact cnt_congr fun k _ => by rw [Nat.testBit_succ]

theorem pop_wd (f : Nat → Bool) (j : Nat) : Lib.popAux 64 (wd f j) = cnt (fun k => f (64 * j + k)) 64 := by
  rw [popAux_cnt]
  exact cnt_congr fun k hk => wd_bit f j k hk

theorem cnt_word (f : Nat → Bool) (j : Nat) : cnt f (64 * (j + 1)) = cnt f (64 * j) + Lib.popAux 64 (wd f j) := by
  rw [pop_wd, Nat.mul_add, cnt_add]

theorem cnt_beyond (f : Nat → Bool) (n : Nat) (h : ∀ i, f i = true → i < n) : ∀ k, cnt f (n + k) = cnt f n
  | 0 => rfl
  | k + 1 => by
    rw [← Nat.add_assoc, cnt, cnt_beyond f n h k]
    have : f (n + k) ≠ true := fun e => by have := h _ e; omega
    simp [this]
end Go.Proofs.YtbnmbkohmmiamaaDoor
