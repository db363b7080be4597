/- Plain mathematics of layer 3: numbers made of bits, how many bits are set, the least that is, and lists of them. -/
import Derived.Lib.BitFns
import Derived.Lib.TrailingZeros
import Derived.Test.YtgdjlopnhecmjaaGreatDoorChecked
namespace Go.Proofs.YtgdjlopnhecmjaaGreatDoor
set_option linter.unusedVariables false
set_option maxRecDepth 4000

/-- The number whose bits are g's, the first c of them. -/
def numOf (g : Nat → Bool) : Nat → Nat
  | 0 => 0
  | c + 1 => numOf g c + (if g c then 2 ^ c else 0)

theorem numOf_lt (g : Nat → Bool) : ∀ c, numOf g c < 2 ^ c
  | 0 => by simp [numOf]
  | c + 1 => by
    have := numOf_lt g c
    rw [numOf, Nat.pow_succ]
    split <;> omega

theorem numOf_bit (g : Nat → Bool) : ∀ c k, (numOf g c).testBit k = (decide (k < c) && g k)
  | 0, k => by simp [numOf]
  | c + 1, k => by
    have hl := numOf_lt g c
    have ih := numOf_bit g c
    rw [numOf]
    by_cases hg : g c = true
    · rw [if_pos hg, Nat.add_comm]
      by_cases hk : k < c
      · rw [Nat.testBit_two_pow_add_gt hk, ih]
        simp [hk, show k < c + 1 by omega]
      · by_cases he : k = c
        · subst he
          rw [Nat.testBit_two_pow_add_eq, Nat.testBit_lt_two_pow hl]
          simp [hg]
        · have h2 : 2 ^ c + numOf g c < 2 ^ k := by
            have : 2 ^ (c + 1) ≤ 2 ^ k := Nat.pow_le_pow_right (by decide) (by omega)
            rw [Nat.pow_succ] at this
            omega
          rw [Nat.testBit_lt_two_pow h2]
          simp [show ¬ k < c + 1 by omega]
    · have hf : g c = false := by simpa using hg
      rw [if_neg hg, Nat.add_zero, ih]
      by_cases he : k = c
      · subst he; simp [hf]
      · by_cases hk : k < c
        · simp [hk, show k < c + 1 by omega]
        · simp [hk, show ¬ k < c + 1 by omega]

theorem numOf_congr {g h : Nat → Bool} {c : Nat} (e : ∀ k, k < c → g k = h k) : numOf g c = numOf h c := by
  apply Nat.eq_of_testBit_eq
  intro i
  rw [numOf_bit, numOf_bit]
  by_cases hi : i < c
  · rw [e i hi]
  · simp [hi]

theorem eq_numOf {x : Nat} {g : Nat → Bool} {c : Nat} (hx : x < 2 ^ c) (h : ∀ k, k < c → x.testBit k = g k) : x = numOf g c := by
  apply Nat.eq_of_testBit_eq
  intro i
  rw [numOf_bit]
  by_cases hi : i < c
  · simp [hi, h i hi]
  · have : x < 2 ^ i := Nat.lt_of_lt_of_le hx (Nat.pow_le_pow_right (by decide) (by omega))
    simp [Nat.testBit_lt_two_pow this, hi]

/-- The word j of a set. -/
def wd (f : Nat → Bool) (j : Nat) : Nat := numOf (fun k => f (64 * j + k)) 64
theorem wd_lt (f : Nat → Bool) (j : Nat) : wd f j < 18446744073709551616 := numOf_lt _ 64
theorem wd_bit (f : Nat → Bool) (j k : Nat) (h : k < 64) : (wd f j).testBit k = f (64 * j + k) := by
  rw [wd, numOf_bit]; simp [h]

/-- A place is turned. -/
def put (f : Nat → Bool) (i : Nat) (b : Bool) : Nat → Bool := fun x => if x = i then b else f x

theorem has_word (f : Nat → Bool) (i : Nat) : wd f (i / 64) / 2 ^ (i % 64) % 2 = (if f i then 1 else 0) := by
  have h := wd_bit f (i / 64) (i % 64) (by omega)
  rw [Nat.testBit_eq_decide_div_mod_eq, show 64 * (i / 64) + i % 64 = i from by omega] at h
  cases hf : f i
  · rw [hf] at h
    have := of_decide_eq_false h
    simp
    omega
  · rw [hf] at h
    have := of_decide_eq_true h
    simp
    omega

theorem add_word (f : Nat → Bool) (i : Nat) : wd f (i / 64) ||| 2 ^ (i % 64) = wd (put f i true) (i / 64) := by
  refine eq_numOf (Nat.or_lt_two_pow (numOf_lt _ 64) (Nat.pow_lt_pow_right (by decide) (by omega))) fun k hk => ?_
  rw [Nat.testBit_or, wd_bit _ _ _ hk, Nat.testBit_two_pow, put]
  by_cases he : i % 64 = k
  · rw [if_pos (by omega)]; simp [he]
  · rw [if_neg (by omega)]; simp [he]

theorem word_else (f : Nat → Bool) (i j : Nat) (b : Bool) (h : j ≠ i / 64) : wd (put f i b) j = wd f j := by
  refine numOf_congr fun k hk => ?_
  rw [put, if_neg (by omega)]

/-- x without the bits of y. -/
theorem del_word (f : Nat → Bool) (i : Nat) : wd f (i / 64) &&& (18446744073709551615 - 2 ^ (i % 64)) = wd (put f i false) (i / 64) := by
  have hp : 2 ^ (i % 64) < 2 ^ 64 := Nat.pow_lt_pow_right (by decide) (by omega)
  refine eq_numOf (Nat.lt_of_le_of_lt Nat.and_le_left (numOf_lt _ 64)) fun k hk => ?_
  have e : 18446744073709551615 - 2 ^ (i % 64) = 2 ^ 64 - (2 ^ (i % 64) + 1) := by omega
  rw [Nat.testBit_and, wd_bit _ _ _ hk, e, Nat.testBit_two_pow_sub_succ hp, Nat.testBit_two_pow, put]
  by_cases he : i % 64 = k
  · rw [if_pos (by omega)]; simp [he]
  · rw [if_neg (by omega)]; simp [he, hk]

theorem wd_none (j : Nat) : wd (fun _ => false) j = 0 := by
  refine (eq_numOf (by decide) fun k hk => ?_).symm
  simp

/-- How many of the first c are set. -/
def cnt (g : Nat → Bool) : Nat → Nat
  | 0 => 0
  | c + 1 => cnt g c + (if g c then 1 else 0)

theorem cnt_le (g : Nat → Bool) : ∀ c, cnt g c ≤ c
  | 0 => Nat.le_refl _
  | c + 1 => by have := cnt_le g c; rw [cnt]; split <;> omega

theorem cnt_front (g : Nat → Bool) : ∀ c, cnt g (c + 1) = (if g 0 then 1 else 0) + cnt (fun k => g (k + 1)) c
  | 0 => by simp [cnt]
  | c + 1 => by
    rw [cnt, cnt_front g c, cnt]
    omega

theorem cnt_congr {g h : Nat → Bool} : ∀ {c : Nat}, (∀ k, k < c → g k = h k) → cnt g c = cnt h c
  | 0, _ => rfl
  | c + 1, e => by rw [cnt, cnt, cnt_congr (c := c) (fun k hk => e k (by omega)), e c (by omega)]

theorem cnt_add (g : Nat → Bool) (a : Nat) : ∀ b, cnt g (a + b) = cnt g a + cnt (fun k => g (a + k)) b
  | 0 => by simp [cnt]
  | b + 1 => by rw [← Nat.add_assoc, cnt, cnt_add g a b, cnt]; omega

theorem popAux_cnt : ∀ c x, Lib.popAux c x = cnt x.testBit c
  | 0, _ => rfl
  | c + 1, x => by
    rw [Lib.popAux, popAux_cnt c, cnt_front]
    have e : x % 2 = (if x.testBit 0 then 1 else 0) := by
      rw [Nat.testBit_zero]
      rcases Nat.mod_two_eq_zero_or_one x with h | h <;> simp [h]
    rw [e]
    congr 1
    exact cnt_congr fun k _ => by rw [Nat.testBit_succ]

theorem pop_wd (f : Nat → Bool) (j : Nat) : Lib.popAux 64 (wd f j) = cnt (fun k => f (64 * j + k)) 64 := by
  rw [popAux_cnt]
  exact cnt_congr fun k hk => wd_bit f j k hk

theorem cnt_word (f : Nat → Bool) (j : Nat) : cnt f (64 * (j + 1)) = cnt f (64 * j) + Lib.popAux 64 (wd f j) := by
  rw [pop_wd, Nat.mul_add, cnt_add]

theorem cnt_beyond (f : Nat → Bool) (n : Nat) (h : ∀ i, f i = true → i < n) : ∀ k, cnt f (n + k) = cnt f n
  | 0 => rfl
  | k + 1 => by
    rw [← Nat.add_assoc, cnt, cnt_beyond f n h k]
    have : f (n + k) ≠ true := fun e => by have := h _ e; omega
    simp [this]
end Go.Proofs.YtgdjlopnhecmjaaGreatDoor

/- Plain mathematics of layer 3, going on: counting bits side by side, as math/bits does. -/
namespace Go.Proofs.YtgdjlopnhecmjaaGreatDoor
set_option linter.unusedVariables false
set_option maxRecDepth 4000

theorem and_split (a b y z : Nat) (ha : a < 256) (hb : b < 256) : (a + 256 * y) &&& (b + 256 * z) = (a &&& b) + 256 * (y &&& z) := by
  apply Nat.eq_of_testBit_eq
  intro i
  have hab : a &&& b < 2 ^ 8 := Nat.lt_of_le_of_lt Nat.and_le_left ha
  rw [Nat.testBit_and, Nat.add_comm a, Nat.add_comm b, Nat.add_comm (a &&& b), show (256 : Nat) = 2 ^ 8 from rfl,
    Nat.testBit_two_pow_mul_add _ (show a < 2 ^ 8 from ha), Nat.testBit_two_pow_mul_add _ (show b < 2 ^ 8 from hb), Nat.testBit_two_pow_mul_add _ hab, Nat.testBit_and]
  split <;> simp [Nat.testBit_and]

def m5 : Nat → Nat
  | 0 => 0
  | k + 1 => 85 + 256 * m5 k
def m3 : Nat → Nat
  | 0 => 0
  | k + 1 => 51 + 256 * m3 k
def mf : Nat → Nat
  | 0 => 0
  | k + 1 => 15 + 256 * mf k
theorem m5_8 : m5 8 = 6148914691236517205 := by decide
theorem m3_8 : m3 8 = 3689348814741910323 := by decide
theorem mf_8 : mf 8 = 1085102592571150095 := by decide

def T1 (k x : Nat) : Nat := (x / 2 &&& m5 k) + (x &&& m5 k)
def T2 (k x : Nat) : Nat := (x / 4 &&& m3 k) + (x &&& m3 k)
def T3 (k x : Nat) : Nat := (x / 16 + x) &&& mf k
def t1 (b : Nat) : Nat := (b / 2 &&& 85) + (b &&& 85)
def t2 (b : Nat) : Nat := (b / 4 &&& 51) + (b &&& 51)

theorem f1 : ∀ b : Fin 256, ∀ t : Fin 2, (b.val / 2 + 128 * t.val) &&& 85 = b.val / 2 &&& 85 := by decide +kernel
theorem f2 : ∀ b : Fin 256, ∀ t : Fin 4, (b.val / 4 + 64 * t.val) &&& 51 = b.val / 4 &&& 51 := by decide +kernel
theorem f3 : ∀ b : Fin 256, (t1 b.val < 256) ∧ (t2 b.val < 256) ∧ t2 (t1 b.val) % 16 ≤ 4 ∧ t2 (t1 b.val) / 16 ≤ 4 ∧ (t2 (t1 b.val) / 16 + t2 (t1 b.val)) % 16 = Lib.popAux 8 b.val := by decide +kernel
theorem f4 (x : Nat) : x &&& 15 = x % 16 := Nat.and_two_pow_sub_one_eq_mod x 4

theorem T1_step (k b y : Nat) (hb : b < 256) : T1 (k + 1) (b + 256 * y) = t1 b + 256 * T1 k y := by
  have e : (b + 256 * y) / 2 = (b / 2 + 128 * (y % 2)) + 256 * (y / 2) := by omega
  have g := f1 ⟨b, hb⟩ ⟨y % 2, by omega⟩
  simp only at g
  rw [T1, e, m5, and_split _ _ _ _ (by omega) (by decide), and_split _ _ _ _ hb (by decide), g, t1, T1]
  omega

theorem T2_step (k b y : Nat) (hb : b < 256) : T2 (k + 1) (b + 256 * y) = t2 b + 256 * T2 k y := by
  have e : (b + 256 * y) / 4 = (b / 4 + 64 * (y % 4)) + 256 * (y / 4) := by omega
  have g := f2 ⟨b, hb⟩ ⟨y % 4, by omega⟩
  simp only at g
  rw [T2, e, m3, and_split _ _ _ _ (by omega) (by decide), and_split _ _ _ _ hb (by decide), g, t2, T2]
  omega

theorem T3_step (k c z : Nat) (h1 : c % 16 ≤ 4) (h2 : c / 16 ≤ 4) (h3 : z % 16 ≤ 4) : T3 (k + 1) (c + 256 * z) = (c / 16 + c) % 16 + 256 * T3 k z := by
  have e : (c + 256 * z) / 16 + (c + 256 * z) = (c / 16 + c + 16 * (z % 16)) + 256 * (z / 16 + z) := by omega
  rw [T3, e, mf, and_split _ _ _ _ (by omega) (by decide), f4, T3]
  omega

theorem low_nibble (k y : Nat) (hy : y < 256 ^ k) : T2 k (T1 k y) % 16 ≤ 4 := by
  cases k with
  | zero => simp [T2, m3]
  | succ k =>
    have e : y = y % 256 + 256 * (y / 256) := by omega
    have hb := f3 ⟨y % 256, by omega⟩
    simp only at hb
    rw [e, T1_step _ _ _ (by omega), T2_step _ _ _ hb.1]
    omega

/-- The counts of the bytes, side by side. -/
def pops : Nat → Nat → Nat
  | 0, _ => 0
  | k + 1, x => Lib.popAux 8 (x % 256) + 256 * pops k (x / 256)

theorem T_pops : ∀ k x, x < 256 ^ k → T3 k (T2 k (T1 k x)) = pops k x
  | 0, x, _ => by simp [T3, mf, pops]
  | k + 1, x, h => by
    have e : x = x % 256 + 256 * (x / 256) := by omega
    have hy : x / 256 < 256 ^ k := by rw [Nat.pow_succ] at h; omega
    have hb := f3 ⟨x % 256, by omega⟩
    simp only at hb
    obtain ⟨b1, b2, b3, b4, b5⟩ := hb
    have := T1_step k (x % 256) (x / 256) (by omega)
    rw [← e] at this
    rw [this, T2_step _ _ _ b1, T3_step _ _ _ b3 b4 (low_nibble k _ hy), b5, T_pops k _ hy, pops]

theorem popAux_le : ∀ c x, Lib.popAux c x ≤ c := fun c x => by rw [popAux_cnt]; exact cnt_le _ _

theorem popAux_split (c x : Nat) : ∀ a, Lib.popAux (a + c) x = Lib.popAux a x + Lib.popAux c (x / 2 ^ a) := by
  intro a
  rw [popAux_cnt, popAux_cnt, popAux_cnt, cnt_add]
  congr 1
  refine cnt_congr fun k _ => ?_
  rw [← Nat.shiftRight_eq_div_pow, Nat.testBit_shiftRight]

theorem popAux_mod (x : Nat) : Lib.popAux 8 (x % 256) = Lib.popAux 8 x := by
  rw [popAux_cnt, popAux_cnt]
  refine cnt_congr fun k hk => ?_
  rw [show (256 : Nat) = 2 ^ 8 from rfl, Nat.testBit_mod_two_pow]
  simp [hk]

/-- All the counts: of eight bytes. -/
theorem pops_sum (x : Nat) : Lib.popAux 64 x = Lib.popAux 8 x + Lib.popAux 8 (x / 256) + Lib.popAux 8 (x / 65536) + Lib.popAux 8 (x / 16777216) + Lib.popAux 8 (x / 4294967296) + Lib.popAux 8 (x / 1099511627776) + Lib.popAux 8 (x / 281474976710656) + Lib.popAux 8 (x / 72057594037927936) := by
  rw [show (64 : Nat) = 8 + (8 + (8 + (8 + (8 + (8 + (8 + 8)))))) from rfl]
  simp only [popAux_split _ _ 8, Nat.div_div_eq_div_mul]
  simp only [Nat.reducePow, Nat.reduceMul]
  omega

theorem pops_eight (x : Nat) : pops 8 x = Lib.popAux 8 x + 256 * Lib.popAux 8 (x / 256) + 65536 * Lib.popAux 8 (x / 65536) + 16777216 * Lib.popAux 8 (x / 16777216) + 4294967296 * Lib.popAux 8 (x / 4294967296) + 1099511627776 * Lib.popAux 8 (x / 1099511627776) + 281474976710656 * Lib.popAux 8 (x / 281474976710656) + 72057594037927936 * Lib.popAux 8 (x / 72057594037927936) := by
  simp only [pops, popAux_mod, Nat.div_div_eq_div_mul, Nat.reduceMul]
  omega

theorem fold8 (a b c d e f g h : Nat) (ha : a ≤ 8) (hb : b ≤ 8) (hc : c ≤ 8) (hd : d ≤ 8) (he : e ≤ 8) (hf : f ≤ 8) (hg : g ≤ 8) (hh : h ≤ 8) (y y1 y2 y3 : Nat)
    (hy : y = a + 256 * b + 65536 * c + 16777216 * d + 4294967296 * e + 1099511627776 * f + 281474976710656 * g + 72057594037927936 * h)
    (h1 : y1 = y + y / 256) (h2 : y2 = y1 + y1 / 65536) (h3 : y3 = y2 + y2 / 4294967296) :
    y < 18446744073709551616 ∧ y1 < 18446744073709551616 ∧ y2 < 18446744073709551616 ∧ y3 < 9223372036854775808 ∧ y3 % 128 = a + b + c + d + e + f + g + h := by
  have e1 : y / 256 = b + 256 * c + 65536 * d + 16777216 * e + 4294967296 * f + 1099511627776 * g + 281474976710656 * h := by omega
  rw [e1] at h1
  have e2 : y1 / 65536 = (c + d) + 256 * (d + e) + 65536 * (e + f) + 16777216 * (f + g) + 4294967296 * (g + h) + 1099511627776 * h := by omega
  rw [e2] at h2
  have e3 : y2 / 4294967296 = (e + f + g + h) + 256 * (f + g + h) + 65536 * (g + h) + 16777216 * h := by omega
  rw [e3] at h3
  have k1 : y1 = (a + b) + 256 * (b + c) + 65536 * (c + d) + 16777216 * (d + e) + 4294967296 * (e + f) + 1099511627776 * (f + g) + 281474976710656 * (g + h) + 72057594037927936 * h := by rw [h1, hy]; clear e1 e2 e3 h1 h2 h3 hy; omega
  have k2 : y2 = (a + b + c + d) + 256 * (b + c + d + e) + 65536 * (c + d + e + f) + 16777216 * (d + e + f + g) + 4294967296 * (e + f + g + h) + 1099511627776 * (f + g + h) + 281474976710656 * (g + h) + 72057594037927936 * h := by rw [h2, k1]; clear e1 e2 e3 h1 h2 h3 hy k1; omega
  have k3 : y3 = (a + b + c + d + e + f + g + h) + 128 * (2 * (b + c + d + e + f + g + h) + 512 * (c + d + e + f + g + h) + 131072 * (d + e + f + g + h) + 33554432 * (e + f + g + h) + 8589934592 * (f + g + h) + 2199023255552 * (g + h) + 562949953421312 * h) := by rw [h3, k2]; clear e1 e2 e3 h1 h2 h3 hy k1 k2; omega
  clear e1 e2 e3 h1 h2 h3
  refine ⟨?_, ?_, ?_, ?_, ?_⟩
  · rw [hy]; clear k1 k2 k3 hy; omega
  · rw [k1]; clear k1 k2 k3 hy; omega
  · rw [k2]; clear k1 k2 k3 hy; omega
  · rw [k3]; clear k1 k2 k3 hy; omega
  · rw [k3, Nat.add_mul_mod_self_left, Nat.mod_eq_of_lt (by clear k1 k2 k3 hy; omega)]
end Go.Proofs.YtgdjlopnhecmjaaGreatDoor

/- Plain mathematics of layer 3: the least place from a place on; lists of places. -/
namespace Go.Proofs.YtgdjlopnhecmjaaGreatDoor
set_option linter.unusedVariables false
set_option maxRecDepth 4000

def nextF (g : Nat → Bool) : Nat → Nat → Int
  | 0, _ => -1
  | d + 1, i => if g i then (i : Int) else nextF g d (i + 1)
/-- The least place from i on, below n, of which g says yes; else -1. -/
def nextL (g : Nat → Bool) (n i : Nat) : Int := nextF g (n - i) i

theorem nextL_stop (g : Nat → Bool) {n i : Nat} (h : n ≤ i) : nextL g n i = -1 := by
  rw [nextL, show n - i = 0 from by omega, nextF]
theorem nextL_at (g : Nat → Bool) {n i : Nat} (h : i < n) (hg : g i = true) : nextL g n i = i := by
  rw [nextL, show n - i = (n - (i + 1)) + 1 from by omega, nextF, if_pos hg]
theorem nextL_step (g : Nat → Bool) {n i : Nat} (hg : i < n → g i = false) : nextL g n i = nextL g n (i + 1) := by
  by_cases h : i < n
  · rw [nextL, show n - i = (n - (i + 1)) + 1 from by omega, nextF, if_neg (by rw [hg h]; decide), nextL]
  · rw [nextL_stop g (by omega), nextL_stop g (by omega)]
theorem nextL_skip (g : Nat → Bool) (n i : Nat) : ∀ d, (∀ k, i ≤ k → k < i + d → k < n → g k = false) → nextL g n i = nextL g n (i + d)
  | 0, _ => rfl
  | d + 1, h => by
    rw [nextL_skip g n i d (fun k h1 h2 h3 => h k h1 (by omega) h3), nextL_step g (fun h3 => h _ (by omega) (by omega) h3)]
    rfl

theorem nextL_cases (g : Nat → Bool) (n i : Nat) : (nextL g n i = -1 ∧ ∀ k, i ≤ k → k < n → g k = false) ∨ ∃ j : Nat, nextL g n i = (j : Int) ∧ i ≤ j ∧ j < n ∧ g j = true ∧ ∀ k, i ≤ k → k < j → g k = false := by
  generalize hd : n - i = d
  induction d generalizing i with
  | zero => exact .inl ⟨nextL_stop g (by omega), fun k h1 h2 => by omega⟩
  | succ d ih =>
    cases hg : g i
    · rw [nextL_step g (fun _ => hg)]
      rcases ih (i + 1) (by omega) with ⟨h1, h2⟩ | ⟨j, h1, h2, h3, h4, h5⟩
      · refine .inl ⟨h1, fun k a b => ?_⟩
        by_cases e : k = i
        · rw [e]; exact hg
        · exact h2 k (by omega) b
      · refine .inr ⟨j, h1, by omega, h3, h4, fun k a b => ?_⟩
        by_cases e : k = i
        · rw [e]; exact hg
        · exact h5 k (by omega) b
    · exact .inr ⟨i, nextL_at g (by omega) hg, Nat.le_refl _, by omega, hg, fun k a b => by omega⟩

theorem rest_zero (g : Nat → Bool) (X k : Nat) (hX : ∀ t, t < 64 → X.testBit t = g (64 * (k / 64) + t)) (h : X / 2 ^ (k % 64) = 0) : ∀ m, k ≤ m → m < k + (64 - k % 64) → g m = false := by
  intro m h1 h2
  have e := hX (m - 64 * (k / 64)) (by omega)
  rw [show 64 * (k / 64) + (m - 64 * (k / 64)) = m from by omega] at e
  rw [← e, show m - 64 * (k / 64) = k % 64 + (m - k) from by omega, ← Nat.testBit_shiftRight, Nat.shiftRight_eq_div_pow, h]
  simp

theorem ctz_bits (r : Nat) (h0 : r ≠ 0) (h : r < 18446744073709551616) : r.testBit (Lib.ctz 64 r) = true ∧ (∀ t, t < Lib.ctz 64 r → r.testBit t = false) ∧ Lib.ctz 64 r < 64 := by
  obtain ⟨m, hm, hk⟩ := Lib.ctzFrom_spec 64 r (by omega) h
  have e : Lib.ctz 64 r = Lib.ctzFrom 64 r := by simp [Lib.ctz, h0]
  rw [e]
  refine ⟨?_, fun t ht => ?_, hk⟩
  · have := Nat.testBit_mul_two_pow (2 * m + 1) (Lib.ctzFrom 64 r) (Lib.ctzFrom 64 r)
    rw [Nat.mul_comm, ← hm] at this
    rw [this]
    simp [Nat.testBit_zero]
  · have := Nat.testBit_mul_two_pow (2 * m + 1) t (Lib.ctzFrom 64 r)
    rw [Nat.mul_comm, ← hm] at this
    rw [this]
    simp [show ¬ Lib.ctzFrom 64 r ≤ t by omega]

theorem rest_some (g : Nat → Bool) (X k r c : Nat) (hx : X < 18446744073709551616) (hX : ∀ t, t < 64 → X.testBit t = g (64 * (k / 64) + t)) (h : X / 2 ^ (k % 64) = r) (h0 : r ≠ 0) (hc : c = Lib.ctz 64 r) :
    k % 64 + c < 64 ∧ g (k + c) = true ∧ ∀ m, k ≤ m → m < k + c → g m = false := by
  have hr : r < 18446744073709551616 := by rw [← h]; exact Nat.lt_of_le_of_lt (Nat.div_le_self _ _) hx
  obtain ⟨b1, b2, b3⟩ := ctz_bits r h0 hr
  rw [← hc] at b1 b2 b3
  rw [← h, ← Nat.shiftRight_eq_div_pow, Nat.testBit_shiftRight] at b1
  have hlt : k % 64 + c < 64 := by
    rcases Nat.lt_or_ge (k % 64 + c) 64 with h' | h'
    · exact h'
    · have : X < 2 ^ (k % 64 + c) := Nat.lt_of_lt_of_le (show X < 2 ^ 64 from hx) (Nat.pow_le_pow_right (by decide) h')
      rw [Nat.testBit_lt_two_pow this] at b1
      cases b1
  refine ⟨hlt, ?_, fun m h1 h2 => ?_⟩
  · rw [hX _ hlt] at b1
    rw [← b1]
    congr 1
    omega
  · have := b2 (m - k) (by omega)
    rw [← h, ← Nat.shiftRight_eq_div_pow, Nat.testBit_shiftRight, hX _ (by omega)] at this
    rw [← this]
    congr 1
    omega

theorem same_bits (f : Nat → Bool) (j k : Nat) (h : k < 64) : (wd f j ^^^ 0).testBit k = f (64 * j + k) := by
  rw [Nat.xor_zero, wd_bit f j k h]
theorem turned_bits (f : Nat → Bool) (j k : Nat) (h : k < 64) : (wd f j ^^^ 18446744073709551615).testBit k = !f (64 * j + k) := by
  rw [Nat.testBit_xor, wd_bit f j k h, show (18446744073709551615 : Nat) = 2 ^ 64 - 1 from rfl, Nat.testBit_two_pow_sub_one]
  simp [h]

/-- The places below k that are in, rising. -/
def lsL (f : Nat → Bool) : Nat → List Int
  | 0 => []
  | k + 1 => lsL f k ++ (if f k then [(k : Int)] else [])

theorem lsL_len (f : Nat → Bool) : ∀ k, (lsL f k).length = cnt f k
  | 0 => rfl
  | k + 1 => by rw [lsL, cnt, List.length_append, lsL_len f k]; split <;> rfl

theorem lsL_skip (f : Nat → Bool) (k : Nat) : ∀ d, (∀ i, k ≤ i → i < k + d → f i = false) → lsL f (k + d) = lsL f k
  | 0, _ => rfl
  | d + 1, h => by
    rw [← Nat.add_assoc, lsL, lsL_skip f k d (fun i a b => h i a (by omega)), if_neg (by rw [h _ (by omega) (by omega)]; decide)]
    simp

theorem lsL_one (f : Nat → Bool) (k j : Nat) (hkj : k ≤ j) (h : ∀ i, k ≤ i → i < j → f i = false) (hj : f j = true) : lsL f (j + 1) = lsL f k ++ [(j : Int)] := by
  have := lsL_skip f k (j - k) (fun i a b => h i a (by omega))
  rw [show k + (j - k) = j from by omega] at this
  rw [lsL, this, if_pos hj]

theorem lsL_mem (f : Nat → Bool) (x : Int) : ∀ k, x ∈ lsL f k → ∃ i : Nat, x = i ∧ i < k ∧ f i = true
  | 0, h => by simp [lsL] at h
  | k + 1, h => by
    rw [lsL] at h
    rcases List.mem_append.1 h with h | h
    · obtain ⟨i, a, b, c⟩ := lsL_mem f x k h
      exact ⟨i, a, by omega, c⟩
    · split at h
      · rename_i hf
        exact ⟨k, by simpa using h, by omega, hf⟩
      · simp at h

end Go.Proofs.YtgdjlopnhecmjaaGreatDoor

/- Plain mathematics of layer 6: classes of sizes. -/
namespace Go.Proofs.YtgdjlopnhecmjaaGreatDoor
set_option linter.unusedVariables false
set_option maxRecDepth 4000


/-- The class of an object of so many bytes. -/
def ofI (n : Int) : Int :=
  if n < 1 ∨ 4096 < n then -1 else if n ≤ 16 then 0 else if n ≤ 24 then 1 else if n ≤ 32 then 2 else if n ≤ 48 then 3
  else if n ≤ 64 then 4 else if n ≤ 96 then 5 else if n ≤ 128 then 6 else 7
/-- The pages of a span whose object has so many bytes. -/
def pagesN (n : Int) : Nat := if n < 1 ∨ 4096 < n then 0 else if n ≤ 128 then 1 else (n.toNat + 255) / 256
/-- The bytes of a slot. -/
def sizeI (c : Int) : Int :=
  if c = 0 then 16 else if c = 1 then 24 else if c = 2 then 32 else if c = 3 then 48 else if c = 4 then 64 else if c = 5 then 96 else if c = 6 then 128 else 0
/-- The slots of a span. -/
def slotsI (c : Int) : Int :=
  if c = 0 then 16 else if c = 1 then 10 else if c = 2 then 8 else if c = 3 then 5 else if c = 4 then 4 else if c = 5 then 2 else if c = 6 then 2 else if c = 7 then 1 else 0
def slotsN (c : Nat) : Nat := ([16, 10, 8, 5, 4, 2, 2] : List Nat).getD c 1
def sizeN (c : Nat) : Nat := ([16, 24, 32, 48, 64, 96, 128] : List Nat).getD c 0
def ceilN (n s : Nat) : Nat := (n + s - 1) / s
theorem ofI_range (n : Int) : -1 ≤ ofI n ∧ ofI n ≤ 7 := by unfold ofI; repeat' split <;> omega
theorem ofI_cases (n : Int) : (n < 1 ∨ 4096 < n) ∧ ofI n = -1 ∨ 1 ≤ n ∧ n ≤ 16 ∧ ofI n = 0 ∨ 17 ≤ n ∧ n ≤ 24 ∧ ofI n = 1 ∨ 25 ≤ n ∧ n ≤ 32 ∧ ofI n = 2 ∨ 33 ≤ n ∧ n ≤ 48 ∧ ofI n = 3 ∨ 49 ≤ n ∧ n ≤ 64 ∧ ofI n = 4 ∨ 65 ≤ n ∧ n ≤ 96 ∧ ofI n = 5 ∨ 97 ≤ n ∧ n ≤ 128 ∧ ofI n = 6 ∨ 129 ≤ n ∧ n ≤ 4096 ∧ ofI n = 7 := by
  unfold ofI; repeat' split <;> omega
theorem pagesN_none {n : Int} (h : ofI n = -1) : pagesN n = 0 := by
  unfold pagesN; have := ofI_cases n; rw [if_pos (by omega)]
theorem pagesN_small {n : Int} (h0 : 0 ≤ ofI n) (h : ofI n ≤ 6) : pagesN n = 1 := by
  unfold pagesN; have := ofI_cases n; rw [if_neg (by omega), if_pos (by omega)]
theorem pagesN_large {n : Int} (h : ofI n = 7) : pagesN n = (n.toNat + 255) / 256 ∧ 129 ≤ n ∧ n ≤ 4096 := by
  unfold pagesN; have := ofI_cases n; rw [if_neg (by omega), if_neg (by omega)]; exact ⟨rfl, by omega, by omega⟩
theorem pagesN_le (n : Int) : pagesN n ≤ 16 := by
  unfold pagesN
  split
  · omega
  · split <;> omega
theorem slotsN_pos (c : Nat) (h : c < 7) : 0 < slotsN c ∧ slotsN c ≤ 16 := by
  rcases h' : c with _ | _ | _ | _ | _ | _ | _ | c <;> simp [slotsN] <;> omega
end Go.Proofs.YtgdjlopnhecmjaaGreatDoor

/- Plain mathematics of layer 10: which spans may be, their slots and places, and lists of slots. -/
namespace Go.Proofs.YtgdjlopnhecmjaaGreatDoor
set_option linter.unusedVariables false
set_option maxRecDepth 4000

/-- The pages of a span. -/
def pgsN (c s : Int) : Nat := if c = 7 then pagesN s else 1
/-- The bytes of a slot. -/
def szI (c s : Int) : Int := if c = 7 then s else sizeI c
/-- The slots of a span. -/
def slN (c : Int) : Nat := (slotsI c).toNat
/-- What forbids a span. -/
def newE (p c s : Int) : Int :=
  if c < 0 ∨ 7 < c then 11 else if (c < 7 ∧ s ≠ 0) ∨ (c = 7 ∧ ofI s ≠ 7) then 2 else if p < 0 ∨ 4096 - (pgsN c s : Int) < p then 10 else 0

/-- A span that may be. -/
structure Rt (p c s : Int) : Prop where
  c0 : 0 ≤ c
  c7 : c ≤ 7
  sm : c < 7 → s = 0
  lg : c = 7 → ofI s = 7
  p0 : 0 ≤ p
  p1 : p + (pgsN c s : Int) ≤ 4096

theorem newE_cases (p c s : Int) : ((c < 0 ∨ 7 < c) ∧ newE p c s = 11) ∨ (0 ≤ c ∧ c ≤ 7 ∧ ((c < 7 ∧ s ≠ 0) ∨ (c = 7 ∧ ofI s ≠ 7)) ∧ newE p c s = 2) ∨
    (0 ≤ c ∧ c ≤ 7 ∧ (c < 7 → s = 0) ∧ (c = 7 → ofI s = 7) ∧ (p < 0 ∨ 4096 - (pgsN c s : Int) < p) ∧ newE p c s = 10) ∨ (Rt p c s ∧ newE p c s = 0) := by
  by_cases h1 : c < 0 ∨ 7 < c
  · exact .inl ⟨h1, by unfold newE; rw [if_pos h1]⟩
  · by_cases h2 : (c < 7 ∧ s ≠ 0) ∨ (c = 7 ∧ ofI s ≠ 7)
    · exact .inr (.inl ⟨by omega, by omega, h2, by unfold newE; rw [if_neg h1, if_pos h2]⟩)
    · have h3 : c < 7 → s = 0 := fun h => Decidable.byContradiction fun e => h2 (.inl ⟨h, e⟩)
      have h4 : c = 7 → ofI s = 7 := fun h => Decidable.byContradiction fun e => h2 (.inr ⟨h, e⟩)
      by_cases h5 : p < 0 ∨ 4096 - (pgsN c s : Int) < p
      · exact .inr (.inr (.inl ⟨by omega, by omega, h3, h4, h5, by unfold newE; rw [if_neg h1, if_neg h2, if_pos h5]⟩))
      · exact .inr (.inr (.inr ⟨⟨by omega, by omega, h3, h4, by omega, by omega⟩, by unfold newE; rw [if_neg h1, if_neg h2, if_neg h5]⟩))
theorem eight {c : Int} (h0 : 0 ≤ c) (h7 : c ≤ 7) : c = 0 ∨ c = 1 ∨ c = 2 ∨ c = 3 ∨ c = 4 ∨ c = 5 ∨ c = 6 ∨ c = 7 := by omega
theorem pgsN_le (c s : Int) : pgsN c s ≤ 16 := by
  unfold pgsN; split
  · exact pagesN_le s
  · omega
/-- What is so of the slots of each span. -/
def Facts (c s : Int) : Prop := 1 ≤ slN c ∧ slN c ≤ 16 ∧ slotsI c = (slN c : Int) ∧ 1 ≤ szI c s ∧ szI c s ≤ 4096 ∧ (slN c : Int) * szI c s ≤ 256 * (pgsN c s : Int) ∧ 1 ≤ pgsN c s ∧ pgsN c s ≤ 16 ∧ pagesN (szI c s) = pgsN c s ∧ (2 ≤ slN c → szI c s ≤ 128) ∧ 16 ≤ szI c s
theorem facts_small (c s : Int) (k : Nat) (z : Int) (h1 : slN c = k) (h2 : szI c s = z) (h3 : pgsN c s = 1) (h4 : slotsI c = (k : Int)) (h5 : pagesN z = 1) (g1 : 1 ≤ k) (g2 : k ≤ 16) (g3 : 16 ≤ z) (g4 : z ≤ 128) (g5 : (k : Int) * z ≤ 256) : Facts c s := by
  unfold Facts
  rw [h1, h2, h3, h4, h5]
  refine ⟨g1, g2, rfl, by omega, by omega, by omega, by omega, by omega, rfl, fun _ => by omega, by omega⟩
theorem Rt.facts {p c s : Int} (h : Rt p c s) : Facts c s := by
  rcases eight h.c0 h.c7 with rfl | rfl | rfl | rfl | rfl | rfl | rfl | rfl
  · exact facts_small 0 s 16 16 rfl rfl rfl rfl (by decide) (by decide) (by decide) (by decide) (by decide) (by decide)
  · exact facts_small 1 s 10 24 rfl rfl rfl rfl (by decide) (by decide) (by decide) (by decide) (by decide) (by decide)
  · exact facts_small 2 s 8 32 rfl rfl rfl rfl (by decide) (by decide) (by decide) (by decide) (by decide) (by decide)
  · exact facts_small 3 s 5 48 rfl rfl rfl rfl (by decide) (by decide) (by decide) (by decide) (by decide) (by decide)
  · exact facts_small 4 s 4 64 rfl rfl rfl rfl (by decide) (by decide) (by decide) (by decide) (by decide) (by decide)
  · exact facts_small 5 s 2 96 rfl rfl rfl rfl (by decide) (by decide) (by decide) (by decide) (by decide) (by decide)
  · exact facts_small 6 s 2 128 rfl rfl rfl rfl (by decide) (by decide) (by decide) (by decide) (by decide) (by decide)
  have e := h.lg rfl
  obtain ⟨e1, e2, e3⟩ := pagesN_large e
  have s1 : slN 7 = 1 := rfl
  have s2 : szI 7 s = s := rfl
  have s3 : pgsN 7 s = pagesN s := rfl
  have s4 : slotsI 7 = 1 := rfl
  unfold Facts
  rw [s1, s2, s3, s4, e1]
  refine ⟨?_, ?_, ?_, ?_, ?_, ?_, ?_, ?_, ?_, ?_, ?_⟩ <;> omega

/-- A slot's place, told without wrapping. -/
theorem Rt.place {p c s : Int} (h : Rt p c s) (i : Nat) (hi : i < slN c) : 0 ≤ (i : Int) * szI c s ∧ (i : Int) * szI c s ≤ 65536 ∧ (i : Int) * szI c s + szI c s ≤ 256 * (pgsN c s : Int) := by
  obtain ⟨f1, f2, f3, f4, f5, f6, _⟩ := h.facts
  have h0 : 0 ≤ (i : Int) * szI c s := Int.mul_nonneg (by omega) (by omega)
  have h1 : (i : Int) * szI c s ≤ 16 * 4096 := Int.mul_le_mul (by omega) f5 (by omega) (by omega)
  have h2 : ((i : Int) + 1) * szI c s ≤ (slN c : Int) * szI c s := Int.mul_le_mul_of_nonneg_right (by omega) (by omega)
  rw [Int.add_mul, Int.one_mul] at h2
  exact ⟨h0, h1, by omega⟩

/-- What Slot answers. -/
def SlotR (n : Nat) (p z x : Int) (r : Int) (ok : Bool) : Prop :=
  (ok = true ∧ ∃ i : Nat, i < n ∧ r = (i : Int) ∧ x = 256 * p + (i : Int) * z) ∨ (ok = false ∧ r = 0 ∧ ∀ i : Nat, i < n → x ≠ 256 * p + (i : Int) * z)
theorem mul_inj {i j : Nat} {z : Int} (hz : 1 ≤ z) (h : (i : Int) * z = (j : Int) * z) : i = j := by
  have := Int.eq_of_mul_eq_mul_right (by omega : z ≠ 0) h
  omega
theorem SlotR.one {n : Nat} {p z x r r' : Int} {ok ok' : Bool} (hz : 1 ≤ z) (h : SlotR n p z x r ok) (h' : SlotR n p z x r' ok') : r = r' ∧ ok = ok' := by
  rcases h with ⟨rfl, i, h1, rfl, h2⟩ | ⟨rfl, rfl, h1⟩ <;> rcases h' with ⟨rfl, j, k1, rfl, k2⟩ | ⟨rfl, rfl, k1⟩
  · have := mul_inj hz (by omega : (i : Int) * z = (j : Int) * z)
    exact ⟨by omega, rfl⟩
  · exact absurd h2 (k1 i h1)
  · exact absurd k2 (h1 j k1)
  · exact ⟨rfl, rfl⟩

end Go.Proofs.YtgdjlopnhecmjaaGreatDoor
