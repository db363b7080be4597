/- Plain mathematics of layer 1: bytes and digits of numbers as lists, without any program. -/
import Derived.Lib.BitFns
import Derived.WalkKit
namespace Go.Proofs.Ytofmicbhheebiaa
open Go.RowKit

/-- The width that counts. -/
def clampW (n : Int) : Int := if n < 0 then 0 else if n > 8 then 8 else n

/-- The lowest k bytes of n. -/
def putL : Nat → Int → List Int
  | 0, _ => []
  | k + 1, n => n % 256 :: putL k (n / 256)

/-- The number of bytes. -/
def getL : List Int → Int
  | [] => 0
  | b :: l => b + 256 * getL l

/-- The digits of n to the base 128, at most f + 1 of them. -/
def digs : Nat → Int → List Int
  | 0, n => [n]
  | f + 1, n => if n < 128 then [n] else (n % 128 + 128) :: digs f (n / 128)

def varL (n : Int) : List Int := digs 9 n

/-- What the digits at the head of a list come to, the first i of them having come to acc: the number, how many they are, the fault. -/
def rdF : Nat → Int → List Int → Int × Nat × Int
  | _, _, [] => (0, 0, 3)
  | i, acc, c :: l =>
    if i = 9 ∧ 1 < c then (0, 0, 4)
    else if 0 < i ∧ c = 0 then (0, 0, 4)
    else if c < 128 then (acc + c % 128 * 2 ^ (7 * i), i + 1, 0)
    else rdF (i + 1) (acc + c % 128 * 2 ^ (7 * i)) l

def rdL (l : List Int) : Int × Nat × Int := rdF 0 0 l

theorem tab_at (j : Nat) (h : j < Lib.len8tab.size) : (Lib.len8tab[j].toNat : Int) = Lib.bitLen j ∧ Lib.bitLen j ≤ 8 := by
  have hj : j < 256 := by rw [Lib.len8tab_size] at h; exact h
  have e := Lib.len8_eq ⟨j, hj⟩
  have l := Lib.bitLen_le8 ⟨j, hj⟩
  refine ⟨?_, l⟩
  simp only [Lib.len8, Int.toNat_natCast, ByteArray.getElem?_lt' _ _ h, Option.getD_some] at e
  exact e

theorem tab_close (k : Int) (j x : Int) (h : j.toNat < Lib.len8tab.size) (h0 : 0 ≤ k) (hk : k ≤ 56) (e : (Lib.bitLen x.toNat : Int) = k + Lib.bitLen j.toNat) :
    wrap64 (k + wrap64 ↑(Lib.len8tab[j.toNat].toNat)) = (Lib.bitLen x.toNat : Int) := by
  obtain ⟨a, b⟩ := tab_at j.toNat h
  rw [a, e]
  unfold wrap64
  omega

theorem tab_close0 (x : Int) (h : x.toNat < Lib.len8tab.size) :
    wrap64 (wrap64 ↑(Lib.len8tab[x.toNat].toNat)) = (Lib.bitLen x.toNat : Int) := by
  obtain ⟨a, b⟩ := tab_at x.toNat h
  rw [a]
  unfold wrap64
  omega

theorem bitLen_pos (n : Nat) (h0 : n ≠ 0) (h : n < 2 ^ 64) : 1 ≤ Lib.bitLen n := by
  rw [Lib.bitLen_half n h0 h]; omega

theorem digs_pos (f : Nat) (n : Int) : 1 ≤ (digs f n).length := by
  cases f with
  | zero => simp [digs]
  | succ f => simp only [digs]; split <;> simp

theorem size_digs : ∀ (f : Nat) (n : Nat), n ≠ 0 → n < 2 ^ 64 → n < 128 ^ (f + 1) → (Lib.bitLen n + 6) / 7 = (digs f n).length
  | 0, n, h0, h, hf => by
    have a := Lib.bitLen_le n 7 (by omega) (by simpa using hf)
    have b := bitLen_pos n h0 h
    simp [digs]
    omega
  | f + 1, n, h0, h, hf => by
    simp only [digs]
    split
    · rename_i c
      have a := Lib.bitLen_le n 7 (by omega) (by omega)
      have b := bitLen_pos n h0 h
      simp
      omega
    · rename_i c
      have s := Lib.bitLen_shift 7 n (by omega) h
      have i := size_digs f (n / 128) (by omega) (by omega) (by rw [Nat.pow_succ] at hf; omega)
      have e : ((n / 128 : Nat) : Int) = (n : Int) / 128 := by omega
      rw [e] at i
      simp only [List.length_cons, ← i]
      rw [s]
      simp only [show (2 : Nat) ^ 7 = 128 from rfl]
      omega

/-- How many digits there are, by the length in bits. -/
theorem size_varL (n : Int) (h0 : 0 ≤ n) (h1 : n ≤ 18446744073709551615) (hn : n ≠ 0) : (Lib.bitLen n.toNat + 6) / 7 = (varL n).length := by
  have := size_digs 9 n.toNat (by omega) (by omega) (by omega)
  rw [this]
  have e : ((n.toNat : Nat) : Int) = n := by omega
  rw [e, varL]

theorem or_one_bitLen (n : Int) (h0 : 0 ≤ n) (h1 : n ≤ 18446744073709551615) :
    0 ≤ bits .or .u64 n 1 ∧ bits .or .u64 n 1 ≤ 18446744073709551615 ∧ (Lib.bitLen (bits .or .u64 n 1).toNat + 6) / 7 = (varL n).length := by
  have e := u64_or n 1 h0 (by omega) (by omega) (by omega)
  rw [e]
  have hlt : (n.toNat ||| 1) < 2 ^ 64 := Nat.or_lt_two_pow (by omega) (by omega)
  have hne : (n.toNat ||| (1 : Int).toNat) ≠ 0 := by
    intro h
    have := (Nat.or_eq_zero_iff.1 h).2
    simp at this
  refine ⟨by omega, by simp only [Int.toNat_one]; omega, ?_⟩
  have hh : (n.toNat ||| (1 : Int).toNat) / 2 = n.toNat / 2 := by rw [Nat.or_div_two]; simp
  rw [Int.toNat_natCast, Lib.bitLen_half _ hne (by simpa using hlt), hh]
  by_cases hz : n = 0
  · subst hz
    decide
  · rw [← size_varL n h0 h1 hz, Lib.bitLen_half n.toNat (by omega) (by omega)]

theorem or_join (k : Nat) (a b : Int) (h0 : 0 ≤ a) (h1 : a < 2 ^ k) (hb : 0 ≤ b) (hs : a + b * 2 ^ k < 18446744073709551616) :
    bits .or .u64 a (b * 2 ^ k) = a + b * 2 ^ k := by
  have hp : (0 : Int) < 2 ^ k := Int.pow_pos (by decide)
  have hbp : 0 ≤ b * 2 ^ k := Int.mul_nonneg hb (by omega)
  rw [u64_or a (b * 2 ^ k) h0 (by omega) hbp (by omega)]
  have e2 : ((2 ^ k : Nat) : Int) = (2 : Int) ^ k := by simp
  have e1 : (b * 2 ^ k).toNat = b.toNat * 2 ^ k := by
    have : b * 2 ^ k = ((b.toNat * 2 ^ k : Nat) : Int) := by rw [Int.natCast_mul, e2, Int.toNat_of_nonneg hb]
    rw [this, Int.toNat_natCast]
  rw [e1, Nat.or_comm, nat_join k _ _ (by simp) (by omega)]
  have : ((b.toNat * 2 ^ k : Nat) : Int) = b * 2 ^ k := by rw [Int.natCast_mul, e2, Int.toNat_of_nonneg hb]
  omega

theorem digs_le (f : Nat) : ∀ n, (digs f n).length ≤ f + 1 := by
  induction f with
  | zero => intro n; simp [digs]
  | succ f ih =>
    intro n
    simp only [digs]
    split
    · simp
    · have := ih (n / 128)
      simp
      omega

theorem digs_step (f : Nat) (m : Int) (h : 128 ≤ m) (hf : m < 128 ^ (f + 1)) : ∃ f', f = f' + 1 ∧ digs f m = (m % 128 + 128) :: digs f' (m / 128) ∧ m / 128 < 128 ^ (f' + 1) := by
  cases f with
  | zero => simp at hf; omega
  | succ f' =>
    refine ⟨f', rfl, ?_, ?_⟩
    · simp only [digs]; rw [if_neg (by omega)]
    · rw [Int.pow_succ] at hf; omega

theorem digs_last (f : Nat) (m : Int) (h : m < 128) : digs f m = [m] := by
  cases f with
  | zero => rfl
  | succ f => simp only [digs]; rw [if_pos h]

theorem digs_byte (f : Nat) : ∀ n : Int, 0 ≤ n → n < 128 ^ (f + 1) → ∀ x ∈ digs f n, 0 ≤ x ∧ x ≤ 255 := by
  induction f with
  | zero => intro n h h1 x hx; simp [digs] at hx; simp at h1; omega
  | succ f ih =>
    intro n h h1 x hx
    simp only [digs] at hx
    split at hx
    · simp at hx; omega
    · simp only [List.mem_cons] at hx
      rcases hx with rfl | hx
      · omega
      · exact ih (n / 128) (by omega) (by rw [Int.pow_succ] at h1; omega) x hx

theorem big10 (n : Int) (h : n ≤ 18446744073709551615) : n < 128 ^ (9 + 1) := by
  have : (128 : Int) ^ (9 + 1) = 1180591620717411303424 := by decide
  omega

theorem varL_byte (n : Int) (h0 : 0 ≤ n) (h1 : n ≤ 18446744073709551615) : ∀ x ∈ varL n, 0 ≤ x ∧ x ≤ 255 := digs_byte 9 n h0 (big10 n h1)

theorem varL_le (n : Int) : (varL n).length ≤ 10 := digs_le 9 n
theorem varL_pos (n : Int) : 1 ≤ (varL n).length := digs_pos 9 n

theorem getL_nonneg (l : List Int) (h : ∀ x ∈ l, 0 ≤ x ∧ x ≤ 255) : 0 ≤ getL l := by
  induction l with
  | nil => simp [getL]
  | cons a l ih =>
    have := ih (fun x hx => h x (List.mem_cons_of_mem _ hx))
    have := h a (List.mem_cons_self)
    simp only [getL]
    omega

theorem getL_lt (l : List Int) (h : ∀ x ∈ l, 0 ≤ x ∧ x ≤ 255) : getL l < 256 ^ l.length := by
  induction l with
  | nil => simp [getL]
  | cons a l ih =>
    have := ih (fun x hx => h x (List.mem_cons_of_mem _ hx))
    have := h a (List.mem_cons_self)
    simp only [getL, List.length_cons]
    rw [Int.pow_succ]
    omega

theorem getL_snoc (l : List Int) (x : Int) : getL (l ++ [x]) = getL l + x * 256 ^ l.length := by
  induction l with
  | nil => simp [getL]
  | cons a l ih =>
    simp only [List.cons_append, getL, ih, List.length_cons]
    rw [Int.pow_succ]
    generalize (256 : Int) ^ l.length = p
    rw [Int.mul_add, ← Int.mul_assoc, Int.mul_comm 256 x, Int.mul_assoc, Int.mul_comm 256 p]
    omega

theorem pow_bits (k : Nat) : (256 : Int) ^ k = 2 ^ (8 * k) := by
  rw [Int.pow_mul]; rfl

theorem take_same (l : List Int) (k : Nat) (h8 : k ≤ 8) (hl : k ≤ l.length) (h : ¬ (k < 8 ∧ k < l.length)) : l.take 8 = l.take k := by
  by_cases e : k = 8
  · rw [e]
  · rw [List.take_of_length_le (by omega), List.take_of_length_le (by omega)]

theorem p256_mono (m n : Nat) (h : m ≤ n) : (256 : Int) ^ m ≤ 256 ^ n := by
  induction n with
  | zero => obtain rfl : m = 0 := by omega
            exact Int.le_refl _
  | succ n ih =>
    by_cases e : m = n + 1
    · rw [e]; exact Int.le_refl _
    · have := ih (by omega)
      have hp : (0 : Int) < 256 ^ n := Int.pow_pos (by decide)
      rw [Int.pow_succ]
      omega

theorem getL_take_bd (l : List Int) (k : Nat) (hb : ∀ x ∈ l, 0 ≤ x ∧ x ≤ 255) (h8 : k ≤ 8) : 0 ≤ getL (l.take k) ∧ getL (l.take k) < 18446744073709551616 := by
  have hb' : ∀ x ∈ l.take k, 0 ≤ x ∧ x ≤ 255 := fun x hx => hb x (List.mem_of_mem_take hx)
  refine ⟨getL_nonneg _ hb', ?_⟩
  have h1 := getL_lt _ hb'
  have h2 : (l.take k).length ≤ 8 := by have := List.length_take_le k l; omega
  have h3 := p256_mono _ _ h2
  have h4 : (256 : Int) ^ 8 = 18446744073709551616 := by decide
  omega

theorem get_step (l : List Int) (k : Nat) (hb : ∀ x ∈ l, 0 ≤ x ∧ x ≤ 255) (h8 : k < 8) (hl : k < l.length) :
    bits BinOp.or IntKind.u64 (getL (l.take k)) (IntKind.u64.wrap (IntKind.u64.wrap l[k] * 2 ^ (8 * k))) = getL (l.take (k + 1)) := by
  have hx := hb l[k] (List.getElem_mem hl)
  have bd := getL_take_bd l (k + 1) hb (by omega)
  have hb' : ∀ x ∈ l.take k, 0 ≤ x ∧ x ≤ 255 := fun x hx => hb x (List.mem_of_mem_take hx)
  have h0 := getL_nonneg _ hb'
  have h1 := getL_lt _ hb'
  have hlen : (l.take k).length = k := by simp; omega
  have e : getL (l.take (k + 1)) = getL (l.take k) + l[k] * 2 ^ (8 * k) := by
    rw [List.take_succ_eq_append_getElem hl, getL_snoc, hlen, pow_bits]
  rw [hlen, pow_bits] at h1
  have hp : (0 : Int) ≤ 2 ^ (8 * k) := Int.le_of_lt (Int.pow_pos (by decide))
  have hm : 0 ≤ l[k] * 2 ^ (8 * k) := Int.mul_nonneg hx.1 hp
  rw [IntKind.wrap_u64 l[k], show l[k] % 18446744073709551616 = l[k] from by omega, IntKind.wrap_u64]
  rw [e] at bd ⊢
  rw [show (l[k] * 2 ^ (8 * k)) % 18446744073709551616 = l[k] * 2 ^ (8 * k) from by omega]
  exact or_join (8 * k) _ _ h0 h1 hx.1 bd.2

theorem drop_at (l : List Int) (k : Nat) (hl : k < l.length) : l.drop k = l[k] :: l.drop (k + 1) := List.drop_eq_getElem_cons hl

theorem rd_bad (l : List Int) (k : Nat) (acc : Int) (hl : k < l.length) (h : (k = 9 ∧ 1 < l[k]) ∨ (0 < k ∧ l[k] = 0)) : rdF k acc (l.drop k) = (0, 0, 4) := by
  rw [drop_at l k hl, rdF]
  rcases h with h | h
  · rw [if_pos h]
  · by_cases g : k = 9 ∧ 1 < l[k]
    · rw [if_pos g]
    · rw [if_neg g, if_pos h]

theorem rd_stop (l : List Int) (k : Nat) (acc : Int) (hl : k < l.length) (h : ¬ (k = 9 ∧ 1 < l[k])) (h' : ¬ (0 < k ∧ l[k] = 0)) (hs : l[k] < 128) : rdF k acc (l.drop k) = (acc + l[k] % 128 * 2 ^ (7 * k), k + 1, 0) := by
  rw [drop_at l k hl, rdF, if_neg h, if_neg h', if_pos hs]

theorem rd_go (l : List Int) (k : Nat) (acc : Int) (hl : k < l.length) (h : ¬ (k = 9 ∧ 1 < l[k])) (h' : ¬ (0 < k ∧ l[k] = 0)) (hs : 128 ≤ l[k]) : rdF k acc (l.drop k) = rdF (k + 1) (acc + l[k] % 128 * 2 ^ (7 * k)) (l.drop (k + 1)) := by
  rw [drop_at l k hl, rdF, if_neg h, if_neg h', if_neg (by omega)]

theorem rd_end (l : List Int) (k : Nat) (acc : Int) (hl : l.length ≤ k) : rdF k acc (l.drop k) = (0, 0, 3) := by
  rw [List.drop_eq_nil_of_le hl]; rfl

theorem pow7_step (k : Nat) : (2 : Int) ^ (7 * (k + 1)) = 128 * 2 ^ (7 * k) := by
  rw [show 7 * (k + 1) = 7 * k + 7 from by omega, Int.pow_add, Int.mul_comm]
  rfl

theorem pow7_mono (m n : Nat) (h : m ≤ n) : (2 : Int) ^ (7 * m) ≤ 2 ^ (7 * n) := by
  induction n with
  | zero => obtain rfl : m = 0 := by omega
            exact Int.le_refl _
  | succ n ih =>
    by_cases e : m = n + 1
    · rw [e]; exact Int.le_refl _
    · have := ih (by omega)
      have hp : (0 : Int) < 2 ^ (7 * n) := Int.pow_pos (by decide)
      rw [pow7_step]
      omega

/-- A digit laid over those that came before is added to them; it stays below the next power, and below 2^64. -/
theorem dig_or (k : Nat) (acc c : Int) (h0 : 0 ≤ acc) (h1 : acc < 2 ^ (7 * k)) (hc : 0 ≤ c) (h9 : k ≤ 8 ∧ c ≤ 127 ∨ k = 9 ∧ c ≤ 1) :
    bits BinOp.or IntKind.u64 acc (IntKind.u64.wrap (c * 2 ^ (7 * k))) = acc + c * 2 ^ (7 * k) ∧ 0 ≤ acc + c * 2 ^ (7 * k) ∧ acc + c * 2 ^ (7 * k) < 18446744073709551616 := by
  have hp : (0 : Int) < 2 ^ (7 * k) := Int.pow_pos (by decide)
  have hbp : 0 ≤ c * 2 ^ (7 * k) := Int.mul_nonneg hc (by omega)
  have hs : acc + c * 2 ^ (7 * k) < 18446744073709551616 := by
    rcases h9 with ⟨hk, h⟩ | ⟨rfl, h⟩
    · have hm := pow7_mono (k + 1) 9 (by omega)
      rw [pow7_step] at hm
      have h9' : (2 : Int) ^ (7 * 9) = 9223372036854775808 := by decide
      have := Int.mul_le_mul_of_nonneg_right h (show (0 : Int) ≤ 2 ^ (7 * k) by omega)
      omega
    · have h9' : (2 : Int) ^ (7 * 9) = 9223372036854775808 := by decide
      rw [h9'] at *
      omega
  rw [IntKind.wrap_u64, show c * 2 ^ (7 * k) % 18446744073709551616 = c * 2 ^ (7 * k) from by omega]
  exact ⟨or_join (7 * k) acc c h0 h1 hc hs, by omega, hs⟩

theorem dig_or9 (k : Nat) (acc c : Int) (hk : k = 9) (h0 : 0 ≤ acc) (h1 : acc < 2 ^ (7 * k)) (hc : 0 ≤ c) (hc1 : c ≤ 1) :
    bits BinOp.or IntKind.u64 acc (c * 9223372036854775808) = acc + c * 2 ^ (7 * k) := by
  have D := (dig_or k acc c h0 h1 hc (.inr ⟨hk, hc1⟩)).1
  subst hk
  have h9' : (2 : Int) ^ (7 * 9) = 9223372036854775808 := by decide
  rw [h9', IntKind.wrap_u64, show c * 9223372036854775808 % 18446744073709551616 = c * 9223372036854775808 from by omega] at D
  rw [h9']
  exact D

theorem dig_bd (k : Nat) (acc c : Int) (h1 : acc < 2 ^ (7 * k)) (hc : c ≤ 127) : acc + c * 2 ^ (7 * k) < 2 ^ (7 * (k + 1)) := by
  have hp : (0 : Int) < 2 ^ (7 * k) := Int.pow_pos (by decide)
  have := Int.mul_le_mul_of_nonneg_right hc (show (0 : Int) ≤ 2 ^ (7 * k) by omega)
  rw [pow7_step]
  omega

theorem putL_length (k : Nat) : ∀ n, (putL k n).length = k := by
  induction k with
  | zero => intro n; rfl
  | succ k ih => intro n; simp [putL, ih]

theorem putL_byte (k : Nat) : ∀ n, ∀ x ∈ putL k n, 0 ≤ x ∧ x ≤ 255 := by
  induction k with
  | zero => intro n x hx; simp [putL] at hx
  | succ k ih =>
    intro n x hx
    simp only [putL, List.mem_cons] at hx
    rcases hx with rfl | hx
    · omega
    · exact ih _ x hx

theorem getL_putL (k : Nat) : ∀ n : Int, 0 ≤ n → getL (putL k n) = n % 256 ^ k := by
  induction k with
  | zero => intro n h; simp [putL, getL]
  | succ k ih =>
    intro n h
    simp only [putL, getL]
    rw [ih (n / 256) (by omega), Int.pow_succ, Int.mul_comm _ (256 : Int)]
    have hp : (0 : Int) < 256 ^ k := Int.pow_pos (by decide)
    rw [Int.emod_def (n / 256), Int.emod_def n (256 * 256 ^ k), ← Int.ediv_ediv_of_nonneg (by omega)]
    generalize n / 256 / 256 ^ k = q
    rw [Int.mul_sub, Int.mul_assoc 256]
    omega

theorem getL_putL8 (n : Int) (h : 0 ≤ n) (h1 : n ≤ 18446744073709551615) : getL (putL 8 n) = n := by
  rw [getL_putL 8 n h, show (256 : Int) ^ 8 = 18446744073709551616 from by decide]
  omega
end Go.Proofs.Ytofmicbhheebiaa
