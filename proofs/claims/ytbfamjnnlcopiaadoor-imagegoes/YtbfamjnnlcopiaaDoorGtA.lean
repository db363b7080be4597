/- Layer 17: NumP again -/
import Derived.Test.YtbfamjnnlcopiaaDoorAuB
import Derived.Test.YtbfamjnnlcopiaaDoorMhA
import Derived.Lib.BitFns
import Derived.WalkKit
namespace Go.Proofs.YtbfamjnnlcopiaaDoor
open Go.RowKit
set_option linter.unusedVariables false
set_option maxRecDepth 4000
/-- The digits of n to the base 128, at most f + 1 of them. -/
def digs : Nat → Int → List Int
  | 0, n => [n]
  | f + 1, n => if n < 128 then [n] else (n % 128 + 128) :: digs f (n / 128)

def varL (n : Int) : List Int := digs 9 n

/-- What the digits at the head of a list come to, the first i of them having come to acc: the number, how many they are, the fault. -/
def rdF : Nat → Int → List Int → Int × Nat × Int
  | _, _, [] => (0, 0, 3)
  | i, acc, c :: l =>
    if i = 9 ∧ 1 < c then (0, 0, 4)
    else if 0 < i ∧ c = 0 then (0, 0, 4)
    else if c < 128 then (acc + c % 128 * 2 ^ (7 * i), i + 1, 0)
    else rdF (i + 1) (acc + c % 128 * 2 ^ (7 * i)) l

def rdL (l : List Int) : Int × Nat × Int := rdF 0 0 l

theorem tab_at (j : Nat) (h : j < Lib.len8tab.size) : (Lib.len8tab[j].toNat : Int) = Lib.bitLen j ∧ Lib.bitLen j ≤ 8 := by
  have hj : j < 256 := by rw [Lib.len8tab_size] at h; exact h
  have e := Lib.len8_eq ⟨j, hj⟩
  have l := Lib.bitLen_le8 ⟨j, hj⟩
  refine ⟨?_, l⟩
  simp only [Lib.len8, Int.toNat_natCast, ByteArray.getElem?_lt' _ _ h, Option.getD_some] at e
  exact e

theorem tab_close (k : Int) (j x : Int) (h : j.toNat < Lib.len8tab.size) (h0 : 0 ≤ k) (hk : k ≤ 56) (e : (Lib.bitLen x.toNat : Int) = k + Lib.bitLen j.toNat) :
    wrap64 (k + wrap64 ↑(Lib.len8tab[j.toNat].toNat)) = (Lib.bitLen x.toNat : Int) := by
  obtain ⟨a, b⟩ := tab_at j.toNat h
  rw [a, e]
  unfold wrap64
  omega

theorem tab_close0 (x : Int) (h : x.toNat < Lib.len8tab.size) :
    wrap64 (wrap64 ↑(Lib.len8tab[x.toNat].toNat)) = (Lib.bitLen x.toNat : Int) := by
  obtain ⟨a, b⟩ := tab_at x.toNat h
  rw [a]
  unfold wrap64
  omega

theorem bitLen_pos (n : Nat) (h0 : n ≠ 0) (h : n < 2 ^ 64) : 1 ≤ Lib.bitLen n := by
  rw [Lib.bitLen_half n h0 h]; omega

theorem digs_pos (f : Nat) (n : Int) : 1 ≤ (digs f n).length := by
  cases f with
  | zero => simp [digs]
  | succ f => simp only [digs]; split <;> simp

theorem size_digs : ∀ (f : Nat) (n : Nat), n ≠ 0 → n < 2 ^ 64 → n < 128 ^ (f + 1) → (Lib.bitLen n + 6) / 7 = (digs f n).length
  | 0, n, h0, h, hf => by
    have a := Lib.bitLen_le n 7 (by omega) (by simpa using hf)
    have b := bitLen_pos n h0 h
    simp [digs]
    omega
  | f + 1, n, h0, h, hf => by
    simp only [digs]
    split
    · rename_i c
      have a := Lib.bitLen_le n 7 (by omega) (by omega)
      have b := bitLen_pos n h0 h
      simp
      omega
    · rename_i c
      have s := Lib.bitLen_shift 7 n (by omega) h
      have i := size_digs f (n / 128) (by omega) (by omega) (by rw [Nat.pow_succ] at hf; omega)
      have e : ((n / 128 : Nat) : Int) = (n : Int) / 128 := by omega
      rw [e] at i
      simp only [List.length_cons, ← i]
      rw [s]
      simp only [show (2 : Nat) ^ 7 = 128 from rfl]
      omega

/-- How many digits there are, by the length in bits. -/
theorem size_varL (n : Int) (h0 : 0 ≤ n) (h1 : n ≤ 18446744073709551615) (hn : n ≠ 0) : (Lib.bitLen n.toNat + 6) / 7 = (varL n).length := by
  have := size_digs 9 n.toNat (by omega) (by omega) (by omega)
  rw [this]
  have e : ((n.toNat : Nat) : Int) = n := by omega
  rw [e, varL]

theorem or_one_bitLen (n : Int) (h0 : 0 ≤ n) (h1 : n ≤ 18446744073709551615) :
    0 ≤ bits .or .u64 n 1 ∧ bits .or .u64 n 1 ≤ 18446744073709551615 ∧ (Lib.bitLen (bits .or .u64 n 1).toNat + 6) / 7 = (varL n).length := by
  have e := u64_or n 1 h0 (by omega) (by omega) (by omega)
  rw [e]
  have hlt : (n.toNat ||| 1) < 2 ^ 64 := Nat.or_lt_two_pow (by omega) (by omega)
  have hne : (n.toNat ||| (1 : Int).toNat) ≠ 0 := by
    intro h
    have := (Nat.or_eq_zero_iff.1 h).2
    simp at this
  refine ⟨by omega, by simp only [Int.toNat_one]; omega, ?_⟩
  have hh : (n.toNat ||| (1 : Int).toNat) / 2 = n.toNat / 2 := by rw [Nat.or_div_two]; simp
  rw [Int.toNat_natCast, Lib.bitLen_half _ hne (by simpa using hlt), hh]
  by_cases hz : n = 0
  · subst hz
    decide
  · rw [← size_varL n h0 h1 hz, Lib.bitLen_half n.toNat (by omega) (by omega)]

theorem digs_le (f : Nat) : ∀ n, (digs f n).length ≤ f + 1 := by
  induction f with
  | zero => intro n; simp [digs]
  | succ f ih =>
    intro n
    simp only [digs]
    split
    · simp
    · have := ih (n / 128)
      simp
      omega

theorem digs_step (f : Nat) (m : Int) (h : 128 ≤ m) (hf : m < 128 ^ (f + 1)) : ∃ f', f = f' + 1 ∧ digs f m = (m % 128 + 128) :: digs f' (m / 128) ∧ m / 128 < 128 ^ (f' + 1) := by
  cases f with
  | zero => simp at hf; omega
  | succ f' =>
    refine ⟨f', rfl, ?_, ?_⟩
    · simp only [digs]; rw [if_neg (by omega)]
    · rw [Int.pow_succ] at hf; omega

theorem digs_last (f : Nat) (m : Int) (h : m < 128) : digs f m = [m] := by
  cases f with
  | zero => rfl
  | succ f => simp only [digs]; rw [if_pos h]

theorem digs_byte (f : Nat) : ∀ n : Int, 0 ≤ n → n < 128 ^ (f + 1) → ∀ x ∈ digs f n, 0 ≤ x ∧ x ≤ 255 := by
  induction f with
  | zero => intro n h h1 x hx; simp [digs] at hx; simp at h1; omega
  | succ f ih =>
    intro n h h1 x hx
    simp only [digs] at hx
    split at hx
    · simp at hx; omega
    · simp only [List.mem_cons] at hx
      rcases hx with rfl | hx
      · omega
      · exact ih (n / 128) (by omega) (by rw [Int.pow_succ] at h1; omega) x hx

theorem big10 (n : Int) (h : n ≤ 18446744073709551615) : n < 128 ^ (9 + 1) := by
  have : (128 : Int) ^ (9 + 1) = 1180591620717411303424 := by decide
  omega

theorem varL_byte (n : Int) (h0 : 0 ≤ n) (h1 : n ≤ 18446744073709551615) : ∀ x ∈ varL n, 0 ≤ x ∧ x ≤ 255 := digs_byte 9 n h0 (big10 n h1)

theorem varL_le (n : Int) : (varL n).length ≤ 10 := digs_le 9 n
theorem varL_pos (n : Int) : 1 ≤ (varL n).length := digs_pos 9 n

theorem drop_at (l : List Int) (k : Nat) (hl : k < l.length) : l.drop k = l[k] :: l.drop (k + 1) := List.drop_eq_getElem_cons hl

theorem rd_bad (l : List Int) (k : Nat) (acc : Int) (hl : k < l.length) (h : (k = 9 ∧ 1 < l[k]) ∨ (0 < k ∧ l[k] = 0)) : rdF k acc (l.drop k) = (0, 0, 4) := by
  rw [drop_at l k hl, rdF]
  rcases h with h | h
  · rw [if_pos h]
  · by_cases g : k = 9 ∧ 1 < l[k]
    · rw [if_pos g]
    · rw [if_neg g, if_pos h]

theorem rd_stop (l : List Int) (k : Nat) (acc : Int) (hl : k < l.length) (h : ¬ (k = 9 ∧ 1 < l[k])) (h' : ¬ (0 < k ∧ l[k] = 0)) (hs : l[k] < 128) : rdF k acc (l.drop k) = (acc + l[k] % 128 * 2 ^ (7 * k), k + 1, 0) := by
  rw [drop_at l k hl, rdF, if_neg h, if_neg h', if_pos hs]

theorem rd_go (l : List Int) (k : Nat) (acc : Int) (hl : k < l.length) (h : ¬ (k = 9 ∧ 1 < l[k])) (h' : ¬ (0 < k ∧ l[k] = 0)) (hs : 128 ≤ l[k]) : rdF k acc (l.drop k) = rdF (k + 1) (acc + l[k] % 128 * 2 ^ (7 * k)) (l.drop (k + 1)) := by
  rw [drop_at l k hl, rdF, if_neg h, if_neg h', if_neg (by omega)]

theorem rd_end (l : List Int) (k : Nat) (acc : Int) (hl : l.length ≤ k) : rdF k acc (l.drop k) = (0, 0, 3) := by
  rw [List.drop_eq_nil_of_le hl]; rfl

theorem pow7_step (k : Nat) : (2 : Int) ^ (7 * (k + 1)) = 128 * 2 ^ (7 * k) := by
  rw [show 7 * (k + 1) = 7 * k + 7 from by omega, Int.pow_add, Int.mul_comm]
  rfl

theorem pow7_mono (m n : Nat) (h : m ≤ n) : (2 : Int) ^ (7 * m) ≤ 2 ^ (7 * n) := by
  induction n with
  | zero => obtain rfl : m = 0 := by omega
            exact Int.le_refl _
  | succ n ih =>
    by_cases e : m = n + 1
    · rw [e]; exact Int.le_refl _
    · have := ih (by omega)
      have hp : (0 : Int) < 2 ^ (7 * n) := Int.pow_pos (by decide)
      rw [pow7_step]
      omega

/-- A digit laid over those that came before is added to them; it stays below the next power, and below 2^64. -/
theorem dig_or (k : Nat) (acc c : Int) (h0 : 0 ≤ acc) (h1 : acc < 2 ^ (7 * k)) (hc : 0 ≤ c) (h9 : k ≤ 8 ∧ c ≤ 127 ∨ k = 9 ∧ c ≤ 1) :
    bits BinOp.or IntKind.u64 acc (IntKind.u64.wrap (c * 2 ^ (7 * k))) = acc + c * 2 ^ (7 * k) ∧ 0 ≤ acc + c * 2 ^ (7 * k) ∧ acc + c * 2 ^ (7 * k) < 18446744073709551616 := by
  have hp : (0 : Int) < 2 ^ (7 * k) := Int.pow_pos (by decide)
  have hbp : 0 ≤ c * 2 ^ (7 * k) := Int.mul_nonneg hc (by omega)
  have hs : acc + c * 2 ^ (7 * k) < 18446744073709551616 := by
    rcases h9 with ⟨hk, h⟩ | ⟨rfl, h⟩
    · have hm := pow7_mono (k + 1) 9 (by omega)
      rw [pow7_step] at hm
      have h9' : (2 : Int) ^ (7 * 9) = 9223372036854775808 := by decide
      have := Int.mul_le_mul_of_nonneg_right h (show (0 : Int) ≤ 2 ^ (7 * k) by omega)
      omega
    · have h9' : (2 : Int) ^ (7 * 9) = 9223372036854775808 := by decide
      rw [h9'] at *
      omega
  rw [IntKind.wrap_u64, show c * 2 ^ (7 * k) % 18446744073709551616 = c * 2 ^ (7 * k) from by omega]
  exact ⟨or_join (7 * k) acc c h0 h1 hc hs, by omega, hs⟩

theorem dig_or9 (k : Nat) (acc c : Int) (hk : k = 9) (h0 : 0 ≤ acc) (h1 : acc < 2 ^ (7 * k)) (hc : 0 ≤ c) (hc1 : c ≤ 1) :
    bits BinOp.or IntKind.u64 acc (c * 9223372036854775808) = acc + c * 2 ^ (7 * k) := by
  have D := (dig_or k acc c h0 h1 hc (.inr ⟨hk, hc1⟩)).1
  subst hk
  have h9' : (2 : Int) ^ (7 * 9) = 9223372036854775808 := by decide
  rw [h9', IntKind.wrap_u64, show c * 9223372036854775808 % 18446744073709551616 = c * 9223372036854775808 from by omega] at D
  rw [h9']
  exact D

theorem dig_bd (k : Nat) (acc c : Int) (h1 : acc < 2 ^ (7 * k)) (hc : c ≤ 127) : acc + c * 2 ^ (7 * k) < 2 ^ (7 * (k + 1)) := by
  have hp : (0 : Int) < 2 ^ (7 * k) := Int.pow_pos (by decide)
  have := Int.mul_le_mul_of_nonneg_right hc (show (0 : Int) ≤ 2 ^ (7 * k) by omega)
  rw [pow7_step]
  omega

theorem putL_length (k : Nat) : ∀ n, (putL k n).length = k := by
  induction k with
  | zero => intro n; rfl
  | succ k ih => intro n; simp [putL, ih]

theorem rgetL_putL (k : Nat) : ∀ n : Int, 0 ≤ n → getL (putL k n) = n % 256 ^ k := by
  induction k with
  | zero => intro n h; simp [putL, getL]
  | succ k ih =>
    intro n h
    simp only [putL, getL]
    rw [ih (n / 256) (by omega), Int.pow_succ, Int.mul_comm _ (256 : Int)]
    have hp : (0 : Int) < 256 ^ k := Int.pow_pos (by decide)
    rw [Int.emod_def (n / 256), Int.emod_def n (256 * 256 ^ k), ← Int.ediv_ediv_of_nonneg (by omega)]
    generalize n / 256 / 256 ^ k = q
    rw [Int.mul_sub, Int.mul_assoc 256]
    omega

theorem rgetL_putL8 (n : Int) (h : 0 ≤ n) (h1 : n ≤ 18446744073709551615) : getL (putL 8 n) = n := by
  rw [rgetL_putL 8 n h, show (256 : Int) ^ 8 = 18446744073709551616 from by decide]
  omega
end Go.Proofs.YtbfamjnnlcopiaaDoor

/- Layer 17: NumP2 again -/
namespace Go.Proofs.YtbfamjnnlcopiaaDoor
open Go.RowKit
set_option linter.unusedVariables false
set_option maxRecDepth 4000
theorem rdF_facts : ∀ (l : List Int) (i : Nat) (acc : Int), (∀ x ∈ l, 0 ≤ x ∧ x ≤ 255) → i ≤ 9 → 0 ≤ acc → acc < 2 ^ (7 * i) →
    ((rdF i acc l).2.2 = 0 ∧ 0 ≤ (rdF i acc l).1 ∧ (rdF i acc l).1 ≤ 18446744073709551615 ∧ i + 1 ≤ (rdF i acc l).2.1 ∧ (rdF i acc l).2.1 ≤ i + l.length) ∨
    (((rdF i acc l).2.2 = 3 ∨ (rdF i acc l).2.2 = 4) ∧ (rdF i acc l).1 = 0 ∧ (rdF i acc l).2.1 = 0)
  | [], i, acc, _, _, _, _ => .inr ⟨.inl rfl, rfl, rfl⟩
  | c :: l, i, acc, hb, hi, h0, h1 => by
    have hc := hb c List.mem_cons_self
    rw [rdF]
    by_cases g1 : i = 9 ∧ 1 < c
    · rw [if_pos g1]; exact .inr ⟨.inr rfl, rfl, rfl⟩
    rw [if_neg g1]
    by_cases g2 : 0 < i ∧ c = 0
    · rw [if_pos g2]; exact .inr ⟨.inr rfl, rfl, rfl⟩
    rw [if_neg g2]
    by_cases g3 : c < 128
    · rw [if_pos g3]
      have D := dig_or i acc (c % 128) h0 h1 (by omega) (by omega)
      refine .inl ⟨rfl, D.2.1, ?_, Nat.le_refl _, ?_⟩
      · have := D.2.2; dsimp only; omega
      · simp
    · rw [if_neg g3]
      have D := dig_or i acc (c % 128) h0 h1 (by omega) (by omega)
      have := rdF_facts l (i + 1) (acc + c % 128 * 2 ^ (7 * i)) (fun x hx => hb x (List.mem_cons_of_mem _ hx)) (by omega) D.2.1 (dig_bd i acc _ h1 (by omega))
      rcases this with ⟨a, b, c, d, e⟩ | h
      · exact .inl ⟨a, b, c, by omega, by simp only [List.length_cons]; omega⟩
      · exact .inr h

theorem rdL_facts (l : List Int) (hb : ∀ x ∈ l, 0 ≤ x ∧ x ≤ 255) :
    ((rdL l).2.2 = 0 ∧ 0 ≤ (rdL l).1 ∧ (rdL l).1 ≤ 18446744073709551615 ∧ 1 ≤ (rdL l).2.1 ∧ (rdL l).2.1 ≤ l.length) ∨
    (((rdL l).2.2 = 3 ∨ (rdL l).2.2 = 4) ∧ (rdL l).1 = 0 ∧ (rdL l).2.1 = 0) := by
  have := rdF_facts l 0 0 hb (by omega) (by omega) (by decide)
  simpa [rdL] using this

/-- What Upto answers, what is left behind it, and the fault. -/
def upS (l : List Int) (e most : Int) : Int × List Int × Int :=
  if e = 0 then
    if (rdL l).2.2 = 0 then
      if (rdL l).1 ≤ most then ((rdL l).1, l.drop (rdL l).2.1, 0) else (0, l, 4)
    else (0, l, (rdL l).2.2)
  else (0, l, e)
end Go.Proofs.YtbfamjnnlcopiaaDoor

/- Layer 17: NumP3 again -/
namespace Go.Proofs.YtbfamjnnlcopiaaDoor
open Go.RowKit
set_option linter.unusedVariables false
set_option maxRecDepth 4000
theorem rdF_var : ∀ (l : List Int) (i : Nat) (acc n : Int) (sz : Nat), (∀ x ∈ l, 0 ≤ x ∧ x ≤ 255) → i ≤ 9 → rdF i acc l = (n, sz, 0) →
    ∃ m, 0 ≤ m ∧ (0 < i → 1 ≤ m) ∧ n = acc + m * 2 ^ (7 * i) ∧ l.take (sz - i) = digs (9 - i) m ∧ i + 1 ≤ sz
  | [], i, acc, n, sz, _, _, h => by simp [rdF] at h
  | c :: l, i, acc, n, sz, hb, hi, h => by
    have hc := hb c List.mem_cons_self
    rw [rdF] at h
    by_cases g1 : i = 9 ∧ 1 < c
    · rw [if_pos g1] at h; simp at h
    rw [if_neg g1] at h
    by_cases g2 : 0 < i ∧ c = 0
    · rw [if_pos g2] at h; simp at h
    rw [if_neg g2] at h
    by_cases g3 : c < 128
    · rw [if_pos g3] at h
      simp only [Prod.mk.injEq] at h
      obtain ⟨h1, h2, _⟩ := h
      refine ⟨c, hc.1, by omega, ?_, ?_, by omega⟩
      · rw [← h1, show c % 128 = c from by omega]
      · rw [digs_last _ _ g3, show sz - i = 1 from by omega]
        rfl
    · rw [if_neg g3] at h
      obtain ⟨m, m0, m1, hn, ht, hs⟩ := rdF_var l (i + 1) _ n sz (fun x hx => hb x (List.mem_cons_of_mem _ hx)) (by omega) h
      have m1' := m1 (by omega)
      refine ⟨c % 128 + 128 * m, by omega, by omega, ?_, ?_, by omega⟩
      · rw [hn, pow7_step, Int.add_mul, Int.add_assoc, Int.mul_left_comm, Int.mul_assoc]
      · rw [show 9 - i = (9 - (i + 1)) + 1 from by omega, digs, if_neg (by omega), show sz - i = (sz - (i + 1)) + 1 from by omega, List.take_succ_cons, ht,
          show (c % 128 + 128 * m) % 128 + 128 = c from by omega, show (c % 128 + 128 * m) / 128 = m from by omega]

theorem rdL_var (l : List Int) (n : Int) (sz : Nat) (hb : ∀ x ∈ l, 0 ≤ x ∧ x ≤ 255) (h : rdL l = (n, sz, 0)) : l.take sz = varL n := by
  obtain ⟨m, _, _, hn, ht, _⟩ := rdF_var l 0 0 n sz hb (by omega) h
  have : n = m := by simpa using hn
  rw [this]
  simpa [varL] using ht

theorem rdF_digs : ∀ (f i : Nat) (acc m : Int) (rest : List Int), f + i = 9 → 0 ≤ acc → 0 ≤ m → (0 < i → 1 ≤ m) → acc + m * 2 ^ (7 * i) < 18446744073709551616 →
    rdF i acc (digs f m ++ rest) = (acc + m * 2 ^ (7 * i), i + (digs f m).length, 0)
  | 0, i, acc, m, rest, hf, h0, hm, h1, hlt => by
    obtain rfl : i = 9 := by omega
    have h9' : (2 : Int) ^ (7 * 9) = 9223372036854775808 := by decide
    have hm1 : m ≤ 1 := by rw [h9'] at hlt; omega
    have := h1 (by omega)
    rw [digs, List.cons_append, rdF, if_neg (by omega), if_neg (by omega), if_pos (by omega), show m % 128 = m from by omega]
    rfl
  | f + 1, i, acc, m, rest, hf, h0, hm, h1, hlt => by
    rw [digs]
    by_cases g : m < 128
    · rw [if_pos g, List.cons_append, rdF, if_neg (by omega), if_neg (by omega), if_pos g, show m % 128 = m from by omega]
      rfl
    · rw [if_neg g, List.cons_append, rdF, if_neg (by omega), if_neg (by omega), if_neg (by omega)]
      have e : acc + (m % 128 + 128) % 128 * 2 ^ (7 * i) + m / 128 * 2 ^ (7 * (i + 1)) = acc + m * 2 ^ (7 * i) := by
        rw [pow7_step, ← Int.mul_assoc, Int.add_assoc, ← Int.add_mul, show (m % 128 + 128) % 128 + m / 128 * 128 = m from by omega]
      have hp : (0 : Int) ≤ 2 ^ (7 * i) := Int.le_of_lt (Int.pow_pos (by decide))
      rw [rdF_digs f (i + 1) _ (m / 128) rest (by omega) (by have := Int.mul_nonneg (show (0 : Int) ≤ (m % 128 + 128) % 128 by omega) hp; omega) (by omega) (by omega) (by rw [e]; exact hlt), e]
      simp only [List.length_cons, Prod.mk.injEq, true_and, and_true]
      omega

theorem rdL_digs (n : Int) (rest : List Int) (h0 : 0 ≤ n) (h1 : n ≤ 18446744073709551615) : rdL (varL n ++ rest) = (n, (varL n).length, 0) := by
  have := rdF_digs 9 0 0 n rest (by omega) (by omega) h0 (by omega) (by simp; omega)
  simpa [rdL, varL] using this
end Go.Proofs.YtbfamjnnlcopiaaDoor

/- Layer 17: KdP again -/
namespace Go.Proofs.YtbfamjnnlcopiaaDoor
open Go.RowKit
set_option linter.unusedVariables false
set_option maxRecDepth 4000
theorem AllB.right {a b : List Int} (h : AllB (a ++ b)) : AllB b := fun x hx => h x (List.mem_append_right _ hx)
theorem AllB.left {a b : List Int} (h : AllB (a ++ b)) : AllB a := fun x hx => h x (List.mem_append_left _ hx)
def rightK (s : Int) (ps : List Int) : Prop := 1 ≤ s ∧ s ≤ 4096 ∧ ps.length ≤ 16 ∧ placedB s 0 ps = true
instance (s : Int) (ps : List Int) : Decidable (rightK s ps) := by unfold rightK; infer_instance
theorem check_zero {s : Int} {ps : List Int} : checkK s ps = 0 ↔ rightK s ps := by
  unfold checkK rightK
  split
  · constructor <;> intro h <;> omega
  · split
    · constructor <;> intro h <;> omega
    · split
      · rename_i h; exact ⟨fun _ => ⟨by omega, by omega, by omega, h⟩, fun _ => rfl⟩
      · rename_i h; exact ⟨fun h => by omega, fun h' => absurd h'.2.2.2 h⟩
theorem check_range (s : Int) (ps : List Int) : 0 ≤ checkK s ps ∧ checkK s ps ≤ 11 := by
  unfold checkK; split
  · omega
  · split
    · omega
    · split <;> omega
/-- These bytes lie in the object, and in no pointer field. -/
def plainK (s : Int) (ps : List Int) (x n : Int) : Bool := decide (rightK s ps ∧ 0 ≤ x ∧ 0 ≤ n ∧ n ≤ s - x ∧ ∀ p ∈ ps, ¬ (p < x + n ∧ x < p + 8 ∧ 0 < n))
theorem rplaced_all (s : Int) : ∀ (l : List Int) (f : Int), 0 ≤ f → placedB s f l = true → ∀ p ∈ l, f ≤ p ∧ p ≤ s - 8 ∧ p % 8 = 0
  | [], f, _, _, p, hp => by cases hp
  | q :: l, f, hf, h, p, hp => by
    simp only [placedB, Bool.and_eq_true, decide_eq_true_eq] at h
    rcases List.mem_cons.1 hp with rfl | hp
    · exact h.1
    · have := rplaced_all s l (q + 8) (by omega) h.2 p hp
      omega

/-- The gaps ahead of the pointer fields, as numbers. -/
def gapsL : Int → List Int → List Int
  | _, [] => []
  | f, p :: l => varL ((p - f) / 8) ++ gapsL (p + 8) l
theorem gaps_step (f : Int) (l : List Int) (k : Nat) (h : k < l.length) : gapsL f (l.drop k) = varL ((l.getD k 0 - f) / 8) ++ gapsL (l.getD k 0 + 8) (l.drop (k + 1)) := by
  rw [drop_getD l k h, gapsL]
theorem gaps_end (f : Int) (l : List Int) (k : Nat) (h : l.length ≤ k) : gapsL f (l.drop k) = [] := by
  rw [List.drop_eq_nil_of_le h, gapsL]
def bodyK (s : Int) (ps : List Int) : List Int := varL s ++ varL (ps.length : Nat) ++ gapsL 0 ps
/-- A kind's bytes. -/
def bytesK (s : Int) (ps : List Int) : List Int := if checkK s ps = 0 then bodyK s ps else []
theorem gaps_byte (s : Int) : ∀ (l : List Int) (f : Int), 0 ≤ f → s ≤ 4096 → placedB s f l = true → AllB (gapsL f l)
  | [], _, _, _, _ => AllB.nil
  | p :: l, f, hf, hs, h => by
    simp only [placedB, Bool.and_eq_true, decide_eq_true_eq] at h
    exact AllB.append (varL_byte _ (by omega) (by omega)) (gaps_byte s l (p + 8) (by omega) hs h.2)
theorem bytes_byte (s : Int) (ps : List Int) : AllB (bytesK s ps) := by
  unfold bytesK
  split
  · rename_i h
    have h := check_zero.1 h
    have h1 := h.1
    have h2 := h.2.1
    have h3 := h.2.2.1
    exact ((show AllB _ from varL_byte s (by omega) (by omega)).append (varL_byte _ (by omega) (by omega))).append (gaps_byte s ps 0 (by omega) h2 h.2.2.2)
  · exact AllB.nil

/-- The fields that are read: so many of them, the first place for one being f, of these bytes, behind those of ps: all of them, what is left, the fault. -/
def fieldsK (s : Int) : Nat → Int → List Int → List Int → List Int × List Int × Int
  | 0, _, l, ps => (ps, l, 0)
  | n + 1, f, l, ps =>
    if (upS l 0 18446744073709551615).2.2 = 0 then
      if (upS l 0 18446744073709551615).1 < (s - f) / 8 then fieldsK s n (f + 8 * (upS l 0 18446744073709551615).1 + 8) (upS l 0 18446744073709551615).2.1 (ps ++ [f + 8 * (upS l 0 18446744073709551615).1])
      else ([], [], 4)
    else ([], [], (upS l 0 18446744073709551615).2.2)
/-- What a kind is read as: the size, the fields, what is left, the fault. -/
def readK (l : List Int) : Int × List Int × List Int × Int :=
  if (upS l 0 4096).2.2 = 0 then
    if (upS l 0 4096).1 = 0 then (0, [], [], 4)
    else if (upS (upS l 0 4096).2.1 0 16).2.2 = 0 then
      if (fieldsK (upS l 0 4096).1 (upS (upS l 0 4096).2.1 0 16).1.toNat 0 (upS (upS l 0 4096).2.1 0 16).2.1 []).2.2 = 0 then
        ((upS l 0 4096).1, (fieldsK (upS l 0 4096).1 (upS (upS l 0 4096).2.1 0 16).1.toNat 0 (upS (upS l 0 4096).2.1 0 16).2.1 []).1, (fieldsK (upS l 0 4096).1 (upS (upS l 0 4096).2.1 0 16).1.toNat 0 (upS (upS l 0 4096).2.1 0 16).2.1 []).2.1, 0)
      else (0, [], [], (fieldsK (upS l 0 4096).1 (upS (upS l 0 4096).2.1 0 16).1.toNat 0 (upS (upS l 0 4096).2.1 0 16).2.1 []).2.2)
    else (0, [], [], (upS (upS l 0 4096).2.1 0 16).2.2)
  else (0, [], [], (upS l 0 4096).2.2)

/-- What Upto answers without a fault ahead: a number whose bytes stand at the head, or a fault. -/
theorem up_cases (l : List Int) (most : Int) (hb : AllB l) :
    (∃ n r, upS l 0 most = (n, r, 0) ∧ 0 ≤ n ∧ n ≤ most ∧ l = varL n ++ r) ∨ ∃ e, upS l 0 most = (0, l, e) ∧ (e = 3 ∨ e = 4) := by
  have hF := rdL_facts l hb
  rcases hF with ⟨h0, h1, h2, h3, h4⟩ | ⟨h0, _, _⟩
  · by_cases hm : (rdL l).1 ≤ most
    · refine .inl ⟨_, _, by rw [upS, if_pos rfl, if_pos h0, if_pos hm], h1, hm, ?_⟩
      rw [← rdL_var l (rdL l).1 (rdL l).2.1 hb (by rw [← h0])]
      exact (List.take_append_drop _ _).symm
    · exact .inr ⟨4, by rw [upS, if_pos rfl, if_pos h0, if_neg hm], .inr rfl⟩
  · exact .inr ⟨(rdL l).2.2, by rw [upS, if_pos rfl, if_neg (by omega)], h0⟩
theorem up_back (n most : Int) (r : List Int) (h0 : 0 ≤ n) (h1 : n ≤ most) (h2 : most ≤ 18446744073709551615) : upS (varL n ++ r) 0 most = (n, r, 0) := by
  rw [upS, if_pos rfl, rdL_digs n r h0 (by omega)]
  simp only [if_true, if_pos h1]
  rw [List.drop_left]
/-- Var and Upto side by side. -/
theorem up_two (l : List Int) (most : Int) (hb : AllB l) (hm : 0 ≤ most) (hm' : most ≤ 18446744073709551615) :
    (∃ e, (e = 3 ∨ e = 4) ∧ upS l 0 18446744073709551615 = (0, l, e) ∧ upS l 0 most = (0, l, e)) ∨
    (∃ n r, 0 ≤ n ∧ n ≤ most ∧ AllB r ∧ upS l 0 18446744073709551615 = (n, r, 0) ∧ upS l 0 most = (n, r, 0)) ∨
    (∃ n r, most < n ∧ AllB r ∧ upS l 0 18446744073709551615 = (n, r, 0) ∧ upS l 0 most = (0, l, 4)) := by
  have hF := rdL_facts l hb
  rcases hF with ⟨h0, h1, h2, h3, h4⟩ | ⟨h0, _, _⟩
  · have e1 : upS l 0 18446744073709551615 = ((rdL l).1, l.drop (rdL l).2.1, 0) := by rw [upS, if_pos rfl, if_pos h0, if_pos h2]
    by_cases hm : (rdL l).1 ≤ most
    · exact .inr (.inl ⟨_, _, h1, hm, hb.drop _, e1, by rw [upS, if_pos rfl, if_pos h0, if_pos hm]⟩)
    · exact .inr (.inr ⟨_, _, by omega, hb.drop _, e1, by rw [upS, if_pos rfl, if_pos h0, if_neg hm]⟩)
  · have hne : ¬ (rdL l).2.2 = 0 := by omega
    exact .inl ⟨_, h0, by rw [upS, if_pos rfl, if_neg hne], by rw [upS, if_pos rfl, if_neg hne]⟩

theorem fields_bad {s f : Int} {n : Nat} {l ps r : List Int} {v e : Int} (h : upS l 0 18446744073709551615 = (v, r, e)) (he : e ≠ 0) : fieldsK s (n + 1) f l ps = ([], [], e) := by
  rw [fieldsK, h]; simp only []; rw [if_neg he]
theorem fields_far {s f : Int} {n : Nat} {l ps r : List Int} {v : Int} (h : upS l 0 18446744073709551615 = (v, r, 0)) (hv : (s - f) / 8 ≤ v) : fieldsK s (n + 1) f l ps = ([], [], 4) := by
  rw [fieldsK, h]; simp only [if_true]; rw [if_neg (by omega)]
theorem fields_go {s f : Int} {n : Nat} {l ps r : List Int} {v : Int} (h : upS l 0 18446744073709551615 = (v, r, 0)) (hv : v < (s - f) / 8) : fieldsK s (n + 1) f l ps = fieldsK s n (f + 8 * v + 8) r (ps ++ [f + 8 * v]) := by
  rw [fieldsK, h]; simp only [if_true]; rw [if_pos hv]

theorem fields_good (s : Int) : ∀ (n : Nat) (f : Int) (l ps qs rest : List Int), AllB l → 0 ≤ f → f % 8 = 0 → fieldsK s n f l ps = (qs, rest, 0) → ∃ ts, qs = ps ++ ts ∧ ts.length = n ∧ placedB s f ts = true ∧ l = gapsL f ts ++ rest
  | 0, f, l, ps, qs, rest, _, _, _, h => by
    simp only [fieldsK, Prod.mk.injEq] at h
    exact ⟨[], by simp [h.1], rfl, rfl, by simp [gapsL, h.2.1]⟩
  | n + 1, f, l, ps, qs, rest, hb, hf, h8, h => by
    rcases up_cases l 18446744073709551615 hb with ⟨v, r, hu, v0, v1, hl⟩ | ⟨e, hu, he⟩
    · by_cases hv : v < (s - f) / 8
      · rw [fields_go hu hv] at h
        obtain ⟨ts, h1, h2, h3, h4⟩ := fields_good s n (f + 8 * v + 8) r (ps ++ [f + 8 * v]) qs rest (by rw [hl] at hb; exact hb.right) (by omega) (by omega) h
        refine ⟨(f + 8 * v) :: ts, by rw [h1]; simp, by simp [h2], ?_, ?_⟩
        · simp only [placedB, Bool.and_eq_true, decide_eq_true_eq]
          exact ⟨by omega, h3⟩
        · rw [gapsL, show (f + 8 * v - f) / 8 = v from by omega, List.append_assoc, ← h4]
          exact hl
      · rw [fields_far hu (by omega)] at h
        simp at h
    · rw [fields_bad hu (by omega)] at h
      simp only [Prod.mk.injEq] at h
      omega
theorem fields_back (s : Int) (hs : s ≤ 4096) : ∀ (ts : List Int) (f : Int) (ps more : List Int), 0 ≤ f → f % 8 = 0 → placedB s f ts = true → fieldsK s ts.length f (gapsL f ts ++ more) ps = (ps ++ ts, more, 0)
  | [], f, ps, more, _, _, _ => by simp [fieldsK, gapsL]
  | p :: ts, f, ps, more, hf, h8, h => by
    simp only [placedB, Bool.and_eq_true, decide_eq_true_eq] at h
    rw [gapsL, List.length_cons, List.append_assoc]
    have hu := up_back ((p - f) / 8) 18446744073709551615 (gapsL (p + 8) ts ++ more) (by omega) (by omega) (by omega)
    rw [fields_go hu (by omega), show f + 8 * ((p - f) / 8) = p from by omega, fields_back s hs ts (p + 8) (ps ++ [p]) more (by omega) (by omega) h.2]
    simp

theorem read_bad1 {l r : List Int} {v e : Int} (h : upS l 0 4096 = (v, r, e)) (he : e ≠ 0) : readK l = (0, [], [], e) := by
  rw [readK, h]; simp only []; rw [if_neg he]
theorem read_zero {l r : List Int} (h : upS l 0 4096 = (0, r, 0)) : readK l = (0, [], [], 4) := by
  rw [readK, h]; simp
theorem read_bad2 {l r r' : List Int} {s v e : Int} (h : upS l 0 4096 = (s, r, 0)) (hs : s ≠ 0) (h' : upS r 0 16 = (v, r', e)) (he : e ≠ 0) : readK l = (0, [], [], e) := by
  rw [readK, h]; simp only [if_true]; rw [if_neg hs, h']; simp only []; rw [if_neg he]
theorem read_bad3 {l r r' qs rest : List Int} {s v e : Int} (h : upS l 0 4096 = (s, r, 0)) (hs : s ≠ 0) (h' : upS r 0 16 = (v, r', 0)) (h3 : fieldsK s v.toNat 0 r' [] = (qs, rest, e)) (he : e ≠ 0) : readK l = (0, [], [], e) := by
  rw [readK, h]; simp only [if_true]; rw [if_neg hs, h']; simp only [if_true]; rw [h3]; simp only []; rw [if_neg he]
theorem read_ok {l r r' qs rest : List Int} {s v : Int} (h : upS l 0 4096 = (s, r, 0)) (hs : s ≠ 0) (h' : upS r 0 16 = (v, r', 0)) (h3 : fieldsK s v.toNat 0 r' [] = (qs, rest, 0)) : readK l = (s, qs, rest, 0) := by
  rw [readK, h]; simp only [if_true]; rw [if_neg hs, h']; simp only [if_true]; rw [h3]; simp

theorem fields_err (s : Int) : ∀ (n : Nat) (f : Int) (l ps : List Int), AllB l → (fieldsK s n f l ps).2.2 = 0 ∨ fieldsK s n f l ps = ([], [], 3) ∨ fieldsK s n f l ps = ([], [], 4)
  | 0, f, l, ps, _ => .inl rfl
  | n + 1, f, l, ps, hb => by
    rcases up_cases l 18446744073709551615 hb with ⟨v, r, hu, v0, v1, hl⟩ | ⟨e, hu, he⟩
    · by_cases hv : v < (s - f) / 8
      · rw [fields_go hu hv]
        exact fields_err s n _ r _ (by rw [hl] at hb; exact hb.right)
      · rw [fields_far hu (by omega)]; exact .inr (.inr rfl)
    · rw [fields_bad hu (by omega)]
      rcases he with rfl | rfl
      · exact .inr (.inl rfl)
      · exact .inr (.inr rfl)

/-- What is read without a fault is a right kind, and its bytes are those that were read. -/
theorem read_good {l : List Int} {s e : Int} {ps rest : List Int} (hb : AllB l) (h : readK l = (s, ps, rest, e)) :
    (e = 0 ∧ checkK s ps = 0 ∧ l = bytesK s ps ++ rest) ∨ ((e = 3 ∨ e = 4) ∧ s = 0 ∧ ps = [] ∧ rest = []) := by
  rcases up_cases l 4096 hb with ⟨v, r, hu, v0, v1, hl⟩ | ⟨e', hu, he⟩
  · by_cases hv : v = 0
    · subst hv
      rw [read_zero hu] at h
      simp only [Prod.mk.injEq] at h
      exact .inr ⟨.inr h.2.2.2.symm, h.1.symm, h.2.1.symm, h.2.2.1.symm⟩
    · have hr : AllB r := by rw [hl] at hb; exact hb.right
      rcases up_cases r 16 hr with ⟨n, r', hu', n0, n1, hl'⟩ | ⟨e', hu', he⟩
      · have hr' : AllB r' := by rw [hl'] at hr; exact hr.right
        obtain ⟨qs, rs, fe, hf⟩ : ∃ qs rs fe, fieldsK v n.toNat 0 r' [] = (qs, rs, fe) := ⟨_, _, _, rfl⟩
        by_cases hfe : fe = 0
        · subst hfe
          rw [read_ok hu hv hu' hf] at h
          simp only [Prod.mk.injEq] at h
          obtain ⟨rfl, rfl, rfl, rfl⟩ := h
          obtain ⟨ts, h1, h2, h3, h4⟩ := fields_good v n.toNat 0 r' [] qs rs hr' (by omega) (by omega) hf
          rw [List.nil_append] at h1
          subst h1
          have hc : checkK v qs = 0 := check_zero.2 ⟨by omega, v1, by omega, h3⟩
          refine .inl ⟨rfl, hc, ?_⟩
          rw [bytesK, if_pos hc, bodyK, hl, hl', h4, show ((qs.length : Nat) : Int) = n from by omega]
          simp [List.append_assoc]
        · rw [read_bad3 hu hv hu' hf hfe] at h
          simp only [Prod.mk.injEq] at h
          have := fields_err v n.toNat 0 r' [] hr'
          rw [hf] at this
          simp only [Prod.mk.injEq] at this
          exact .inr ⟨by omega, h.1.symm, h.2.1.symm, h.2.2.1.symm⟩
      · rw [read_bad2 hu hv hu' (by omega)] at h
        simp only [Prod.mk.injEq] at h
        exact .inr ⟨by omega, h.1.symm, h.2.1.symm, h.2.2.1.symm⟩
  · rw [read_bad1 hu (by omega)] at h
    simp only [Prod.mk.injEq] at h
    exact .inr ⟨by omega, h.1.symm, h.2.1.symm, h.2.2.1.symm⟩
/-- What is written is read. -/
theorem read_back {s : Int} {ps : List Int} (more : List Int) (h : checkK s ps = 0) : readK (bytesK s ps ++ more) = (s, ps, more, 0) := by
  obtain ⟨h1, h2, h3, h4⟩ := check_zero.1 h
  rw [bytesK, if_pos h, bodyK, List.append_assoc, List.append_assoc]
  have e1 := up_back s 4096 (varL (ps.length : Nat) ++ (gapsL 0 ps ++ more)) (by omega) h2 (by omega)
  have e2 := up_back (ps.length : Nat) 16 (gapsL 0 ps ++ more) (by omega) (by omega) (by omega)
  have e3 := fields_back s h2 ps 0 [] more (by omega) (by omega) h4
  rw [read_ok e1 (by omega) e2 (by rw [Int.toNat_natCast]; exact e3)]
  simp
end Go.Proofs.YtbfamjnnlcopiaaDoor
