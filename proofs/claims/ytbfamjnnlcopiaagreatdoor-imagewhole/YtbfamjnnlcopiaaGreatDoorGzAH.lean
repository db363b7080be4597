/- Layer 17: NumP again -/
import Derived.Test.YtbfamjnnlcopiaaGreatDoorAuB
import Derived.Test.YtbfamjnnlcopiaaGreatDoorMhA
import Derived.Lib.BitFns
import Derived.WalkKit
import Derived.Test.YtbfamjnnlcopiaaGreatDoorRows
import Derived.WalkLawsBesides
import Derived.Below
import Derived.ProofKit
import Derived.OpenShut
import Derived.ChangeOld
import Derived.SizedLaws
import Derived.OwnWalk
import Derived.WalkSmall
import Derived.Laws.AppendOwnNone
import Derived.Laws.IdiomStrings
import Derived.Laws.IdiomCopy
import Derived.Laws.CopyRow
import Derived.Laws.MakeOwn
import Derived.Deep.MidRow
import Derived.Deep.WholeRow
import Derived.Deep.OwnRows
import Derived.Deep.RegionHeld3
import Derived.Lib.SlBytesConst
import Derived.BigQuiet
namespace Go.Proofs.YtbfamjnnlcopiaaGreatDoor
open Go.RowKit
set_option linter.unusedVariables false
set_option maxRecDepth 4000
/-- The digits of n to the base 128, at most f + 1 of them. -/
def digs : Nat → Int → List Int
  | 0, n => [n]
  | f + 1, n => if n < 128 then [n] else (n % 128 + 128) :: digs f (n / 128)

def varL (n : Int) : List Int := digs 9 n

/-- What the digits at the head of a list come to, the first i of them having come to acc: the number, how many they are, the fault. -/
def rdF : Nat → Int → List Int → Int × Nat × Int
  | _, _, [] => (0, 0, 3)
  | i, acc, c :: l =>
    if i = 9 ∧ 1 < c then (0, 0, 4)
    else if 0 < i ∧ c = 0 then (0, 0, 4)
    else if c < 128 then (acc + c % 128 * 2 ^ (7 * i), i + 1, 0)
    else rdF (i + 1) (acc + c % 128 * 2 ^ (7 * i)) l

def rdL (l : List Int) : Int × Nat × Int := rdF 0 0 l

theorem tab_at (j : Nat) (h : j < Lib.len8tab.size) : (Lib.len8tab[j].toNat : Int) = Lib.bitLen j ∧ Lib.bitLen j ≤ 8 := by
  have hj : j < 256 := by rw [Lib.len8tab_size] at h; exact h
  have e := Lib.len8_eq ⟨j, hj⟩
  have l := Lib.bitLen_le8 ⟨j, hj⟩
  refine ⟨?_, l⟩
  simp only [Lib.len8, Int.toNat_natCast, ByteArray.getElem?_lt' _ _ h, Option.getD_some] at e
  exact e

theorem tab_close (k : Int) (j x : Int) (h : j.toNat < Lib.len8tab.size) (h0 : 0 ≤ k) (hk : k ≤ 56) (e : (Lib.bitLen x.toNat : Int) = k + Lib.bitLen j.toNat) :
    wrap64 (k + wrap64 ↑(Lib.len8tab[j.toNat].toNat)) = (Lib.bitLen x.toNat : Int) := by
  obtain ⟨a, b⟩ := tab_at j.toNat h
  rw [a, e]
  unfold wrap64
  omega

theorem tab_close0 (x : Int) (h : x.toNat < Lib.len8tab.size) :
    wrap64 (wrap64 ↑(Lib.len8tab[x.toNat].toNat)) = (Lib.bitLen x.toNat : Int) := by
  obtain ⟨a, b⟩ := tab_at x.toNat h
  rw [a]
  unfold wrap64
  omega

theorem bitLen_pos (n : Nat) (h0 : n ≠ 0) (h : n < 2 ^ 64) : 1 ≤ Lib.bitLen n := by
  rw [Lib.bitLen_half n h0 h]; omega

theorem digs_pos (f : Nat) (n : Int) : 1 ≤ (digs f n).length := by
  cases f with
  | zero => simp [digs]
  | succ f => simp only [digs]; split <;> simp

theorem size_digs : ∀ (f : Nat) (n : Nat), n ≠ 0 → n < 2 ^ 64 → n < 128 ^ (f + 1) → (Lib.bitLen n + 6) / 7 = (digs f n).length
  | 0, n, h0, h, hf => by
    have a := Lib.bitLen_le n 7 (by omega) (by simpa using hf)
    have b := bitLen_pos n h0 h
    simp [digs]
    omega
  | f + 1, n, h0, h, hf => by
    simp only [digs]
    split
    · rename_i c
      have a := Lib.bitLen_le n 7 (by omega) (by omega)
      have b := bitLen_pos n h0 h
      simp
      omega
    · rename_i c
      have s := Lib.bitLen_shift 7 n (by omega) h
      have i := size_digs f (n / 128) (by omega) (by omega) (by rw [Nat.pow_succ] at hf; omega)
      have e : ((n / 128 : Nat) : Int) = (n : Int) / 128 := by omega
      rw [e] at i
      simp only [List.length_cons, ← i]
      rw [s]
      simp only [show (2 : Nat) ^ 7 = 128 from rfl]
      omega

/-- How many digits there are, by the length in bits. -/
theorem size_varL (n : Int) (h0 : 0 ≤ n) (h1 : n ≤ 18446744073709551615) (hn : n ≠ 0) : (Lib.bitLen n.toNat + 6) / 7 = (varL n).length := by
  have := size_digs 9 n.toNat (by omega) (by omega) (by omega)
  rw [this]
  have e : ((n.toNat : Nat) : Int) = n := by omega
  rw [e, varL]

theorem or_one_bitLen (n : Int) (h0 : 0 ≤ n) (h1 : n ≤ 18446744073709551615) :
    0 ≤ bits .or .u64 n 1 ∧ bits .or .u64 n 1 ≤ 18446744073709551615 ∧ (Lib.bitLen (bits .or .u64 n 1).toNat + 6) / 7 = (varL n).length := by
  have e := u64_or n 1 h0 (by omega) (by omega) (by omega)
  rw [e]
  have hlt : (n.toNat ||| 1) < 2 ^ 64 := Nat.or_lt_two_pow (by omega) (by omega)
  have hne : (n.toNat ||| (1 : Int).toNat) ≠ 0 := by
    intro h
    have := (Nat.or_eq_zero_iff.1 h).2
    simp at this
  refine ⟨by omega, by simp only [Int.toNat_one]; omega, ?_⟩
  have hh : (n.toNat ||| (1 : Int).toNat) / 2 = n.toNat / 2 := by rw [Nat.or_div_two]; simp
  rw [Int.toNat_natCast, Lib.bitLen_half _ hne (by simpa using hlt), hh]
  by_cases hz : n = 0
  · subst hz
    decide
  · rw [← size_varL n h0 h1 hz, Lib.bitLen_half n.toNat (by omega) (by omega)]

theorem digs_le (f : Nat) : ∀ n, (digs f n).length ≤ f + 1 := by
  induction f with
  | zero => intro n; simp [digs]
  | succ f ih =>
    intro n
    simp only [digs]
    split
    · simp
    · have := ih (n / 128)
      simp
      omega

theorem digs_step (f : Nat) (m : Int) (h : 128 ≤ m) (hf : m < 128 ^ (f + 1)) : ∃ f', f = f' + 1 ∧ digs f m = (m % 128 + 128) :: digs f' (m / 128) ∧ m / 128 < 128 ^ (f' + 1) := by
  cases f with
  | zero => simp at hf; omega
  | succ f' =>
    refine ⟨f', rfl, ?_, ?_⟩
    · simp only [digs]; rw [if_neg (by omega)]
    · rw [Int.pow_succ] at hf; omega

theorem digs_last (f : Nat) (m : Int) (h : m < 128) : digs f m = [m] := by
  cases f with
  | zero => rfl
  | succ f => simp only [digs]; rw [if_pos h]

theorem digs_byte (f : Nat) : ∀ n : Int, 0 ≤ n → n < 128 ^ (f + 1) → ∀ x ∈ digs f n, 0 ≤ x ∧ x ≤ 255 := by
  induction f with
  | zero => intro n h h1 x hx; simp [digs] at hx; simp at h1; omega
  | succ f ih =>
    intro n h h1 x hx
    simp only [digs] at hx
    split at hx
    · simp at hx; omega
    · simp only [List.mem_cons] at hx
      rcases hx with rfl | hx
      · omega
      · exact ih (n / 128) (by omega) (by rw [Int.pow_succ] at h1; omega) x hx

theorem big10 (n : Int) (h : n ≤ 18446744073709551615) : n < 128 ^ (9 + 1) := by
  have : (128 : Int) ^ (9 + 1) = 1180591620717411303424 := by decide
  omega

theorem varL_byte (n : Int) (h0 : 0 ≤ n) (h1 : n ≤ 18446744073709551615) : ∀ x ∈ varL n, 0 ≤ x ∧ x ≤ 255 := digs_byte 9 n h0 (big10 n h1)

theorem varL_le (n : Int) : (varL n).length ≤ 10 := digs_le 9 n
theorem drop_at (l : List Int) (k : Nat) (hl : k < l.length) : l.drop k = l[k] :: l.drop (k + 1) := List.drop_eq_getElem_cons hl

theorem rd_bad (l : List Int) (k : Nat) (acc : Int) (hl : k < l.length) (h : (k = 9 ∧ 1 < l[k]) ∨ (0 < k ∧ l[k] = 0)) : rdF k acc (l.drop k) = (0, 0, 4) := by
  rw [drop_at l k hl, rdF]
  rcases h with h | h
  · rw [if_pos h]
  · by_cases g : k = 9 ∧ 1 < l[k]
    · rw [if_pos g]
    · rw [if_neg g, if_pos h]

theorem rd_stop (l : List Int) (k : Nat) (acc : Int) (hl : k < l.length) (h : ¬ (k = 9 ∧ 1 < l[k])) (h' : ¬ (0 < k ∧ l[k] = 0)) (hs : l[k] < 128) : rdF k acc (l.drop k) = (acc + l[k] % 128 * 2 ^ (7 * k), k + 1, 0) := by
  rw [drop_at l k hl, rdF, if_neg h, if_neg h', if_pos hs]

theorem rd_go (l : List Int) (k : Nat) (acc : Int) (hl : k < l.length) (h : ¬ (k = 9 ∧ 1 < l[k])) (h' : ¬ (0 < k ∧ l[k] = 0)) (hs : 128 ≤ l[k]) : rdF k acc (l.drop k) = rdF (k + 1) (acc + l[k] % 128 * 2 ^ (7 * k)) (l.drop (k + 1)) := by
  rw [drop_at l k hl, rdF, if_neg h, if_neg h', if_neg (by omega)]

theorem rd_end (l : List Int) (k : Nat) (acc : Int) (hl : l.length ≤ k) : rdF k acc (l.drop k) = (0, 0, 3) := by
  rw [List.drop_eq_nil_of_le hl]; rfl

theorem pow7_step (k : Nat) : (2 : Int) ^ (7 * (k + 1)) = 128 * 2 ^ (7 * k) := by
  rw [show 7 * (k + 1) = 7 * k + 7 from by omega, Int.pow_add, Int.mul_comm]
  rfl

theorem pow7_mono (m n : Nat) (h : m ≤ n) : (2 : Int) ^ (7 * m) ≤ 2 ^ (7 * n) := by
  induction n with
  | zero => obtain rfl : m = 0 := by omega
            exact Int.le_refl _
  | succ n ih =>
    by_cases e : m = n + 1
    · rw [e]; exact Int.le_refl _
    · have := ih (by omega)
      have hp : (0 : Int) < 2 ^ (7 * n) := Int.pow_pos (by decide)
      rw [pow7_step]
      omega

/-- A digit laid over those that came before is added to them; it stays below the next power, and below 2^64. -/
theorem dig_or (k : Nat) (acc c : Int) (h0 : 0 ≤ acc) (h1 : acc < 2 ^ (7 * k)) (hc : 0 ≤ c) (h9 : k ≤ 8 ∧ c ≤ 127 ∨ k = 9 ∧ c ≤ 1) :
    bits BinOp.or IntKind.u64 acc (IntKind.u64.wrap (c * 2 ^ (7 * k))) = acc + c * 2 ^ (7 * k) ∧ 0 ≤ acc + c * 2 ^ (7 * k) ∧ acc + c * 2 ^ (7 * k) < 18446744073709551616 := by
  have hp : (0 : Int) < 2 ^ (7 * k) := Int.pow_pos (by decide)
  have hbp : 0 ≤ c * 2 ^ (7 * k) := Int.mul_nonneg hc (by omega)
  have hs : acc + c * 2 ^ (7 * k) < 18446744073709551616 := by
    rcases h9 with ⟨hk, h⟩ | ⟨rfl, h⟩
    · have hm := pow7_mono (k + 1) 9 (by omega)
      rw [pow7_step] at hm
      have h9' : (2 : Int) ^ (7 * 9) = 9223372036854775808 := by decide
      have := Int.mul_le_mul_of_nonneg_right h (show (0 : Int) ≤ 2 ^ (7 * k) by omega)
      omega
    · have h9' : (2 : Int) ^ (7 * 9) = 9223372036854775808 := by decide
      rw [h9'] at *
      omega
  rw [IntKind.wrap_u64, show c * 2 ^ (7 * k) % 18446744073709551616 = c * 2 ^ (7 * k) from by omega]
  exact ⟨or_join (7 * k) acc c h0 h1 hc hs, by omega, hs⟩

theorem dig_or9 (k : Nat) (acc c : Int) (hk : k = 9) (h0 : 0 ≤ acc) (h1 : acc < 2 ^ (7 * k)) (hc : 0 ≤ c) (hc1 : c ≤ 1) :
    bits BinOp.or IntKind.u64 acc (c * 9223372036854775808) = acc + c * 2 ^ (7 * k) := by
  have D := (dig_or k acc c h0 h1 hc (.inr ⟨hk, hc1⟩)).1
  subst hk
  have h9' : (2 : Int) ^ (7 * 9) = 9223372036854775808 := by decide
  rw [h9', IntKind.wrap_u64, show c * 9223372036854775808 % 18446744073709551616 = c * 9223372036854775808 from by omega] at D
  rw [h9']
  exact D

theorem dig_bd (k : Nat) (acc c : Int) (h1 : acc < 2 ^ (7 * k)) (hc : c ≤ 127) : acc + c * 2 ^ (7 * k) < 2 ^ (7 * (k + 1)) := by
  have hp : (0 : Int) < 2 ^ (7 * k) := Int.pow_pos (by decide)
  have := Int.mul_le_mul_of_nonneg_right hc (show (0 : Int) ≤ 2 ^ (7 * k) by omega)
  rw [pow7_step]
  omega

end Go.Proofs.YtbfamjnnlcopiaaGreatDoor

/- Layer 17: NumP2 again -/
namespace Go.Proofs.YtbfamjnnlcopiaaGreatDoor
open Go.RowKit
set_option linter.unusedVariables false
set_option maxRecDepth 4000
theorem rdF_facts : ∀ (l : List Int) (i : Nat) (acc : Int), (∀ x ∈ l, 0 ≤ x ∧ x ≤ 255) → i ≤ 9 → 0 ≤ acc → acc < 2 ^ (7 * i) →
    ((rdF i acc l).2.2 = 0 ∧ 0 ≤ (rdF i acc l).1 ∧ (rdF i acc l).1 ≤ 18446744073709551615 ∧ i + 1 ≤ (rdF i acc l).2.1 ∧ (rdF i acc l).2.1 ≤ i + l.length) ∨
    (((rdF i acc l).2.2 = 3 ∨ (rdF i acc l).2.2 = 4) ∧ (rdF i acc l).1 = 0 ∧ (rdF i acc l).2.1 = 0)
  | [], i, acc, _, _, _, _ => .inr ⟨.inl rfl, rfl, rfl⟩
  | c :: l, i, acc, hb, hi, h0, h1 => by
    have hc := hb c List.mem_cons_self
    rw [rdF]
    by_cases g1 : i = 9 ∧ 1 < c
    · rw [if_pos g1]; exact .inr ⟨.inr rfl, rfl, rfl⟩
    rw [if_neg g1]
    by_cases g2 : 0 < i ∧ c = 0
    · rw [if_pos g2]; exact .inr ⟨.inr rfl, rfl, rfl⟩
    rw [if_neg g2]
    by_cases g3 : c < 128
    · rw [if_pos g3]
      have D := dig_or i acc (c % 128) h0 h1 (by omega) (by omega)
      refine .inl ⟨rfl, D.2.1, ?_, Nat.le_refl _, ?_⟩
      · have := D.2.2; dsimp only; omega
      · simp
    · rw [if_neg g3]
      have D := dig_or i acc (c % 128) h0 h1 (by omega) (by omega)
      have := rdF_facts l (i + 1) (acc + c % 128 * 2 ^ (7 * i)) (fun x hx => hb x (List.mem_cons_of_mem _ hx)) (by omega) D.2.1 (dig_bd i acc _ h1 (by omega))
      rcases this with ⟨a, b, c, d, e⟩ | h
      · exact .inl ⟨a, b, c, by omega, by simp only [List.length_cons]; omega⟩
      · exact .inr h

theorem rdL_facts (l : List Int) (hb : ∀ x ∈ l, 0 ≤ x ∧ x ≤ 255) :
    ((rdL l).2.2 = 0 ∧ 0 ≤ (rdL l).1 ∧ (rdL l).1 ≤ 18446744073709551615 ∧ 1 ≤ (rdL l).2.1 ∧ (rdL l).2.1 ≤ l.length) ∨
    (((rdL l).2.2 = 3 ∨ (rdL l).2.2 = 4) ∧ (rdL l).1 = 0 ∧ (rdL l).2.1 = 0) := by
  have := rdF_facts l 0 0 hb (by omega) (by omega) (by decide)
  simpa [rdL] using this

/-- What Upto answers, what is left behind it, and the fault. -/
def upS (l : List Int) (e most : Int) : Int × List Int × Int :=
  if e = 0 then
    if (rdL l).2.2 = 0 then
      if (rdL l).1 ≤ most then ((rdL l).1, l.drop (rdL l).2.1, 0) else (0, l, 4)
    else (0, l, (rdL l).2.2)
  else (0, l, e)
end Go.Proofs.YtbfamjnnlcopiaaGreatDoor

/- Layer 17: NumP3 again -/
namespace Go.Proofs.YtbfamjnnlcopiaaGreatDoor
open Go.RowKit
set_option linter.unusedVariables false
set_option maxRecDepth 4000
theorem rdF_var : ∀ (l : List Int) (i : Nat) (acc n : Int) (sz : Nat), (∀ x ∈ l, 0 ≤ x ∧ x ≤ 255) → i ≤ 9 → rdF i acc l = (n, sz, 0) →
    ∃ m, 0 ≤ m ∧ (0 < i → 1 ≤ m) ∧ n = acc + m * 2 ^ (7 * i) ∧ l.take (sz - i) = digs (9 - i) m ∧ i + 1 ≤ sz
  | [], i, acc, n, sz, _, _, h => by simp [rdF] at h
  | c :: l, i, acc, n, sz, hb, hi, h => by
    have hc := hb c List.mem_cons_self
    rw [rdF] at h
    by_cases g1 : i = 9 ∧ 1 < c
    · rw [if_pos g1] at h; simp at h
    rw [if_neg g1] at h
    by_cases g2 : 0 < i ∧ c = 0
    · rw [if_pos g2] at h; simp at h
    rw [if_neg g2] at h
    by_cases g3 : c < 128
    · rw [if_pos g3] at h
      simp only [Prod.mk.injEq] at h
      obtain ⟨h1, h2, _⟩ := h
      refine ⟨c, hc.1, by omega, ?_, ?_, by omega⟩
      · rw [← h1, show c % 128 = c from by omega]
      · rw [digs_last _ _ g3, show sz - i = 1 from by omega]
        rfl
    · rw [if_neg g3] at h
      obtain ⟨m, m0, m1, hn, ht, hs⟩ := rdF_var l (i + 1) _ n sz (fun x hx => hb x (List.mem_cons_of_mem _ hx)) (by omega) h
      have m1' := m1 (by omega)
      refine ⟨c % 128 + 128 * m, by omega, by omega, ?_, ?_, by omega⟩
      · rw [hn, pow7_step, Int.add_mul, Int.add_assoc, Int.mul_left_comm, Int.mul_assoc]
      · rw [show 9 - i = (9 - (i + 1)) + 1 from by omega, digs, if_neg (by omega), show sz - i = (sz - (i + 1)) + 1 from by omega, List.take_succ_cons, ht,
          show (c % 128 + 128 * m) % 128 + 128 = c from by omega, show (c % 128 + 128 * m) / 128 = m from by omega]

theorem rdL_var (l : List Int) (n : Int) (sz : Nat) (hb : ∀ x ∈ l, 0 ≤ x ∧ x ≤ 255) (h : rdL l = (n, sz, 0)) : l.take sz = varL n := by
  obtain ⟨m, _, _, hn, ht, _⟩ := rdF_var l 0 0 n sz hb (by omega) h
  have : n = m := by simpa using hn
  rw [this]
  simpa [varL] using ht

theorem rdF_digs : ∀ (f i : Nat) (acc m : Int) (rest : List Int), f + i = 9 → 0 ≤ acc → 0 ≤ m → (0 < i → 1 ≤ m) → acc + m * 2 ^ (7 * i) < 18446744073709551616 →
    rdF i acc (digs f m ++ rest) = (acc + m * 2 ^ (7 * i), i + (digs f m).length, 0)
  | 0, i, acc, m, rest, hf, h0, hm, h1, hlt => by
    obtain rfl : i = 9 := by omega
    have h9' : (2 : Int) ^ (7 * 9) = 9223372036854775808 := by decide
    have hm1 : m ≤ 1 := by rw [h9'] at hlt; omega
    have := h1 (by omega)
    rw [digs, List.cons_append, rdF, if_neg (by omega), if_neg (by omega), if_pos (by omega), show m % 128 = m from by omega]
    rfl
  | f + 1, i, acc, m, rest, hf, h0, hm, h1, hlt => by
    rw [digs]
    by_cases g : m < 128
    · rw [if_pos g, List.cons_append, rdF, if_neg (by omega), if_neg (by omega), if_pos g, show m % 128 = m from by omega]
      rfl
    · rw [if_neg g, List.cons_append, rdF, if_neg (by omega), if_neg (by omega), if_neg (by omega)]
      have e : acc + (m % 128 + 128) % 128 * 2 ^ (7 * i) + m / 128 * 2 ^ (7 * (i + 1)) = acc + m * 2 ^ (7 * i) := by
        rw [pow7_step, ← Int.mul_assoc, Int.add_assoc, ← Int.add_mul, show (m % 128 + 128) % 128 + m / 128 * 128 = m from by omega]
      have hp : (0 : Int) ≤ 2 ^ (7 * i) := Int.le_of_lt (Int.pow_pos (by decide))
      rw [rdF_digs f (i + 1) _ (m / 128) rest (by omega) (by have := Int.mul_nonneg (show (0 : Int) ≤ (m % 128 + 128) % 128 by omega) hp; omega) (by omega) (by omega) (by rw [e]; exact hlt), e]
      simp only [List.length_cons, Prod.mk.injEq, true_and, and_true]
      omega

theorem rdL_digs (n : Int) (rest : List Int) (h0 : 0 ≤ n) (h1 : n ≤ 18446744073709551615) : rdL (varL n ++ rest) = (n, (varL n).length, 0) := by
  have := rdF_digs 9 0 0 n rest (by omega) (by omega) h0 (by omega) (by simp; omega)
  simpa [rdL, varL] using this
end Go.Proofs.YtbfamjnnlcopiaaGreatDoor

/- Layer 17: KdP again -/
namespace Go.Proofs.YtbfamjnnlcopiaaGreatDoor
open Go.RowKit
set_option linter.unusedVariables false
set_option maxRecDepth 4000
theorem AllB.right {a b : List Int} (h : AllB (a ++ b)) : AllB b := fun x hx => h x (List.mem_append_right _ hx)
theorem AllB.left {a b : List Int} (h : AllB (a ++ b)) : AllB a := fun x hx => h x (List.mem_append_left _ hx)
def rightK (s : Int) (ps : List Int) : Prop := 1 ≤ s ∧ s ≤ 4096 ∧ ps.length ≤ 16 ∧ placedB s 0 ps = true
instance (s : Int) (ps : List Int) : Decidable (rightK s ps) := by unfold rightK; infer_instance
theorem rplaced_all (s : Int) : ∀ (l : List Int) (f : Int), 0 ≤ f → placedB s f l = true → ∀ p ∈ l, f ≤ p ∧ p ≤ s - 8 ∧ p % 8 = 0
  | [], f, _, _, p, hp => by cases hp
  | q :: l, f, hf, h, p, hp => by
    simp only [placedB, Bool.and_eq_true, decide_eq_true_eq] at h
    rcases List.mem_cons.1 hp with rfl | hp
    · exact h.1
    · have := rplaced_all s l (q + 8) (by omega) h.2 p hp
      omega

/-- The gaps ahead of the pointer fields, as numbers. -/
def gapsL : Int → List Int → List Int
  | _, [] => []
  | f, p :: l => varL ((p - f) / 8) ++ gapsL (p + 8) l
theorem gaps_step (f : Int) (l : List Int) (k : Nat) (h : k < l.length) : gapsL f (l.drop k) = varL ((l.getD k 0 - f) / 8) ++ gapsL (l.getD k 0 + 8) (l.drop (k + 1)) := by
  rw [drop_getD l k h, gapsL]
theorem gaps_end (f : Int) (l : List Int) (k : Nat) (h : l.length ≤ k) : gapsL f (l.drop k) = [] := by
  rw [List.drop_eq_nil_of_le h, gapsL]
/-- The fields that are read: so many of them, the first place for one being f, of these bytes, behind those of ps: all of them, what is left, the fault. -/
def fieldsK (s : Int) : Nat → Int → List Int → List Int → List Int × List Int × Int
  | 0, _, l, ps => (ps, l, 0)
  | n + 1, f, l, ps =>
    if (upS l 0 18446744073709551615).2.2 = 0 then
      if (upS l 0 18446744073709551615).1 < (s - f) / 8 then fieldsK s n (f + 8 * (upS l 0 18446744073709551615).1 + 8) (upS l 0 18446744073709551615).2.1 (ps ++ [f + 8 * (upS l 0 18446744073709551615).1])
      else ([], [], 4)
    else ([], [], (upS l 0 18446744073709551615).2.2)
/-- What Upto answers without a fault ahead: a number whose bytes stand at the head, or a fault. -/
theorem up_cases (l : List Int) (most : Int) (hb : AllB l) :
    (∃ n r, upS l 0 most = (n, r, 0) ∧ 0 ≤ n ∧ n ≤ most ∧ l = varL n ++ r) ∨ ∃ e, upS l 0 most = (0, l, e) ∧ (e = 3 ∨ e = 4) := by
  have hF := rdL_facts l hb
  rcases hF with ⟨h0, h1, h2, h3, h4⟩ | ⟨h0, _, _⟩
  · by_cases hm : (rdL l).1 ≤ most
    · refine .inl ⟨_, _, by rw [upS, if_pos rfl, if_pos h0, if_pos hm], h1, hm, ?_⟩
      rw [← rdL_var l (rdL l).1 (rdL l).2.1 hb (by rw [← h0])]
      exact (List.take_append_drop _ _).symm
    · exact .inr ⟨4, by rw [upS, if_pos rfl, if_pos h0, if_neg hm], .inr rfl⟩
  · exact .inr ⟨(rdL l).2.2, by rw [upS, if_pos rfl, if_neg (by omega)], h0⟩
theorem up_back (n most : Int) (r : List Int) (h0 : 0 ≤ n) (h1 : n ≤ most) (h2 : most ≤ 18446744073709551615) : upS (varL n ++ r) 0 most = (n, r, 0) := by
  rw [upS, if_pos rfl, rdL_digs n r h0 (by omega)]
  simp only [if_true, if_pos h1]
  rw [List.drop_left]
theorem fields_bad {s f : Int} {n : Nat} {l ps r : List Int} {v e : Int} (h : upS l 0 18446744073709551615 = (v, r, e)) (he : e ≠ 0) : fieldsK s (n + 1) f l ps = ([], [], e) := by
  rw [fieldsK, h]; simp only []; rw [if_neg he]
theorem fields_far {s f : Int} {n : Nat} {l ps r : List Int} {v : Int} (h : upS l 0 18446744073709551615 = (v, r, 0)) (hv : (s - f) / 8 ≤ v) : fieldsK s (n + 1) f l ps = ([], [], 4) := by
  rw [fieldsK, h]; simp only [if_true]; rw [if_neg (by omega)]
theorem fields_go {s f : Int} {n : Nat} {l ps r : List Int} {v : Int} (h : upS l 0 18446744073709551615 = (v, r, 0)) (hv : v < (s - f) / 8) : fieldsK s (n + 1) f l ps = fieldsK s n (f + 8 * v + 8) r (ps ++ [f + 8 * v]) := by
  rw [fieldsK, h]; simp only [if_true]; rw [if_pos hv]

theorem fields_good (s : Int) : ∀ (n : Nat) (f : Int) (l ps qs rest : List Int), AllB l → 0 ≤ f → f % 8 = 0 → fieldsK s n f l ps = (qs, rest, 0) → ∃ ts, qs = ps ++ ts ∧ ts.length = n ∧ placedB s f ts = true ∧ l = gapsL f ts ++ rest
  | 0, f, l, ps, qs, rest, _, _, _, h => by
    simp only [fieldsK, Prod.mk.injEq] at h
    exact ⟨[], by simp [h.1], rfl, rfl, by simp [gapsL, h.2.1]⟩
  | n + 1, f, l, ps, qs, rest, hb, hf, h8, h => by
    rcases up_cases l 18446744073709551615 hb with ⟨v, r, hu, v0, v1, hl⟩ | ⟨e, hu, he⟩
    · by_cases hv : v < (s - f) / 8
      · rw [fields_go hu hv] at h
        obtain ⟨ts, h1, h2, h3, h4⟩ := fields_good s n (f + 8 * v + 8) r (ps ++ [f + 8 * v]) qs rest (by rw [hl] at hb; exact hb.right) (by omega) (by omega) h
        refine ⟨(f + 8 * v) :: ts, by rw [h1]; simp, by simp [h2], ?_, ?_⟩
        · simp only [placedB, Bool.and_eq_true, decide_eq_true_eq]
          exact ⟨by omega, h3⟩
        · rw [gapsL, show (f + 8 * v - f) / 8 = v from by omega, List.append_assoc, ← h4]
          exact hl
      · rw [fields_far hu (by omega)] at h
        simp at h
    · rw [fields_bad hu (by omega)] at h
      simp only [Prod.mk.injEq] at h
      omega
theorem fields_err (s : Int) : ∀ (n : Nat) (f : Int) (l ps : List Int), AllB l → (fieldsK s n f l ps).2.2 = 0 ∨ fieldsK s n f l ps = ([], [], 3) ∨ fieldsK s n f l ps = ([], [], 4)
  | 0, f, l, ps, _ => .inl rfl
  | n + 1, f, l, ps, hb => by
    rcases up_cases l 18446744073709551615 hb with ⟨v, r, hu, v0, v1, hl⟩ | ⟨e, hu, he⟩
    · by_cases hv : v < (s - f) / 8
      · rw [fields_go hu hv]
        exact fields_err s n _ r _ (by rw [hl] at hb; exact hb.right)
      · rw [fields_far hu (by omega)]; exact .inr (.inr rfl)
    · rw [fields_bad hu (by omega)]
      rcases he with rfl | rfl
      · exact .inr (.inl rfl)
      · exact .inr (.inr rfl)

end Go.Proofs.YtbfamjnnlcopiaaGreatDoor

/- Layer 17: KdA again -/
namespace Go.Proofs.YtbfamjnnlcopiaaGreatDoor
open Go.RowKit
set_option linter.unusedVariables false
set_option maxRecDepth 4000
theorem Tg.ofDrew {g : Nat} {w w' : World} (h : Tg g w.drew w') : Tg g w w' := ⟨h.os, h.tape, h.output, h.size, h.block⟩
theorem rowns_form {w : World} {base n : Nat} {v : Value} {xs : List Value} (h : w.ownsRow base 5 1 v n xs) : ∃ a cap, v = .slice a n cap := by
  obtain ⟨_, ⟨rfl, rfl⟩ | ⟨g, c', cur, rfl, _⟩⟩ := h
  · exact ⟨_, _, rfl⟩
  · exact ⟨_, _, rfl⟩
/-- Bytes are appended to a slice of the call's own, whatever they are: none, or some. -/
theorem rwpList_app {ops : Array Oper} {rest : List Oper} {o : Oper} {a : Act} {Q : Exit → Act → World → Prop} {w : World} (hgd : o.guard = none) (s x : Operand)
    (ho : o.op = .call { callee := .builtin .append, args := #[s, x], argTypes := #[25, 25] })
    (base : Nat) (hbase : base ≤ w.heap.size) (as0 : Option Addr) (L : List Int) (cs : Nat) (hs : a.eval s = .slice as0 L.length cs) (hown : OwnsB w base as0 L cs)
    (ax : Option Addr) (l : List Int) (cx : Nat) (hx : a.eval x = .slice ax l.length cx) (hB : IsB w ax l) (hnil : ax = none → l = [] ∧ cx = 0) (hlen : L.length + l.length ≤ 140737488355328)
    (h : ∀ a' cap' w', OwnsB w' base a' (L ++ l) cap' → Below base w w' → wpList Tryz.prog ops Q rest (a.put o.dst (.slice a' (L ++ l).length cap')) w') :
    wpList Tryz.prog ops Q (o :: rest) a w := by
  obtain ⟨i0, hi, hz0, hz1, hz2⟩ := info_parts Tryz.info5
  rcases ax with _ | ad
  · obtain ⟨rfl, rfl⟩ := hnil rfl
    refine wpList_append_own_none hgd s x 25 ho base 5 i0 1 Tryz.underlying25 hi _ _ _ hs hown hx ?_
    have := h as0 cs w (by simpa using hown) (Below.refl _ _)
    simpa using this
  · refine wpList_append_own w hgd s x 25 ho base 5 i0 (.int .u8 0) 1 1 Tryz.underlying25 hi hz0 hz1 hz2 rfl (by decide) _ _ _ hs hown ad l.length cx (l.map (Value.int .u8)) hx (by simp) ?_ ?_ (by unfold maxLen; omega) (by omega) hbase ?_
    · intro j u hj
      have hjn : j < l.length := by
        have := (List.getElem?_eq_some_iff.1 hj).1
        simpa using this
      obtain ⟨_, rfl | ⟨b, off, e, _, hc⟩⟩ := hB
      · simp at hjn
      · cases e
        rw [addr_add, hc j hjn]
        have e : (l.map (Value.int .u8))[j]? = some (Value.int .u8 (l.getD j 0)) := by simp [List.getD, List.getElem?_eq_getElem hjn]
        rw [e] at hj
        exact hj
    · intro u hu; obtain ⟨x, _, rfl⟩ := List.mem_map.1 hu; rfl
    · intro v' w' h1 h2 h3
      obtain ⟨a', cap', rfl⟩ := rowns_form h1
      have := h a' cap' w' (by simpa [OwnsB] using h1) ((Below.refl _ w).grown h2 hbase (own_ge hown))
      simpa using this
theorem rownsB_isL {w : World} {base : Nat} {a : Option Addr} {l : List Int} {cap : Nat} (h : OwnsB w base a l cap) : l.length ≤ cap ∧ cap ≤ maxLen ∧ (a = none → l = [] ∧ cap = 0) := by
  obtain ⟨_, ⟨h1, h2⟩ | ⟨g, c', cur, h1, hg, h2, h3, h4, _⟩⟩ := h
  · simp only [Value.slice.injEq] at h1
    obtain ⟨rfl, h1, rfl⟩ := h1
    exact ⟨by omega, Nat.zero_le _, fun _ => ⟨List.eq_nil_of_length_eq_zero h2, rfl⟩⟩
  · cases h1
    exact ⟨h3, h4, by simp⟩
end Go.Proofs.YtbfamjnnlcopiaaGreatDoor

/- Layer 17: KdB again -/
namespace Go.Proofs.YtbfamjnnlcopiaaGreatDoor
open Go.RowKit
set_option linter.unusedVariables false
set_option maxRecDepth 4000
set_option maxHeartbeats 4000000 in
set_option maxRecDepth 100000 in
theorem len64_any (x : Int) (w : World) (h0 : 0 ≤ x) (h1 : x ≤ 18446744073709551615) :
    Calls Tryz.prog 103 #[.int .u64 x] w fun e w' => e = .returned (.int .i64 (Lib.bitLen x.toNat)) ∧ w = w' := by
  have hs := Lib.len8tab_size
  go_enter Tryz.func103, Tryz.ntmps103
  go_wp2
  all_goals (go_ret; refine ⟨congrArg Ending.returned (congrArg (Value.int IntKind.i64) ?_), rfl⟩)
  all_goals first
    | exact tab_close0 x (by omega)
    | (refine tab_close 56 _ x (by omega) (by omega) (by omega) ?_
       have s := Lib.bitLen_shift56 x.toNat (by omega) (by omega)
       rw [show (x / 4294967296 / 65536 / 256).toNat = x.toNat / 72057594037927936 from by omega]; omega)
    | (refine tab_close 48 _ x (by omega) (by omega) (by omega) ?_
       have s := Lib.bitLen_shift48 x.toNat (by omega) (by omega)
       rw [show (x / 4294967296 / 65536).toNat = x.toNat / 281474976710656 from by omega]; omega)
    | (refine tab_close 40 _ x (by omega) (by omega) (by omega) ?_
       have s := Lib.bitLen_shift40 x.toNat (by omega) (by omega)
       rw [show (x / 4294967296 / 256).toNat = x.toNat / 1099511627776 from by omega]; omega)
    | (refine tab_close 32 _ x (by omega) (by omega) (by omega) ?_
       have s := Lib.bitLen_shift32 x.toNat (by omega) (by omega)
       rw [show (x / 4294967296).toNat = x.toNat / 4294967296 from by omega]; omega)
    | (refine tab_close 24 _ x (by omega) (by omega) (by omega) ?_
       have s := Lib.bitLen_shift24 x.toNat (by omega) (by omega)
       rw [show (x / 65536 / 256).toNat = x.toNat / 16777216 from by omega]; omega)
    | (refine tab_close 16 _ x (by omega) (by omega) (by omega) ?_
       have s := Lib.bitLen_shift16 x.toNat (by omega) (by omega)
       rw [show (x / 65536).toNat = x.toNat / 65536 from by omega]; omega)
    | (refine tab_close 8 _ x (by omega) (by omega) (by omega) ?_
       have s := Lib.bitLen_shift8 x.toNat (by omega) (by omega)
       rw [show (x / 256).toNat = x.toNat / 256 from by omega]; omega)
theorem rsizeV_any (n : Int) (w : World) (h0 : 0 ≤ n) (h1 : n ≤ 18446744073709551615) :
    Calls Tryz.prog 76 #[.int .u64 n] w fun e w' => e = .returned (.int .i64 (varL n).length) ∧ w = w' := by
  obtain ⟨a, b, c⟩ := or_one_bitLen n h0 h1
  have hl := varL_le n
  have hbl : Lib.bitLen (bits .or .u64 n 1).toNat ≤ 70 := by omega
  have C : Hid ((Lib.bitLen (bits .or .u64 n 1).toNat + 6) / 7 = (varL n).length) := c
  clear c
  go_enter Tryz.func76, Tryz.ntmps76
  go_wp2_with (go_at_call 103; refine (len64_any (bits .or .u64 n 1) _ a b).mono ?_; rintro e w' ⟨rfl, rfl⟩)
  go_ret
  exact ⟨congrArg Ending.returned (congrArg (Value.int IntKind.i64) (by rw [← C.out]; omega)), rfl⟩

theorem ret_slice {a : Option Addr} {n n' c : Nat} (h : n = n') : Ending.returned (.slice a n c) = .returned (.slice a n' c) := by rw [h]
/-- How far the digits have come. -/
def VarAt (n : Int) (B : Nat) (w wr : World) (f : Nat) (L : List Int) (m : Int) : Prop :=
  varL n = L ++ digs f m ∧ 0 ≤ m ∧ m ≤ 18446744073709551615 ∧ m < 128 ^ (f + 1) ∧ L.length + f = 9 ∧
    wr.ownsRow B 5 1 (.slice (some ⟨B, 0, none⟩) L.length (varL n).length) L.length (L.map (Value.int .u8)) ∧ Below B w wr
theorem varAt_room {n : Int} {B : Nat} {w wr : World} {f : Nat} {L : List Int} {m : Int} (h : VarAt n B w wr f L m) : L.length + 1 ≤ (varL n).length := by
  rw [h.1, List.length_append]
  have := digs_pos f m
  omega
set_option maxHeartbeats 1000000 in
theorem var_any (n : Int) (w : World) (h0 : 0 ≤ n) (h1 : n ≤ 18446744073709551615) :
    Calls Tryz.prog 47 #[.int .u64 n] w fun e w' => e = .returned (.slice (some ⟨w.heap.size, 0, none⟩) (varL n).length (varL n).length) ∧ w'.ownsRow w.heap.size 5 1 (.slice (some ⟨w.heap.size, 0, none⟩) (varL n).length (varL n).length) (varL n).length ((varL n).map (Value.int .u8)) ∧ Below w.heap.size w w' := by
  obtain ⟨i0, hi, hz0, hz1, hz2⟩ := info_parts Tryz.info5
  have hl := varL_le n
  go_enter Tryz.func47, Tryz.ntmps47
  go_wp2_with (first
    | (go_at_call 76; refine (rsizeV_any n _ h0 h1).mono ?_; rintro e w' ⟨rfl, rfl⟩)
    | (at_make; refine wpList_make_own _ rfl _ _ 25 rfl w.heap.size 5 i0 (.int .u8 0) 1 Tryz.underlying25 hi hz0 hz1 _ _ _ (varL n).length rfl rfl (by omega) ?b2 ?b3 (Nat.le_refl _) ?_))
  case b2 => rw [hz2]; omega
  case b3 => unfold maxLen; omega
  intro w0 hown0 hgrow0
  go_wp2
  go_loopw [0, 3] (fun t v wr => ∃ (f : Nat) (L : List Int) (m : Int), t = .int .u64 m ∧ v = .slice (some ⟨w.heap.size, 0, none⟩) L.length (varL n).length ∧ VarAt n w.heap.size w wr f L m) (fun t _ _ => (intOf t).toNat)
  case atStart => exact ⟨9, [], n, rfl, rfl, rfl, h0, h1, big10 n h1, rfl, hown0, (Below.refl _ _).grown hgrow0 (Nat.le_refl _) (fun k h => by cases h)⟩
  case round =>
    obtain ⟨f, L, m, rfl, rfl, hV⟩ := hrel
    have hroom := varAt_room hV
    obtain ⟨hx, m0, m1, hf, hLf, hown, hnx⟩ := hV
    have HX : Hid (varL n = L ++ digs f m) := hx
    clear hx
    by_cases hlt : 128 ≤ m
    · go_wp2_with (at_builtin; refine wpList_append_fits _ rfl (.tmp 9) (.tmp 14) 25 rfl w.heap.size 5 i0 1 Tryz.underlying25 hi hz1 w.heap.size L.length (varL n).length _ rfl (hown.alloc _) ⟨wr.heap.size, 0, none⟩ 1 1 [.int .u8 (m % 128 + 128)] rfl rfl (by intro t u ht; match t, ht with | 0, ht => simp at ht; subst ht; simp [Addr.add]) (by intro u hu; simp at hu; subst hu; rfl) (by omega) ?_; intro w1 hown1 hgrow1)
      obtain ⟨f', rfl, hd, hf'⟩ := digs_step f m hlt hf
      have R : VarAt n w.heap.size w w1 f' (L ++ [m % 128 + 128]) (m / 128) :=
        ⟨by rw [HX.out, hd]; simp, by omega, by omega, hf', by simp; omega, by simpa using hown1, (hnx.alloc hnx.size _).grown hgrow1 (by simp; have := hnx.size; omega) (fun k hk => by cases hk; exact Nat.le_refl _)⟩
      go_roundw
      case rel => exact ⟨f', L ++ [m % 128 + 128], m / 128, rfl, by simp, R⟩
      case measure => simp [intOf]; omega
    · have hm : m < 128 := by omega
      go_wp2_with (at_builtin; refine wpList_append_fits _ rfl (.tmp 18) (.tmp 21) 25 rfl w.heap.size 5 i0 1 Tryz.underlying25 hi hz1 w.heap.size L.length (varL n).length _ rfl (hown.alloc _) ⟨wr.heap.size, 0, none⟩ 1 1 [.int .u8 m] rfl rfl (by intro t u ht; match t, ht with | 0, ht => simp at ht; subst ht; simp [Addr.add]) (by intro u hu; simp at hu; subst hu; rfl) (by omega) ?_; intro w1 hown1 hgrow1)
      have hd := digs_last f m hm
      have hx : varL n = L ++ [m] := by rw [HX.out, hd]
      have hlen : L.length + 1 = (varL n).length := by rw [hx]; simp
      go_ret
      rw [hlen] at hown1
      refine ⟨ret_slice hlen, ?_, (hnx.alloc hnx.size _).grown hgrow1 (by simp; have := hnx.size; omega) (fun k hk => by cases hk; exact Nat.le_refl _)⟩
      have hm' : (varL n).map (Value.int .u8) = L.map (Value.int .u8) ++ [Value.int .u8 m] := by rw [hx]; simp
      rw [hm']
      exact hown1
end Go.Proofs.YtbfamjnnlcopiaaGreatDoor
