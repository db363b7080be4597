/- Plain mathematics of layer 1: digits that are read are those that are written, and the other way round. -/
import Derived.Test.YtgpkiajakokjmaaNumP2
namespace Go.Proofs.Ytgpkiajakokjmaa
open Go.RowKit

theorem rdF_var : ∀ (l : List Int) (i : Nat) (acc n : Int) (sz : Nat), (∀ x ∈ l, 0 ≤ x ∧ x ≤ 255) → i ≤ 9 → rdF i acc l = (n, sz, 0) →
    ∃ m, 0 ≤ m ∧ (0 < i → 1 ≤ m) ∧ n = acc + m * 2 ^ (7 * i) ∧ l.take (sz - i) = digs (9 - i) m ∧ i + 1 ≤ sz
  | [], i, acc, n, sz, _, _, h => by simp [rdF] at h
  | c :: l, i, acc, n, sz, hb, hi, h => by
    have hc := hb c List.mem_cons_self
    rw [rdF] at h
    by_cases g1 : i = 9 ∧ 1 < c
    · rw [if_pos g1] at h; simp at h
    rw [if_neg g1] at h
    by_cases g2 : 0 < i ∧ c = 0
    · rw [if_pos g2] at h; simp at h
    rw [if_neg g2] at h
    by_cases g3 : c < 128
    · rw [if_pos g3] at h
      simp only [Prod.mk.injEq] at h
      obtain ⟨h1, h2, _⟩ := h
      refine ⟨c, hc.1, by omega, ?_, ?_, by omega⟩
      · rw [← h1, show c % 128 = c from by omega]
      · rw [digs_last _ _ g3, show sz - i = 1 from by omega]
        rfl
    · rw [if_neg g3] at h
      obtain ⟨m, m0, m1, hn, ht, hs⟩ := rdF_var l (i + 1) _ n sz (fun x hx => hb x (List.mem_cons_of_mem _ hx)) (by omega) h
      have m1' := m1 (by omega)
      refine ⟨c % 128 + 128 * m, by omega, by omega, ?_, ?_, by omega⟩
      · rw [hn, pow7_step, Int.add_mul, Int.add_assoc, Int.mul_left_comm, Int.mul_assoc]
      · rw [show 9 - i = (9 - (i + 1)) + 1 from by omega, digs, if_neg (by omega), show sz - i = (sz - (i + 1)) + 1 from by omega, List.take_succ_cons, ht,
          show (c % 128 + 128 * m) % 128 + 128 = c from by omega, show (c % 128 + 128 * m) / 128 = m from by omega]

theorem rdL_var (l : List Int) (n : Int) (sz : Nat) (hb : ∀ x ∈ l, 0 ≤ x ∧ x ≤ 255) (h : rdL l = (n, sz, 0)) : l.take sz = varL n := by
  obtain ⟨m, _, _, hn, ht, _⟩ := rdF_var l 0 0 n sz hb (by omega) h
  have : n = m := by simpa using hn
  rw [this]
  simpa [varL] using ht

theorem rdF_digs : ∀ (f i : Nat) (acc m : Int) (rest : List Int), f + i = 9 → 0 ≤ acc → 0 ≤ m → (0 < i → 1 ≤ m) → acc + m * 2 ^ (7 * i) < 18446744073709551616 →
    rdF i acc (digs f m ++ rest) = (acc + m * 2 ^ (7 * i), i + (digs f m).length, 0)
  | 0, i, acc, m, rest, hf, h0, hm, h1, hlt => by
    obtain rfl : i = 9 := by omega
    have h9' : (2 : Int) ^ (7 * 9) = 9223372036854775808 := by decide
    have hm1 : m ≤ 1 := by rw [h9'] at hlt; omega
    have := h1 (by omega)
    rw [digs, List.cons_append, rdF, if_neg (by omega), if_neg (by omega), if_pos (by omega), show m % 128 = m from by omega]
    rfl
  | f + 1, i, acc, m, rest, hf, h0, hm, h1, hlt => by
    rw [digs]
    by_cases g : m < 128
    · rw [if_pos g, List.cons_append, rdF, if_neg (by omega), if_neg (by omega), if_pos g, show m % 128 = m from by omega]
      rfl
    · rw [if_neg g, List.cons_append, rdF, if_neg (by omega), if_neg (by omega), if_neg (by omega)]
      have e : acc + (m % 128 + 128) % 128 * 2 ^ (7 * i) + m / 128 * 2 ^ (7 * (i + 1)) = acc + m * 2 ^ (7 * i) := by
        rw [pow7_step, ← Int.mul_assoc, Int.add_assoc, ← Int.add_mul, show (m % 128 + 128) % 128 + m / 128 * 128 = m from by omega]
      have hp : (0 : Int) ≤ 2 ^ (7 * i) := Int.le_of_lt (Int.pow_pos (by decide))
      rw [rdF_digs f (i + 1) _ (m / 128) rest (by omega) (by have := Int.mul_nonneg (show (0 : Int) ≤ (m % 128 + 128) % 128 by omega) hp; omega) (by omega) (by omega) (by rw [e]; exact hlt), e]
      simp only [List.length_cons, Prod.mk.injEq, true_and, and_true]
      omega

theorem rdL_digs (n : Int) (rest : List Int) (h0 : 0 ≤ n) (h1 : n ≤ 18446744073709551615) : rdL (varL n ++ rest) = (n, (varL n).length, 0) := by
  have := rdF_digs 9 0 0 n rest (by omega) (by omega) h0 (by omega) (by simp; omega)
  simpa [rdL, varL] using this
end Go.Proofs.Ytgpkiajakokjmaa
