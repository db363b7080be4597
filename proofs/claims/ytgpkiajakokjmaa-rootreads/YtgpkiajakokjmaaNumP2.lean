/- Plain mathematics of layer 1, going on: what is read of digits. -/
import Derived.Test.YtgpkiajakokjmaaNumP
namespace Go.Proofs.Ytgpkiajakokjmaa
open Go.RowKit

theorem rdF_facts : ∀ (l : List Int) (i : Nat) (acc : Int), (∀ x ∈ l, 0 ≤ x ∧ x ≤ 255) → i ≤ 9 → 0 ≤ acc → acc < 2 ^ (7 * i) →
    ((rdF i acc l).2.2 = 0 ∧ 0 ≤ (rdF i acc l).1 ∧ (rdF i acc l).1 ≤ 18446744073709551615 ∧ i + 1 ≤ (rdF i acc l).2.1 ∧ (rdF i acc l).2.1 ≤ i + l.length) ∨
    (((rdF i acc l).2.2 = 3 ∨ (rdF i acc l).2.2 = 4) ∧ (rdF i acc l).1 = 0 ∧ (rdF i acc l).2.1 = 0)
  | [], i, acc, _, _, _, _ => .inr ⟨.inl rfl, rfl, rfl⟩
  | c :: l, i, acc, hb, hi, h0, h1 => by
    have hc := hb c List.mem_cons_self
    rw [rdF]
    by_cases g1 : i = 9 ∧ 1 < c
    · rw [if_pos g1]; exact .inr ⟨.inr rfl, rfl, rfl⟩
    rw [if_neg g1]
    by_cases g2 : 0 < i ∧ c = 0
    · rw [if_pos g2]; exact .inr ⟨.inr rfl, rfl, rfl⟩
    rw [if_neg g2]
    by_cases g3 : c < 128
    · rw [if_pos g3]
      have D := dig_or i acc (c % 128) h0 h1 (by omega) (by omega)
      refine .inl ⟨rfl, D.2.1, ?_, Nat.le_refl _, ?_⟩
      · have := D.2.2; dsimp only; omega
      · simp
    · rw [if_neg g3]
      have D := dig_or i acc (c % 128) h0 h1 (by omega) (by omega)
      have := rdF_facts l (i + 1) (acc + c % 128 * 2 ^ (7 * i)) (fun x hx => hb x (List.mem_cons_of_mem _ hx)) (by omega) D.2.1 (dig_bd i acc _ h1 (by omega))
      rcases this with ⟨a, b, c, d, e⟩ | h
      · exact .inl ⟨a, b, c, by omega, by simp only [List.length_cons]; omega⟩
      · exact .inr h

theorem rdL_facts (l : List Int) (hb : ∀ x ∈ l, 0 ≤ x ∧ x ≤ 255) :
    ((rdL l).2.2 = 0 ∧ 0 ≤ (rdL l).1 ∧ (rdL l).1 ≤ 18446744073709551615 ∧ 1 ≤ (rdL l).2.1 ∧ (rdL l).2.1 ≤ l.length) ∨
    (((rdL l).2.2 = 3 ∨ (rdL l).2.2 = 4) ∧ (rdL l).1 = 0 ∧ (rdL l).2.1 = 0) := by
  have := rdF_facts l 0 0 hb (by omega) (by omega) (by decide)
  simpa [rdL] using this

/-- What Upto answers, what is left behind it, and the fault. -/
def upS (l : List Int) (e most : Int) : Int × List Int × Int :=
  if e = 0 then
    if (rdL l).2.2 = 0 then
      if (rdL l).1 ≤ most then ((rdL l).1, l.drop (rdL l).2.1, 0) else (0, l, 4)
    else (0, l, (rdL l).2.2)
  else (0, l, e)
end Go.Proofs.Ytgpkiajakokjmaa
