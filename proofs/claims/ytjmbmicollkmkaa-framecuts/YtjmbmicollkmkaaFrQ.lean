/- Plain mathematics of cutting: what is left behind so many frames, where cutting ends, and that it ends at one place alone. -/
import Derived.Test.YtjmbmicollkmkaaFrK
import Derived.Test.YtjmbmicollkmkaaFrM
namespace Go.Proofs.Ytjmbmicollkmkaa
open Go.RowKit
set_option linter.unusedVariables false

/-- What is left behind n frames. -/
def restAt : Nat → List Int → List Int
  | 0, b => b
  | n + 1, b => restAt n (b.drop (extL b))

theorem restAt_succ : ∀ (n : Nat) (b : List Int), restAt (n + 1) b = (restAt n b).drop (extL (restAt n b))
  | 0, _ => rfl
  | n + 1, b => by rw [restAt, restAt_succ n, restAt]

/-- The first n are frames. -/
def Good (n : Nat) (b : List Int) : Prop := ∀ i, i < n → restAt i b ≠ [] ∧ wrongL (restAt i b) false = 0

theorem good_zero (b : List Int) : Good 0 b := fun i h => absurd h (Nat.not_lt_zero _)
theorem Good.next {n : Nat} {b : List Int} (h : Good n b) (h1 : restAt n b ≠ []) (h2 : wrongL (restAt n b) false = 0) : Good (n + 1) b := by
  intro i hi
  rcases Nat.lt_or_eq_of_le (Nat.le_of_lt_succ hi) with h' | rfl
  · exact h i h'
  · exact ⟨h1, h2⟩

/-- Cutting ends behind n frames, with this answer. -/
def Ends (n : Nat) (b : List Int) (r : Int) : Prop := Good n b ∧ ((restAt n b = [] ∧ r = 0) ∨ (restAt n b ≠ [] ∧ wrongL (restAt n b) false = r ∧ r ≠ 0))

theorem Ends.unique {n m : Nat} {b : List Int} {r s : Int} (h : Ends n b r) (k : Ends m b s) : n = m ∧ r = s := by
  have lt : ∀ {n m : Nat} {r s : Int}, Ends n b r → Ends m b s → ¬ n < m := by
    intro n m r s h k hlt
    obtain ⟨h1, h2⟩ := k.1 n hlt
    rcases h.2 with ⟨e, _⟩ | ⟨_, e, e0⟩
    · exact h1 e
    · rw [h2] at e; exact e0 e.symm
  have : n = m := by
    have := lt h k
    have := lt k h
    omega
  subst this
  refine ⟨rfl, ?_⟩
  rcases h.2 with ⟨e, e1⟩ | ⟨e, e1, _⟩ <;> rcases k.2 with ⟨f, f1⟩ | ⟨f, f1, _⟩
  · rw [e1, f1]
  · exact absurd e f
  · exact absurd f e
  · rw [← e1, ← f1]

theorem restAt_len {n : Nat} {b : List Int} (h : restAt n b ≠ []) (h0 : wrongL (restAt n b) false = 0) : (restAt (n + 1) b).length < (restAt n b).length := by
  have h1 := extL_ge (restAt n b)
  have h2 := wrong_ext h0
  rw [restAt_succ, List.length_drop]
  omega

theorem good_len : ∀ (n : Nat) (b : List Int), Good n b → n + (restAt n b).length ≤ b.length
  | 0, b, _ => by simp [restAt]
  | n + 1, b, h => by
    have := good_len n b (fun i hi => h i (by omega))
    obtain ⟨h1, h2⟩ := h n (by omega)
    have := restAt_len h1 h2
    omega

theorem restAt_allB : ∀ (n : Nat) (b : List Int), AllB b → AllB (restAt n b)
  | 0, _, h => h
  | n + 1, b, h => by rw [restAt]; exact restAt_allB n _ (h.drop _)

theorem restAt_all : ∀ (fs : List Fr) (i : Nat), i ≤ fs.length → (∀ f ∈ fs, 1 ≤ f.k ∧ f.k ≤ 255 ∧ f.b.length ≤ 65535) → restAt i (allB fs) = allB (fs.drop i)
  | fs, 0, _, _ => by simp [restAt]
  | [], i + 1, h, _ => by simp at h
  | f :: l, i + 1, h, hf => by
    have h0 := hf f (by simp)
    rw [restAt, allB, frL_ext _ _ _ h0.2.2, frL_rest, List.drop_succ_cons]
    exact restAt_all l i (by simpa using h) (fun g hg => hf g (by simp [hg]))

/-- Frames one behind the other are cut into themselves. -/
theorem ends_all {fs : List Fr} (hf : ∀ f ∈ fs, 1 ≤ f.k ∧ f.k ≤ 255 ∧ f.b.length ≤ 65535) (hb : ∀ f ∈ fs, AllB f.b) : Ends fs.length (allB fs) 0 := by
  refine ⟨fun i hi => ?_, .inl ⟨by rw [restAt_all fs _ (Nat.le_refl _) hf]; simp [allB], rfl⟩⟩
  rw [restAt_all fs i (by omega) hf, List.drop_eq_getElem_cons hi, allB]
  have h0 := hf fs[i] (List.getElem_mem hi)
  refine ⟨?_, frL_right _ _ _ false h0.1 h0.2.1 (hb _ (List.getElem_mem hi)) h0.2.2 (.inl rfl)⟩
  intro e
  have := congrArg List.length e
  simp [frL_len] at this

/-- Frames that are what cutting gives, as far as they go. -/
def Cuts (b : List Int) (fs : List Fr) : Prop := ∀ i (h : i < fs.length), fs[i].k = (restAt i b).getD 0 0 ∧ fs[i].b = bodyL (restAt i b)

theorem Cuts.next {b : List Int} {fs : List Fr} {f : Fr} (h : Cuts b fs) (hk : f.k = (restAt fs.length b).getD 0 0) (hb : f.b = bodyL (restAt fs.length b)) : Cuts b (fs ++ [f]) := by
  intro i hi
  rw [List.length_append] at hi
  simp only [List.length_cons, List.length_nil] at hi
  rcases Nat.lt_or_eq_of_le (Nat.le_of_lt_succ hi) with h' | rfl
  · rw [List.getElem_append_left h']; exact h i h'
  · rw [List.getElem_append_right (Nat.le_refl _)]; simpa using ⟨hk, hb⟩
end Go.Proofs.Ytjmbmicollkmkaa
