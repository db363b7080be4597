/- Layer 17: Body of the document. -/
import Derived.Test.YtbfamjnnlcopiaaDoorIgD
import Derived.Test.YtbfamjnnlcopiaaDoorIgG
import Derived.Test.YtbfamjnnlcopiaaDoorGtF
namespace Go.Proofs.YtbfamjnnlcopiaaDoor
open Go.RowKit
set_option linter.unusedVariables false
set_option maxRecDepth 4000

/-- A set of the document's under way, beside bytes of one's own. -/
structure Lr (w wr : World) (b g n : Nat) (f : Nat → Bool) (ao : Option Addr) (H : List Int) (co : Nat) : Prop where
  set : RefAt wr b g n f
  own : OwnsB wr w.heap.size ao H co
  low : Below w.heap.size w wr
  gg : w.heap.size ≤ g
  off : ∀ ad, ao = some ad → ad.block ≠ g
theorem ownsB_only {w w' : World} {base cap G : Nat} {a : Option Addr} {l : List Int} (h : OwnsB w base a l cap) (o : Only G w w') (hne : ∀ ad, a = some ad → ad.block ≠ G) : OwnsB w' base a l cap := by
  obtain ⟨q1, q2 | ⟨g', c', cur, r1, r2, r3, r4⟩⟩ := h
  · exact ⟨q1, .inl q2⟩
  · have e : a = some ⟨g', 0, none⟩ := by injection r1
    exact ⟨q1, .inr ⟨g', c', cur, r1, r2, by rw [o.block g' (hne _ e)]; exact r3, r4⟩⟩
theorem ownsB_lt {w : World} {base cap : Nat} {a : Option Addr} {l : List Int} (h : OwnsB w base a l cap) : ∀ ad, a = some ad → ad.block < w.heap.size := by
  intro ad e
  obtain ⟨q1, ⟨q2, _⟩ | ⟨g', c', cur, r1, r2, r3, r4⟩⟩ := h
  · injection q2 with q2; rw [q2] at e; cases e
  · injection r1 with r1
    rw [r1] at e
    cases e
    exact (Array.getElem?_eq_some_iff.1 r3).1
/-- The first numbers. -/
def headG (xs : List Int) (k : Nat) : List Int := (xs.take k).flatMap varL
theorem headG_succ (xs : List Int) (k : Nat) (h : k < xs.length) : headG xs (k + 1) = headG xs k ++ varL (xs.getD k 0) := by
  unfold headG
  rw [List.take_succ_eq_append_getElem h, List.flatMap_append]
  simp [List.getD, h]
theorem headG_le (xs : List Int) : ∀ k, k ≤ xs.length → (headG xs k).length ≤ 10 * k
  | 0, _ => by simp [headG]
  | k + 1, h => by
    rw [headG_succ xs k (by omega), List.length_append]
    have := headG_le xs k (by omega)
    have := varL_le (xs.getD k 0)
    omega

end Go.Proofs.YtbfamjnnlcopiaaDoor
