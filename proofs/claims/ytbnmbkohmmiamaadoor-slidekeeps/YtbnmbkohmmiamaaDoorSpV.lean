/- What the laws share: lists of slots that are compared. -/
import Derived.Test.YtbnmbkohmmiamaaDoorSpU
namespace Go.Proofs.YtbnmbkohmmiamaaDoor
open Go.RowKit
set_option linter.unusedVariables false

theorem ls_all (f : Nat → Bool) (n : Nat) (hn : n ≤ 65536) : ∀ x ∈ lsL f n, -9223372036854775808 ≤ x ∧ x ≤ 9223372036854775807 := by
  intro x hx
  obtain ⟨i, rfl, hi, _⟩ := lsL_mem f x n hx
  omega
theorem ls_short (f : Nat → Bool) (n : Nat) (hn : n ≤ 65536) : (lsL f n).length ≤ maxLen := by
  rw [lsL_len]; have := cnt_le f n; unfold maxLen; omega

/-- Same of what Data and the document's Data answer. -/
theorem same_own (p c s : Int) (a a' : Option Addr) (k k' B B' : Nat) (l : List Int) (w w' : World) (hl : ∀ x ∈ l, -9223372036854775808 ≤ x ∧ x ≤ 9223372036854775807) (hm : l.length ≤ maxLen) (h : OwnsI w B a l k) (h' : OwnsI w' B' a' l k') (hb : Below w.heap.size w w') :
    Calls Tryd.prog 31 #[.agg #[.int .i64 p, .int .i64 c, .int .i64 s, .slice a l.length k], .agg #[.int .i64 p, .int .i64 c, .int .i64 s, .slice a' l.length k']] w' fun e w2 => e = .returned (.bool true) ∧ Below w'.heap.size w' w2 :=
  same_true p c s a a' _ _ k k' l w' ((ownsI_isI hl h).keep hb) (ownsI_isI hl h') rfl rfl hm

end Go.Proofs.YtbnmbkohmmiamaaDoor
