/- What the laws of layer 8 share: a good base by a number. -/
import Derived.Test.YtjejholognpbaaaArG
import Derived.Test.YtjejholognpbaaaArH
namespace Go.Proofs.Ytjejholognpbaaa
open Go.RowKit
set_option linter.unusedVariables false

/-- The base of a number. -/
def baseN (n : Nat) : Int := 256 + (n : Int) * 256
theorem baseN_good {n : Nat} (h : n < 4294967296) : goodR (baseN n) := by unfold goodR baseN; omega
theorem baseN_fits {n : Nat} (h : n < 4294967296) : 256 ≤ baseN n ∧ baseN n ≤ 1099511627776 := by unfold baseN; omega
theorem lbase_any (n : Nat) (w : World) (h : n < 4294967296) :
    Calls Try.prog 11 #[.int .u32 (n : Nat)] w fun e w' => e = .returned (.int .i64 (baseN n)) ∧ w = w' := by
  unfold baseN
  go_enter Try.func11, Try.ntmps11
  go_wp2
  go_ret
  exact ⟨rfl, rfl⟩
/-- The remainder, with the number's sign, is small. -/
theorem tmod_bd (x : Int) (k : Int) (hk : 0 < k) : -k < x.tmod k ∧ x.tmod k < k := by
  have h1 := Int.tmod_lt_of_pos x hk
  have h2 : -k < x.tmod k := by
    have := Int.tmod_lt_of_pos (-x) hk
    rw [Int.neg_tmod] at this
    omega
  exact ⟨h2, h1⟩
end Go.Proofs.Ytjejholognpbaaa
