/- Plain mathematics of layer 6: classes of sizes. -/
import Derived.Test.YtbnmbkohmmiamaaDoorChecked
namespace Go.Proofs.YtbnmbkohmmiamaaDoor
set_option linter.unusedVariables false


/-- The class of an object of so many bytes. -/
def ofI (n : Int) : Int :=
  if n < 1 ∨ 4096 < n then -1 else if n ≤ 16 then 0 else if n ≤ 24 then 1 else if n ≤ 32 then 2 else if n ≤ 48 then 3
  else if n ≤ 64 then 4 else if n ≤ 96 then 5 else if n ≤ 128 then 6 else 7
/-- The pages of a span whose object has so many bytes. -/
def pagesN (n : Int) : Nat := if n < 1 ∨ 4096 < n then 0 else if n ≤ 128 then 1 else (n.toNat + 255) / 256
/-- The bytes of a slot. -/
def sizeI (c : Int) : Int :=
  if c = 0 then 16 else if c = 1 then 24 else if c = 2 then 32 else if c = 3 then 48 else if c = 4 then 64 else if c = 5 then 96 else if c = 6 then 128 else 0
/-- The slots of a span. -/
def slotsI (c : Int) : Int :=
  if c = 0 then 16 else if c = 1 then 10 else if c = 2 then 8 else if c = 3 then 5 else if c = 4 then 4 else if c = 5 then 2 else if c = 6 then 2 else if c = 7 then 1 else 0
def slotsN (c : Nat) : Nat := ([16, 10, 8, 5, 4, 2, 2] : List Nat).getD c 1
def sizeN (c : Nat) : Nat := ([16, 24, 32, 48, 64, 96, 128] : List Nat).getD c 0
def ceilN (n s : Nat) : Nat := (n + s - 1) / s
theorem ofI_range (n : Int) : -1 ≤ ofI n ∧ ofI n ≤ 7 := by unfold ofI; repeat' split <;> omega
theorem ofI_cases (n : Int) : (n < 1 ∨ 4096 < n) ∧ ofI n = -1 ∨ 1 ≤ n ∧ n ≤ 16 ∧ ofI n = 0 ∨ 17 ≤ n ∧ n ≤ 24 ∧ ofI n = 1 ∨ 25 ≤ n ∧ n ≤ 32 ∧ ofI n = 2 ∨ 33 ≤ n ∧ n ≤ 48 ∧ ofI n = 3 ∨ 49 ≤ n ∧ n ≤ 64 ∧ ofI n = 4 ∨ 65 ≤ n ∧ n ≤ 96 ∧ ofI n = 5 ∨ 97 ≤ n ∧ n ≤ 128 ∧ ofI n = 6 ∨ 129 ≤ n ∧ n ≤ 4096 ∧ ofI n = 7 := by
  unfold ofI; repeat' split <;> omega
theorem pagesN_none {n : Int} (h : ofI n = -1) : pagesN n = 0 := by
  unfold pagesN; have := ofI_cases n; rw [if_pos (by omega)]
theorem pagesN_small {n : Int} (h0 : 0 ≤ ofI n) (h : ofI n ≤ 6) : pagesN n = 1 := by
  unfold pagesN; have := ofI_cases n; rw [if_neg (by omega), if_pos (by omega)]
theorem pagesN_large {n : Int} (h : ofI n = 7) : pagesN n = (n.toNat + 255) / 256 ∧ 129 ≤ n ∧ n ≤ 4096 := by
  unfold pagesN; have := ofI_cases n; rw [if_neg (by omega), if_neg (by omega)]; exact ⟨rfl, by omega, by omega⟩
theorem pagesN_le (n : Int) : pagesN n ≤ 16 := by
  unfold pagesN
  split
  · omega
  · split <;> omega
theorem slotsN_pos (c : Nat) (h : c < 7) : 0 < slotsN c ∧ slotsN c ≤ 16 := by
  rcases h' : c with _ | _ | _ | _ | _ | _ | _ | c <;> simp [slotsN] <;> omega
end Go.Proofs.YtbnmbkohmmiamaaDoor
