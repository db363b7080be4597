/- How many moves there are at most, class by class; what is taken lies within the slots. -/
import Derived.Test.YtbnmbkohmmiamaaDoorLcB
import Derived.Test.YtbnmbkohmmiamaaDoorSlT
namespace Go.Proofs.YtbnmbkohmmiamaaDoor
open Go.RowKit
set_option linter.unusedVariables false

/-- The spans of the first c classes among the first n. -/
def ownS (m : List Sn) (n : Nat) : Nat → Nat
  | 0 => 0
  | c + 1 => ownS m n c + (ownU c m n).length
theorem ownS_zero (m : List Sn) : ∀ c, ownS m 0 c = 0
  | 0 => rfl
  | c + 1 => by rw [ownS, ownS_zero m c]; rfl
theorem ownS_succ (m : List Sn) (n : Nat) : ∀ c, ownS m (n + 1) c = ownS m n c + if (sn m n).cl < c then 1 else 0
  | 0 => by simp [ownS]
  | c + 1 => by
    rw [ownS, ownS, ownS_succ m n c, ownU, List.length_append]
    by_cases e : (sn m n).cl = c
    · rw [if_pos e, if_neg (by omega), if_pos (by omega)]; simp; omega
    · rw [if_neg e]
      by_cases e2 : (sn m n).cl < c
      · rw [if_pos e2, if_pos (by omega)]; simp; omega
      · rw [if_neg e2, if_neg (by omega)]; simp
theorem ownS_le (m : List Sn) (c : Nat) : ∀ n, ownS m n c ≤ n
  | 0 => by rw [ownS_zero]; exact Nat.le_refl _
  | n + 1 => by
    rw [ownS_succ]
    have := ownS_le m c n
    split <;> omega
theorem gath_len {m : List Sn} (c : Nat) (hc : c ≤ 7) (F : Nat → Nat → Bool) : (gathV c m F).length ≤ 16 * (ownL c m).length := by
  have h2 := mv1_len m (ownL c m) (fromL c m F) (clSl c) (clZ c) (fromL c m F).length
  have h3 := from_len (c := c) (m := m) F
  have h5 := (clSl_pos c hc).2
  have h6 : (ownL c m).length * clSl c ≤ (ownL c m).length * 16 := Nat.mul_le_mul_left _ h5
  unfold gathV
  omega
theorem cls_len2 {m : List Sn} (F : Nat → Nat → Bool) : ∀ c, c ≤ 7 → (clsV m F c).length ≤ 16 * ownS m m.length c
  | 0, _ => by simp [clsV]
  | c + 1, hc => by
    have ih := cls_len2 (m := m) F c (by omega)
    have := gath_len (m := m) c (by omega) (clsF m F c)
    rw [clsV, List.length_append, ownS]
    unfold ownL at this
    omega
theorem cls_room {m : List Sn} (F : Nat → Nat → Bool) (c : Nat) (hc : c < 7) (hm : m.length ≤ 4096) : (clsV m F c).length + (ownL c m).length * 16 < 100000 := by
  have h1 := cls_len2 (m := m) F c (by omega)
  have h2 := ownS_le m (c + 1) m.length
  rw [ownS] at h2
  unfold ownL
  omega
theorem cls_room7 {m : List Sn} (F : Nat → Nat → Bool) (hm : m.length ≤ 4096) : (clsV m F 7).length + m.length < 100000 := by
  have h1 := cls_len2 (m := m) F 7 (by omega)
  have h2 := ownS_le m 7 m.length
  omega
theorem cls_in {m : List Sn} {F : Nat → Nat → Bool} (hI : InF m F) : ∀ c, c ≤ 7 → InF m (clsF m F c) := fun c hc i hi x hx => by
  by_cases e : c ≤ (sn m i).cl
  · rw [cls_else hi c hc e] at hx
    exact hI i hi x hx
  · obtain ⟨r, hr, e1⟩ := own_has hi (rfl : (sn m i).cl = (sn m i).cl)
    have := cls_at (F := F) (m := m) (c := (sn m i).cl) (by omega) r hr c (by omega) hc
    rw [e1] at this
    rw [this] at hx
    rw [clSl_eq (rfl : (sn m i).cl = (sn m i).cl)]
    exact (of_decide_eq_true hx).1
end Go.Proofs.YtbnmbkohmmiamaaDoor
