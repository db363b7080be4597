/- The leaves of layer 6: the class of a size, slots, pages, as the code works them out of its table. -/
import Derived.Test.YtbfamjnnlcopiaaDoorGsA
import Derived.Test.YtbfamjnnlcopiaaDoorRows
import Derived.WalkKit
import Derived.WalkLawsBesides
import Derived.Below
import Derived.ProofKit
import Derived.OpenShut
import Derived.ChangeOld
import Derived.SizedLaws
import Derived.OwnWalk
import Derived.WalkSmall
import Derived.Laws.Bits64b
import Derived.Laws.BitsAllLaws
import Derived.Laws.AppendOwnNone
import Derived.Laws.IdiomStrings
import Derived.Laws.IdiomCopy
import Derived.Laws.CopyRow
import Derived.Laws.MakeOwn
import Derived.Deep.MidRow
import Derived.Deep.WholeRow
import Derived.Deep.OwnRows
import Derived.Deep.RegionHeld3
import Derived.RegionTactic
import Derived.ChangeAlike
import Derived.BigQuiet
namespace Go.Proofs.YtbfamjnnlcopiaaDoor
open Go.RowKit
set_option linter.unusedVariables false
set_option maxRecDepth 4000


theorem ret_int {k : IntKind} {a b : Int} (h : a = b) : Ending.returned (.int k a) = .returned (.int k b) := by rw [h]
theorem ret_bool {a b : Bool} (h : a = b) : Ending.returned (.bool a) = .returned (.bool b) := by rw [h]
/-- The table in its variable. -/
def TabC (w : World) : Prop := 0 < w.heap.size ∧ ∀ j, j < 7 → w.cell? ⟨0, j, none⟩ = some (.int .i64 (sizeN j : Nat))
theorem TabC.keep {w w' : World} (h : TabC w) (hb : Below w.heap.size w w') : TabC w' :=
  ⟨by have := hb.size; have := h.1; omega, fun j hj => by rw [hb.cell (p := ⟨0, j, none⟩) h.1]; exact h.2 j hj⟩
theorem TabC.low {w w' : World} {base : Nat} (h : TabC w) (hb : Below base w w') (h0 : 0 < base) (hs : base ≤ w.heap.size) : TabC w' :=
  ⟨by have := hb.size; have := h.1; omega, fun j hj => by rw [hb.cell (p := ⟨0, j, none⟩) h0]; exact h.2 j hj⟩
theorem isSmall_any (c : Int) (w : World) (h1 : -9223372036854775808 ≤ c) (h2 : c ≤ 9223372036854775807) :
    Calls Tryd.prog 83 #[.int .i64 c] w fun e w' => e = .returned (.bool (decide (0 ≤ c ∧ c < 7))) ∧ w = w' := by
  rcases Int.lt_or_le c 0 with h | h
  · rw [decide_eq_false (by omega)]
    go_enter Tryd.func83, Tryd.ntmps83
    go_wp2
    go_ret
    exact ⟨rfl, rfl⟩
  · rcases Int.lt_or_le c 7 with h' | h'
    · rw [decide_eq_true (by omega)]
      go_enter Tryd.func83, Tryd.ntmps83
      go_wp2
      go_ret
      exact ⟨rfl, rfl⟩
    · rw [decide_eq_false (by omega)]
      go_enter Tryd.func83, Tryd.ntmps83
      go_wp2
      go_ret
      exact ⟨ret_bool (decide_eq_false (by omega)), rfl⟩
theorem cparts_any (x y : Int) (n s : Nat) (w : World) (hx : x = n) (hy : y = s) (hn : n ≤ 1000000000) (hs : 0 < s) (hs' : s ≤ 1000000) :
    Calls Tryd.prog 95 #[.int .i64 x, .int .i64 y] w fun e w' => e = .returned (.int .i64 (ceilN n s : Nat)) ∧ w = w' := by
  subst hx hy
  have e : (((n : Int) + (s : Int) - 1).tdiv (s : Int)) = ((ceilN n s : Nat) : Int) := by
    rw [show ((n : Int) + (s : Int) - 1) = ((n + s - 1 : Nat) : Int) by omega]; rfl
  have hc : ceilN n s ≤ 1001000000 := Nat.le_trans (Nat.div_le_self _ _) (by omega)
  go_enter Tryd.func95, Tryd.ntmps95
  go_wp2
  go_ret
  exact ⟨rfl, rfl⟩
theorem cof_any (n : Int) (w : World) (hT : TabC w) :
    Calls Tryd.prog 92 #[.int .i64 n] w fun e w' => e = .returned (.int .i64 (ofI n)) ∧ w = w' := by
  have c0 : w.cell? ⟨0, 0, none⟩ = some (.int .i64 16) := hT.2 0 (by decide)
  have c1 : w.cell? ⟨0, 1, none⟩ = some (.int .i64 24) := hT.2 1 (by decide)
  have c2 : w.cell? ⟨0, 2, none⟩ = some (.int .i64 32) := hT.2 2 (by decide)
  have c3 : w.cell? ⟨0, 3, none⟩ = some (.int .i64 48) := hT.2 3 (by decide)
  have c4 : w.cell? ⟨0, 4, none⟩ = some (.int .i64 64) := hT.2 4 (by decide)
  have c5 : w.cell? ⟨0, 5, none⟩ = some (.int .i64 96) := hT.2 5 (by decide)
  have c6 : w.cell? ⟨0, 6, none⟩ = some (.int .i64 128) := hT.2 6 (by decide)
  clear hT
  rcases ofI_cases n with ⟨h1 | h1, h⟩ | ⟨h1, h2, h⟩ | ⟨h1, h2, h⟩ | ⟨h1, h2, h⟩ | ⟨h1, h2, h⟩ | ⟨h1, h2, h⟩ | ⟨h1, h2, h⟩ | ⟨h1, h2, h⟩ | ⟨h1, h2, h⟩
  all_goals
    rw [h]
    clear h
    go_enter Tryd.func92, Tryd.ntmps92
    go_wp2
    go_ret
    exact ⟨rfl, rfl⟩
theorem cslots_small (c : Nat) (w : World) (hT : TabC w) (hc : c < 7) :
    Calls Tryd.prog 74 #[.int .i64 (c : Nat)] w fun e w' => e = .returned (.int .i64 (slotsN c : Nat)) ∧ w = w' := by
  have hcell := hT.2 c hc
  have e : ((256 : Int).tdiv ((sizeN c : Nat) : Int)) = ((slotsN c : Nat) : Int) := by
    rcases c with _ | _ | _ | _ | _ | _ | _ | c <;> first | rfl | omega
  have hp : 16 ≤ sizeN c ∧ sizeN c ≤ 128 := by
    rcases c with _ | _ | _ | _ | _ | _ | _ | c <;> first | decide | omega
  have hq := slotsN_pos c hc
  have hd : decide (0 ≤ (c : Int) ∧ (c : Int) < 7) = true := decide_eq_true (by omega)
  clear hT
  go_enter Tryd.func74, Tryd.ntmps74
  go_wp2_with (go_at_call 83; refine (isSmall_any (c : Int) _ (by omega) (by omega)).mono ?_; rw [hd]; rintro e w' ⟨rfl, rfl⟩)
  go_ret
  exact ⟨rfl, rfl⟩
theorem cslots_any (c : Int) (w : World) (hT : TabC w) (h1 : -9223372036854775808 ≤ c) (h2 : c ≤ 9223372036854775807) :
    Calls Tryd.prog 74 #[.int .i64 c] w fun e w' => e = .returned (.int .i64 (slotsI c)) ∧ w = w' := by
  by_cases hs : 0 ≤ c ∧ c < 7
  · obtain ⟨k, rfl⟩ : ∃ k : Nat, c = k := ⟨c.toNat, by omega⟩
    have e : slotsI (k : Int) = ((slotsN k : Nat) : Int) := by
      have hk : k < 7 := by omega
      rcases k with _ | _ | _ | _ | _ | _ | _ | k <;> first | rfl | omega
    rw [e]
    exact cslots_small k w hT (by omega)
  · have hd : decide (0 ≤ c ∧ c < 7) = false := decide_eq_false hs
    by_cases h7 : c = 7
    · subst h7
      rw [show slotsI 7 = 1 from rfl]
      clear hs
      go_enter Tryd.func74, Tryd.ntmps74
      go_wp2_with (go_at_call 83; refine (isSmall_any 7 _ (by omega) (by omega)).mono ?_; rw [hd]; rintro e w' ⟨rfl, rfl⟩)
      go_ret
      exact ⟨rfl, rfl⟩
    · rw [show slotsI c = 0 by unfold slotsI; repeat' split <;> omega]
      have h7' : (c == 7) = false := by simp [h7]
      clear hs
      go_enter Tryd.func74, Tryd.ntmps74
      go_wp2_with (go_at_call 83; refine (isSmall_any c _ h1 h2).mono ?_; rw [hd]; rintro e w' ⟨rfl, rfl⟩)
      go_ret
      exact ⟨rfl, rfl⟩
theorem cpages_any (n : Int) (w : World) (hT : TabC w) :
    Calls Tryd.prog 93 #[.int .i64 n] w fun e w' => e = .returned (.int .i64 (pagesN n : Nat)) ∧ w = w' := by
  have HT : Hid (TabC w) := hT
  clear hT
  have hr := ofI_range n
  by_cases h1 : ofI n = -1
  · rw [pagesN_none h1]
    go_enter Tryd.func93, Tryd.ntmps93
    go_wp2_with (go_at_call 92; refine (cof_any n _ HT.out).mono ?_; rw [h1]; rintro e w' ⟨rfl, rfl⟩)
    go_ret
    exact ⟨rfl, rfl⟩
  · by_cases h7 : ofI n = 7
    · obtain ⟨E, k1, k2⟩ := pagesN_large h7
      obtain ⟨m, rfl⟩ : ∃ m : Nat, n = m := ⟨n.toNat, by omega⟩
      have E' : Hid (pagesN (m : Int) = ceilN m 256) := by show _ = _; rw [E]; simp [ceilN]
      rw [E'.out]
      clear E
      go_enter Tryd.func93, Tryd.ntmps93
      go_wp2_with (first
        | (go_at_call 92; refine (cof_any (m : Int) _ HT.out).mono ?_; rw [h7]; rintro e w' ⟨rfl, rfl⟩)
        | (go_at_call 95; refine (cparts_any _ _ m 256 _ rfl rfl (by omega) (by decide) (by decide)).mono ?_; rintro e w' ⟨rfl, rfl⟩))
      go_ret
      exact ⟨rfl, rfl⟩
    · rw [pagesN_small (by omega) (by omega)]
      obtain ⟨c, hc⟩ : ∃ c, ofI n = c := ⟨_, rfl⟩
      rw [hc] at h1 h7 hr
      have e1 : (c == -1) = false := by simp [h1]
      have e7 : (c == 7) = false := by simp [h7]
      have HC : Hid (ofI n = c) := hc
      clear hc h1 h7
      go_enter Tryd.func93, Tryd.ntmps93
      go_wp2_with (go_at_call 92; refine (cof_any n _ HT.out).mono ?_; rw [HC.out]; rintro e w' ⟨rfl, rfl⟩)
      go_ret
      exact ⟨rfl, rfl⟩

theorem csize_any (c : Int) (w : World) (hT : TabC w) (h1 : -9223372036854775808 ≤ c) (h2 : c ≤ 9223372036854775807) :
    Calls Tryd.prog 67 #[.int .i64 c] w fun e w' => e = .returned (.int .i64 (sizeI c)) ∧ w = w' := by
  by_cases hs : 0 ≤ c ∧ c < 7
  · obtain ⟨k, rfl⟩ : ∃ k : Nat, c = k := ⟨c.toNat, by omega⟩
    have hk : k < 7 := by omega
    have e : sizeI (k : Int) = ((sizeN k : Nat) : Int) := by
      rcases k with _ | _ | _ | _ | _ | _ | _ | k <;> first | rfl | omega
    have hcell := hT.2 k hk
    have hd : decide (0 ≤ (k : Int) ∧ (k : Int) < 7) = true := decide_eq_true hs
    rw [e]
    clear hT e hs
    go_enter Tryd.func67, Tryd.ntmps67
    go_wp2_with (go_at_call 83; refine (isSmall_any (k : Int) _ (by omega) (by omega)).mono ?_; rw [hd]; rintro e w' ⟨rfl, rfl⟩)
    go_ret
    exact ⟨rfl, rfl⟩
  · have hd : decide (0 ≤ c ∧ c < 7) = false := decide_eq_false hs
    rw [show sizeI c = 0 by unfold sizeI; repeat' split <;> omega]
    clear hs
    go_enter Tryd.func67, Tryd.ntmps67
    go_wp2_with (go_at_call 83; refine (isSmall_any c _ h1 h2).mono ?_; rw [hd]; rintro e w' ⟨rfl, rfl⟩)
    go_ret
    exact ⟨rfl, rfl⟩
end Go.Proofs.YtbfamjnnlcopiaaDoor
