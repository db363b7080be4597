/- CnA: out of FrA. -/
import Derived.Test.YtofmicbhheebiaaDkR
import Derived.Test.YtofmicbhheebiaaCnP
import Derived.WalkKit
import Derived.WalkLawsBesides
import Derived.Below
set_option linter.unusedVariables false
set_option maxRecDepth 4000
set_option maxRecDepth 4000
namespace Go.Proofs.Ytofmicbhheebiaa
open Go.RowKit

theorem within_any (n : Int) (w : World) :
    Calls Try.prog 31 #[.int .i64 n] w fun e w' => e = .returned (.int .i64 (clampW n)) ∧ w = w' := by
  go_enter Try.func31, Try.ntmps31
  go_wp2
  all_goals (go_ret; refine ⟨congrArg Ending.returned (congrArg (Value.int IntKind.i64) ?_), rfl⟩; unfold clampW; split <;> (try split) <;> omega)

theorem get_any (a : Option Addr) (cap : Nat) (l : List Int) (w : World) (h : IsB w a l) (hm : l.length ≤ maxLen) :
    Calls Try.prog 36 #[.slice a l.length cap] w fun e w' => e = .returned (.int .u64 (getL (l.take 8))) ∧ w = w' := by
  obtain ⟨hb, rfl | ⟨b, off, rfl, hsz, hc⟩⟩ := h
  · go_enter Try.func36, Try.ntmps36
    go_wp2
    refine wp_loop_rounds 1 ?_
    rw [rounds_succ]
    go_wp2
    go_ret
    exact ⟨rfl, rfl⟩
  · unfold maxLen at hm
    go_enter Try.func36, Try.ntmps36
    go_wp2
    all_goals
      go_loop [3, 8] (fun n i => ∃ k : Nat, k ≤ 8 ∧ k ≤ l.length ∧ i = .int .i64 k ∧ n = .int .u64 (getL (l.take k))) (fun _ i => 8 - (intOf i).toNat)
      case atStart => exact ⟨0, Nat.zero_le _, Nat.zero_le _, rfl, rfl⟩
      case round =>
        obtain ⟨k, hk8, hkl, rfl, rfl⟩ := hrel
        by_cases hlt : k < 8 ∧ k < l.length
        · obtain ⟨h8, hl⟩ := hlt
          have hcell := hc k hl
          have HG : Hid (bits BinOp.or IntKind.u64 (getL (l.take k)) (IntKind.u64.wrap (IntKind.u64.wrap l[k] * 2 ^ (8 * k))) = getL (l.take (k + 1))) := get_step l k hb h8 hl
          go_wp2
          go_round
          case rel => exact ⟨k + 1, by omega, by omega, by go_num, by rw [HG.out]⟩
          case measure => simp [intOf]; omega
        · have e8 : l.take 8 = l.take k := take_same l k hk8 hkl hlt
          have E8 : Hid (l.take 8 = l.take k) := e8
          clear e8
          go_wp2
          go_ret
          exact ⟨ret_int (by rw [E8.out]), rfl⟩
theorem IsB.drewN {w : World} {a : Option Addr} {l : List Int} (h : IsB w a l) (m : Nat) : IsB (w.drewN m) a l := h

theorem IsB.at {w : World} {b off : Nat} {l : List Int} (h : IsB w (some ⟨b, off, none⟩) l) (i : Nat) (hi : i < l.length) : w.cell? ⟨b, off + i, none⟩ = some (.int .u8 (l.getD i 0)) := by
  obtain ⟨_, rfl | ⟨b', off', e, hs, hc⟩⟩ := h
  · simp at hi
  · cases e
    exact hc i hi

/-- Get, its length and what it answers told apart. -/
theorem get_of (a : Option Addr) (cap n : Nat) (l : List Int) (v : Int) (w : World) (hn : n = l.length) (hv : getL (l.take 8) = v) (h : IsB w a l) (hm : l.length ≤ maxLen) :
    Calls Try.prog 36 #[.slice a n cap] w fun e w' => e = .returned (.int .u64 v) ∧ w = w' := by
  subst hn hv; exact get_any a cap l w h hm
end Go.Proofs.Ytofmicbhheebiaa
