/- The document's own answers of layer 6: Size, Of, Slots, Pages. -/
import Derived.Test.YtbfamjnnlcopiaaGreatDoorGzAB
namespace Go.Proofs.YtbfamjnnlcopiaaGreatDoor
open Go.RowKit
set_option linter.unusedVariables false
set_option maxRecDepth 4000

/-- Seven counts as the cells of an array. -/
def cells7 (f : Nat → Nat) : Array Value := #[.int .i64 (f 0 : Nat), .int .i64 (f 1 : Nat), .int .i64 (f 2 : Nat), .int .i64 (f 3 : Nat), .int .i64 (f 4 : Nat), .int .i64 (f 5 : Nat), .int .i64 (f 6 : Nat)]
theorem cells7_at (f : Nat → Nat) (k : Nat) (h : k < 7) : (cells7 f)[k]? = some (.int .i64 (f k : Nat)) := by
  rcases k with _ | _ | _ | _ | _ | _ | _ | k <;> first | rfl | omega
theorem index_arr (f : Nat → Nat) (k : Nat) (hk : k < 7) (w : World) :
    (Instr.index 133 (.agg (cells7 f)) (.int .i64 (k : Nat))).run Tryz.prog w = .ok (.int .i64 ((f k : Nat) : Int)) w := by
  have e := cells7_at f k hk
  simp [Instr.index, asIntOf, Sem.run_bind, run_underlying Tryz.underlying133, hk, Tryz.sizeOf3, part, Tryz.isAgg3, e]


theorem seven (c : Nat) (h : c < 7) : c = 0 ∨ c = 1 ∨ c = 2 ∨ c = 3 ∨ c = 4 ∨ c = 5 ∨ c = 6 := by omega
theorem qindex (c : Nat) (h : c < 7) (w : World) :
    (Instr.index 133 (.agg #[.int .i64 16, .int .i64 24, .int .i64 32, .int .i64 48, .int .i64 64, .int .i64 96, .int .i64 128]) (.int .i64 (c : Nat))).run Tryz.prog w = .ok (.int .i64 ((sizeN c : Nat) : Int)) w := index_arr sizeN c h w
theorem qsize_small (c : Nat) (w : World) (h : c < 7) :
    Calls Tryz.prog 60 #[.int .i64 (c : Nat)] w fun e w' => e = .returned (.int .i64 (sizeN c : Nat)) ∧ w = w' := by
  have hidx := qindex c h
  go_enter Tryz.func60, Tryz.ntmps60
  go_wp2
  go_ret
  exact ⟨rfl, rfl⟩
theorem qsize_any (c : Int) (w : World) :
    Calls Tryz.prog 60 #[.int .i64 c] w fun e w' => e = .returned (.int .i64 (sizeI c)) ∧ w = w' := by
  by_cases hs : 0 ≤ c ∧ c < 7
  · obtain ⟨k, rfl⟩ : ∃ k : Nat, c = k := ⟨c.toNat, by omega⟩
    have hk : k < 7 := by omega
    have e : sizeI (k : Int) = ((sizeN k : Nat) : Int) := by
      rcases k with _ | _ | _ | _ | _ | _ | _ | k <;> first | rfl | omega
    rw [e]
    exact qsize_small k w hk
  · rw [show sizeI c = 0 by unfold sizeI; repeat' split <;> omega]
    rcases (by omega : c < 0 ∨ 6 < c) with h | h
    all_goals
      clear hs
      go_enter Tryz.func60, Tryz.ntmps60
      go_wp2
      go_ret
      exact ⟨rfl, rfl⟩
theorem sizeN_le (c : Nat) : sizeN c ≤ 128 := by
  rcases c with _ | _ | _ | _ | _ | _ | _ | c <;> simp [sizeN]
theorem of_found (n : Nat) (c : Nat) (h1 : 1 ≤ n) (h2 : n ≤ 4096) (hc : c < 7) (hb : ∀ j, j < c → sizeN j < n) (hn : n ≤ sizeN c) : ofI n = c := by
  have s0 : sizeN 0 = 16 := rfl
  have s1 : sizeN 1 = 24 := rfl
  have s2 : sizeN 2 = 32 := rfl
  have s3 : sizeN 3 = 48 := rfl
  have s4 : sizeN 4 = 64 := rfl
  have s5 : sizeN 5 = 96 := rfl
  have s6 : sizeN 6 = 128 := rfl
  have := ofI_cases n
  rcases seven c hc with rfl | rfl | rfl | rfl | rfl | rfl | rfl
  · omega
  · have := hb 0 (by decide); omega
  · have := hb 1 (by decide); omega
  · have := hb 2 (by decide); omega
  · have := hb 3 (by decide); omega
  · have := hb 4 (by decide); omega
  · have := hb 5 (by decide); omega
theorem of_past (n : Nat) (h1 : 1 ≤ n) (h2 : n ≤ 4096) (hb : ∀ j, j < 7 → sizeN j < n) : ofI n = 7 := by
  have := hb 6 (by decide)
  rw [show sizeN 6 = 128 from rfl] at this
  have := ofI_cases n
  omega
theorem qof_any (n : Int) (w : World) :
    Calls Tryz.prog 92 #[.int .i64 n] w fun e w' => e = .returned (.int .i64 (ofI n)) ∧ w = w' := by
  by_cases hb : n < 1 ∨ 4096 < n
  · rw [show ofI n = -1 by have := ofI_cases n; omega]
    rcases hb with h | h
    all_goals
      go_enter Tryz.func92, Tryz.ntmps92
      go_wp2
      go_ret
      exact ⟨rfl, rfl⟩
  · obtain ⟨m, rfl⟩ : ∃ m : Nat, n = m := ⟨n.toNat, by omega⟩
    have h1 : 1 ≤ m := by omega
    have h2 : m ≤ 4096 := by omega
    obtain ⟨r, hr⟩ : ∃ r, ofI (m : Int) = r := ⟨_, rfl⟩
    have HR : Hid (ofI (m : Int) = r) := hr
    rw [hr]
    clear hb hr
    go_enter Tryz.func92, Tryz.ntmps92
    go_wp2
    go_loop [3] (fun iv => ∃ c : Nat, c ≤ 7 ∧ iv = .int .i64 (c : Nat) ∧ ∀ j, j < c → sizeN j < m) (fun iv => 7 - (intOf iv).toNat)
    case atStart => exact ⟨0, Nat.zero_le _, rfl, by simp⟩
    case round =>
      obtain ⟨c, hc, rfl, hrel⟩ := hrel
      have R : Hid (∀ j, j < c → sizeN j < m) := hrel
      have hle := sizeN_le c
      clear hrel
      by_cases h7 : c < 7
      · by_cases hf : m ≤ sizeN c
        · have E : Hid (r = (c : Int)) := by rw [← HR.out]; exact of_found m c h1 h2 h7 R.out hf
          go_wp2_with (go_at_call 60; refine (qsize_small c _ h7).mono ?_; rintro e w' ⟨rfl, rfl⟩)
          go_ret
          exact ⟨ret_int E.out.symm, rfl⟩
        · go_wp2_with (go_at_call 60; refine (qsize_small c _ h7).mono ?_; rintro e w' ⟨rfl, rfl⟩)
          go_round
          case rel =>
            refine ⟨c + 1, by omega, by go_num, fun j hj => ?_⟩
            rcases Nat.lt_or_ge j c with h | h
            · exact R.out j h
            · obtain rfl : j = c := by omega
              omega
          case measure => simp [intOf]; omega
      · obtain rfl : c = 7 := by omega
        have E : Hid (r = 7) := by rw [← HR.out]; exact of_past m h1 h2 R.out
        go_wp2
        go_ret
        exact ⟨ret_int E.out.symm, rfl⟩
theorem qslots_small (c : Nat) (w : World) (h : c < 7) :
    Calls Tryz.prog 93 #[.int .i64 (c : Nat)] w fun e w' => e = .returned (.int .i64 (slotsN c : Nat)) ∧ w = w' := by
  have e : ((256 : Int).tdiv ((sizeN c : Nat) : Int)) = ((slotsN c : Nat) : Int) := by
    rcases c with _ | _ | _ | _ | _ | _ | _ | c <;> first | rfl | omega
  have hp : 16 ≤ sizeN c ∧ sizeN c ≤ 128 := by
    rcases c with _ | _ | _ | _ | _ | _ | _ | c <;> first | decide | omega
  have hq := slotsN_pos c h
  go_enter Tryz.func93, Tryz.ntmps93
  go_wp2_with (go_at_call 60; refine (qsize_small c _ h).mono ?_; rintro e w' ⟨rfl, rfl⟩)
  go_ret
  exact ⟨rfl, rfl⟩
theorem qslots_any (c : Int) (w : World) :
    Calls Tryz.prog 93 #[.int .i64 c] w fun e w' => e = .returned (.int .i64 (slotsI c)) ∧ w = w' := by
  by_cases hs : 0 ≤ c ∧ c < 7
  · obtain ⟨k, rfl⟩ : ∃ k : Nat, c = k := ⟨c.toNat, by omega⟩
    have e : slotsI (k : Int) = ((slotsN k : Nat) : Int) := by
      have hk : k < 7 := by omega
      rcases k with _ | _ | _ | _ | _ | _ | _ | k <;> first | rfl | omega
    rw [e]
    exact qslots_small k w (by omega)
  · by_cases h7 : c = 7
    · subst h7
      rw [show slotsI 7 = 1 from rfl]
      clear hs
      go_enter Tryz.func93, Tryz.ntmps93
      go_wp2
      go_ret
      exact ⟨rfl, rfl⟩
    · rw [show slotsI c = 0 by unfold slotsI; repeat' split <;> omega]
      have hz : sizeI c = 0 := by unfold sizeI; repeat' split <;> omega
      have h7' : (c == 7) = false := by simp [h7]
      clear hs
      go_enter Tryz.func93, Tryz.ntmps93
      go_wp2_with (go_at_call 60; refine (qsize_any c _).mono ?_; rw [hz]; rintro e w' ⟨rfl, rfl⟩)
      go_ret
      exact ⟨rfl, rfl⟩
theorem qpages_any (n : Int) (w : World) :
    Calls Tryz.prog 70 #[.int .i64 n] w fun e w' => e = .returned (.int .i64 (pagesN n : Nat)) ∧ w = w' := by
  have hr := ofI_range n
  by_cases h1 : ofI n = -1
  · rw [pagesN_none h1]
    go_enter Tryz.func70, Tryz.ntmps70
    go_wp2_with (go_at_call 92; refine (qof_any n _).mono ?_; rw [h1]; rintro e w' ⟨rfl, rfl⟩)
    go_ret
    exact ⟨rfl, rfl⟩
  · by_cases h7 : ofI n = 7
    · obtain ⟨E, k1, k2⟩ := pagesN_large h7
      obtain ⟨m, rfl⟩ : ∃ m : Nat, n = m := ⟨n.toNat, by omega⟩
      have E' : Hid (pagesN (m : Int) = (m + 255) / 256) := by show _ = _; rw [E]; simp
      rw [E'.out]
      clear E
      go_enter Tryz.func70, Tryz.ntmps70
      go_wp2_with (go_at_call 92; refine (qof_any (m : Int) _).mono ?_; rw [h7]; rintro e w' ⟨rfl, rfl⟩)
      go_ret
      exact ⟨ret_int (by omega), rfl⟩
    · rw [pagesN_small (by omega) (by omega)]
      obtain ⟨c, hc⟩ : ∃ c, ofI n = c := ⟨_, rfl⟩
      rw [hc] at h1 h7 hr
      have hc0 : 0 ≤ c := by omega
      have hc7 : c < 7 := by omega
      have HC : Hid (ofI n = c) := hc
      clear hc h1 h7 hr
      go_enter Tryz.func70, Tryz.ntmps70
      go_wp2_with (go_at_call 92; refine (qof_any n _).mono ?_; rw [HC.out]; rintro e w' ⟨rfl, rfl⟩)
      go_ret
      exact ⟨rfl, rfl⟩
end Go.Proofs.YtbfamjnnlcopiaaGreatDoor
