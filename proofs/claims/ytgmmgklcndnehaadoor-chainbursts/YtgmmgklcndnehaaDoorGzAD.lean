/- CnA: out of FrA. -/
import Derived.Test.YtgmmgklcndnehaaDoorGzAC
import Derived.Test.YtgmmgklcndnehaaDoorGzAA
import Derived.WalkKit
import Derived.WalkLawsBesides
import Derived.Below
set_option linter.unusedVariables false
set_option maxRecDepth 4000
set_option maxRecDepth 4000
namespace Go.Proofs.YtgmmgklcndnehaaDoor
open Go.RowKit

theorem within_any (n : Int) (w : World) :
    Calls Tryd.prog 64 #[.int .i64 n] w fun e w' => e = .returned (.int .i64 (clampW n)) ∧ w = w' := by
  go_enter Tryd.func64, Tryd.ntmps64
  go_wp2
  all_goals (go_ret; refine ⟨congrArg Ending.returned (congrArg (Value.int IntKind.i64) ?_), rfl⟩; unfold clampW; split <;> (try split) <;> omega)

theorem get_any (a : Option Addr) (cap : Nat) (l : List Int) (w : World) (h : IsB w a l) (hm : l.length ≤ maxLen) :
    Calls Tryd.prog 58 #[.slice a l.length cap] w fun e w' => e = .returned (.int .u64 (getL (l.take 8))) ∧ w = w' := by
  obtain ⟨hb, rfl | ⟨b, off, rfl, hsz, hc⟩⟩ := h
  · go_enter Tryd.func58, Tryd.ntmps58
    go_wp2
    refine wp_loop_rounds 1 ?_
    rw [rounds_succ]
    go_wp2
    go_ret
    exact ⟨rfl, rfl⟩
  · unfold maxLen at hm
    go_enter Tryd.func58, Tryd.ntmps58
    go_wp2
    all_goals
      go_loop [3, 8] (fun n i => ∃ k : Nat, k ≤ 8 ∧ k ≤ l.length ∧ i = .int .i64 k ∧ n = .int .u64 (getL (l.take k))) (fun _ i => 8 - (intOf i).toNat)
      case atStart => exact ⟨0, Nat.zero_le _, Nat.zero_le _, rfl, rfl⟩
      case round =>
        obtain ⟨k, hk8, hkl, rfl, rfl⟩ := hrel
        by_cases hlt : k < 8 ∧ k < l.length
        · obtain ⟨h8, hl⟩ := hlt
          have hcell := hc k hl
          have HG : Hid (bits BinOp.or IntKind.u64 (getL (l.take k)) (IntKind.u64.wrap (IntKind.u64.wrap l[k] * 2 ^ (8 * k))) = getL (l.take (k + 1))) := get_step l k hb h8 hl
          go_wp2
          go_round
          case rel => exact ⟨k + 1, by omega, by omega, by go_num, by rw [HG.out]⟩
          case measure => simp [intOf]; omega
        · have e8 : l.take 8 = l.take k := take_same l k hk8 hkl hlt
          have E8 : Hid (l.take 8 = l.take k) := e8
          clear e8
          go_wp2
          go_ret
          exact ⟨ret_int (by rw [E8.out]), rfl⟩
theorem IsB.drewN {w : World} {a : Option Addr} {l : List Int} (h : IsB w a l) (m : Nat) : IsB (w.drewN m) a l := h

theorem IsB.at {w : World} {b off : Nat} {l : List Int} (h : IsB w (some ⟨b, off, none⟩) l) (i : Nat) (hi : i < l.length) : w.cell? ⟨b, off + i, none⟩ = some (.int .u8 (l.getD i 0)) := by
  obtain ⟨_, rfl | ⟨b', off', e, hs, hc⟩⟩ := h
  · simp at hi
  · cases e
    exact hc i hi

/-- Get, its length and what it answers told apart. -/
theorem get_of (a : Option Addr) (cap n : Nat) (l : List Int) (v : Int) (w : World) (hn : n = l.length) (hv : getL (l.take 8) = v) (h : IsB w a l) (hm : l.length ≤ maxLen) :
    Calls Tryd.prog 58 #[.slice a n cap] w fun e w' => e = .returned (.int .u64 v) ∧ w = w' := by
  subst hn hv; exact get_any a cap l w h hm
end Go.Proofs.YtgmmgklcndnehaaDoor

/- CnB: out of FrB. -/
set_option linter.unusedVariables false
set_option maxRecDepth 4000
set_option maxRecDepth 4000
namespace Go.Proofs.YtgmmgklcndnehaaDoor
open Go.RowKit

set_option maxHeartbeats 1000000 in
theorem put0 (n width : Int) (hK : clampW width = 0) (_h0 : 0 ≤ n) (_h1 : n ≤ 18446744073709551615) (w : World) :
    Calls Tryd.prog 51 #[.int .u64 n, .int .i64 width] w fun e w' => e = .returned (.slice (some ⟨w.heap.size, 0, none⟩) 0 0) ∧ w' = w.alloc (.cells #[] 5) := by
  have hmk : ∀ w : World, (Instr.makeSlice 22 (.int .i64 0) (.int .i64 0)).run Tryd.prog w = .ok (.slice (some ⟨w.heap.size, 0, none⟩) 0 0) (w.alloc (.cells #[] 5)) := fun _ => by kernel_rfl
  go_enter Tryd.func51, Tryd.ntmps51
  go_wp2_with (go_at_call 64; refine (within_any width _).mono ?_; rintro e w' ⟨rfl, rfl⟩; rw [hK])
  go_ret
  exact ⟨rfl, rfl⟩

set_option maxHeartbeats 1000000 in
theorem put1 (n width : Int) (hK : clampW width = 1) (_h0 : 0 ≤ n) (_h1 : n ≤ 18446744073709551615) (w : World) :
    Calls Tryd.prog 51 #[.int .u64 n, .int .i64 width] w fun e w' => e = .returned (.slice (some ⟨w.heap.size, 0, none⟩) 1 1) ∧ w' = w.alloc (.cells #[.int .u8 (n % 256)] 5) := by
  have hmk : ∀ w : World, (Instr.makeSlice 22 (.int .i64 1) (.int .i64 1)).run Tryd.prog w = .ok (.slice (some ⟨w.heap.size, 0, none⟩) 1 1) (w.alloc (.cells #[.int .u8 0] 5)) := fun _ => by kernel_rfl
  go_enter Tryd.func51, Tryd.ntmps51
  go_wp2_with (go_at_call 64; refine (within_any width _).mono ?_; rintro e w' ⟨rfl, rfl⟩; rw [hK])
  go_ret
  exact ⟨rfl, rfl⟩

set_option maxHeartbeats 1000000 in
theorem put2 (n width : Int) (hK : clampW width = 2) (_h0 : 0 ≤ n) (_h1 : n ≤ 18446744073709551615) (w : World) :
    Calls Tryd.prog 51 #[.int .u64 n, .int .i64 width] w fun e w' => e = .returned (.slice (some ⟨w.heap.size, 0, none⟩) 2 2) ∧ w' = w.alloc (.cells #[.int .u8 (n % 256), .int .u8 (n / 256 % 256)] 5) := by
  have hmk : ∀ w : World, (Instr.makeSlice 22 (.int .i64 2) (.int .i64 2)).run Tryd.prog w = .ok (.slice (some ⟨w.heap.size, 0, none⟩) 2 2) (w.alloc (.cells #[.int .u8 0, .int .u8 0] 5)) := fun _ => by kernel_rfl
  go_enter Tryd.func51, Tryd.ntmps51
  go_wp2_with (go_at_call 64; refine (within_any width _).mono ?_; rintro e w' ⟨rfl, rfl⟩; rw [hK])
  go_ret
  exact ⟨rfl, rfl⟩

set_option maxHeartbeats 1000000 in
theorem put3 (n width : Int) (hK : clampW width = 3) (_h0 : 0 ≤ n) (_h1 : n ≤ 18446744073709551615) (w : World) :
    Calls Tryd.prog 51 #[.int .u64 n, .int .i64 width] w fun e w' => e = .returned (.slice (some ⟨w.heap.size, 0, none⟩) 3 3) ∧ w' = w.alloc (.cells #[.int .u8 (n % 256), .int .u8 (n / 256 % 256), .int .u8 (n / 65536 % 256)] 5) := by
  have hmk : ∀ w : World, (Instr.makeSlice 22 (.int .i64 3) (.int .i64 3)).run Tryd.prog w = .ok (.slice (some ⟨w.heap.size, 0, none⟩) 3 3) (w.alloc (.cells #[.int .u8 0, .int .u8 0, .int .u8 0] 5)) := fun _ => by kernel_rfl
  go_enter Tryd.func51, Tryd.ntmps51
  go_wp2_with (go_at_call 64; refine (within_any width _).mono ?_; rintro e w' ⟨rfl, rfl⟩; rw [hK])
  go_ret
  exact ⟨rfl, rfl⟩

set_option maxHeartbeats 1000000 in
theorem put4 (n width : Int) (hK : clampW width = 4) (_h0 : 0 ≤ n) (_h1 : n ≤ 18446744073709551615) (w : World) :
    Calls Tryd.prog 51 #[.int .u64 n, .int .i64 width] w fun e w' => e = .returned (.slice (some ⟨w.heap.size, 0, none⟩) 4 4) ∧ w' = w.alloc (.cells #[.int .u8 (n % 256), .int .u8 (n / 256 % 256), .int .u8 (n / 65536 % 256), .int .u8 (n / 16777216 % 256)] 5) := by
  have hmk : ∀ w : World, (Instr.makeSlice 22 (.int .i64 4) (.int .i64 4)).run Tryd.prog w = .ok (.slice (some ⟨w.heap.size, 0, none⟩) 4 4) (w.alloc (.cells #[.int .u8 0, .int .u8 0, .int .u8 0, .int .u8 0] 5)) := fun _ => by kernel_rfl
  go_enter Tryd.func51, Tryd.ntmps51
  go_wp2_with (go_at_call 64; refine (within_any width _).mono ?_; rintro e w' ⟨rfl, rfl⟩; rw [hK])
  go_ret
  exact ⟨rfl, rfl⟩

set_option maxHeartbeats 1000000 in
theorem put5 (n width : Int) (hK : clampW width = 5) (_h0 : 0 ≤ n) (_h1 : n ≤ 18446744073709551615) (w : World) :
    Calls Tryd.prog 51 #[.int .u64 n, .int .i64 width] w fun e w' => e = .returned (.slice (some ⟨w.heap.size, 0, none⟩) 5 5) ∧ w' = w.alloc (.cells #[.int .u8 (n % 256), .int .u8 (n / 256 % 256), .int .u8 (n / 65536 % 256), .int .u8 (n / 16777216 % 256), .int .u8 (n / 4294967296 % 256)] 5) := by
  have hmk : ∀ w : World, (Instr.makeSlice 22 (.int .i64 5) (.int .i64 5)).run Tryd.prog w = .ok (.slice (some ⟨w.heap.size, 0, none⟩) 5 5) (w.alloc (.cells #[.int .u8 0, .int .u8 0, .int .u8 0, .int .u8 0, .int .u8 0] 5)) := fun _ => by kernel_rfl
  go_enter Tryd.func51, Tryd.ntmps51
  go_wp2_with (go_at_call 64; refine (within_any width _).mono ?_; rintro e w' ⟨rfl, rfl⟩; rw [hK])
  go_ret
  exact ⟨rfl, rfl⟩

set_option maxHeartbeats 1000000 in
theorem put6 (n width : Int) (hK : clampW width = 6) (_h0 : 0 ≤ n) (_h1 : n ≤ 18446744073709551615) (w : World) :
    Calls Tryd.prog 51 #[.int .u64 n, .int .i64 width] w fun e w' => e = .returned (.slice (some ⟨w.heap.size, 0, none⟩) 6 6) ∧ w' = w.alloc (.cells #[.int .u8 (n % 256), .int .u8 (n / 256 % 256), .int .u8 (n / 65536 % 256), .int .u8 (n / 16777216 % 256), .int .u8 (n / 4294967296 % 256), .int .u8 (n / 1099511627776 % 256)] 5) := by
  have hmk : ∀ w : World, (Instr.makeSlice 22 (.int .i64 6) (.int .i64 6)).run Tryd.prog w = .ok (.slice (some ⟨w.heap.size, 0, none⟩) 6 6) (w.alloc (.cells #[.int .u8 0, .int .u8 0, .int .u8 0, .int .u8 0, .int .u8 0, .int .u8 0] 5)) := fun _ => by kernel_rfl
  go_enter Tryd.func51, Tryd.ntmps51
  go_wp2_with (go_at_call 64; refine (within_any width _).mono ?_; rintro e w' ⟨rfl, rfl⟩; rw [hK])
  go_ret
  exact ⟨rfl, rfl⟩

set_option maxHeartbeats 1000000 in
theorem put7 (n width : Int) (hK : clampW width = 7) (_h0 : 0 ≤ n) (_h1 : n ≤ 18446744073709551615) (w : World) :
    Calls Tryd.prog 51 #[.int .u64 n, .int .i64 width] w fun e w' => e = .returned (.slice (some ⟨w.heap.size, 0, none⟩) 7 7) ∧ w' = w.alloc (.cells #[.int .u8 (n % 256), .int .u8 (n / 256 % 256), .int .u8 (n / 65536 % 256), .int .u8 (n / 16777216 % 256), .int .u8 (n / 4294967296 % 256), .int .u8 (n / 1099511627776 % 256), .int .u8 (n / 281474976710656 % 256)] 5) := by
  have hmk : ∀ w : World, (Instr.makeSlice 22 (.int .i64 7) (.int .i64 7)).run Tryd.prog w = .ok (.slice (some ⟨w.heap.size, 0, none⟩) 7 7) (w.alloc (.cells #[.int .u8 0, .int .u8 0, .int .u8 0, .int .u8 0, .int .u8 0, .int .u8 0, .int .u8 0] 5)) := fun _ => by kernel_rfl
  go_enter Tryd.func51, Tryd.ntmps51
  go_wp2_with (go_at_call 64; refine (within_any width _).mono ?_; rintro e w' ⟨rfl, rfl⟩; rw [hK])
  go_ret
  exact ⟨rfl, rfl⟩

set_option maxHeartbeats 1000000 in
theorem put8 (n width : Int) (hK : clampW width = 8) (_h0 : 0 ≤ n) (_h1 : n ≤ 18446744073709551615) (w : World) :
    Calls Tryd.prog 51 #[.int .u64 n, .int .i64 width] w fun e w' => e = .returned (.slice (some ⟨w.heap.size, 0, none⟩) 8 8) ∧ w' = w.alloc (.cells #[.int .u8 (n % 256), .int .u8 (n / 256 % 256), .int .u8 (n / 65536 % 256), .int .u8 (n / 16777216 % 256), .int .u8 (n / 4294967296 % 256), .int .u8 (n / 1099511627776 % 256), .int .u8 (n / 281474976710656 % 256), .int .u8 (n / 72057594037927936 % 256)] 5) := by
  have hmk : ∀ w : World, (Instr.makeSlice 22 (.int .i64 8) (.int .i64 8)).run Tryd.prog w = .ok (.slice (some ⟨w.heap.size, 0, none⟩) 8 8) (w.alloc (.cells #[.int .u8 0, .int .u8 0, .int .u8 0, .int .u8 0, .int .u8 0, .int .u8 0, .int .u8 0, .int .u8 0] 5)) := fun _ => by kernel_rfl
  go_enter Tryd.func51, Tryd.ntmps51
  go_wp2_with (go_at_call 64; refine (within_any width _).mono ?_; rintro e w' ⟨rfl, rfl⟩; rw [hK])
  go_ret
  exact ⟨rfl, by rw [show n / 72057594037927936 % 256 = n / 72057594037927936 from by omega]⟩

theorem clampW_cases (width : Int) : clampW width = 0 ∨ clampW width = 1 ∨ clampW width = 2 ∨ clampW width = 3 ∨ clampW width = 4 ∨ clampW width = 5 ∨ clampW width = 6 ∨ clampW width = 7 ∨ clampW width = 8 := by
  unfold clampW; split <;> (try split) <;> omega

theorem div_steps (n : Int) : n / 256 / 256 = n / 65536 ∧ n / 65536 / 256 = n / 16777216 ∧ n / 16777216 / 256 = n / 4294967296 ∧ n / 4294967296 / 256 = n / 1099511627776 ∧ n / 1099511627776 / 256 = n / 281474976710656 ∧ n / 281474976710656 / 256 = n / 72057594037927936 := by omega

/-- Whatever the width: the row lies in the next block, and holds the lowest bytes. -/
theorem put_any (n width : Int) (h0 : 0 ≤ n) (h1 : n ≤ 18446744073709551615) (w : World) :
    Calls Tryd.prog 51 #[.int .u64 n, .int .i64 width] w fun e w' => e = .returned (.slice (some ⟨w.heap.size, 0, none⟩) (clampW width).toNat (clampW width).toNat) ∧ w' = w.alloc (.cells ((putL (clampW width).toNat n).map (Value.int .u8)).toArray 5) := by
  obtain ⟨d2, d3, d4, d5, d6, d7⟩ := div_steps n
  rcases clampW_cases width with h | h | h | h | h | h | h | h | h
  · refine (put0 n width h h0 h1 w).mono ?_
    rintro e w' ⟨rfl, rfl⟩
    rw [h]
    exact ⟨rfl, by simp [putL]⟩
  · refine (put1 n width h h0 h1 w).mono ?_
    rintro e w' ⟨rfl, rfl⟩
    rw [h]
    exact ⟨rfl, by simp [putL]⟩
  · refine (put2 n width h h0 h1 w).mono ?_
    rintro e w' ⟨rfl, rfl⟩
    rw [h]
    exact ⟨rfl, by simp [putL]⟩
  · refine (put3 n width h h0 h1 w).mono ?_
    rintro e w' ⟨rfl, rfl⟩
    rw [h]
    exact ⟨rfl, by simp [putL, d2]⟩
  · refine (put4 n width h h0 h1 w).mono ?_
    rintro e w' ⟨rfl, rfl⟩
    rw [h]
    exact ⟨rfl, by simp [putL, d2, d3]⟩
  · refine (put5 n width h h0 h1 w).mono ?_
    rintro e w' ⟨rfl, rfl⟩
    rw [h]
    exact ⟨rfl, by simp [putL, d2, d3, d4]⟩
  · refine (put6 n width h h0 h1 w).mono ?_
    rintro e w' ⟨rfl, rfl⟩
    rw [h]
    exact ⟨rfl, by simp [putL, d2, d3, d4, d5]⟩
  · refine (put7 n width h h0 h1 w).mono ?_
    rintro e w' ⟨rfl, rfl⟩
    rw [h]
    exact ⟨rfl, by simp [putL, d2, d3, d4, d5, d6]⟩
  · refine (put8 n width h h0 h1 w).mono ?_
    rintro e w' ⟨rfl, rfl⟩
    rw [h]
    exact ⟨rfl, by simp [putL, d2, d3, d4, d5, d6, d7]⟩
end Go.Proofs.YtgmmgklcndnehaaDoor
