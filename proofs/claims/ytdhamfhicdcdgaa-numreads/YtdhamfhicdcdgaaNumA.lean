/- The leaves of layer 1: what within, Len64, Size, Get and Put return, and what they make. -/
import Derived.Test.YtdhamfhicdcdgaaRows
import Derived.Test.YtdhamfhicdcdgaaNumP
import Derived.WalkKit
import Derived.WalkLawsBesides
namespace Go.Proofs.Ytdhamfhicdcdgaa
open Go.RowKit
set_option linter.unusedVariables false

theorem ret_int {k : IntKind} {a b : Int} (h : a = b) : Ending.returned (.int k a) = .returned (.int k b) := by rw [h]

theorem within_any (n : Int) (w : World) :
    Calls Try.prog 35 #[.int .i64 n] w fun e w' => e = .returned (.int .i64 (clampW n)) ∧ w = w' := by
  go_enter Try.func35, Try.ntmps35
  go_wp2
  all_goals (go_ret; refine ⟨congrArg Ending.returned (congrArg (Value.int IntKind.i64) ?_), rfl⟩; unfold clampW; split <;> (try split) <;> omega)

set_option maxHeartbeats 4000000 in
set_option maxRecDepth 100000 in
theorem len64_any (x : Int) (w : World) (h0 : 0 ≤ x) (h1 : x ≤ 18446744073709551615) :
    Calls Try.prog 37 #[.int .u64 x] w fun e w' => e = .returned (.int .i64 (Lib.bitLen x.toNat)) ∧ w = w' := by
  have hs := Lib.len8tab_size
  go_enter Try.func37, Try.ntmps37
  go_wp2
  all_goals (go_ret; refine ⟨congrArg Ending.returned (congrArg (Value.int IntKind.i64) ?_), rfl⟩)
  all_goals first
    | exact tab_close0 x (by omega)
    | (refine tab_close 56 _ x (by omega) (by omega) (by omega) ?_
       have s := Lib.bitLen_shift56 x.toNat (by omega) (by omega)
       rw [show (x / 4294967296 / 65536 / 256).toNat = x.toNat / 72057594037927936 from by omega]; omega)
    | (refine tab_close 48 _ x (by omega) (by omega) (by omega) ?_
       have s := Lib.bitLen_shift48 x.toNat (by omega) (by omega)
       rw [show (x / 4294967296 / 65536).toNat = x.toNat / 281474976710656 from by omega]; omega)
    | (refine tab_close 40 _ x (by omega) (by omega) (by omega) ?_
       have s := Lib.bitLen_shift40 x.toNat (by omega) (by omega)
       rw [show (x / 4294967296 / 256).toNat = x.toNat / 1099511627776 from by omega]; omega)
    | (refine tab_close 32 _ x (by omega) (by omega) (by omega) ?_
       have s := Lib.bitLen_shift32 x.toNat (by omega) (by omega)
       rw [show (x / 4294967296).toNat = x.toNat / 4294967296 from by omega]; omega)
    | (refine tab_close 24 _ x (by omega) (by omega) (by omega) ?_
       have s := Lib.bitLen_shift24 x.toNat (by omega) (by omega)
       rw [show (x / 65536 / 256).toNat = x.toNat / 16777216 from by omega]; omega)
    | (refine tab_close 16 _ x (by omega) (by omega) (by omega) ?_
       have s := Lib.bitLen_shift16 x.toNat (by omega) (by omega)
       rw [show (x / 65536).toNat = x.toNat / 65536 from by omega]; omega)
    | (refine tab_close 8 _ x (by omega) (by omega) (by omega) ?_
       have s := Lib.bitLen_shift8 x.toNat (by omega) (by omega)
       rw [show (x / 256).toNat = x.toNat / 256 from by omega]; omega)

theorem size_any (n : Int) (w : World) (h0 : 0 ≤ n) (h1 : n ≤ 18446744073709551615) :
    Calls Try.prog 17 #[.int .u64 n] w fun e w' => e = .returned (.int .i64 (varL n).length) ∧ w = w' := by
  obtain ⟨a, b, c⟩ := or_one_bitLen n h0 h1
  have hl := varL_le n
  have hbl : Lib.bitLen (bits .or .u64 n 1).toNat ≤ 70 := by omega
  have C : Hid ((Lib.bitLen (bits .or .u64 n 1).toNat + 6) / 7 = (varL n).length) := c
  clear c
  go_enter Try.func17, Try.ntmps17
  go_wp2_with (go_at_call 37; refine (len64_any (bits .or .u64 n 1) _ a b).mono ?_; rintro e w' ⟨rfl, rfl⟩)
  go_ret
  exact ⟨congrArg Ending.returned (congrArg (Value.int IntKind.i64) (by rw [← C.out]; omega)), rfl⟩

/-- A slice of bytes: nothing is known of the address where there is none. -/
def IsB (w : World) (a : Option Addr) (l : List Int) : Prop :=
  (∀ x ∈ l, 0 ≤ x ∧ x ≤ 255) ∧ (l = [] ∨ ∃ b off, a = some ⟨b, off, none⟩ ∧ b < w.heap.size ∧ ∀ i, i < l.length → w.cell? ⟨b, off + i, none⟩ = some (.int .u8 (l.getD i 0)))

theorem get_any (a : Option Addr) (cap : Nat) (l : List Int) (w : World) (h : IsB w a l) (hm : l.length ≤ maxLen) :
    Calls Try.prog 13 #[.slice a l.length cap] w fun e w' => e = .returned (.int .u64 (getL (l.take 8))) ∧ w = w' := by
  obtain ⟨hb, rfl | ⟨b, off, rfl, hsz, hc⟩⟩ := h
  · go_enter Try.func13, Try.ntmps13
    go_wp2
    refine wp_loop_rounds 1 ?_
    rw [rounds_succ]
    go_wp2
    go_ret
    exact ⟨rfl, rfl⟩
  · unfold maxLen at hm
    go_enter Try.func13, Try.ntmps13
    go_wp2
    all_goals
      go_loop [3, 8] (fun n i => ∃ k : Nat, k ≤ 8 ∧ k ≤ l.length ∧ i = .int .i64 k ∧ n = .int .u64 (getL (l.take k))) (fun _ i => 8 - (intOf i).toNat)
      case atStart => exact ⟨0, Nat.zero_le _, Nat.zero_le _, rfl, rfl⟩
      case round =>
        obtain ⟨k, hk8, hkl, rfl, rfl⟩ := hrel
        by_cases hlt : k < 8 ∧ k < l.length
        · obtain ⟨h8, hl⟩ := hlt
          have hcell := hc k hl
          have HG : Hid (bits BinOp.or IntKind.u64 (getL (l.take k)) (IntKind.u64.wrap (IntKind.u64.wrap l[k] * 2 ^ (8 * k))) = getL (l.take (k + 1))) := get_step l k hb h8 hl
          go_wp2
          go_round
          case rel => exact ⟨k + 1, by omega, by omega, by go_num, by rw [HG.out]⟩
          case measure => simp [intOf]; omega
        · have e8 : l.take 8 = l.take k := take_same l k hk8 hkl hlt
          have E8 : Hid (l.take 8 = l.take k) := e8
          clear e8
          go_wp2
          go_ret
          exact ⟨ret_int (by rw [E8.out]), rfl⟩
end Go.Proofs.Ytdhamfhicdcdgaa
