/- Numbers as bytes, of layer 1: what within, Get and Put (of eight bytes) answer. -/
import Derived.Test.YtjejholognpbaaaArA
namespace Go.Proofs.Ytjejholognpbaaa
open Go.RowKit
set_option linter.unusedVariables false

theorem within_any (n : Int) (w : World) :
    Calls Try.prog 46 #[.int .i64 n] w fun e w' => e = .returned (.int .i64 (clampW n)) ∧ w = w' := by
  go_enter Try.func46, Try.ntmps46
  go_wp2
  all_goals (go_ret; refine ⟨congrArg Ending.returned (congrArg (Value.int IntKind.i64) ?_), rfl⟩; unfold clampW; split <;> (try split) <;> omega)

theorem get_any (a : Option Addr) (cap : Nat) (l : List Int) (w : World) (h : IsB w a l) (hm : l.length ≤ maxLen) :
    Calls Try.prog 43 #[.slice a l.length cap] w fun e w' => e = .returned (.int .u64 (getL (l.take 8))) ∧ w = w' := by
  obtain ⟨hb, rfl | ⟨b, off, rfl, hsz, hc⟩⟩ := h
  · go_enter Try.func43, Try.ntmps43
    go_wp2
    refine wp_loop_rounds 1 ?_
    rw [rounds_succ]
    go_wp2
    go_ret
    exact ⟨rfl, rfl⟩
  · unfold maxLen at hm
    go_enter Try.func43, Try.ntmps43
    go_wp2
    all_goals
      go_loop [3, 8] (fun n i => ∃ k : Nat, k ≤ 8 ∧ k ≤ l.length ∧ i = .int .i64 k ∧ n = .int .u64 (getL (l.take k))) (fun _ i => 8 - (intOf i).toNat)
      case atStart => exact ⟨0, Nat.zero_le _, Nat.zero_le _, rfl, rfl⟩
      case round =>
        obtain ⟨k, hk8, hkl, rfl, rfl⟩ := hrel
        by_cases hlt : k < 8 ∧ k < l.length
        · obtain ⟨h8, hl⟩ := hlt
          have hcell := hc k hl
          have HG : Hid (bits BinOp.or IntKind.u64 (getL (l.take k)) (IntKind.u64.wrap (IntKind.u64.wrap l[k] * 2 ^ (8 * k))) = getL (l.take (k + 1))) := get_step l k hb h8 hl
          go_wp2
          go_round
          case rel => exact ⟨k + 1, by omega, by omega, by go_num, by rw [HG.out]⟩
          case measure => simp [intOf]; omega
        · have e8 : l.take 8 = l.take k := take_same l k hk8 hkl hlt
          have E8 : Hid (l.take 8 = l.take k) := e8
          clear e8
          go_wp2
          go_ret
          exact ⟨ret_int (by rw [E8.out]), rfl⟩
/-- Get, its length and what it answers told apart. -/
theorem get_of (a : Option Addr) (cap n : Nat) (l : List Int) (v : Int) (w : World) (hn : n = l.length) (hv : getL (l.take 8) = v) (h : IsB w a l) (hm : l.length ≤ maxLen) :
    Calls Try.prog 43 #[.slice a n cap] w fun e w' => e = .returned (.int .u64 v) ∧ w = w' := by
  subst hn hv; exact get_any a cap l w h hm
set_option maxHeartbeats 1000000 in
theorem put8 (n width : Int) (hK : clampW width = 8) (_h0 : 0 ≤ n) (_h1 : n ≤ 18446744073709551615) (w : World) :
    Calls Try.prog 44 #[.int .u64 n, .int .i64 width] w fun e w' => e = .returned (.slice (some ⟨w.heap.size, 0, none⟩) 8 8) ∧ w' = w.alloc (.cells #[.int .u8 (n % 256), .int .u8 (n / 256 % 256), .int .u8 (n / 65536 % 256), .int .u8 (n / 16777216 % 256), .int .u8 (n / 4294967296 % 256), .int .u8 (n / 1099511627776 % 256), .int .u8 (n / 281474976710656 % 256), .int .u8 (n / 72057594037927936 % 256)] 5) := by
  have hmk : ∀ w : World, (Instr.makeSlice 35 (.int .i64 8) (.int .i64 8)).run Try.prog w = .ok (.slice (some ⟨w.heap.size, 0, none⟩) 8 8) (w.alloc (.cells #[.int .u8 0, .int .u8 0, .int .u8 0, .int .u8 0, .int .u8 0, .int .u8 0, .int .u8 0, .int .u8 0] 5)) := fun _ => by kernel_rfl
  go_enter Try.func44, Try.ntmps44
  go_wp2_with (go_at_call 46; refine (within_any width _).mono ?_; rintro e w' ⟨rfl, rfl⟩; rw [hK])
  go_ret
  exact ⟨rfl, by rw [show n / 72057594037927936 % 256 = n / 72057594037927936 from by omega]⟩

theorem div_steps (n : Int) : n / 256 / 256 = n / 65536 ∧ n / 65536 / 256 = n / 16777216 ∧ n / 16777216 / 256 = n / 4294967296 ∧ n / 4294967296 / 256 = n / 1099511627776 ∧ n / 1099511627776 / 256 = n / 281474976710656 ∧ n / 281474976710656 / 256 = n / 72057594037927936 := by omega

theorem put_word (n : Int) (h0 : 0 ≤ n) (h1 : n ≤ 18446744073709551615) (w : World) :
    Calls Try.prog 44 #[.int .u64 n, .int .i64 8] w fun e w' => e = .returned (.slice (some ⟨w.heap.size, 0, none⟩) 8 8) ∧ RowB w' w.heap.size (putL 8 n) ∧ Below w.heap.size w w' := by
  obtain ⟨d2, d3, d4, d5, d6, d7⟩ := div_steps n
  refine (put8 n 8 rfl h0 h1 w).mono ?_
  rintro e w' ⟨rfl, rfl⟩
  refine ⟨rfl, ?_, (Below.refl _ w).alloc (Nat.le_refl _) _⟩
  have := Go.heap_alloc_new w (.cells ((putL 8 n).map (Value.int .u8)).toArray 5)
  simp only [putL, d2, d3, d4, d5, d6, d7, List.map_cons, List.map_nil] at this
  show _ = _
  simp only [cellsB, putL, d2, d3, d4, d5, d6, d7, List.map_cons, List.map_nil]
  exact this
/-- Bytes as a string. -/
def bs (l : List Int) : ByteArray := ⟨(l.map (fun x => UInt8.ofNat x.toNat)).toArray⟩

theorem conv_run (w : World) (a : Option Addr) (cap : Nat) (l : List Int) (h : IsB w a l) :
    (convert 35 9 (.slice a l.length cap)).run Try.prog w = .ok (.string (bs l)) w := by
  obtain ⟨hb, hl⟩ := h
  rcases a with _ | ad
  · rcases hl with rfl | ⟨b, off, e, _⟩
    · rw [run_convert_bytes_string w 35 9 5 none _ cap Try.underlying35 Try.underlying5 Try.underlying9]
      simp [Conv.bytesToString]
      rfl
    · cases e
  · have := run_convert_bytes_back (P := Try.prog) w 35 9 5 ad cap (l.map (fun x => UInt8.ofNat x.toNat)) Try.underlying35 Try.underlying5 Try.underlying9 (by
      intro j hj
      have hj' : j < l.length := by simpa using hj
      have hx := hb l[j] (List.getElem_mem hj')
      rcases hl with rfl | ⟨b, off, e, _, hc⟩
      · simp at hj'
      · cases e
        rw [addr_add, hc j hj']
        have e1 : (l[j].toNat % 256 : Nat) = l[j].toNat := by omega
        simp [List.getD, hj', e1, Int.toNat_of_nonneg hx.1])
    rw [List.length_map] at this
    exact this

end Go.Proofs.Ytjejholognpbaaa
