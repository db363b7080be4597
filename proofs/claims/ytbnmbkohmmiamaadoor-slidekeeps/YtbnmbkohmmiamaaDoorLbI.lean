/- The document's place that a place comes to; the same moves. -/
import Derived.Test.YtbnmbkohmmiamaaDoorLbH
namespace Go.Proofs.YtbnmbkohmmiamaaDoor
open Go.RowKit
set_option linter.unusedVariables false

set_option maxHeartbeats 1000000 in
theorem rwhere_any (a : Option Addr) (n c : Nat) (l : List Mv) (x : Int) (w : World) (h : RdV w a l) (hn : l.length = n) (hl : n ≤ 500000) (hb : ∀ m ∈ l, m.Ok) (hx : 0 ≤ x) (hx' : x ≤ 1099511627776) (z : Int) (hz : whereI x l = z) :
    Calls Tryd.prog 17 #[.int .i64 x, .slice a n c] w fun e w' => e = .returned (.int .i64 z) ∧ Below w.heap.size w w' := by
  have H : Hid (RdV w a l) := h
  have HN : Hid (l.length = n) := hn
  have HB : Hid (∀ m ∈ l, m.Ok) := hb
  have HZ : Hid (whereI x l = z) := hz
  clear h hn hb hz
  go_enter Tryd.func17, Tryd.ntmps17
  go_wp2_with fail
  go_loopw [0, 9] (fun xv iv wz => ∃ (i : Nat) (y : Int), i ≤ n ∧ iv = .int .i64 (i : Nat) ∧ xv = .int .i64 y ∧ whereI x (l.take i) = y ∧ 0 ≤ y ∧ y ≤ 1099511627776 * (i + 1) ∧ Below w.heap.size w wz) (fun _ iv _ => n - lenW iv)
  case atStart => exact ⟨0, x, Nat.zero_le _, rfl, rfl, rfl, hx, by omega, Below.refl _ _⟩
  case round =>
    obtain ⟨i, y, hi, rfl, rfl, hy, y0, y1, hbz⟩ := hrel
    rename World => wz
    have HY : Hid (whereI x (l.take i) = y) := hy
    have BZ : Hid (Below w.heap.size w wz) := hbz
    clear hy hbz
    by_cases hin : i < n
    · have hil : i < l.length := by rw [HN.out]; exact hin
      obtain ⟨g, o, rfl, hg, c0, c1, c2⟩ := (H.out.keep BZ.out) i hil
      have hm : l[i].Ok := HB.out _ (List.getElem_mem hil)
      have ST : whereI x (l.take (i + 1)) = l[i].go y := where_step hil HY.out
      have GB := go_bd hm y0 y1
      have i0 : (i : Int) < (n : Int) := by omega
      have yB : y ≤ 1000000000000000000 := by omega
      generalize l[i] = v at c0 c1 c2 hm ST GB
      obtain ⟨fr, tt, ln⟩ := v
      have OK : Hid ((Mv.mk fr tt ln).Ok) := hm
      obtain ⟨a1, a2, a3, a4, a5, a6⟩ : 0 ≤ fr ∧ fr ≤ 1099511627776 ∧ 0 ≤ tt ∧ tt ≤ 1099511627776 ∧ 0 ≤ ln ∧ ln ≤ 1099511627776 := hm
      obtain ⟨q, hq⟩ : ∃ q, decide (fr ≤ y ∧ y < fr + ln) = q := ⟨_, rfl⟩
      have HQ : Hid (decide (fr ≤ y ∧ y < fr + ln) = q) := hq
      have BA : Hid (Below w.heap.size w (wz.alloc (.cells #[.int .i64 fr, .int .i64 tt, .int .i64 ln] 35))) := BZ.out.alloc BZ.out.size _
      have u1 : IntKind.u64.wrap y = y := by rw [IntKind.wrap_u64]; omega
      have u2 : IntKind.u64.wrap fr = fr := by rw [IntKind.wrap_u64]; omega
      have u3 : IntKind.u64.wrap ln = ln := by rw [IntKind.wrap_u64]; omega
      cases q with
      | true =>
        have hq' := of_decide_eq_true hq
        have SG : Hid (whereI x (l.take (i + 1)) = y + (tt - fr)) := by show _ = _; rw [ST]; unfold Mv.go; exact if_pos hq'
        have w1 : IntKind.i64.wrap (tt - fr) = tt - fr := by rw [IntKind.wrap_i64]; omega
        have w2 : IntKind.i64.wrap (y + (tt - fr)) = y + (tt - fr) := by rw [IntKind.wrap_i64]; omega
        have u4 : IntKind.u64.wrap (y - fr) = y - fr := by rw [IntKind.wrap_u64]; omega
        have c4 : fr ≤ y := hq'.1
        have c5 : 0 < ln := by omega
        have c6 : y - fr < ln := by omega
        have Y2 : Hid (0 ≤ y + (tt - fr) ∧ y + (tt - fr) ≤ 1099511627776 * (((i + 1 : Nat) : Int) + 1)) := by show _ ∧ _; omega
        clear hq ST GB hq'
        go_wp2
        go_roundw
        case rel => exact ⟨i + 1, y + (tt - fr), by omega, by congr 1, rfl, SG.out, Y2.out.1, Y2.out.2, BA.out⟩
        case measure => simp [lenW]; omega
      | false =>
        have hq' := of_decide_eq_false hq
        have SG : Hid (whereI x (l.take (i + 1)) = y) := by show _ = _; rw [ST]; unfold Mv.go; exact if_neg hq'
        by_cases c5 : 0 < ln
        · by_cases c4 : fr ≤ y
          · have u4 : IntKind.u64.wrap (y - fr) = y - fr := by rw [IntKind.wrap_u64]; omega
            have c6 : ¬ (y - fr < ln) := by omega
            clear hq ST GB hq'
            go_wp2
            go_roundw
            case rel => exact ⟨i + 1, y, by omega, by congr 1, rfl, SG.out, y0, by omega, BA.out⟩
            case measure => simp [lenW]; omega
          · clear hq ST GB hq'
            go_wp2
            go_roundw
            case rel => exact ⟨i + 1, y, by omega, by congr 1, rfl, SG.out, y0, by omega, BA.out⟩
            case measure => simp [lenW]; omega
        · clear hq ST GB hq'
          go_wp2
          go_roundw
          case rel => exact ⟨i + 1, y, by omega, by congr 1, rfl, SG.out, y0, by omega, BA.out⟩
          case measure => simp [lenW]; omega
    · obtain rfl : i = n := by omega
      have E : Hid (z = y) := by show z = y; rw [← HZ.out, ← HY.out, List.take_of_length_le (by rw [HN.out]; omega)]
      go_wp2
      go_ret
      exact ⟨by rw [E.out]; rfl, BZ.out⟩
set_option maxHeartbeats 1000000 in
/-- The same moves. -/
theorem mvsame_any (a a' : Option Addr) (n c n' c' : Nat) (l : List Mv) (w : World) (h : RdV w a l) (h' : RdV w a' l) (hn : l.length = n) (hn' : l.length = n') (hl : n ≤ 4000000000000000000) :
    Calls Tryd.prog 15 #[.slice a n c, .slice a' n' c'] w fun e w' => e = .returned (.bool true) ∧ Below w.heap.size w w' := by
  obtain rfl : n = n' := by omega
  have H : Hid (RdV w a l) := h
  have H' : Hid (RdV w a' l) := h'
  have HN : Hid (l.length = n) := hn
  clear h h' hn hn'
  go_enter Tryd.func15, Tryd.ntmps15
  go_wp2_with fail
  go_loopw [13] (fun iv wz => ∃ (i m : Nat), i ≤ n ∧ iv = .int .i64 (i : Nat) ∧ wz = w.drewN m) (fun iv _ => n - lenW iv)
  case atStart => exact ⟨0, 0, Nat.zero_le _, rfl, rfl⟩
  case round =>
    obtain ⟨i, m, hi, rfl, rfl⟩ := hrel
    by_cases hin : i < n
    · have hil : i < l.length := by rw [HN.out]; exact hin
      obtain ⟨g, o, rfl, hg, c0, c1, c2⟩ := H.out i hil
      obtain ⟨g', o', rfl, hg', c0', c1', c2'⟩ := H'.out i hil
      have i0 : (i : Int) < (n : Int) := by omega
      generalize l[i] = v at c0 c1 c2 c0' c1' c2'
      obtain ⟨fr, tt, ln⟩ := v
      go_wp2
      go_region
      go_wp2
      go_roundw
      case rel => exact ⟨i + 1, m + 1, by omega, by congr 1, rfl⟩
      case measure => simp [lenW]; omega
    · obtain rfl : i = n := by omega
      go_wp2
      go_ret
      exact ⟨rfl, rfl, rfl, rfl, Nat.le_refl _, fun _ _ => rfl⟩
end Go.Proofs.YtbnmbkohmmiamaaDoor
