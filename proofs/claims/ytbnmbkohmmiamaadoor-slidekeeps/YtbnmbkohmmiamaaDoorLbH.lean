/- The place that a place comes to. -/
import Derived.Test.YtbnmbkohmmiamaaDoorLbG
namespace Go.Proofs.YtbnmbkohmmiamaaDoor
open Go.RowKit
set_option linter.unusedVariables false

/-- A move with numbers that are not too great. -/
def Mv.Ok (m : Mv) : Prop := 0 ≤ m.fr ∧ m.fr ≤ 1099511627776 ∧ 0 ≤ m.to ∧ m.to ≤ 1099511627776 ∧ 0 ≤ m.ln ∧ m.ln ≤ 1099511627776
/-- The place that a place comes to by a move, by moves. -/
def Mv.go (m : Mv) (x : Int) : Int := if m.fr ≤ x ∧ x < m.fr + m.ln then x + (m.to - m.fr) else x
def whereI (x : Int) (l : List Mv) : Int := l.foldl (fun x m => m.go x) x
/-- Moves that can be read. -/
def RdV (w : World) (a : Option Addr) (l : List Mv) : Prop := ∀ i (h : i < l.length), ∃ g o, a = some ⟨g, o, none⟩ ∧ g < w.heap.size ∧ w.cell? ⟨g, o + i * 3, none⟩ = some (.int .i64 l[i].fr) ∧ w.cell? ⟨g, o + i * 3 + 1, none⟩ = some (.int .i64 l[i].to) ∧ w.cell? ⟨g, o + i * 3 + 2, none⟩ = some (.int .i64 l[i].ln)
theorem RdV.keep {w w' : World} {a : Option Addr} {l : List Mv} (h : RdV w a l) (hb : Below w.heap.size w w') : RdV w' a l := fun i hi => by
  obtain ⟨g, o, e, hg, h1, h2, h3⟩ := h i hi
  exact ⟨g, o, e, Nat.lt_of_lt_of_le hg hb.size, bcell hb h1, bcell hb h2, bcell hb h3⟩
theorem Vs.rd {w : World} {B : Nat} {a : Option Addr} {l : List Mv} {c : Nat} (h : Vs w B a l c) : RdV w a l := fun i hi => by
  obtain ⟨c1, c2, c3⟩ := cellsV_at l i hi
  have h' := h
  obtain ⟨_, ⟨h1, h2⟩ | ⟨q, c', cur, h1, hg1, h2, _⟩⟩ := h
  · omega
  · cases h1
    refine ⟨q, 0, rfl, hlt h2, ?_, ?_, ?_⟩
    · rw [Nat.zero_add, World.ownsRow.cellAt h' (i * 3) (by omega)]; exact c1
    · rw [Nat.zero_add, World.ownsRow.cellAt h' (i * 3 + 1) (by omega)]; exact c2
    · rw [Nat.zero_add, World.ownsRow.cellAt h' (i * 3 + 2) (by omega)]; exact c3
set_option maxHeartbeats 1000000 in
theorem within_any (x fr tt ln : Int) (w : World) (h : (Mv.mk fr tt ln).Ok) (hx : 0 ≤ x) (hx' : x ≤ 1000000000000000000) (r : Bool) (hr : decide (fr ≤ x ∧ x < fr + ln) = r) :
    Calls Tryd.prog 35 #[.int .i64 x, .agg #[.int .i64 fr, .int .i64 tt, .int .i64 ln]] w fun e w' => e = .returned (.bool r) ∧ Below w.heap.size w w' := by
  obtain ⟨h1, h2, _, _, h5, h6⟩ : 0 ≤ fr ∧ fr ≤ 1099511627776 ∧ 0 ≤ tt ∧ tt ≤ 1099511627776 ∧ 0 ≤ ln ∧ ln ≤ 1099511627776 := h
  have w1 : IntKind.u64.wrap x = x := by rw [IntKind.wrap_u64]; omega
  have w2 : IntKind.u64.wrap fr = fr := by rw [IntKind.wrap_u64]; omega
  have w3 : IntKind.u64.wrap ln = ln := by rw [IntKind.wrap_u64]; omega
  by_cases c1 : fr ≤ x
  · have w4 : IntKind.u64.wrap (x - fr) = x - fr := by rw [IntKind.wrap_u64]; omega
    by_cases c2 : 0 < ln
    · have F : Hid (decide (x - fr < ln) = r) := by rw [← hr]; exact decide_eq_decide.2 (by omega)
      clear hr
      go_enter Tryd.func35, Tryd.ntmps35
      go_wp2
      go_ret
      exact ⟨by rw [F.out]; rfl, (Below.refl _ w).alloc (Nat.le_refl _) _⟩
    · obtain rfl : r = false := by rw [← hr]; exact decide_eq_false (by omega)
      clear hr
      go_enter Tryd.func35, Tryd.ntmps35
      go_wp2
      go_ret
      exact ⟨rfl, (Below.refl _ w).alloc (Nat.le_refl _) _⟩
  · obtain rfl : r = false := by rw [← hr]; exact decide_eq_false (by omega)
    clear hr
    go_enter Tryd.func35, Tryd.ntmps35
    go_wp2
    go_ret
    exact ⟨rfl, (Below.refl _ w).alloc (Nat.le_refl _) _⟩
theorem where_step {l : List Mv} {x y : Int} {i : Nat} (hi : i < l.length) (h : whereI x (l.take i) = y) : whereI x (l.take (i + 1)) = l[i].go y := by
  unfold whereI at h ⊢
  rw [List.take_succ_eq_append_getElem hi, List.foldl_append, h]
  rfl
theorem go_bd {m : Mv} (h : m.Ok) {y : Int} {i : Nat} (h0 : 0 ≤ y) (h1 : y ≤ 1099511627776 * (i + 1)) : 0 ≤ m.go y ∧ m.go y ≤ 1099511627776 * (((i + 1 : Nat) : Int) + 1) := by
  obtain ⟨a1, a2, a3, a4, a5, a6⟩ := h
  unfold Mv.go
  split <;> omega
set_option maxHeartbeats 1000000 in
theorem where_any (a : Option Addr) (n c : Nat) (l : List Mv) (x : Int) (w : World) (h : RdV w a l) (hn : l.length = n) (hl : n ≤ 500000) (hb : ∀ m ∈ l, m.Ok) (hx : 0 ≤ x) (hx' : x ≤ 1099511627776) (z : Int) (hz : whereI x l = z) :
    Calls Tryd.prog 16 #[.int .i64 x, .slice a n c] w fun e w' => e = .returned (.int .i64 z) ∧ Below w.heap.size w w' := by
  have H : Hid (RdV w a l) := h
  have HN : Hid (l.length = n) := hn
  have HB : Hid (∀ m ∈ l, m.Ok) := hb
  have HZ : Hid (whereI x l = z) := hz
  clear h hn hb hz
  go_enter Tryd.func16, Tryd.ntmps16
  go_wp2_with fail
  go_loopw [0, 9] (fun xv iv wz => ∃ (i : Nat) (y : Int), i ≤ n ∧ iv = .int .i64 (i : Nat) ∧ xv = .int .i64 y ∧ whereI x (l.take i) = y ∧ 0 ≤ y ∧ y ≤ 1099511627776 * (i + 1) ∧ Below w.heap.size w wz) (fun _ iv _ => n - lenW iv)
  case atStart => exact ⟨0, x, Nat.zero_le _, rfl, rfl, rfl, hx, by omega, Below.refl _ _⟩
  case round =>
    obtain ⟨i, y, hi, rfl, rfl, hy, y0, y1, hbz⟩ := hrel
    rename World => wz
    have HY : Hid (whereI x (l.take i) = y) := hy
    have BZ : Hid (Below w.heap.size w wz) := hbz
    clear hy hbz
    by_cases hin : i < n
    · have hil : i < l.length := by rw [HN.out]; exact hin
      obtain ⟨g, o, rfl, hg, c0, c1, c2⟩ := (H.out.keep BZ.out) i hil
      have hm : l[i].Ok := HB.out _ (List.getElem_mem hil)
      have ST : whereI x (l.take (i + 1)) = l[i].go y := where_step hil HY.out
      have GB := go_bd hm y0 y1
      have i0 : (i : Int) < (n : Int) := by omega
      have yB : y ≤ 1000000000000000000 := by omega
      generalize l[i] = v at c0 c1 c2 hm ST GB
      obtain ⟨fr, tt, ln⟩ := v
      have OK : Hid ((Mv.mk fr tt ln).Ok) := hm
      obtain ⟨a1, a2, a3, a4, a5, a6⟩ : 0 ≤ fr ∧ fr ≤ 1099511627776 ∧ 0 ≤ tt ∧ tt ≤ 1099511627776 ∧ 0 ≤ ln ∧ ln ≤ 1099511627776 := hm
      obtain ⟨q, hq⟩ : ∃ q, decide (fr ≤ y ∧ y < fr + ln) = q := ⟨_, rfl⟩
      have HQ : Hid (decide (fr ≤ y ∧ y < fr + ln) = q) := hq
      have AL : Hid (Below w.heap.size w (wz.alloc (.cells #[.int .i64 fr, .int .i64 tt, .int .i64 ln] 35))) := BZ.out.alloc BZ.out.size _
      cases q with
      | true =>
        have hq' := of_decide_eq_true hq
        have SG : Hid (whereI x (l.take (i + 1)) = y + (tt - fr)) := by show _ = _; rw [ST]; unfold Mv.go; exact if_pos hq'
        have w1 : IntKind.i64.wrap (tt - fr) = tt - fr := by rw [IntKind.wrap_i64]; omega
        have w2 : IntKind.i64.wrap (y + (tt - fr)) = y + (tt - fr) := by rw [IntKind.wrap_i64]; omega
        have y2 : 0 ≤ y + (tt - fr) ∧ y + (tt - fr) ≤ 1099511627776 * (((i + 1 : Nat) : Int) + 1) := by omega
        have Y2 : Hid (0 ≤ y + (tt - fr) ∧ y + (tt - fr) ≤ 1099511627776 * (((i + 1 : Nat) : Int) + 1)) := y2
        clear hq ST GB hq' y2
        go_wp2_with (go_at_call 35; refine (within_any y fr tt ln _ OK.out y0 yB true HQ.out).mono ?_; rintro e w3 ⟨rfl, b3⟩; have B3 : Hid (Below w.heap.size w w3) := AL.out.trans (b3.mono AL.out.size); have R3 : w3.heap[wz.heap.size]? = some (.cells #[.int .i64 fr, .int .i64 tt, .int .i64 ln] 35 (0, 0)) := bblock b3 (Go.heap_alloc_new wz _); have d0 : w3.cell? ⟨wz.heap.size, 0, none⟩ = some (.int .i64 fr) := cell_of_row _ _ 0 _ _ _ R3; have d1 : w3.cell? ⟨wz.heap.size, 1, none⟩ = some (.int .i64 tt) := cell_of_row _ _ 1 _ _ _ R3; clear b3 R3)
        go_roundw
        case rel => exact ⟨i + 1, y + (tt - fr), by omega, by congr 1, rfl, SG.out, Y2.out.1, Y2.out.2, B3.out⟩
        case measure => simp [lenW]; omega
      | false =>
        have hq' := of_decide_eq_false hq
        have SG : Hid (whereI x (l.take (i + 1)) = y) := by show _ = _; rw [ST]; unfold Mv.go; exact if_neg hq'
        clear hq ST GB hq'
        go_wp2_with (go_at_call 35; refine (within_any y fr tt ln _ OK.out y0 yB false HQ.out).mono ?_; rintro e w3 ⟨rfl, b3⟩; have B3 : Hid (Below w.heap.size w w3) := AL.out.trans (b3.mono AL.out.size); clear b3)
        go_roundw
        case rel => exact ⟨i + 1, y, by omega, by congr 1, rfl, SG.out, y0, by omega, B3.out⟩
        case measure => simp [lenW]; omega
    · obtain rfl : i = n := by omega
      have E : Hid (z = y) := by show z = y; rw [← HZ.out, ← HY.out, List.take_of_length_le (by rw [HN.out]; omega)]
      go_wp2
      go_ret
      exact ⟨by rw [E.out]; rfl, BZ.out⟩
end Go.Proofs.YtbnmbkohmmiamaaDoor
