/- What wrong, From, New, Rows and Live answer. -/
import Derived.Test.YtjdgildeilcfiaaHdE
namespace Go.Proofs.Ytjdgildeilcfiaa
open Go.RowKit
set_option linter.unusedVariables false

instance (r : Rw) : Decidable (okR r) := by unfold okR; infer_instance
def wrB (r : Rw) : Bool := !decide (okR r)
/-- The first wrong one. -/
def wxL (l : List Rw) : Nat := l.findIdx wrB
theorem wx_le (l : List Rw) : wxL l ≤ l.length := List.findIdx_le_length
theorem wx_at {l : List Rw} (h : wxL l < l.length) : wrB (l[wxL l]) = true := List.findIdx_getElem (p := wrB) (w := h)
theorem wx_no {l : List Rw} {i : Nat} (h : i < wxL l) : wrB (l[i]'(Nat.lt_of_lt_of_le h (wx_le l))) = false := by
  have := List.not_of_lt_findIdx (p := wrB) h
  simpa using this
theorem wx_eq {l : List Rw} {i : Nat} (hi : i < l.length) (h1 : wrB l[i] = true) (h2 : ∀ j (hj : j < i), wrB (l[j]'(by omega)) = false) : wxL l = i := by
  rcases Nat.lt_trichotomy (wxL l) i with h | h | h
  · have := h2 _ h
    rw [wx_at (by omega)] at this
    cases this
  · exact h
  · have := wx_no h
    rw [h1] at this
    cases this
theorem wx_none {l : List Rw} (h : ∀ j (hj : j < l.length), wrB l[j] = false) : wxL l = l.length := by
  rcases Nat.lt_or_ge (wxL l) l.length with k | k
  · have := h _ k
    rw [wx_at k] at this
    cases this
  · have := wx_le l
    omega

set_option maxHeartbeats 2000000 in
theorem wrong_any (r : Rw) (w : World) :
    Calls Try.prog 34 #[.agg #[.int .i64 r.gen, .bool r.live, .int .i64 r.kind, .int .i64 r.pl]] w fun e w' => e = .returned (.bool (wrB r)) ∧ Below w.heap.size w w' := by
  obtain ⟨g, lv, k, p⟩ := r
  have BZ : Hid (Below w.heap.size w (w.alloc (.cells #[.int .i64 g, .bool lv, .int .i64 k, .int .i64 p] 44))) := (Below.refl _ w).alloc (Nat.le_refl _) _
  cases lv with
  | true =>
    by_cases h1 : g < 1
    · have e : wrB ⟨g, true, k, p⟩ = true := by simp [wrB, okR]; omega
      rw [e]
      go_enter Try.func34, Try.ntmps34
      go_wp2
      go_ret
      exact ⟨rfl, BZ.out⟩
    · by_cases h2 : 65535 < g
      · have e : wrB ⟨g, true, k, p⟩ = true := by simp [wrB, okR]; omega
        rw [e]
        go_enter Try.func34, Try.ntmps34
        go_wp2
        go_ret
        exact ⟨rfl, BZ.out⟩
      · have e : wrB ⟨g, true, k, p⟩ = false := by simp [wrB, okR]; omega
        rw [e]
        go_enter Try.func34, Try.ntmps34
        go_wp2
        go_ret
        exact ⟨rfl, BZ.out⟩
  | false =>
    obtain ⟨wz, hwz⟩ : ∃ wz, w.alloc (.cells #[.int .i64 g, .bool false, .int .i64 k, .int .i64 p] 44) = wz := ⟨_, rfl⟩
    rw [hwz] at BZ
    have QZ : wz.heap[w.heap.size]? = some (.cells #[.int .i64 g, .bool false, .int .i64 k, .int .i64 p] 44 (0, 0)) := by rw [← hwz]; exact Go.heap_alloc_new w _
    have hz : wz.heap.size = w.heap.size + 1 := by rw [← hwz]; simp
    have c0 : wz.cell? ⟨w.heap.size, 0, none⟩ = some (.int .i64 g) := cell_of_row wz _ 0 _ _ _ QZ
    have c1 : wz.cell? ⟨w.heap.size, 1, none⟩ = some (.bool false) := cell_of_row wz _ 1 _ _ _ QZ
    have c2 : wz.cell? ⟨w.heap.size, 2, none⟩ = some (.int .i64 k) := cell_of_row wz _ 2 _ _ _ QZ
    have c3 : wz.cell? ⟨w.heap.size, 3, none⟩ = some (.int .i64 p) := cell_of_row wz _ 3 _ _ _ QZ
    have KK : Hid (∀ w1 j, Below wz.heap.size wz w1 → w1.cell? ⟨w.heap.size, j, none⟩ = wz.cell? ⟨w.heap.size, j, none⟩) := fun w1 j hb => hb.cell (p := ⟨w.heap.size, j, none⟩) (by show w.heap.size < _; omega)
    clear QZ
    by_cases h1 : g < 0
    · have e : wrB ⟨g, false, k, p⟩ = true := by simp [wrB, okR]; omega
      rw [e]
      have d1 : decide (g < 0) = true := decide_eq_true h1
      go_enter Try.func34, Try.ntmps34
      go_wp2_with fail
      go_quiet (fail)
      go_wp2
      go_ret
      exact ⟨rfl, ⟨BZ.out.os, BZ.out.tape, BZ.out.output, BZ.out.size, BZ.out.block⟩⟩
    · have d1 : decide (g < 0) = false := decide_eq_false h1
      by_cases h2 : 65535 < g
      · have e : wrB ⟨g, false, k, p⟩ = true := by simp [wrB, okR]; omega
        rw [e]
        have d2 : decide (65535 < g) = true := decide_eq_true h2
        go_enter Try.func34, Try.ntmps34
        go_wp2_with fail
        go_quiet (fail)
        go_wp2
        go_ret
        exact ⟨rfl, ⟨BZ.out.os, BZ.out.tape, BZ.out.output, BZ.out.size, BZ.out.block⟩⟩
      · have d2 : decide (65535 < g) = false := decide_eq_false h2
        by_cases h3 : k = 0
        · subst h3
          by_cases h4 : p = 0
          · subst h4
            have e : wrB ⟨g, false, 0, 0⟩ = false := by simp [wrB, okR]; omega
            rw [e]
            go_enter Try.func34, Try.ntmps34
            go_wp2_with fail
            go_region_held3 (fun w' => w'.cell? ⟨w.heap.size, 0, none⟩ = some (.int .i64 g) ∧ w'.cell? ⟨w.heap.size, 1, none⟩ = some (.bool false) ∧ w'.cell? ⟨w.heap.size, 2, none⟩ = some (.int .i64 0) ∧ w'.cell? ⟨w.heap.size, 3, none⟩ = some (.int .i64 0)) (first | assumption | exact ⟨by assumption, by assumption, by assumption, by assumption⟩ | go_keep) ((go_at_call 39; refine (ended_any ⟨g, false, 0, 0⟩ _).mono ?_; rintro e w1 ⟨rfl, b1⟩; have B1 : Hid (Below w.heap.size w w1) := BZ.out.trans (Below.mono ⟨b1.os, b1.tape, b1.output, b1.size, b1.block⟩ BZ.out.size); have j0 : w1.cell? ⟨w.heap.size, 0, none⟩ = some (.int .i64 g) := (KK.out w1 0 ⟨b1.os, b1.tape, b1.output, b1.size, b1.block⟩).trans c0; have j1 : w1.cell? ⟨w.heap.size, 1, none⟩ = some (.bool false) := (KK.out w1 1 ⟨b1.os, b1.tape, b1.output, b1.size, b1.block⟩).trans c1; have j2 : w1.cell? ⟨w.heap.size, 2, none⟩ = some (.int .i64 0) := (KK.out w1 2 ⟨b1.os, b1.tape, b1.output, b1.size, b1.block⟩).trans c2; have j3 : w1.cell? ⟨w.heap.size, 3, none⟩ = some (.int .i64 0) := (KK.out w1 3 ⟨b1.os, b1.tape, b1.output, b1.size, b1.block⟩).trans c3; clear b1))
            go_wp2
            go_ret
            exact ⟨rfl, B1.out⟩
          · have e : wrB ⟨g, false, 0, p⟩ = true := by simp [wrB, okR]; omega
            rw [e]
            go_enter Try.func34, Try.ntmps34
            go_wp2_with fail
            go_region_held3 (fun w' => w'.cell? ⟨w.heap.size, 0, none⟩ = some (.int .i64 g) ∧ w'.cell? ⟨w.heap.size, 1, none⟩ = some (.bool false) ∧ w'.cell? ⟨w.heap.size, 2, none⟩ = some (.int .i64 0) ∧ w'.cell? ⟨w.heap.size, 3, none⟩ = some (.int .i64 p)) (first | assumption | exact ⟨by assumption, by assumption, by assumption, by assumption⟩ | go_keep) ((go_at_call 39; refine (ended_any ⟨g, false, 0, p⟩ _).mono ?_; rintro e w1 ⟨rfl, b1⟩; have B1 : Hid (Below w.heap.size w w1) := BZ.out.trans (Below.mono ⟨b1.os, b1.tape, b1.output, b1.size, b1.block⟩ BZ.out.size); have j0 : w1.cell? ⟨w.heap.size, 0, none⟩ = some (.int .i64 g) := (KK.out w1 0 ⟨b1.os, b1.tape, b1.output, b1.size, b1.block⟩).trans c0; have j1 : w1.cell? ⟨w.heap.size, 1, none⟩ = some (.bool false) := (KK.out w1 1 ⟨b1.os, b1.tape, b1.output, b1.size, b1.block⟩).trans c1; have j2 : w1.cell? ⟨w.heap.size, 2, none⟩ = some (.int .i64 0) := (KK.out w1 2 ⟨b1.os, b1.tape, b1.output, b1.size, b1.block⟩).trans c2; have j3 : w1.cell? ⟨w.heap.size, 3, none⟩ = some (.int .i64 p) := (KK.out w1 3 ⟨b1.os, b1.tape, b1.output, b1.size, b1.block⟩).trans c3; clear b1))
            go_wp2
            go_ret
            exact ⟨rfl, B1.out⟩
        · have e : wrB ⟨g, false, k, p⟩ = true := by simp [wrB, okR]; omega
          rw [e]
          go_enter Try.func34, Try.ntmps34
          go_wp2_with fail
          go_region_held3 (fun w' => w'.cell? ⟨w.heap.size, 0, none⟩ = some (.int .i64 g) ∧ w'.cell? ⟨w.heap.size, 1, none⟩ = some (.bool false) ∧ w'.cell? ⟨w.heap.size, 2, none⟩ = some (.int .i64 k) ∧ w'.cell? ⟨w.heap.size, 3, none⟩ = some (.int .i64 p)) (first | assumption | exact ⟨by assumption, by assumption, by assumption, by assumption⟩ | go_keep) ((go_at_call 39; refine (ended_any ⟨g, false, k, p⟩ _).mono ?_; rintro e w1 ⟨rfl, b1⟩; have B1 : Hid (Below w.heap.size w w1) := BZ.out.trans (Below.mono ⟨b1.os, b1.tape, b1.output, b1.size, b1.block⟩ BZ.out.size); have j0 : w1.cell? ⟨w.heap.size, 0, none⟩ = some (.int .i64 g) := (KK.out w1 0 ⟨b1.os, b1.tape, b1.output, b1.size, b1.block⟩).trans c0; have j1 : w1.cell? ⟨w.heap.size, 1, none⟩ = some (.bool false) := (KK.out w1 1 ⟨b1.os, b1.tape, b1.output, b1.size, b1.block⟩).trans c1; have j2 : w1.cell? ⟨w.heap.size, 2, none⟩ = some (.int .i64 k) := (KK.out w1 2 ⟨b1.os, b1.tape, b1.output, b1.size, b1.block⟩).trans c2; have j3 : w1.cell? ⟨w.heap.size, 3, none⟩ = some (.int .i64 p) := (KK.out w1 3 ⟨b1.os, b1.tape, b1.output, b1.size, b1.block⟩).trans c3; clear b1))
          go_wp2
          go_ret
          exact ⟨rfl, B1.out⟩
set_option maxHeartbeats 1000000 in
theorem iw_any (a : Option Addr) (c : Nat) (xs : List Rw) (w : World) (h : IsW w a xs) (hx : xs.length ≤ 1000000) (R : Int) (hR : (if wxL xs < xs.length then ((wxL xs : Nat) : Int) else -1) = R) :
    Calls Try.prog 42 #[.slice a xs.length c, .func (.func 34) #[] #[]] w fun e w' => Below w.heap.size w w' ∧ e = .returned (.int .i64 R) := by
  have HR : Hid ((if wxL xs < xs.length then ((wxL xs : Nat) : Int) else -1) = R) := hR
  clear hR
  have H : Hid (IsW w a xs) := h
  have B0 : Hid (Below w.heap.size w w) := Below.refl _ _
  clear h
  go_enter Try.func42, Try.ntmps42
  go_wp2
  go_loopw [8] (fun iv wr => ∃ i : Nat, i ≤ xs.length ∧ iv = .int .i64 (i : Nat) ∧ (∀ j (hj : j < i) (hj' : j < xs.length), wrB xs[j] = false) ∧ Below w.heap.size w wr) (fun iv _ => xs.length - (intOf iv).toNat)
  case atStart => exact ⟨0, Nat.zero_le _, rfl, fun j hj => by omega, B0.out⟩
  case round =>
    obtain ⟨i, hi, rfl, hA, hB⟩ := hrel
    rename World => wr
    have HA : Hid (∀ j (hj : j < i) (hj' : j < xs.length), wrB xs[j] = false) := hA
    have HB : Hid (Below w.heap.size w wr) := hB
    by_cases hlt : i < xs.length
    · rcases H.out.keep hB with e | ⟨b, off, rfl, hb, hc⟩
      · rw [e] at hlt; simp at hlt
      · obtain ⟨c0, c1, c2, c3⟩ := hc i hlt
        obtain ⟨x, hx'⟩ : ∃ x, xs[i] = x := ⟨_, rfl⟩
        have EX : Hid (xs[i] = x) := hx'
        rw [hx'] at c0 c1 c2 c3
        clear hA hB hx' hc
        have hlt' : (i : Int) < xs.length := by omega
        cases hz : wrB x with
        | true =>
          have EZ : Hid (wrB x = true) := hz
          have EN : Hid ((if wxL xs < xs.length then ((wxL xs : Nat) : Int) else -1) = (i : Nat)) := by
            have := wx_eq hlt (by rw [EX.out]; exact hz) (fun j hj => HA.out j hj (by omega))
            show _ = _
            rw [this, if_pos hlt]
          clear hz
          go_wp2_with (go_at_call 34; refine (wrong_any x _).mono ?_; rw [EZ.out]; rintro e w1 ⟨rfl, b9⟩; have B9 : Hid (Below w.heap.size w w1) := HB.out.trans (b9.mono HB.out.size); clear b9)
          go_ret
          exact ⟨B9.out, ret_int (EN.out.symm.trans HR.out)⟩
        | false =>
          have EZ : Hid (wrB x = false) := hz
          clear hz
          go_wp2_with (go_at_call 34; refine (wrong_any x _).mono ?_; rw [EZ.out]; rintro e w1 ⟨rfl, b9⟩; have B9 : Hid (Below w.heap.size w w1) := HB.out.trans (b9.mono HB.out.size); clear b9)
          go_roundw
          case rel =>
            refine ⟨i + 1, by omega, by go_num, fun j hj hj' => ?_, B9.out⟩
            rcases Nat.lt_or_ge j i with k | k
            · exact HA.out j k hj'
            · obtain rfl : j = i := by omega
              rw [EX.out]; exact EZ.out
          case measure => simp [intOf]; omega
    · obtain rfl : i = xs.length := by omega
      have EN : Hid ((if wxL xs < xs.length then ((wxL xs : Nat) : Int) else -1) = -1) := by
        have := wx_none (fun j hj => HA.out j hj hj)
        show _ = _
        rw [this, if_neg (by omega)]
      clear hA hB
      go_wp2
      go_ret
      exact ⟨HB.out, ret_int (EN.out.symm.trans HR.out)⟩


end Go.Proofs.Ytjdgildeilcfiaa
