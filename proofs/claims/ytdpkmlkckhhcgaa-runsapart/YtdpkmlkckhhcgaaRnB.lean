/- The leaves of layer 7: end, the closures, IndexFunc, DeleteFunc, Grow. -/
import Derived.Test.YtdpkmlkckhhcgaaRnA
import Derived.BigQuiet
namespace Go.Proofs.Ytdpkmlkckhhcgaa
open Go.RowKit
set_option linter.unusedVariables false

def intOf : Value → Int
  | .int _ n => n
  | _ => 0

def boxRun (w : World) (a l : Nat) : World := w.alloc (.cells #[.int .i64 (a : Nat), .int .i64 (l : Nat)] 41)
theorem boxRun_below (w : World) (a l : Nat) : Below w.heap.size w (boxRun w a l) := (Below.refl _ w).alloc (Nat.le_refl _) _

theorem end_any (a l : Nat) (w : World) (h : a + l ≤ 1000000) :
    Calls Try.prog 32 #[.agg #[.int .i64 (a : Nat), .int .i64 (l : Nat)]] w fun e w' => e = .returned (.int .i64 ((a + l : Nat) : Int)) ∧ w' = w.alloc (.cells #[.int .i64 (a : Nat), .int .i64 (l : Nat)] 41) := by
  go_enter Try.func32, Try.ntmps32
  go_wp2
  go_ret
  exact ⟨ret_int (by omega), rfl⟩

theorem del_any (a l : Nat) (w : World) :
    Calls Try.prog 39 #[.agg #[.int .i64 (a : Nat), .int .i64 (l : Nat)]] w fun e w' => e = .returned (.bool (decide (l = 0))) ∧ w' = w.alloc (.cells #[.int .i64 (a : Nat), .int .i64 (l : Nat)] 41) := by
  by_cases h : l = 0
  · subst h
    go_enter Try.func39, Try.ntmps39
    go_wp2
    go_ret
    exact ⟨rfl, rfl⟩
  · have hn : ¬ ((l : Int) = 0) := by omega
    rw [decide_eq_false h]
    go_enter Try.func39, Try.ntmps39
    go_wp2
    go_ret
    exact ⟨ret_bool (by simpa using h), rfl⟩

set_option maxHeartbeats 1000000 in
theorem index_any (g c : Nat) (xs : List (Nat × Nat)) (w : World) (h : Row w g xs) (hx : xs.length ≤ 1000000) :
    Calls Try.prog 42 #[.slice (some ⟨g, 0, none⟩) xs.length c, .func (.func 39) #[] #[]] w fun e w' => Below w.heap.size w w' ∧
      ((e = .returned (.int .i64 (-1)) ∧ ∀ r ∈ xs, notE r = true) ∨ ∃ (i : Nat) (hi : i < xs.length), e = .returned (.int .i64 (i : Nat)) ∧ (∀ r ∈ xs.take i, notE r = true) ∧ notE xs[i] = false) := by
  have H : Hid (Row w g xs) := h
  have B0 : Hid (Below w.heap.size w w) := Below.refl _ _
  clear h
  go_enter Try.func42, Try.ntmps42
  go_wp2
  go_loopw [8] (fun iv wr => ∃ i : Nat, i ≤ xs.length ∧ iv = .int .i64 (i : Nat) ∧ (∀ r ∈ xs.take i, notE r = true) ∧ Below w.heap.size w wr) (fun iv _ => xs.length - (intOf iv).toNat)
  case atStart => exact ⟨0, Nat.zero_le _, rfl, by simp, B0.out⟩
  case round =>
    obtain ⟨i, hi, rfl, hA, hB⟩ := hrel
    rename World => wr
    have HA : Hid (∀ r ∈ xs.take i, notE r = true) := hA
    have HB : Hid (Below w.heap.size w wr) := hB
    by_cases hlt : i < xs.length
    · have c0 : wr.cell? ⟨g, i * 2, none⟩ = some (.int .i64 (xs[i].1 : Nat)) := (hB.cell (p := ⟨g, i * 2, none⟩) H.out.lt).trans (H.out.cell0 i hlt)
      have c1 : wr.cell? ⟨g, i * 2 + 1, none⟩ = some (.int .i64 (xs[i].2 : Nat)) := (hB.cell (p := ⟨g, i * 2 + 1, none⟩) H.out.lt).trans (H.out.cell1 i hlt)
      obtain ⟨x, hx'⟩ : ∃ x, xs[i] = x := ⟨_, rfl⟩
      have EX : Hid (xs[i] = x) := hx'
      rw [hx'] at c0 c1
      clear hA hB hx'
      have hlt' : (i : Int) < xs.length := by omega
      by_cases hz : x.2 = 0
      · have ED : Hid (decide (x.2 = 0) = true) := decide_eq_true hz
        have HZ : Hid (x.2 = 0) := hz
        clear hz
        go_wp2_with (go_at_call 39; refine (del_any _ _ _).mono ?_; rw [ED.out]; rintro e w1 ⟨rfl, rfl⟩)
        go_ret
        refine ⟨HB.out.alloc HB.out.size _, .inr ⟨i, hlt, rfl, HA.out, ?_⟩⟩
        rw [EX.out]; simp [notE, HZ.out]
      · have ED : Hid (decide (x.2 = 0) = false) := decide_eq_false hz
        go_wp2_with (go_at_call 39; refine (del_any _ _ _).mono ?_; rw [ED.out]; rintro e w1 ⟨rfl, rfl⟩)
        go_roundw
        case rel =>
          refine ⟨i + 1, by omega, by go_num, ?_, HB.out.alloc HB.out.size _⟩
          intro r hr
          rw [List.take_succ_eq_append_getElem hlt, List.mem_append] at hr
          rcases hr with hr | hr
          · exact HA.out r hr
          · simp at hr; subst hr; rw [EX.out]; simp [notE, hz]
        case measure => simp [intOf]; omega
    · obtain rfl : i = xs.length := by omega
      clear hA hB
      go_wp2
      go_ret
      exact ⟨HB.out, .inl ⟨rfl, by have := HA.out; rwa [List.take_length] at this⟩⟩
end Go.Proofs.Ytdpkmlkckhhcgaa
