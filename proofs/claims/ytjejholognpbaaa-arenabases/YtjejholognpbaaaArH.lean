/- The document's arena: what Good, New, In, Read, Place and Addr of the reference answer. -/
import Derived.Test.YtjejholognpbaaaArC
import Derived.Test.YtjejholognpbaaaArF
namespace Go.Proofs.Ytjejholognpbaaa
open Go.RowKit
set_option linter.unusedVariables false

/-- The document's arena. -/
def IsM (w : World) (b g : Nat) (base : Int) (l : List Int) : Prop := Ar 45 w b g base l

theorem rgood_any (x : Int) (w : World) : Calls Try.prog 23 #[.int .i64 x] w fun e w' => e = .returned (.bool (decide (goodR x))) ∧ w = w' := by
  by_cases a1 : x < 256
  · rw [decide_eq_false (p := goodR x) (by unfold goodR; omega)]
    go_enter Try.func23, Try.ntmps23
    go_wp2
    go_ret
    exact ⟨rfl, rfl⟩
  · by_cases a2 : 1099511627776 < x
    · rw [decide_eq_false (p := goodR x) (by unfold goodR; omega)]
      go_enter Try.func23, Try.ntmps23
      go_wp2
      go_ret
      exact ⟨rfl, rfl⟩
    · have n0 : 0 ≤ x := by omega
      have n2 : x ≤ 1099511627776 := by omega
      by_cases a3 : x % 256 = 0
      · rw [decide_eq_true (p := goodR x) (by unfold goodR; omega)]
        go_enter Try.func23, Try.ntmps23
        go_wp2
        go_ret
        exact ⟨rfl, rfl⟩
      · rw [decide_eq_false (p := goodR x) (by unfold goodR; omega)]
        go_enter Try.func23, Try.ntmps23
        go_wp2
        go_ret
        exact ⟨ret_bool (beq_eq_false_iff_ne.2 a3), rfl⟩
theorem rgood_of (x : Int) (v : Bool) (w : World) (hv : decide (goodR x) = v) : Calls Try.prog 23 #[.int .i64 x] w fun e w' => e = .returned (.bool v) ∧ w = w' := by
  subst hv; exact rgood_any x w

set_option maxHeartbeats 1000000 in
theorem rnew_any (x : Int) (p : Nat) (w : World) (h1 : 1 ≤ p) (h2 : p ≤ 4096) (hg : goodR x) :
    Calls Try.prog 12 #[.int .i64 x, .int .i64 (p : Nat)] w fun e w' => e = .returned (.tuple #[.pointer (some ⟨w.heap.size + 1, 0, none⟩), .int .i64 0]) ∧ IsM w' (w.heap.size + 1) w.heap.size x (List.replicate (p * 256) 0) ∧ Below w.heap.size w w' ∧ w'.heap.size = w.heap.size + 2 := by
  have HG : Hid (decide (goodR x) = true) := decide_eq_true hg
  have HX : Hid (256 ≤ x ∧ x ≤ 1099511627776) := ⟨hg.1, hg.2.1⟩
  have n1 : ¬ ((p : Int) < 1) := by omega
  have n2 : ¬ (4096 < (p : Int)) := by omega
  have MK : ∀ w : World, (Instr.makeSlice 35 (.int .i64 (256 * (p : Nat))) (.int .i64 (256 * (p : Nat)))).run Try.prog w = .ok (.slice (some ⟨w.heap.size, 0, none⟩) (p * 256) (p * 256)) (w.alloc (.cells (cellsB (List.replicate (p * 256) 0)).toArray 5)) := fun w => by
    have := make_B w (p * 256) (by omega)
    rw [Int.natCast_mul, Int.mul_comm] at this
    exact this
  have FIN : Hid (IsM ((w.alloc (.cells (cellsB (List.replicate (p * 256) 0)).toArray 5)).alloc (.cells #[.int .i64 x, .slice (some ⟨w.heap.size, 0, none⟩) (p * 256) (p * 256)] 45)) (w.heap.size + 1) w.heap.size x (List.replicate (p * 256) 0)) := by
    have hr : RowB (w.alloc (.cells (cellsB (List.replicate (p * 256) 0)).toArray 5)) w.heap.size (List.replicate (p * 256) 0) := Go.heap_alloc_new w _
    refine ⟨?_, hr.keep ((Below.refl _ _).alloc (Nat.le_refl _) _), AllB.zeros _, by omega, HX.out.1, HX.out.2, by simp; omega⟩
    have := Go.heap_alloc_new (w.alloc (.cells (cellsB (List.replicate (p * 256) 0)).toArray 5)) (.cells #[.int .i64 x, .slice (some ⟨w.heap.size, 0, none⟩) (p * 256) (p * 256)] 45)
    rw [World.size_alloc] at this
    rw [this, List.length_replicate]
  clear hg
  go_enter Try.func12, Try.ntmps12
  go_wp2_with (go_at_call 23; refine (rgood_of x true _ HG.out).mono ?_; rintro e w' ⟨rfl, rfl⟩)
  go_ret2
  exact ⟨by simp, FIN.out, ((Below.refl _ w).alloc (Nat.le_refl _) _).alloc (by simp) _, by simp⟩

set_option maxHeartbeats 1000000 in
theorem rin_any (b g : Nat) (base x k : Int) (l : List Int) (w : World) (h : IsM w b g base l) (hx : Fits x) (hk : Fits k) :
    Calls Try.prog 21 #[.pointer (some ⟨b, 0, none⟩), .int .i64 x, .int .i64 k] w fun e w' => e = .returned (.bool (decide (inR l.length (x - base) k))) ∧ ∃ m, w' = w.drewN m := by
  have c0 := h.cell0
  have c1 := h.cell1
  have hl := h.len
  have h1 := h.lo
  have h2 := h.hi
  unfold Fits at hx hk
  clear h
  by_cases a2 : x < base
  · rw [decide_eq_false (p := inR l.length (x - base) k) (by unfold inR; omega)]
    have d2 : decide (x < base) = true := decide_eq_true a2
    go_enter Try.func21, Try.ntmps21
    go_wp2_with fail
    go_quiet (fail)
    go_wp2
    go_ret
    exact ⟨rfl, _, rfl⟩
  · have d2 : decide (x < base) = false := decide_eq_false a2
    by_cases a3 : base + (l.length : Nat) < x
    · rw [decide_eq_false (p := inR l.length (x - base) k) (by unfold inR; omega)]
      have d3 : decide (base + (l.length : Int) < x) = true := decide_eq_true a3
      go_enter Try.func21, Try.ntmps21
      go_wp2_with fail
      go_quiet (fail)
      go_wp2
      go_ret
      exact ⟨rfl, _, rfl⟩
    · have d3 : decide (base + (l.length : Int) < x) = false := decide_eq_false a3
      by_cases a1 : k < 0
      · rw [decide_eq_false (p := inR l.length (x - base) k) (by unfold inR; omega)]
        have d1 : decide (0 ≤ k) = false := decide_eq_false (by omega)
        go_enter Try.func21, Try.ntmps21
        go_wp2_with fail
        go_quiet (fail)
        go_wp2_with fail
        go_quiet (fail)
        go_wp2
        go_ret
        exact ⟨rfl, _, World.drewN_drewN ..⟩
      · have d1 : decide (0 ≤ k) = true := decide_eq_true (by omega)
        obtain ⟨v, hv⟩ : ∃ v, decide (k ≤ base + (l.length : Int) - x) = v := ⟨_, rfl⟩
        have E : decide (inR l.length (x - base) k) = v := by
          rw [← hv]
          exact decide_eq_decide.2 (by unfold inR; omega)
        rw [E]
        clear E
        go_enter Try.func21, Try.ntmps21
        go_wp2_with fail
        go_quiet (fail)
        go_wp2_with fail
        go_quiet (fail)
        go_wp2
        go_ret
        exact ⟨rfl, _, World.drewN_drewN ..⟩
theorem rin_of (b g : Nat) (base x k : Int) (v : Bool) (l : List Int) (w : World) (h : IsM w b g base l) (hx : Fits x) (hk : Fits k) (hv : decide (inR l.length (x - base) k) = v) :
    Calls Try.prog 21 #[.pointer (some ⟨b, 0, none⟩), .int .i64 x, .int .i64 k] w fun e w' => e = .returned (.bool v) ∧ ∃ m, w' = w.drewN m := by
  subst hv; exact rin_any b g base x k l w h hx hk
end Go.Proofs.Ytjejholognpbaaa
