/- Small calls of layer 8: size, Base, Pages, End, In, cut; nil ones. -/
import Derived.Test.YtjejholognpbaaaArB
namespace Go.Proofs.Ytjejholognpbaaa
open Go.RowKit
set_option linter.unusedVariables false

/-- The code's arena. -/
def IsA (w : World) (b g : Nat) (base : Int) (l : List Int) : Prop := Ar 64 w b g base l

theorem size_any (b g : Nat) (base : Int) (l : List Int) (w : World) (h : IsA w b g base l) :
    Calls Try.prog 41 #[.pointer (some ⟨b, 0, none⟩)] w fun e w' => e = .returned (.int .i64 (l.length : Nat)) ∧ w = w' := by
  have c1 := h.cell1
  clear h
  go_enter Try.func41, Try.ntmps41
  go_wp2
  go_ret
  exact ⟨rfl, rfl⟩
theorem size_nil (w : World) : Calls Try.prog 41 #[.pointer none] w fun e w' => e = .returned (.int .i64 0) ∧ w = w' := by
  go_enter Try.func41, Try.ntmps41
  go_wp2
  go_ret
  exact ⟨rfl, rfl⟩
theorem base_any (b g : Nat) (base : Int) (l : List Int) (w : World) (h : IsA w b g base l) :
    Calls Try.prog 17 #[.pointer (some ⟨b, 0, none⟩)] w fun e w' => e = .returned (.int .i64 base) ∧ w = w' := by
  have c0 := h.cell0
  clear h
  go_enter Try.func17, Try.ntmps17
  go_wp2
  go_ret
  exact ⟨rfl, rfl⟩
theorem base_nil (w : World) : Calls Try.prog 17 #[.pointer none] w fun e w' => e = .returned (.int .i64 0) ∧ w = w' := by
  go_enter Try.func17, Try.ntmps17
  go_wp2
  go_ret
  exact ⟨rfl, rfl⟩
theorem pages_any (b g : Nat) (base : Int) (l : List Int) (w : World) (h : IsA w b g base l) :
    Calls Try.prog 18 #[.pointer (some ⟨b, 0, none⟩)] w fun e w' => e = .returned (.int .i64 ((l.length / 256 : Nat) : Int)) ∧ w = w' := by
  have H : Hid (IsA w b g base l) := h
  have hl := h.len
  clear h
  go_enter Try.func18, Try.ntmps18
  go_wp2_with (go_at_call 41; refine (size_any b g base l _ H.out).mono ?_; rintro e w' ⟨rfl, rfl⟩)
  go_ret
  exact ⟨rfl, rfl⟩
theorem pages_nil (w : World) : Calls Try.prog 18 #[.pointer none] w fun e w' => e = .returned (.int .i64 0) ∧ w = w' := by
  go_enter Try.func18, Try.ntmps18
  go_wp2_with (go_at_call 41; refine (size_nil _).mono ?_; rintro e w' ⟨rfl, rfl⟩)
  go_ret
  exact ⟨rfl, rfl⟩
theorem end_any (b g : Nat) (base : Int) (l : List Int) (w : World) (h : IsA w b g base l) :
    Calls Try.prog 19 #[.pointer (some ⟨b, 0, none⟩)] w fun e w' => e = .returned (.int .i64 (base + (l.length : Nat))) ∧ w = w' := by
  have H : Hid (IsA w b g base l) := h
  have hl := h.len
  have h1 := h.lo
  have h2 := h.hi
  clear h
  go_enter Try.func19, Try.ntmps19
  go_wp2_with (first
    | (go_at_call 41; refine (size_any b g base l _ H.out).mono ?_; rintro e w' ⟨rfl, rfl⟩)
    | (go_at_call 17; refine (base_any b g base l _ H.out).mono ?_; rintro e w' ⟨rfl, rfl⟩))
  go_ret
  exact ⟨rfl, rfl⟩
theorem end_nil (w : World) : Calls Try.prog 19 #[.pointer none] w fun e w' => e = .returned (.int .i64 0) ∧ w = w' := by
  go_enter Try.func19, Try.ntmps19
  go_wp2_with (first
    | (go_at_call 41; refine (size_nil _).mono ?_; rintro e w' ⟨rfl, rfl⟩)
    | (go_at_call 17; refine (base_nil _).mono ?_; rintro e w' ⟨rfl, rfl⟩))
  go_ret
  exact ⟨rfl, rfl⟩

/-- A number that an int holds. -/
def Fits (x : Int) : Prop := -9223372036854775808 ≤ x ∧ x ≤ 9223372036854775807

theorem in_any (b g : Nat) (base x k : Int) (l : List Int) (w : World) (h : IsA w b g base l) (hx : Fits x) (hk : Fits k) :
    Calls Try.prog 20 #[.pointer (some ⟨b, 0, none⟩), .int .i64 x, .int .i64 k] w fun e w' => e = .returned (.bool (decide (inR l.length (x - base) k))) ∧ w = w' := by
  have H : Hid (IsA w b g base l) := h
  have c0 := h.cell0
  have hl := h.len
  have h1 := h.lo
  have h2 := h.hi
  unfold Fits at hx hk
  clear h
  by_cases a1 : k < 0
  · rw [decide_eq_false (p := inR l.length (x - base) k) (by unfold inR; omega)]
    go_enter Try.func20, Try.ntmps20
    go_wp2
    go_ret
    exact ⟨rfl, rfl⟩
  · by_cases a2 : x < base
    · rw [decide_eq_false (p := inR l.length (x - base) k) (by unfold inR; omega)]
      go_enter Try.func20, Try.ntmps20
      go_wp2
      go_ret
      exact ⟨rfl, rfl⟩
    · by_cases a3 : base + (l.length : Nat) - x < k
      · rw [decide_eq_false (p := inR l.length (x - base) k) (by unfold inR; omega)]
        go_enter Try.func20, Try.ntmps20
        go_wp2_with (go_at_call 19; refine (end_any b g base l _ H.out).mono ?_; rintro e w' ⟨rfl, rfl⟩)
        go_ret
        exact ⟨ret_bool (decide_eq_false (by omega)), rfl⟩
      · rw [decide_eq_true (p := inR l.length (x - base) k) (by unfold inR; omega)]
        go_enter Try.func20, Try.ntmps20
        go_wp2_with (go_at_call 19; refine (end_any b g base l _ H.out).mono ?_; rintro e w' ⟨rfl, rfl⟩)
        go_ret
        exact ⟨rfl, rfl⟩
theorem in_nil (x k : Int) (w : World) : Calls Try.prog 20 #[.pointer none, .int .i64 x, .int .i64 k] w fun e w' => e = .returned (.bool false) ∧ w = w' := by
  go_enter Try.func20, Try.ntmps20
  go_wp2
  go_ret
  exact ⟨rfl, rfl⟩
theorem in_of (b g : Nat) (base x k : Int) (v : Bool) (l : List Int) (w : World) (h : IsA w b g base l) (hx : Fits x) (hk : Fits k) (hv : decide (inR l.length (x - base) k) = v) :
    Calls Try.prog 20 #[.pointer (some ⟨b, 0, none⟩), .int .i64 x, .int .i64 k] w fun e w' => e = .returned (.bool v) ∧ w = w' := by
  subst hv; exact in_any b g base x k l w h hx hk

theorem cut_out (b g : Nat) (base x k : Int) (l : List Int) (w : World) (h : IsA w b g base l) (hx : Fits x) (hk : Fits k) (hin : ¬ inR l.length (x - base) k) :
    Calls Try.prog 42 #[.pointer (some ⟨b, 0, none⟩), .int .i64 x, .int .i64 k] w fun e w' => e = .returned (.tuple #[.slice none 0 0, .int .i64 10]) ∧ w = w' := by
  have H : Hid (IsA w b g base l) := h
  have HI : Hid (decide (inR l.length (x - base) k) = false) := decide_eq_false hin
  clear h hin
  go_enter Try.func42, Try.ntmps42
  go_wp2_with (go_at_call 20; refine (in_of b g base x k false l _ H.out hx hk HI.out).mono ?_; rintro e w' ⟨rfl, rfl⟩)
  go_ret2
  exact ⟨rfl, rfl⟩
theorem cut_nil (x k : Int) (w : World) :
    Calls Try.prog 42 #[.pointer none, .int .i64 x, .int .i64 k] w fun e w' => e = .returned (.tuple #[.slice none 0 0, .int .i64 1]) ∧ w = w' := by
  go_enter Try.func42, Try.ntmps42
  go_wp2
  go_ret2
  exact ⟨rfl, rfl⟩
theorem cut_in (b g : Nat) (base x k : Int) (o m : Nat) (l : List Int) (w : World) (h : IsA w b g base l) (ho : x - base = (o : Nat)) (hm : k = (m : Nat)) (hin : o + m ≤ l.length) :
    Calls Try.prog 42 #[.pointer (some ⟨b, 0, none⟩), .int .i64 x, .int .i64 k] w fun e w' => ∃ ad cap, e = .returned (.tuple #[.slice ad m cap, .int .i64 0]) ∧ (m = 0 ∨ ad = some ⟨g, o, none⟩) ∧ w = w' := by
  have H : Hid (IsA w b g base l) := h
  have hl := h.len
  have h1 := h.lo
  have h2 := h.hi
  have c0 := h.cell0
  have c1 := h.cell1
  subst hm
  have HI : Hid (decide (inR l.length (x - base) (m : Int)) = true) := decide_eq_true (by unfold inR; omega)
  have hx : Fits x := by unfold Fits; omega
  have hk : Fits (m : Int) := by unfold Fits; omega
  clear h
  by_cases hc : l.length = o
  · obtain rfl : m = 0 := by omega
    go_enter Try.func42, Try.ntmps42
    go_wp2_with (go_at_call 20; refine (in_of b g base x _ true l _ H.out hx hk HI.out).mono ?_; rintro e w' ⟨rfl, rfl⟩)
    go_ret2
    exact ⟨_, _, rfl, .inl trivial, rfl⟩
  · have n1 : ¬ ((o : Int) + (m : Int) < (o : Int)) := by omega
    have n2 : (o : Int) + (m : Int) ≤ (l.length : Int) := by omega
    go_enter Try.func42, Try.ntmps42
    go_wp2_with (go_at_call 20; refine (in_of b g base x _ true l _ H.out hx hk HI.out).mono ?_; rintro e w' ⟨rfl, rfl⟩)
    go_ret2
    refine ⟨some ⟨g, o, none⟩, l.length - o, ?_, .inr rfl, rfl⟩
    show Ending.returned (.tuple #[.slice (some ⟨g, o, none⟩) (o + m - o) (l.length - o), .int .i64 0]) = _
    rw [show o + m - o = m from by omega]
end Go.Proofs.Ytjejholognpbaaa
