/- Small calls of layer 7: check, Len, Has, Left, Most; nil ones. -/
import Derived.Test.YtdpkmlkckhhcgaaRnF
namespace Go.Proofs.Ytdpkmlkckhhcgaa
open Go.RowKit
set_option linter.unusedVariables false

/-- Units of which these are taken, in blocks of the set S. -/
def IsR (w : World) (S : Nat → Prop) (b n : Nat) (f : Nat → Bool) : Prop := At w S b n (freeL f n)

theorem len_any (S : Nat → Prop) (b n : Nat) (f : Nat → Bool) (w : World) (h : IsR w S b n f) :
    Calls Try.prog 15 #[.pointer (some ⟨b, 0, none⟩)] w fun e w' => e = .returned (.int .i64 (n : Nat)) ∧ w = w' := by
  obtain ⟨a, cap, hB⟩ := h
  have c0 := hB.cell0
  clear hB
  go_enter Try.func15, Try.ntmps15
  go_wp2
  go_ret
  exact ⟨rfl, rfl⟩

/-- Not all of these units are there. -/
def badE (n : Nat) (x k : Int) : Prop := k < 1 ∨ x < 0 ∨ (n : Int) < x + k

theorem check_bad (S : Nat → Prop) (b n : Nat) (f : Nat → Bool) (x k : Int) (w : World) (h : IsR w S b n f) (hn : n ≤ 65536) (hx : -9223372036854775808 ≤ x ∧ x ≤ 9223372036854775807) (hk : -9223372036854775808 ≤ k ∧ k ≤ 9223372036854775807) (hbad : badE n x k) :
    Calls Try.prog 29 #[.pointer (some ⟨b, 0, none⟩), .int .i64 x, .int .i64 k] w fun e w' => e = .returned (.int .i64 2) ∧ w = w' := by
  obtain ⟨a, cap, hB⟩ := h
  have c0 := hB.cell0
  clear hB
  by_cases h1 : k < 1
  · clear hbad
    go_enter Try.func29, Try.ntmps29
    go_wp2
    go_ret
    exact ⟨rfl, rfl⟩
  · by_cases h2 : x < 0
    · clear hbad
      go_enter Try.func29, Try.ntmps29
      go_wp2
      go_ret
      exact ⟨rfl, rfl⟩
    · have h3 : (n : Int) - k < x := by rcases hbad with h | h | h <;> omega
      clear hbad
      go_enter Try.func29, Try.ntmps29
      go_wp2
      go_ret
      exact ⟨rfl, rfl⟩
theorem check_ok (S : Nat → Prop) (b n : Nat) (f : Nat → Bool) (x k : Nat) (w : World) (h : IsR w S b n f) (hn : n ≤ 65536) (hk : 1 ≤ k) (hxk : x + k ≤ n) :
    Calls Try.prog 29 #[.pointer (some ⟨b, 0, none⟩), .int .i64 (x : Nat), .int .i64 (k : Nat)] w fun e w' => e = .returned (.int .i64 0) ∧ w = w' := by
  obtain ⟨a, cap, hB⟩ := h
  have c0 := hB.cell0
  have h1 : ¬ ((k : Int) < 1) := by omega
  have h2 : ¬ ((x : Int) < 0) := by omega
  have h3 : ¬ ((n : Int) - (k : Int) < (x : Int)) := by omega
  clear hB
  go_enter Try.func29, Try.ntmps29
  go_wp2
  go_ret
  exact ⟨rfl, rfl⟩
theorem check_nil (x k : Int) (w : World) :
    Calls Try.prog 29 #[.pointer none, .int .i64 x, .int .i64 k] w fun e w' => e = .returned (.int .i64 1) ∧ w = w' := by
  go_enter Try.func29, Try.ntmps29
  go_wp2
  go_ret
  exact ⟨rfl, rfl⟩

/-- The i-th free run in memory. -/
theorem Box.run {w : World} {S : Nat → Prop} {b : Nat} {a : Option Addr} {cap n : Nat} {L : List (Nat × Nat)} (h : Box w S b a cap n L) {i : Nat} (hi : i < L.length) :
    ∃ g, a = some ⟨g, 0, none⟩ ∧ S g ∧ g < w.heap.size ∧ w.cell? ⟨g, i * 2, none⟩ = some (.int .i64 (L[i].1 : Nat)) ∧ w.cell? ⟨g, i * 2 + 1, none⟩ = some (.int .i64 (L[i].2 : Nat)) := by
  obtain ⟨_, ⟨_, e, _⟩ | ⟨g, xs, e, hs, hr, hl, ht⟩⟩ := h.row
  · rw [e] at hi; simp at hi
  · have hkx : i < xs.length := by have := congrArg List.length ht; simp at this; omega
    have ex : xs[i] = L[i] := by
      have : L[i]? = xs[i]? := by rw [← ht, List.getElem?_take, if_pos hi]
      rw [List.getElem?_eq_getElem hi, List.getElem?_eq_getElem hkx] at this
      exact (Option.some.inj this).symm
    have c0 := hr.cell0 i hkx
    have c1 := hr.cell1 i hkx
    rw [ex] at c0 c1
    exact ⟨g, e, hs, hr.lt, c0, c1⟩

set_option maxHeartbeats 1000000 in
theorem has_any (S : Nat → Prop) (b n : Nat) (f : Nat → Bool) (x : Int) (w : World) (h : IsR w S b n f) (hn : n ≤ 65536) (hx : -9223372036854775808 ≤ x ∧ x ≤ 9223372036854775807) :
    Calls Try.prog 16 #[.pointer (some ⟨b, 0, none⟩), .int .i64 x] w fun e w' => e = .returned (.bool (hasF n f x)) ∧ Below w.heap.size w w' := by
  have H : Hid (IsR w S b n f) := h
  by_cases hb : badE n x 1
  · have E : hasF n f x = false := by
      unfold badE at hb
      unfold hasF
      rcases hb with h | h | h
      · omega
      · rw [decide_eq_false (by omega)]; rfl
      · rw [decide_eq_false (p := x < (n : Int)) (by omega)]; simp
    rw [E]
    have HB : Hid (badE n x 1) := hb
    clear hb E h
    go_enter Try.func16, Try.ntmps16
    go_wp2_with (go_at_call 29; refine (check_bad S b n f x 1 _ H.out hn hx (by omega) HB.out).mono ?_; rintro e w' ⟨rfl, rfl⟩)
    go_ret
    exact ⟨rfl, Below.refl _ _⟩
  · unfold badE at hb
    obtain ⟨p, rfl⟩ : ∃ p : Nat, x = p := ⟨x.toNat, by omega⟩
    have hpn : p < n := by omega
    have E : hasF n f p = f p := by
      unfold hasF
      rw [decide_eq_true (by omega), decide_eq_true (p := (p : Int) < (n : Int)) (by omega)]
      simp
    rw [E]
    clear hb E h
    go_enter Try.func16, Try.ntmps16
    go_wp2_with (go_at_call 29; refine (check_ok S b n f p 1 _ H.out hn (by omega) (by omega)).mono ?_; rintro e w' ⟨rfl, rfl⟩)
    refine (find_any S b n p f _ _ H.out (freeL_FL f n) hn (by omega)).mono ?_
    rintro e w1 ⟨i, hF, rfl, b1⟩
    have B1 : Hid (Below w.heap.size w w1) := b1
    obtain ⟨a, cap, hB⟩ := H.out.keep b1
    have c1 := hB.cell1
    have hle := hF.1
    have hll := freeL_len f n
    by_cases hi : i < (freeL f n).length
    · obtain ⟨g, rfl, _, _, d0, d1⟩ := hB.run hi
      have EH : Hid (f p = decide (p < (freeL f n)[i].1)) := (freeL_FL f n).has_at hF hpn hi
      obtain ⟨y, hy⟩ : ∃ y, (freeL f n)[i].1 = y := ⟨_, rfl⟩
      have EY : Hid ((freeL f n)[i].1 = y) := hy
      rw [hy] at d0
      obtain ⟨l, hl⟩ : ∃ l, (freeL f n).length = l := ⟨_, rfl⟩
      rw [hl] at hi hle c1 hll
      have hne : ¬ ((i : Int) = (l : Int)) := by omega
      have hlt : (i : Int) < (l : Int) := by omega
      clear d1 hB hF b1 hl hy
      go_wp2
      go_ret
      exact ⟨ret_bool (by rw [EH.out, EY.out, beq_eq_false_iff_ne.2 hne]; rfl), B1.out⟩
    · have hil : i = (freeL f n).length := by omega
      have EH : Hid (f p = true) := (freeL_FL f n).has_end (by rw [← hil]; exact hF) hpn
      obtain ⟨l, hl⟩ : ∃ l, (freeL f n).length = l := ⟨_, rfl⟩
      rw [hl] at hi hle c1 hil hll
      subst hil
      clear hB hF b1 hl
      go_wp2
      go_ret
      exact ⟨ret_bool EH.out.symm, B1.out⟩
end Go.Proofs.Ytdpkmlkckhhcgaa
