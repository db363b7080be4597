/- The document's units in memory: New, all, turn, Mark, Give, Has. -/
import Derived.Test.YtdpkmlkckhhcgaaRnK
namespace Go.Proofs.Ytdpkmlkckhhcgaa
open Go.RowKit
set_option linter.unusedVariables false

def cellsT (f : Nat → Bool) (n : Nat) : List Value := (List.range n).map fun i => Value.bool (f i)
theorem cellsT_len (f : Nat → Bool) (n : Nat) : (cellsT f n).length = n := by simp [cellsT]
theorem cellsT_at (f : Nat → Bool) (n i : Nat) (h : i < n) : (cellsT f n)[i]? = some (.bool (f i)) := by simp [cellsT, h]

/-- The document's units: a box mb, a row mg. -/
structure Ref (w : World) (mb mg n : Nat) (f : Nat → Bool) : Prop where
  box : w.heap[mb]? = some (.cells #[.slice (some ⟨mg, 0, none⟩) n n] 38 (0, 0))
  row : w.heap[mg]? = some (.cells (cellsT f n).toArray 4 (0, 0))
theorem Ref.lt {w : World} {mb mg n : Nat} {f : Nat → Bool} (h : Ref w mb mg n f) : mb < w.heap.size ∧ mg < w.heap.size := ⟨(Array.getElem?_eq_some_iff.1 h.box).1, (Array.getElem?_eq_some_iff.1 h.row).1⟩
theorem Ref.apart {w : World} {mb mg n : Nat} {f : Nat → Bool} (h : Ref w mb mg n f) : mb ≠ mg := by
  rintro rfl
  have h1 := h.box
  rw [h.row] at h1
  simp at h1
theorem Ref.keep {w w' : World} {mb mg n : Nat} {f : Nat → Bool} (h : Ref w mb mg n f) (hb : Below w.heap.size w w') : Ref w' mb mg n f :=
  ⟨by rw [hb.block mb h.lt.1]; exact h.box, by rw [hb.block mg h.lt.2]; exact h.row⟩
theorem Ref.tu {w w' : World} {S : Nat → Prop} {mb mg n : Nat} {f : Nat → Bool} (h : Ref w mb mg n f) (ht : Tu S w w') (h1 : ¬ S mb) (h2 : ¬ S mg) : Ref w' mb mg n f := ⟨ht.block mb _ h.box h1, ht.block mg _ h.row h2⟩
theorem Ref.drewN {w : World} {mb mg n : Nat} {f : Nat → Bool} (h : Ref w mb mg n f) (m : Nat) : Ref (w.drewN m) mb mg n f := ⟨h.box, h.row⟩
theorem Ref.cellB {w : World} {mb mg n : Nat} {f : Nat → Bool} (h : Ref w mb mg n f) : w.cell? ⟨mb, 0, none⟩ = some (.slice (some ⟨mg, 0, none⟩) n n) := cell_of_row _ _ 0 _ _ _ h.box
theorem Ref.cell {w : World} {mb mg n : Nat} {f : Nat → Bool} (h : Ref w mb mg n f) (i : Nat) (hi : i < n) : w.cell? ⟨mg, i, none⟩ = some (.bool (f i)) := by
  rw [cell_of_row _ _ i _ _ _ h.row]; simpa using cellsT_at f n i hi
theorem Ref.thawed {w : World} {mb mg n : Nat} {f : Nat → Bool} (h : Ref w mb mg n f) (i : Nat) : w.frozen? ⟨mg, i, none⟩ = false := frozen_of_row _ _ _ _ _ h.row
theorem Ref.set {w : World} {mb mg n : Nat} {f : Nat → Bool} (h : Ref w mb mg n f) (i : Nat) (v : Bool) : Ref (w.setCell ⟨mg, i, none⟩ (.bool v)) mb mg n (fun j => if j = i then v else f j) := by
  refine ⟨by rw [(Only.set mg i _ w).block mb h.apart]; exact h.box, ?_⟩
  rw [heap_setCell_same w mg i _ _ _ h.row]
  have e : (cellsT f n).set i (.bool v) = cellsT (fun j => if j = i then v else f j) n := by
    apply List.ext_getElem
    · simp [cellsT]
    · intro j h1 h2
      simp [cellsT, List.getElem_set]
      by_cases e : i = j
      · subst e; simp
      · simp [e, Ne.symm e]
  simp [← e]

theorem rhas_any (mb mg n : Nat) (f : Nat → Bool) (x : Int) (w : World) (h : Ref w mb mg n f) (hn : n ≤ 65536) :
    Calls Try.prog 28 #[.pointer (some ⟨mb, 0, none⟩), .int .i64 x] w fun e w' => e = .returned (.bool (hasF n f x)) ∧ w = w' := by
  have c0 := h.cellB
  by_cases h0 : 0 ≤ x
  · by_cases h1 : x < (n : Int)
    · obtain ⟨p, rfl⟩ : ∃ p : Nat, x = p := ⟨x.toNat, by omega⟩
      have c1 := h.cell p (by omega)
      have E : hasF n f p = f p := by
        unfold hasF
        rw [decide_eq_true h0, decide_eq_true h1]; simp
      rw [E]
      clear E h
      go_enter Try.func28, Try.ntmps28
      go_wp2
      go_ret
      exact ⟨rfl, rfl⟩
    · have E : hasF n f x = false := by unfold hasF; rw [decide_eq_false (p := x < (n : Int)) h1]; simp
      rw [E]
      clear E h
      go_enter Try.func28, Try.ntmps28
      go_wp2
      go_ret
      exact ⟨rfl, rfl⟩
  · have E : hasF n f x = false := by unfold hasF; rw [decide_eq_false (p := 0 ≤ x) h0]; simp
    rw [E]
    clear E h
    go_enter Try.func28, Try.ntmps28
    go_wp2
    go_ret
    exact ⟨rfl, rfl⟩

set_option maxHeartbeats 1000000 in
theorem rall_any (mb mg n : Nat) (f : Nat → Bool) (x k : Int) (v : Bool) (w : World) (h : Ref w mb mg n f) (hn : n ≤ 65536) (hx : -9223372036854775808 ≤ x ∧ x ≤ 9223372036854775807) (hk : -9223372036854775808 ≤ k ∧ k ≤ 9223372036854775807) :
    Calls Try.prog 41 #[.pointer (some ⟨mb, 0, none⟩), .int .i64 x, .int .i64 k, .bool v] w fun e w' => w = w' ∧
      ((badE n x k ∧ e = .returned (.int .i64 2)) ∨ (¬ badE n x k ∧ ¬ AllF f x.toNat k.toNat v ∧ e = .returned (.int .i64 9)) ∨ (¬ badE n x k ∧ AllF f x.toNat k.toNat v ∧ e = .returned (.int .i64 0))) := by
  have H : Hid (Ref w mb mg n f) := h
  have c0 := h.cellB
  by_cases hb : badE n x k
  · have HB : Hid (badE n x k) := hb
    have hb' := hb
    unfold badE at hb'
    clear h hb
    by_cases h1 : k < 1
    · clear hb'
      go_enter Try.func41, Try.ntmps41
      go_wp2
      go_ret
      exact ⟨rfl, .inl ⟨HB.out, rfl⟩⟩
    · by_cases h2 : x < 0
      · clear hb'
        go_enter Try.func41, Try.ntmps41
        go_wp2
        go_ret
        exact ⟨rfl, .inl ⟨HB.out, rfl⟩⟩
      · by_cases h3 : (n : Int) ≤ x
        · clear hb'
          go_enter Try.func41, Try.ntmps41
          go_wp2
          go_ret
          exact ⟨rfl, .inl ⟨HB.out, rfl⟩⟩
        · have h4 : (n : Int) - x < k := by omega
          have h5 : x < (n : Int) := by omega
          have h6 : 0 ≤ x := by omega
          clear hb'
          go_enter Try.func41, Try.ntmps41
          go_wp2
          go_ret
          exact ⟨rfl, .inl ⟨HB.out, rfl⟩⟩
  · have NB : Hid (¬ badE n x k) := hb
    unfold badE at hb
    obtain ⟨p, rfl⟩ : ∃ p : Nat, x = p := ⟨x.toNat, by omega⟩
    obtain ⟨q, rfl⟩ : ∃ q : Nat, k = q := ⟨k.toNat, by omega⟩
    have hq1 : 1 ≤ q := by omega
    have hpq : p + q ≤ n := by omega
    have h1 : ¬ ((q : Int) < 1) := by omega
    have h2 : ¬ ((p : Int) < 0) := by omega
    have h3 : ¬ ((n : Int) ≤ (p : Int)) := by omega
    have h4 : ¬ ((n : Int) - (p : Int) < (q : Int)) := by omega
    simp only [Int.toNat_natCast]
    clear h hb hx hk
    go_enter Try.func41, Try.ntmps41
    go_wp2
    go_loopw [9] (fun iv wr => ∃ i : Nat, p ≤ i ∧ i ≤ p + q ∧ iv = .int .i64 (i : Nat) ∧ (∀ j, p ≤ j → j < i → f j = v) ∧ w = wr) (fun iv _ => p + q - (intOf iv).toNat)
    case atStart => exact ⟨p, Nat.le_refl _, by omega, rfl, fun j h1 h2 => by omega, rfl⟩
    case round =>
      obtain ⟨i, hi1, hi2, rfl, hA, rfl⟩ := hrel
      have HA : Hid (∀ j, p ≤ j → j < i → f j = v) := hA
      clear hA
      by_cases hlt : i < p + q
      · have c1 := H.out.cell i (by omega)
        have hlt' : (i : Int) < (p : Int) + (q : Int) := by omega
        have hin : (i : Int) < (n : Int) := by omega
        by_cases he : f i = v
        · have HE : Hid (f i = v) := he
          rw [he] at c1
          clear he
          cases v
          all_goals
            go_wp2
            go_roundw
            case rel => exact ⟨i + 1, by omega, by omega, by go_num, fun j h1 h2 => by rcases Nat.lt_or_eq_of_le (Nat.le_of_lt_succ h2) with h3 | h3; exact HA.out j h1 h3; rw [h3]; exact HE.out, by first | rfl | trivial⟩
            case measure => simp [intOf]; omega
        · have HE : Hid (f i ≠ v) := he
          have he2 : f i = !v := by cases e1 : f i <;> cases e2 : v <;> simp_all
          rw [he2] at c1
          have NA : Hid (¬ AllF f p q v) := fun ha => HE.out (ha i hi1 hlt)
          clear he he2
          cases v
          all_goals
            go_wp2
            go_ret
            exact ⟨rfl, .inr (.inl ⟨NB.out, NA.out, rfl⟩)⟩
      · obtain rfl : i = p + q := by omega
        have AA : Hid (AllF f p q v) := fun j h1 h2 => HA.out j h1 h2
        have hge : ¬ (((p + q : Nat) : Int) < (p : Int) + (q : Int)) := by omega
        go_wp2
        go_ret
        exact ⟨rfl, .inr (.inr ⟨NB.out, AA.out, rfl⟩)⟩
end Go.Proofs.Ytdpkmlkckhhcgaa
