/- What slices.IndexFunc and slices.DeleteFunc do to a row of pointers and to one of numbers. -/
import Derived.Test.YtgmljgogmbaioaaGreatDoorVaC
import Derived.Test.YtgmljgogmbaioaaGreatDoorRuAF
namespace Go.Proofs.YtgmljgogmbaioaaGreatDoor
open Go.RowKit
set_option linter.unusedVariables false
set_option maxRecDepth 4000

/-- What is left of a list, the values from k on asked. -/
def keepF (q : Nat → Bool) : Nat → List Value → List Value
  | _, [] => []
  | k, x :: l => (if q k then [] else [x]) ++ keepF q (k + 1) l
theorem keepF_append (q : Nat → Bool) : ∀ (a b : List Value) (k : Nat), keepF q k (a ++ b) = keepF q k a ++ keepF q (k + a.length) b
  | [], _, _ => rfl
  | x :: a, b, k => by rw [List.cons_append, keepF, keepF, keepF_append q a b (k + 1), List.append_assoc, List.length_cons, show k + 1 + a.length = k + (a.length + 1) by omega]
theorem keepF_le (q : Nat → Bool) : ∀ (a : List Value) (k : Nat), (keepF q k a).length ≤ a.length
  | [], _ => Nat.le_refl _
  | x :: a, k => by have := keepF_le q a (k + 1); rw [keepF, List.length_append, List.length_cons]; split <;> simp <;> omega
theorem keepF_all (q : Nat → Bool) : ∀ (a : List Value) (k : Nat), (∀ j, j < a.length → q (k + j) = false) → keepF q k a = a
  | [], _, _ => rfl
  | x :: a, k, h => by
    have h0 := h 0 (by simp)
    rw [Nat.add_zero] at h0
    rw [keepF, h0, keepF_all q a (k + 1) (fun j hj => by rw [show k + 1 + j = k + (j + 1) by omega]; exact h (j + 1) (by simp; omega))]; simp
theorem keepF_snoc (q : Nat → Bool) (l : List Value) (j : Nat) (hj : j < l.length) : keepF q 0 (l.take (j + 1)) = keepF q 0 (l.take j) ++ (if q j then [] else [l[j]]) := by
  rw [List.take_succ_eq_append_getElem hj, keepF_append]
  simp [keepF, Nat.min_eq_left (Nat.le_of_lt hj)]
theorem row_at {w : World} {g : Nat} {cur : Array Value} {t : TypeId} {l : List Value} (h : w.heap[g]? = some (.cells cur t (0, 0))) (ht : cur.toList.take l.length = l) (i : Nat) (hi : i < l.length) : w.cell? ⟨g, i, none⟩ = some l[i] := by
  rw [cell_of_row _ _ _ _ _ _ h]
  have : l[i]? = cur.toList[i]? := by rw [← ht, List.getElem?_take, if_pos hi]
  rw [List.getElem?_eq_getElem hi] at this
  rw [this]; simp

set_option maxHeartbeats 1000000 in
theorem idxP_any (g cap n q1 : Nat) (l : List Value) (q : Nat → Bool) (J : Nat → World → Prop) (cur : Array Value) (w : World) (hg : w.heap[g]? = some (.cells cur 92 (0, 0))) (ht : cur.toList.take l.length = l) (hn : l.length = n) (hl : n ≤ 100000) (h0 : J 0 w)
    (hJ : ∀ k wr (hk : k < l.length), J k wr → Calls Tryz.prog 74 #[l[k], .pointer (some ⟨q1, 0, none⟩)] wr (fun e w' => e = .returned (.bool (q k)) ∧ J (k + 1) w' ∧ w'.heap[g]? = wr.heap[g]?)) :
    Calls Tryz.prog 100 #[.slice (some ⟨g, 0, none⟩) n cap, .func (.func 74) #[] #[.pointer (some ⟨q1, 0, none⟩)]] w fun e w' => w'.heap[g]? = some (.cells cur 92 (0, 0)) ∧ ((e = .returned (.int .i64 (-1)) ∧ (∀ k, k < n → q k = false) ∧ J n w') ∨ ∃ i, i < n ∧ e = .returned (.int .i64 (i : Nat)) ∧ (∀ k, k < i → q k = false) ∧ q i = true ∧ J (i + 1) w') := by
  have HG : Hid (w.heap[g]? = some (.cells cur 92 (0, 0))) := hg
  have HT : Hid (cur.toList.take l.length = l) := ht
  have H0 : Hid (J 0 w) := h0
  have HJ : Hid (∀ k wr (hk : k < l.length), J k wr → Calls Tryz.prog 74 #[l[k], .pointer (some ⟨q1, 0, none⟩)] wr (fun e w' => e = .returned (.bool (q k)) ∧ J (k + 1) w' ∧ w'.heap[g]? = wr.heap[g]?)) := hJ
  have EN : Hid (l.length = n) := hn
  clear hg ht hn h0 hJ
  go_enter Tryz.func100, Tryz.ntmps100
  go_wp2
  go_loopw [8] (fun iv wr => ∃ k : Nat, iv = .int .i64 (k : Nat) ∧ k ≤ n ∧ (∀ j, j < k → q j = false) ∧ J k wr ∧ wr.heap[g]? = some (.cells cur 92 (0, 0))) (fun iv _ => n - (intOf iv).toNat)
  case atStart => exact ⟨0, rfl, Nat.zero_le _, fun j hj => by omega, H0.out, HG.out⟩
  case round =>
    obtain ⟨k, rfl, hk, hA, hJk, hgk⟩ := hrel
    rename World => wr
    have HA : Hid (∀ j, j < k → q j = false) := hA
    have JK : Hid (J k wr) := hJk
    have GK : Hid (wr.heap[g]? = some (.cells cur 92 (0, 0))) := hgk
    clear hA hJk hgk
    by_cases hlt : k < n
    · have hlt' : (k : Int) < (n : Int) := by omega
      have hk0 : (0 : Int) ≤ (k : Int) := by omega
      have hkl : k < l.length := by have := EN.out; omega
      have hc := row_at GK.out HT.out k hkl
      have CK := HJ.out k wr hkl JK.out
      obtain ⟨x, hx⟩ : ∃ x, l[k] = x := ⟨_, rfl⟩
      rw [hx] at hc CK
      have HCK : Hid (Calls Tryz.prog 74 #[x, .pointer (some ⟨q1, 0, none⟩)] wr (fun e w' => e = .returned (.bool (q k)) ∧ J (k + 1) w' ∧ w'.heap[g]? = wr.heap[g]?)) := CK
      have hox : ∃ y, x = y := ⟨_, rfl⟩
      clear CK hx hox
      cases hq : q k
      · have HQ : Hid (q k = false) := hq
        have NA : Hid (∀ j, j < k + 1 → q j = false) := fun j hj => by
          rcases Nat.lt_or_eq_of_le (Nat.le_of_lt_succ hj) with e | e
          · exact HA.out j e
          · rw [e]; exact hq
        clear hq
        go_wp2_with fail
        refine HCK.out.mono ?_
        rw [HQ.out]
        rintro e w1 ⟨rfl, j1, g1⟩
        have J1 : Hid (J (k + 1) w1) := j1
        have G1 : Hid (w1.heap[g]? = some (.cells cur 92 (0, 0))) := g1.trans GK.out
        clear j1 g1
        go_wp2
        go_roundw
        case rel => exact ⟨k + 1, by go_num, by omega, NA.out, J1.out, G1.out⟩
        case measure => simp [intOf]; omega
      · have HQ : Hid (q k = true) := hq
        clear hq
        go_wp2_with fail
        refine HCK.out.mono ?_
        rw [HQ.out]
        rintro e w1 ⟨rfl, j1, g1⟩
        have J1 : Hid (J (k + 1) w1) := j1
        have G1 : Hid (w1.heap[g]? = some (.cells cur 92 (0, 0))) := g1.trans GK.out
        clear j1 g1
        go_wp2
        go_ret
        exact ⟨G1.out, .inr ⟨k, hlt, rfl, HA.out, HQ.out, J1.out⟩⟩
    · obtain rfl : k = n := by omega
      go_wp2
      go_ret
      exact ⟨GK.out, .inl ⟨rfl, HA.out, JK.out⟩⟩

set_option maxHeartbeats 1000000 in
theorem idxI_any (g cap n q1 q2 q3 : Nat) (l : List Value) (q : Nat → Bool) (J : Nat → World → Prop) (cur : Array Value) (w : World) (hg : w.heap[g]? = some (.cells cur 3 (0, 0))) (ht : cur.toList.take l.length = l) (hn : l.length = n) (hl : n ≤ 100000) (h0 : J 0 w)
    (hJ : ∀ k wr (hk : k < l.length), J k wr → Calls Tryz.prog 85 #[l[k], .pointer (some ⟨q1, 0, none⟩), .pointer (some ⟨q2, 0, none⟩), .pointer (some ⟨q3, 0, none⟩)] wr (fun e w' => e = .returned (.bool (q k)) ∧ J (k + 1) w' ∧ w'.heap[g]? = wr.heap[g]?)) :
    Calls Tryz.prog 112 #[.slice (some ⟨g, 0, none⟩) n cap, .func (.func 85) #[] #[.pointer (some ⟨q1, 0, none⟩), .pointer (some ⟨q2, 0, none⟩), .pointer (some ⟨q3, 0, none⟩)]] w fun e w' => w'.heap[g]? = some (.cells cur 3 (0, 0)) ∧ ((e = .returned (.int .i64 (-1)) ∧ (∀ k, k < n → q k = false) ∧ J n w') ∨ ∃ i, i < n ∧ e = .returned (.int .i64 (i : Nat)) ∧ (∀ k, k < i → q k = false) ∧ q i = true ∧ J (i + 1) w') := by
  have HG : Hid (w.heap[g]? = some (.cells cur 3 (0, 0))) := hg
  have HT : Hid (cur.toList.take l.length = l) := ht
  have H0 : Hid (J 0 w) := h0
  have HJ : Hid (∀ k wr (hk : k < l.length), J k wr → Calls Tryz.prog 85 #[l[k], .pointer (some ⟨q1, 0, none⟩), .pointer (some ⟨q2, 0, none⟩), .pointer (some ⟨q3, 0, none⟩)] wr (fun e w' => e = .returned (.bool (q k)) ∧ J (k + 1) w' ∧ w'.heap[g]? = wr.heap[g]?)) := hJ
  have EN : Hid (l.length = n) := hn
  clear hg ht hn h0 hJ
  go_enter Tryz.func112, Tryz.ntmps112
  go_wp2
  go_loopw [8] (fun iv wr => ∃ k : Nat, iv = .int .i64 (k : Nat) ∧ k ≤ n ∧ (∀ j, j < k → q j = false) ∧ J k wr ∧ wr.heap[g]? = some (.cells cur 3 (0, 0))) (fun iv _ => n - (intOf iv).toNat)
  case atStart => exact ⟨0, rfl, Nat.zero_le _, fun j hj => by omega, H0.out, HG.out⟩
  case round =>
    obtain ⟨k, rfl, hk, hA, hJk, hgk⟩ := hrel
    rename World => wr
    have HA : Hid (∀ j, j < k → q j = false) := hA
    have JK : Hid (J k wr) := hJk
    have GK : Hid (wr.heap[g]? = some (.cells cur 3 (0, 0))) := hgk
    clear hA hJk hgk
    by_cases hlt : k < n
    · have hlt' : (k : Int) < (n : Int) := by omega
      have hk0 : (0 : Int) ≤ (k : Int) := by omega
      have hkl : k < l.length := by have := EN.out; omega
      have hc := row_at GK.out HT.out k hkl
      have CK := HJ.out k wr hkl JK.out
      obtain ⟨x, hx⟩ : ∃ x, l[k] = x := ⟨_, rfl⟩
      rw [hx] at hc CK
      have HCK : Hid (Calls Tryz.prog 85 #[x, .pointer (some ⟨q1, 0, none⟩), .pointer (some ⟨q2, 0, none⟩), .pointer (some ⟨q3, 0, none⟩)] wr (fun e w' => e = .returned (.bool (q k)) ∧ J (k + 1) w' ∧ w'.heap[g]? = wr.heap[g]?)) := CK
      have hox : ∃ y, x = y := ⟨_, rfl⟩
      clear CK hx hox
      cases hq : q k
      · have HQ : Hid (q k = false) := hq
        have NA : Hid (∀ j, j < k + 1 → q j = false) := fun j hj => by
          rcases Nat.lt_or_eq_of_le (Nat.le_of_lt_succ hj) with e | e
          · exact HA.out j e
          · rw [e]; exact hq
        clear hq
        go_wp2_with fail
        refine HCK.out.mono ?_
        rw [HQ.out]
        rintro e w1 ⟨rfl, j1, g1⟩
        have J1 : Hid (J (k + 1) w1) := j1
        have G1 : Hid (w1.heap[g]? = some (.cells cur 3 (0, 0))) := g1.trans GK.out
        clear j1 g1
        go_wp2
        go_roundw
        case rel => exact ⟨k + 1, by go_num, by omega, NA.out, J1.out, G1.out⟩
        case measure => simp [intOf]; omega
      · have HQ : Hid (q k = true) := hq
        clear hq
        go_wp2_with fail
        refine HCK.out.mono ?_
        rw [HQ.out]
        rintro e w1 ⟨rfl, j1, g1⟩
        have J1 : Hid (J (k + 1) w1) := j1
        have G1 : Hid (w1.heap[g]? = some (.cells cur 3 (0, 0))) := g1.trans GK.out
        clear j1 g1
        go_wp2
        go_ret
        exact ⟨G1.out, .inr ⟨k, hlt, rfl, HA.out, HQ.out, J1.out⟩⟩
    · obtain rfl : k = n := by omega
      go_wp2
      go_ret
      exact ⟨GK.out, .inl ⟨rfl, HA.out, JK.out⟩⟩
end Go.Proofs.YtgmljgogmbaioaaGreatDoor
