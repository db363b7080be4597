/- Layer 15: VaD again -/
import Derived.Test.YtgdjlopnhecmjaaGreatDoorJcVaC
import Derived.Test.YtgdjlopnhecmjaaGreatDoorGzAL
import Derived.Test.YtgdjlopnhecmjaaGreatDoorGzAJ
import Derived.Test.YtgdjlopnhecmjaaGreatDoorGzAW
namespace Go.Proofs.YtgdjlopnhecmjaaGreatDoor
open Go.RowKit
set_option linter.unusedVariables false
set_option maxRecDepth 4000
/-- What is left of a list, the values from k on asked. -/
def keepF (q : Nat → Bool) : Nat → List Value → List Value
  | _, [] => []
  | k, x :: l => (if q k then [] else [x]) ++ keepF q (k + 1) l
theorem keepF_append (q : Nat → Bool) : ∀ (a b : List Value) (k : Nat), keepF q k (a ++ b) = keepF q k a ++ keepF q (k + a.length) b
  | [], _, _ => rfl
  | x :: a, b, k => by rw [List.cons_append, keepF, keepF, keepF_append q a b (k + 1), List.append_assoc, List.length_cons, show k + 1 + a.length = k + (a.length + 1) by omega]
theorem keepF_all (q : Nat → Bool) : ∀ (a : List Value) (k : Nat), (∀ j, j < a.length → q (k + j) = false) → keepF q k a = a
  | [], _, _ => rfl
  | x :: a, k, h => by
    have h0 := h 0 (by simp)
    rw [Nat.add_zero] at h0
    rw [keepF, h0, keepF_all q a (k + 1) (fun j hj => by rw [show k + 1 + j = k + (j + 1) by omega]; exact h (j + 1) (by simp; omega))]; simp
theorem keepF_snoc (q : Nat → Bool) (l : List Value) (j : Nat) (hj : j < l.length) : keepF q 0 (l.take (j + 1)) = keepF q 0 (l.take j) ++ (if q j then [] else [l[j]]) := by
  rw [List.take_succ_eq_append_getElem hj, keepF_append]
  simp [keepF, Nat.min_eq_left (Nat.le_of_lt hj)]
theorem row_at {w : World} {g : Nat} {cur : Array Value} {t : TypeId} {l : List Value} (h : w.heap[g]? = some (.cells cur t (0, 0))) (ht : cur.toList.take l.length = l) (i : Nat) (hi : i < l.length) : w.cell? ⟨g, i, none⟩ = some l[i] := by
  rw [cell_of_row _ _ _ _ _ _ h]
  have : l[i]? = cur.toList[i]? := by rw [← ht, List.getElem?_take, if_pos hi]
  rw [List.getElem?_eq_getElem hi] at this
  rw [this]; simp

set_option maxHeartbeats 1000000 in
theorem idxP_any (g cap n q1 : Nat) (l : List Value) (q : Nat → Bool) (J : Nat → World → Prop) (cur : Array Value) (w : World) (hg : w.heap[g]? = some (.cells cur 190 (0, 0))) (ht : cur.toList.take l.length = l) (hn : l.length = n) (hl : n ≤ 100000) (h0 : J 0 w)
    (hJ : ∀ k wr (hk : k < l.length), J k wr → Calls Tryz.prog 139 #[l[k], .pointer (some ⟨q1, 0, none⟩)] wr (fun e w' => e = .returned (.bool (q k)) ∧ J (k + 1) w' ∧ w'.heap[g]? = wr.heap[g]?)) :
    Calls Tryz.prog 199 #[.slice (some ⟨g, 0, none⟩) n cap, .func (.func 139) #[] #[.pointer (some ⟨q1, 0, none⟩)]] w fun e w' => w'.heap[g]? = some (.cells cur 190 (0, 0)) ∧ ((e = .returned (.int .i64 (-1)) ∧ (∀ k, k < n → q k = false) ∧ J n w') ∨ ∃ i, i < n ∧ e = .returned (.int .i64 (i : Nat)) ∧ (∀ k, k < i → q k = false) ∧ q i = true ∧ J (i + 1) w') := by
  have HG : Hid (w.heap[g]? = some (.cells cur 190 (0, 0))) := hg
  have HT : Hid (cur.toList.take l.length = l) := ht
  have H0 : Hid (J 0 w) := h0
  have HJ : Hid (∀ k wr (hk : k < l.length), J k wr → Calls Tryz.prog 139 #[l[k], .pointer (some ⟨q1, 0, none⟩)] wr (fun e w' => e = .returned (.bool (q k)) ∧ J (k + 1) w' ∧ w'.heap[g]? = wr.heap[g]?)) := hJ
  have EN : Hid (l.length = n) := hn
  clear hg ht hn h0 hJ
  go_enter Tryz.func199, Tryz.ntmps199
  go_wp2
  go_loopw [8] (fun iv wr => ∃ k : Nat, iv = .int .i64 (k : Nat) ∧ k ≤ n ∧ (∀ j, j < k → q j = false) ∧ J k wr ∧ wr.heap[g]? = some (.cells cur 190 (0, 0))) (fun iv _ => n - (intOf iv).toNat)
  case atStart => exact ⟨0, rfl, Nat.zero_le _, fun j hj => by omega, H0.out, HG.out⟩
  case round =>
    obtain ⟨k, rfl, hk, hA, hJk, hgk⟩ := hrel
    rename World => wr
    have HA : Hid (∀ j, j < k → q j = false) := hA
    have JK : Hid (J k wr) := hJk
    have GK : Hid (wr.heap[g]? = some (.cells cur 190 (0, 0))) := hgk
    clear hA hJk hgk
    by_cases hlt : k < n
    · have hlt' : (k : Int) < (n : Int) := by omega
      have hk0 : (0 : Int) ≤ (k : Int) := by omega
      have hkl : k < l.length := by have := EN.out; omega
      have hc := row_at GK.out HT.out k hkl
      have CK := HJ.out k wr hkl JK.out
      obtain ⟨x, hx⟩ : ∃ x, l[k] = x := ⟨_, rfl⟩
      rw [hx] at hc CK
      have HCK : Hid (Calls Tryz.prog 139 #[x, .pointer (some ⟨q1, 0, none⟩)] wr (fun e w' => e = .returned (.bool (q k)) ∧ J (k + 1) w' ∧ w'.heap[g]? = wr.heap[g]?)) := CK
      have hox : ∃ y, x = y := ⟨_, rfl⟩
      clear CK hx hox
      cases hq : q k
      · have HQ : Hid (q k = false) := hq
        have NA : Hid (∀ j, j < k + 1 → q j = false) := fun j hj => by
          rcases Nat.lt_or_eq_of_le (Nat.le_of_lt_succ hj) with e | e
          · exact HA.out j e
          · rw [e]; exact hq
        clear hq
        go_wp2_with fail
        refine HCK.out.mono ?_
        rw [HQ.out]
        rintro e w1 ⟨rfl, j1, g1⟩
        have J1 : Hid (J (k + 1) w1) := j1
        have G1 : Hid (w1.heap[g]? = some (.cells cur 190 (0, 0))) := g1.trans GK.out
        clear j1 g1
        go_wp2
        go_roundw
        case rel => exact ⟨k + 1, by go_num, by omega, NA.out, J1.out, G1.out⟩
        case measure => simp [intOf]; omega
      · have HQ : Hid (q k = true) := hq
        clear hq
        go_wp2_with fail
        refine HCK.out.mono ?_
        rw [HQ.out]
        rintro e w1 ⟨rfl, j1, g1⟩
        have J1 : Hid (J (k + 1) w1) := j1
        have G1 : Hid (w1.heap[g]? = some (.cells cur 190 (0, 0))) := g1.trans GK.out
        clear j1 g1
        go_wp2
        go_ret
        exact ⟨G1.out, .inr ⟨k, hlt, rfl, HA.out, HQ.out, J1.out⟩⟩
    · obtain rfl : k = n := by omega
      go_wp2
      go_ret
      exact ⟨GK.out, .inl ⟨rfl, HA.out, JK.out⟩⟩

set_option maxHeartbeats 1000000 in
theorem idxI_any (g cap n q1 q2 q3 : Nat) (l : List Value) (q : Nat → Bool) (J : Nat → World → Prop) (cur : Array Value) (w : World) (hg : w.heap[g]? = some (.cells cur 3 (0, 0))) (ht : cur.toList.take l.length = l) (hn : l.length = n) (hl : n ≤ 100000) (h0 : J 0 w)
    (hJ : ∀ k wr (hk : k < l.length), J k wr → Calls Tryz.prog 174 #[l[k], .pointer (some ⟨q1, 0, none⟩), .pointer (some ⟨q2, 0, none⟩), .pointer (some ⟨q3, 0, none⟩)] wr (fun e w' => e = .returned (.bool (q k)) ∧ J (k + 1) w' ∧ w'.heap[g]? = wr.heap[g]?)) :
    Calls Tryz.prog 217 #[.slice (some ⟨g, 0, none⟩) n cap, .func (.func 174) #[] #[.pointer (some ⟨q1, 0, none⟩), .pointer (some ⟨q2, 0, none⟩), .pointer (some ⟨q3, 0, none⟩)]] w fun e w' => w'.heap[g]? = some (.cells cur 3 (0, 0)) ∧ ((e = .returned (.int .i64 (-1)) ∧ (∀ k, k < n → q k = false) ∧ J n w') ∨ ∃ i, i < n ∧ e = .returned (.int .i64 (i : Nat)) ∧ (∀ k, k < i → q k = false) ∧ q i = true ∧ J (i + 1) w') := by
  have HG : Hid (w.heap[g]? = some (.cells cur 3 (0, 0))) := hg
  have HT : Hid (cur.toList.take l.length = l) := ht
  have H0 : Hid (J 0 w) := h0
  have HJ : Hid (∀ k wr (hk : k < l.length), J k wr → Calls Tryz.prog 174 #[l[k], .pointer (some ⟨q1, 0, none⟩), .pointer (some ⟨q2, 0, none⟩), .pointer (some ⟨q3, 0, none⟩)] wr (fun e w' => e = .returned (.bool (q k)) ∧ J (k + 1) w' ∧ w'.heap[g]? = wr.heap[g]?)) := hJ
  have EN : Hid (l.length = n) := hn
  clear hg ht hn h0 hJ
  go_enter Tryz.func217, Tryz.ntmps217
  go_wp2
  go_loopw [8] (fun iv wr => ∃ k : Nat, iv = .int .i64 (k : Nat) ∧ k ≤ n ∧ (∀ j, j < k → q j = false) ∧ J k wr ∧ wr.heap[g]? = some (.cells cur 3 (0, 0))) (fun iv _ => n - (intOf iv).toNat)
  case atStart => exact ⟨0, rfl, Nat.zero_le _, fun j hj => by omega, H0.out, HG.out⟩
  case round =>
    obtain ⟨k, rfl, hk, hA, hJk, hgk⟩ := hrel
    rename World => wr
    have HA : Hid (∀ j, j < k → q j = false) := hA
    have JK : Hid (J k wr) := hJk
    have GK : Hid (wr.heap[g]? = some (.cells cur 3 (0, 0))) := hgk
    clear hA hJk hgk
    by_cases hlt : k < n
    · have hlt' : (k : Int) < (n : Int) := by omega
      have hk0 : (0 : Int) ≤ (k : Int) := by omega
      have hkl : k < l.length := by have := EN.out; omega
      have hc := row_at GK.out HT.out k hkl
      have CK := HJ.out k wr hkl JK.out
      obtain ⟨x, hx⟩ : ∃ x, l[k] = x := ⟨_, rfl⟩
      rw [hx] at hc CK
      have HCK : Hid (Calls Tryz.prog 174 #[x, .pointer (some ⟨q1, 0, none⟩), .pointer (some ⟨q2, 0, none⟩), .pointer (some ⟨q3, 0, none⟩)] wr (fun e w' => e = .returned (.bool (q k)) ∧ J (k + 1) w' ∧ w'.heap[g]? = wr.heap[g]?)) := CK
      have hox : ∃ y, x = y := ⟨_, rfl⟩
      clear CK hx hox
      cases hq : q k
      · have HQ : Hid (q k = false) := hq
        have NA : Hid (∀ j, j < k + 1 → q j = false) := fun j hj => by
          rcases Nat.lt_or_eq_of_le (Nat.le_of_lt_succ hj) with e | e
          · exact HA.out j e
          · rw [e]; exact hq
        clear hq
        go_wp2_with fail
        refine HCK.out.mono ?_
        rw [HQ.out]
        rintro e w1 ⟨rfl, j1, g1⟩
        have J1 : Hid (J (k + 1) w1) := j1
        have G1 : Hid (w1.heap[g]? = some (.cells cur 3 (0, 0))) := g1.trans GK.out
        clear j1 g1
        go_wp2
        go_roundw
        case rel => exact ⟨k + 1, by go_num, by omega, NA.out, J1.out, G1.out⟩
        case measure => simp [intOf]; omega
      · have HQ : Hid (q k = true) := hq
        clear hq
        go_wp2_with fail
        refine HCK.out.mono ?_
        rw [HQ.out]
        rintro e w1 ⟨rfl, j1, g1⟩
        have J1 : Hid (J (k + 1) w1) := j1
        have G1 : Hid (w1.heap[g]? = some (.cells cur 3 (0, 0))) := g1.trans GK.out
        clear j1 g1
        go_wp2
        go_ret
        exact ⟨G1.out, .inr ⟨k, hlt, rfl, HA.out, HQ.out, J1.out⟩⟩
    · obtain rfl : k = n := by omega
      go_wp2
      go_ret
      exact ⟨GK.out, .inl ⟨rfl, HA.out, JK.out⟩⟩
end Go.Proofs.YtgdjlopnhecmjaaGreatDoor

/- Layer 15: VaE again -/
namespace Go.Proofs.YtgdjlopnhecmjaaGreatDoor
open Go.RowKit
set_option linter.unusedVariables false
set_option maxRecDepth 4000
/-- Under way: j values were asked, i of them stay. -/
structure DelG (t : TypeId) (g cap : Nat) (l : List Value) (q : Nat → Bool) (wr : World) (i j : Nat) (ys : List Value) : Prop where
  row : wr.heap[g]? = some (.cells ys.toArray t (0, 0))
  size : ys.length = cap
  lt : i < j
  le : j ≤ l.length
  pre : ys.take i = keepF q 0 (l.take j)
  rest : ∀ k, j ≤ k → k < l.length → ys[k]? = l[k]?
theorem DelG.skip {t : TypeId} {g cap : Nat} {l : List Value} {q : Nat → Bool} {wr w' : World} {i j : Nat} {ys : List Value} (h : DelG t g cap l q wr i j ys) (hj : j < l.length) (hq : q j = true) (hg : w'.heap[g]? = wr.heap[g]?) : DelG t g cap l q w' i (j + 1) ys :=
  ⟨hg.trans h.row, h.size, by have := h.lt; omega, hj, by rw [h.pre, keepF_snoc q l j hj, hq]; simp, fun k h1 h2 => h.rest k (by omega) h2⟩
theorem DelG.put {t : TypeId} {g cap : Nat} {l : List Value} {q : Nat → Bool} {wr w' : World} {i j : Nat} {ys : List Value} (h : DelG t g cap l q wr i j ys) (hc : l.length ≤ cap) (hj : j < l.length) (hq : q j = false) (hg : w'.heap[g]? = wr.heap[g]?) : DelG t g cap l q (w'.setCell ⟨g, i, none⟩ l[j]) (i + 1) (j + 1) (ys.set i l[j]) := by
  have hi := h.lt
  have hs := h.size
  refine ⟨?_, by rw [List.length_set]; exact h.size, by omega, hj, ?_, fun k h1 h2 => ?_⟩
  · rw [heap_setCell_same w' g i _ _ _ (hg.trans h.row)]
    congr 2
    simp
  · have hil : i < (ys.set i l[j]).length := by rw [List.length_set]; omega
    rw [List.take_succ_eq_append_getElem hil, List.getElem_set_self, List.take_set_of_le (Nat.le_refl i), h.pre, keepF_snoc q l j hj, hq]
    simp
  · rw [List.getElem?_set, if_neg (by omega)]; exact h.rest k (by omega) h2

set_option maxHeartbeats 1000000 in
theorem delFP_any (S : Nat → Prop) (g cap n q1 : Nat) (l : List Value) (q : Nat → Bool) (J : Nat → World → Prop) (w : World) (h : VAt w S 190 (some ⟨g, 0, none⟩) l cap) (hn : l.length = n) (hl : n ≤ 100000) (h1 : ∀ v ∈ l, ∃ p : Option Addr, v = .pointer p) (h0 : J 0 w)
    (hJ : ∀ k wr (hk : k < l.length), J k wr → Calls Tryz.prog 139 #[l[k], .pointer (some ⟨q1, 0, none⟩)] wr (fun e w' => e = .returned (.bool (q k)) ∧ J (k + 1) w' ∧ w'.heap[g]? = wr.heap[g]?))
    (hst : ∀ k wr w', J k wr → Only g wr w' → J k w') :
    Calls Tryz.prog 138 #[.slice (some ⟨g, 0, none⟩) n cap, .func (.func 139) #[] #[.pointer (some ⟨q1, 0, none⟩)]] w fun e w' => ∃ n' : Nat, e = .returned (.slice (some ⟨g, 0, none⟩) n' cap) ∧ (keepF q 0 l).length = n' ∧ VAt w' S 190 (some ⟨g, 0, none⟩) (keepF q 0 l) cap ∧ J n w' := by
  obtain ⟨cur, hs, hg, hc, hm, hsz, ht⟩ := h.cur
  have HG : Hid (w.heap[g]? = some (.cells cur 190 (0, 0))) := hg
  have HT : Hid (cur.toList.take l.length = l) := ht
  have HF : Hid (S g ∧ cap ≤ maxLen ∧ cur.size = cap) := ⟨hs, hm, hsz⟩
  have H1 : Hid (∀ v ∈ l, ∃ p : Option Addr, v = .pointer p) := h1
  have HST : Hid (∀ k wr w', J k wr → Only g wr w' → J k w') := hst
  have HJ : Hid (∀ k wr (hk : k < l.length), J k wr → Calls Tryz.prog 139 #[l[k], .pointer (some ⟨q1, 0, none⟩)] wr (fun e w' => e = .returned (.bool (q k)) ∧ J (k + 1) w' ∧ w'.heap[g]? = wr.heap[g]?)) := hJ
  have EN : Hid (l.length = n) := hn
  have H0 : Hid (J 0 w) := h0
  have hcm : cap ≤ 9223372036854775807 := by unfold maxLen at hm; omega
  rw [hn] at hc
  clear h hg ht hm hsz h1 hst hJ hn h0 hs
  go_enter Tryz.func138, Tryz.ntmps138
  go_wp2_with fail
  refine (idxP_any g cap n q1 l q J cur _ HG.out HT.out EN.out hl H0.out HJ.out).mono ?_
  rintro e w1 ⟨g1, ⟨rfl, hall, j1⟩ | ⟨i, hi, rfl, hA, hq, j1⟩⟩
  · have G1 : Hid (w1.heap[g]? = some (.cells cur 190 (0, 0))) := g1
    have J1 : Hid (J n w1) := j1
    have EK : Hid (keepF q 0 l = l) := keepF_all q l 0 (fun j hj => by rw [Nat.zero_add]; exact hall j (by rw [← EN.out]; exact hj))
    clear g1 j1 hall
    go_wp2
    go_ret
    exact ⟨n, rfl, by rw [EK.out]; exact EN.out, by rw [EK.out]; exact VAt.put (w := w) HF.out.1 G1.out HF.out.2.2 HF.out.2.1 (by rw [EN.out]; exact hc) HT.out, J1.out⟩
  · have D0 : Hid (DelG 190 g cap l q w1 i (i + 1) cur.toList) := by
      have hil : i < l.length := by rw [EN.out]; exact hi
      refine ⟨by simpa using g1, by simpa using HF.out.2.2, by omega, by omega, ?_, fun k h1 h2 => ?_⟩
      · have e1 : keepF q 0 (l.take i) = l.take i := keepF_all q _ 0 (fun j hj => by rw [Nat.zero_add]; exact hA j (by simp at hj; omega))
        rw [keepF_snoc q l i hil, e1, hq]
        simp only [if_true, List.append_nil]
        rw [← HT.out, List.take_take, Nat.min_eq_left (by omega)]
      · have : l[k]? = cur.toList[k]? := by rw [← HT.out, List.getElem?_take, if_pos h2]
        exact this.symm
    have J1 : Hid (J (i + 1) w1) := j1
    have hm1 : ((i : Int) == -1) = false := beq_eq_false_iff_ne.2 (by omega)
    clear g1 j1 hA hq
    go_wp2
    go_loopw [5, 6] (fun iv jv wr => ∃ (i j : Nat) (ys : List Value), iv = .int .i64 (i : Nat) ∧ jv = .int .i64 (j : Nat) ∧ DelG 190 g cap l q wr i j ys ∧ J j wr) (fun _ jv _ => n - (intOf jv).toNat)
    case atStart => exact ⟨i, i + 1, cur.toList, rfl, by go_num, D0.out, J1.out⟩
    case round =>
      clear D0 J1
      obtain ⟨i, j, ys, rfl, rfl, hD, hJj⟩ := hrel
      rename World => wr
      have HD : Hid (DelG 190 g cap l q wr i j ys) := hD
      have JJ : Hid (J j wr) := hJj
      have hlt := hD.lt
      have hle := hD.le
      have hsz := hD.size
      rw [EN.out] at hle
      by_cases hj : j < n
      · have hjl : j < l.length := by rw [EN.out]; exact hj
        have hil : i < n := by omega
        have c0 : wr.cell? ⟨g, j, none⟩ = some l[j] := by
          rw [cell_of_row _ _ _ _ _ _ hD.row]
          have := hD.rest j (Nat.le_refl _) hjl
          rw [List.getElem?_eq_getElem hjl] at this
          simpa using this
        have hj' : (j : Int) < (n : Int) := by omega
        have hi' : (i : Int) < (n : Int) := by omega
        have CK := HJ.out j wr hjl hJj
        have hone := H1.out l[j] (List.getElem_mem hjl)
        obtain ⟨x, hx⟩ : ∃ x, l[j] = x := ⟨_, rfl⟩
        have EX : Hid (l[j] = x) := hx
        rw [hx] at c0 CK hone
        obtain ⟨pp, rfl⟩ := hone
        have HCK : Hid (Calls Tryz.prog 139 #[(.pointer pp), .pointer (some ⟨q1, 0, none⟩)] wr (fun e w' => e = .returned (.bool (q j)) ∧ J (j + 1) w' ∧ w'.heap[g]? = wr.heap[g]?)) := CK
        clear CK hx hD hJj
        cases hq : q j
        · have HQ : Hid (q j = false) := hq
          clear hq
          go_wp2_with fail
          refine HCK.out.mono ?_
          rw [HQ.out]
          rintro e w2 ⟨rfl, j2, g2⟩
          have J2 : Hid (J (j + 1) w2) := j2
          have G2 : Hid (w2.heap[g]? = wr.heap[g]?) := g2
          have hrow2 : w2.heap[g]? = some (.cells ys.toArray 190 (0, 0)) := g2.trans HD.out.row
          have c2 : ∃ y, w2.cell? ⟨g, i, none⟩ = some y := ⟨_, by rw [cell_of_row _ _ _ _ _ _ hrow2]; exact (by simp; rw [List.getElem?_eq_getElem (by omega)])⟩
          obtain ⟨y0, c2⟩ := c2
          have z2 : w2.frozen? ⟨g, i, none⟩ = false := frozen_of_row _ _ _ _ _ hrow2
          have ND : Hid (DelG 190 g cap l q (w2.setCell ⟨g, i, none⟩ (.pointer pp)) (i + 1) (j + 1) (ys.set i l[j])) := by
            have := HD.out.put (by rw [EN.out]; exact hc) hjl HQ.out G2.out
            rw [EX.out] at this ⊢
            exact this
          have NJ : Hid (J (j + 1) (w2.setCell ⟨g, i, none⟩ (.pointer pp))) := HST.out _ _ _ J2.out (Only.set g i (.pointer pp) w2)
          clear j2 g2 hrow2
          go_wp2
          go_roundw
          case rel => exact ⟨i + 1, j + 1, _, by go_num, by go_num, ND.out, NJ.out⟩
          case measure => simp [intOf]; omega
        · have HQ : Hid (q j = true) := hq
          clear hq
          go_wp2_with fail
          refine HCK.out.mono ?_
          rw [HQ.out]
          rintro e w2 ⟨rfl, j2, g2⟩
          have J2 : Hid (J (j + 1) w2) := j2
          have ND : Hid (DelG 190 g cap l q w2 i (j + 1) ys) := HD.out.skip hjl HQ.out g2
          clear j2 g2
          go_wp2
          go_roundw
          case rel => exact ⟨i, j + 1, ys, rfl, by go_num, ND.out, J2.out⟩
          case measure => simp [intOf]; omega
      · obtain rfl : n = j := by omega
        have hci : ¬ (cap = i) := by omega
        have hin : i < n := by omega
        have hpre : ys.take i = keepF q 0 l := by rw [hD.pre, List.take_of_length_le (by rw [EN.out]; exact Nat.le_refl _)]
        obtain ⟨Y, hY⟩ : ∃ Y, ys.take i ++ List.replicate (n - i) (Value.pointer none) ++ ys.drop (i + (n - i)) = Y := ⟨_, rfl⟩
        have EY : Hid (ys.take i ++ List.replicate (n - i) (Value.pointer none) ++ ys.drop (i + (n - i)) = Y) := hY
        have hYl : Y.length = cap := by rw [← hY]; simp; omega
        have hkl : (keepF q 0 l).length = i := by rw [← hpre]; simp; omega
        have FIN : Hid (VAt (wr.setRow g Y.toArray) S 190 (some ⟨g, 0, none⟩) (keepF q 0 l) cap ∧ J n (wr.setRow g Y.toArray)) := by
          refine ⟨VAt.put (w := w) HF.out.1 (cur := Y.toArray) (setRow_heap _ g _ _ 190 _ HD.out.row) (by simpa using hYl) HF.out.2.1 (by rw [hkl]; omega) ?_, HST.out _ _ _ JJ.out (Only.setRow _ _ _)⟩
          rw [hkl]
          show Y.take i = _
          rw [← hY, List.append_assoc, List.take_left' (by simp; omega)]
          exact hpre
        have EKL : Hid ((keepF q 0 l).length = i) := hkl
        clear hY hD hJj hpre hkl
        go_wp2_with (refine wpList_clearP rfl _ rfl g i (n - i) _ ys.toArray rfl HD.out.row (by simp; omega) (by omega) Y.toArray (by rw [← EY.out]) ?_)
        go_ret
        exact ⟨i, rfl, EKL.out, FIN.out.1, FIN.out.2⟩

set_option maxHeartbeats 1000000 in
theorem delFI_any (S : Nat → Prop) (g cap n q1 q2 q3 : Nat) (l : List Value) (q : Nat → Bool) (J : Nat → World → Prop) (w : World) (h : VAt w S 3 (some ⟨g, 0, none⟩) l cap) (hn : l.length = n) (hl : n ≤ 100000) (h1 : ∀ v ∈ l, ∃ x : Int, v = .int .i64 x) (h0 : J 0 w)
    (hJ : ∀ k wr (hk : k < l.length), J k wr → Calls Tryz.prog 174 #[l[k], .pointer (some ⟨q1, 0, none⟩), .pointer (some ⟨q2, 0, none⟩), .pointer (some ⟨q3, 0, none⟩)] wr (fun e w' => e = .returned (.bool (q k)) ∧ J (k + 1) w' ∧ w'.heap[g]? = wr.heap[g]?))
    (hst : ∀ k wr w', J k wr → Only g wr w' → J k w') :
    Calls Tryz.prog 173 #[.slice (some ⟨g, 0, none⟩) n cap, .func (.func 174) #[] #[.pointer (some ⟨q1, 0, none⟩), .pointer (some ⟨q2, 0, none⟩), .pointer (some ⟨q3, 0, none⟩)]] w fun e w' => ∃ n' : Nat, e = .returned (.slice (some ⟨g, 0, none⟩) n' cap) ∧ (keepF q 0 l).length = n' ∧ VAt w' S 3 (some ⟨g, 0, none⟩) (keepF q 0 l) cap ∧ J n w' := by
  obtain ⟨cur, hs, hg, hc, hm, hsz, ht⟩ := h.cur
  have HG : Hid (w.heap[g]? = some (.cells cur 3 (0, 0))) := hg
  have HT : Hid (cur.toList.take l.length = l) := ht
  have HF : Hid (S g ∧ cap ≤ maxLen ∧ cur.size = cap) := ⟨hs, hm, hsz⟩
  have H1 : Hid (∀ v ∈ l, ∃ x : Int, v = .int .i64 x) := h1
  have HST : Hid (∀ k wr w', J k wr → Only g wr w' → J k w') := hst
  have HJ : Hid (∀ k wr (hk : k < l.length), J k wr → Calls Tryz.prog 174 #[l[k], .pointer (some ⟨q1, 0, none⟩), .pointer (some ⟨q2, 0, none⟩), .pointer (some ⟨q3, 0, none⟩)] wr (fun e w' => e = .returned (.bool (q k)) ∧ J (k + 1) w' ∧ w'.heap[g]? = wr.heap[g]?)) := hJ
  have EN : Hid (l.length = n) := hn
  have H0 : Hid (J 0 w) := h0
  have hcm : cap ≤ 9223372036854775807 := by unfold maxLen at hm; omega
  rw [hn] at hc
  clear h hg ht hm hsz h1 hst hJ hn h0 hs
  go_enter Tryz.func173, Tryz.ntmps173
  go_wp2_with fail
  refine (idxI_any g cap n q1 q2 q3 l q J cur _ HG.out HT.out EN.out hl H0.out HJ.out).mono ?_
  rintro e w1 ⟨g1, ⟨rfl, hall, j1⟩ | ⟨i, hi, rfl, hA, hq, j1⟩⟩
  · have G1 : Hid (w1.heap[g]? = some (.cells cur 3 (0, 0))) := g1
    have J1 : Hid (J n w1) := j1
    have EK : Hid (keepF q 0 l = l) := keepF_all q l 0 (fun j hj => by rw [Nat.zero_add]; exact hall j (by rw [← EN.out]; exact hj))
    clear g1 j1 hall
    go_wp2
    go_ret
    exact ⟨n, rfl, by rw [EK.out]; exact EN.out, by rw [EK.out]; exact VAt.put (w := w) HF.out.1 G1.out HF.out.2.2 HF.out.2.1 (by rw [EN.out]; exact hc) HT.out, J1.out⟩
  · have D0 : Hid (DelG 3 g cap l q w1 i (i + 1) cur.toList) := by
      have hil : i < l.length := by rw [EN.out]; exact hi
      refine ⟨by simpa using g1, by simpa using HF.out.2.2, by omega, by omega, ?_, fun k h1 h2 => ?_⟩
      · have e1 : keepF q 0 (l.take i) = l.take i := keepF_all q _ 0 (fun j hj => by rw [Nat.zero_add]; exact hA j (by simp at hj; omega))
        rw [keepF_snoc q l i hil, e1, hq]
        simp only [if_true, List.append_nil]
        rw [← HT.out, List.take_take, Nat.min_eq_left (by omega)]
      · have : l[k]? = cur.toList[k]? := by rw [← HT.out, List.getElem?_take, if_pos h2]
        exact this.symm
    have J1 : Hid (J (i + 1) w1) := j1
    have hm1 : ((i : Int) == -1) = false := beq_eq_false_iff_ne.2 (by omega)
    clear g1 j1 hA hq
    go_wp2
    go_loopw [5, 6] (fun iv jv wr => ∃ (i j : Nat) (ys : List Value), iv = .int .i64 (i : Nat) ∧ jv = .int .i64 (j : Nat) ∧ DelG 3 g cap l q wr i j ys ∧ J j wr) (fun _ jv _ => n - (intOf jv).toNat)
    case atStart => exact ⟨i, i + 1, cur.toList, rfl, by go_num, D0.out, J1.out⟩
    case round =>
      clear D0 J1
      obtain ⟨i, j, ys, rfl, rfl, hD, hJj⟩ := hrel
      rename World => wr
      have HD : Hid (DelG 3 g cap l q wr i j ys) := hD
      have JJ : Hid (J j wr) := hJj
      have hlt := hD.lt
      have hle := hD.le
      have hsz := hD.size
      rw [EN.out] at hle
      by_cases hj : j < n
      · have hjl : j < l.length := by rw [EN.out]; exact hj
        have hil : i < n := by omega
        have c0 : wr.cell? ⟨g, j, none⟩ = some l[j] := by
          rw [cell_of_row _ _ _ _ _ _ hD.row]
          have := hD.rest j (Nat.le_refl _) hjl
          rw [List.getElem?_eq_getElem hjl] at this
          simpa using this
        have hj' : (j : Int) < (n : Int) := by omega
        have hi' : (i : Int) < (n : Int) := by omega
        have CK := HJ.out j wr hjl hJj
        have hone := H1.out l[j] (List.getElem_mem hjl)
        obtain ⟨x, hx⟩ : ∃ x, l[j] = x := ⟨_, rfl⟩
        have EX : Hid (l[j] = x) := hx
        rw [hx] at c0 CK hone
        obtain ⟨pp, rfl⟩ := hone
        have HCK : Hid (Calls Tryz.prog 174 #[(.int .i64 pp), .pointer (some ⟨q1, 0, none⟩), .pointer (some ⟨q2, 0, none⟩), .pointer (some ⟨q3, 0, none⟩)] wr (fun e w' => e = .returned (.bool (q j)) ∧ J (j + 1) w' ∧ w'.heap[g]? = wr.heap[g]?)) := CK
        clear CK hx hD hJj
        cases hq : q j
        · have HQ : Hid (q j = false) := hq
          clear hq
          go_wp2_with fail
          refine HCK.out.mono ?_
          rw [HQ.out]
          rintro e w2 ⟨rfl, j2, g2⟩
          have J2 : Hid (J (j + 1) w2) := j2
          have G2 : Hid (w2.heap[g]? = wr.heap[g]?) := g2
          have hrow2 : w2.heap[g]? = some (.cells ys.toArray 3 (0, 0)) := g2.trans HD.out.row
          have c2 : ∃ y, w2.cell? ⟨g, i, none⟩ = some y := ⟨_, by rw [cell_of_row _ _ _ _ _ _ hrow2]; exact (by simp; rw [List.getElem?_eq_getElem (by omega)])⟩
          obtain ⟨y0, c2⟩ := c2
          have z2 : w2.frozen? ⟨g, i, none⟩ = false := frozen_of_row _ _ _ _ _ hrow2
          have ND : Hid (DelG 3 g cap l q (w2.setCell ⟨g, i, none⟩ (.int .i64 pp)) (i + 1) (j + 1) (ys.set i l[j])) := by
            have := HD.out.put (by rw [EN.out]; exact hc) hjl HQ.out G2.out
            rw [EX.out] at this ⊢
            exact this
          have NJ : Hid (J (j + 1) (w2.setCell ⟨g, i, none⟩ (.int .i64 pp))) := HST.out _ _ _ J2.out (Only.set g i (.int .i64 pp) w2)
          clear j2 g2 hrow2
          go_wp2
          go_roundw
          case rel => exact ⟨i + 1, j + 1, _, by go_num, by go_num, ND.out, NJ.out⟩
          case measure => simp [intOf]; omega
        · have HQ : Hid (q j = true) := hq
          clear hq
          go_wp2_with fail
          refine HCK.out.mono ?_
          rw [HQ.out]
          rintro e w2 ⟨rfl, j2, g2⟩
          have J2 : Hid (J (j + 1) w2) := j2
          have ND : Hid (DelG 3 g cap l q w2 i (j + 1) ys) := HD.out.skip hjl HQ.out g2
          clear j2 g2
          go_wp2
          go_roundw
          case rel => exact ⟨i, j + 1, ys, rfl, by go_num, ND.out, J2.out⟩
          case measure => simp [intOf]; omega
      · obtain rfl : n = j := by omega
        have hci : ¬ (cap = i) := by omega
        have hin : i < n := by omega
        have hpre : ys.take i = keepF q 0 l := by rw [hD.pre, List.take_of_length_le (by rw [EN.out]; exact Nat.le_refl _)]
        obtain ⟨Y, hY⟩ : ∃ Y, ys.take i ++ List.replicate (n - i) (Value.int .i64 0) ++ ys.drop (i + (n - i)) = Y := ⟨_, rfl⟩
        have EY : Hid (ys.take i ++ List.replicate (n - i) (Value.int .i64 0) ++ ys.drop (i + (n - i)) = Y) := hY
        have hYl : Y.length = cap := by rw [← hY]; simp; omega
        have hkl : (keepF q 0 l).length = i := by rw [← hpre]; simp; omega
        have FIN : Hid (VAt (wr.setRow g Y.toArray) S 3 (some ⟨g, 0, none⟩) (keepF q 0 l) cap ∧ J n (wr.setRow g Y.toArray)) := by
          refine ⟨VAt.put (w := w) HF.out.1 (cur := Y.toArray) (setRow_heap _ g _ _ 3 _ HD.out.row) (by simpa using hYl) HF.out.2.1 (by rw [hkl]; omega) ?_, HST.out _ _ _ JJ.out (Only.setRow _ _ _)⟩
          rw [hkl]
          show Y.take i = _
          rw [← hY, List.append_assoc, List.take_left' (by simp; omega)]
          exact hpre
        have EKL : Hid ((keepF q 0 l).length = i) := hkl
        clear hY hD hJj hpre hkl
        go_wp2_with (refine wpList_clearI rfl _ rfl g i (n - i) _ ys.toArray rfl HD.out.row (by simp; omega) (by omega) Y.toArray (by rw [← EY.out]) ?_)
        go_ret
        exact ⟨i, rfl, EKL.out, FIN.out.1, FIN.out.2⟩
end Go.Proofs.YtgdjlopnhecmjaaGreatDoor

/- Layer 15: KbA again -/
namespace Go.Proofs.YtgdjlopnhecmjaaGreatDoor
open Go.RowKit
set_option linter.unusedVariables false
set_option maxRecDepth 4000
/-- What is left of a list, the members from k on asked. -/
def stayA {α : Type} (q : Nat → Bool) : Nat → List α → List α
  | _, [] => []
  | k, x :: l => (if q k then [] else [x]) ++ stayA q (k + 1) l
theorem stayA_map {α : Type} (q : Nat → Bool) (f : α → Value) : ∀ (l : List α) (k : Nat), keepF q k (l.map f) = (stayA q k l).map f
  | [], _ => rfl
  | x :: l, k => by rw [List.map_cons, keepF, stayA, stayA_map q f l (k + 1), List.map_append]; split <;> rfl
end Go.Proofs.YtgdjlopnhecmjaaGreatDoor

/- Layer 15: KbB again -/
namespace Go.Proofs.YtgdjlopnhecmjaaGreatDoor
open Go.RowKit
set_option linter.unusedVariables false
set_option maxRecDepth 4000
end Go.Proofs.YtgdjlopnhecmjaaGreatDoor

/- Layer 15: KbC again -/
namespace Go.Proofs.YtgdjlopnhecmjaaGreatDoor
open Go.RowKit
set_option linter.unusedVariables false
set_option maxRecDepth 4000
end Go.Proofs.YtgdjlopnhecmjaaGreatDoor

/- Layer 15: KbD again -/
namespace Go.Proofs.YtgdjlopnhecmjaaGreatDoor
open Go.RowKit
set_option linter.unusedVariables false
set_option maxRecDepth 4000
end Go.Proofs.YtgdjlopnhecmjaaGreatDoor
