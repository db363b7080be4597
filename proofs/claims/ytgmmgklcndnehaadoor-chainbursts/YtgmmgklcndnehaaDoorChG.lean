/- Layer 19: numbers held against numbers (Ints); writes that go to a disk. -/
import Derived.Test.YtgmmgklcndnehaaDoorChF
import Derived.Test.YtgmmgklcndnehaaDoorChM
import Derived.Test.YtgmmgklcndnehaaDoorGzAF
import Derived.BigQuiet
namespace Go.Proofs.YtgmmgklcndnehaaDoor
open Go.RowKit Go.Maps
set_option linter.unusedVariables false
set_option maxRecDepth 4000

theorem ints_any (a a' : Option Addr) (n n' cap cap' : Nat) (l l' : List Int) (w : World) (h : IsI w a l) (h' : IsI w a' l') (hn : n = l.length) (hn' : n' = l'.length) (hm : l.length ≤ maxLen) (hm' : l'.length ≤ maxLen) :
    Calls Tryd.prog 17 #[.slice a n cap, .slice a' n' cap'] w fun e w' => e = .returned (.bool (decide (l = l'))) ∧ Below w.heap.size w w' := by
  subst hn hn'
  have H1 : Hid (IsI w a l) := h
  have H2 : Hid (IsI w a' l') := h'
  unfold maxLen at hm hm'
  clear h h'
  by_cases hll : l.length = l'.length
  · have HLL : Hid (l.length = l'.length) := hll
    rw [← hll]
    clear hll
    go_enter Tryd.func17, Tryd.ntmps17
    go_wp2
    go_loopw [13] (fun iv wr => ∃ k m : Nat, k ≤ l.length ∧ iv = .int .i64 k ∧ wr = w.drewN m ∧ l.take k = l'.take k) (fun iv _ => l.length - (intOf iv).toNat)
    case atStart => exact ⟨0, 0, Nat.zero_le _, rfl, rfl, rfl⟩
    case round =>
      obtain ⟨k, m, hk, rfl, rfl, ht⟩ := hrel
      have HT : Hid (l.take k = l'.take k) := ht
      clear ht
      by_cases hlt : k < l.length
      · obtain ⟨_, h0 | ⟨b1, o1, rfl, _, c1⟩⟩ := H1.out
        · rw [h0] at hlt; simp at hlt
        have hlt' : k < l'.length := by have := HLL.out; omega
        obtain ⟨_, h0 | ⟨b2, o2, rfl, _, c2⟩⟩ := H2.out
        · rw [h0] at hlt'; simp at hlt'
        have d1 := c1 k hlt
        have d2 := c2 k hlt'
        have T1 : Hid (l.take (k + 1) = l.take k ++ [l.getD k 0]) := by show _ = _; rw [List.take_succ_eq_append_getElem hlt]; simp [List.getD, hlt]
        have T2 : Hid (l'.take (k + 1) = l'.take k ++ [l'.getD k 0]) := by show _ = _; rw [List.take_succ_eq_append_getElem hlt']; simp [List.getD, hlt']
        obtain ⟨y, hy⟩ : ∃ y, l.getD k 0 = y := ⟨_, rfl⟩
        obtain ⟨y', hy'⟩ : ∃ y', l'.getD k 0 = y' := ⟨_, rfl⟩
        rw [hy] at d1
        rw [hy'] at d2
        have HY : Hid (l.getD k 0 = y) := hy
        have HY' : Hid (l'.getD k 0 = y') := hy'
        clear c1 c2 hy hy' hlt'
        by_cases he : y = y'
        · subst he
          have NX : Hid (l.take (k + 1) = l'.take (k + 1)) := by show _ = _; rw [T1.out, T2.out, HT.out, HY.out, HY'.out]
          go_wp2_with fail
          go_quiet (fail)
          go_wp2
          go_roundw
          case rel => exact ⟨k + 1, m + nq, by omega, by go_num, rfl, NX.out⟩
          case measure => simp [intOf]; omega
        · have hq : (y != y') = true := by rw [bne_iff_ne]; exact he
          have NE : Hid (decide (l = l') = false) := decide_eq_false (fun e => he (by rw [← HY.out, ← HY'.out, e]))
          clear he
          go_wp2_with fail
          go_quiet (fail)
          go_wp2
          go_ret
          exact ⟨ret_bool NE.out.symm, ⟨rfl, rfl, rfl, Nat.le_refl _, fun _ _ => rfl⟩⟩
      · have EQ : Hid (decide (l = l') = true) := decide_eq_true (by
          have := HT.out
          rwa [List.take_of_length_le (by omega), List.take_of_length_le (by have := HLL.out; omega)] at this)
        go_wp2
        go_ret
        exact ⟨ret_bool EQ.out.symm, ⟨rfl, rfl, rfl, Nat.le_refl _, fun _ _ => rfl⟩⟩
  · have NE : Hid (decide (l = l') = false) := decide_eq_false (fun e => hll (by rw [e]))
    have hq : ((l.length : Int) != (l'.length : Int)) = true := by rw [bne_iff_ne]; omega
    have hni : ¬ (l.length : Int) = (l'.length : Int) := by omega
    go_enter Tryd.func17, Tryd.ntmps17
    go_wp2
    go_ret
    exact ⟨ret_bool NE.out.symm, Below.refl _ _⟩
theorem ints_same (a a' : Option Addr) (n n' cap cap' : Nat) (l : List Int) (w : World) (h : IsI w a l) (h' : IsI w a' l) (hn : n = l.length) (hn' : n' = l.length) (hm : l.length ≤ maxLen) :
    Calls Tryd.prog 17 #[.slice a n cap, .slice a' n' cap'] w fun e w' => e = .returned (.bool true) ∧ Below w.heap.size w w' := by
  have q := ints_any a a' n n' cap cap' l l w h h' hn hn' hm hm
  rwa [decide_eq_true rfl] at q
theorem WrB.turn {w w' : World} {B N g n k : Nat} {ws : List (Int × List Int)} (h : WrB w N g n k ws) (t : Turn B KC w w') : WrB w' N g n k ws := by
  obtain ⟨cs, h1, h2⟩ := h.row
  have h1' := t.block g _ h1 (.inr rfl)
  refine ⟨⟨cs, h1', h2⟩, h.ge, h.len, fun i hi hk => ?_⟩
  obtain ⟨a1, q, a2, a3, a4⟩ := h.at i hi hk
  rw [cell_of_row w g _ _ _ _ h1] at a1 a3
  exact ⟨by rw [cell_of_row w' g _ _ _ _ h1']; exact a1, q, a2, by rw [cell_of_row w' g _ _ _ _ h1']; exact a3, a4.turn t rfl⟩
/-- One write more goes to the disk. -/
theorem wr_step (base b m k : Nat) (d : Dk) (ws : List (Int × List Int)) (w : World) (p : Nat) (h : IsD w base b m (wrD d ws k)) (hbase : base ≤ w.heap.size) (hk : k < ws.length) (hd : d.down = false) (hl : d.left = 0) (h1 : 0 ≤ ws[k].1) (h2 : ws[k].1 < d.n) (h3 : ws[k].2.length = 64) (hR : RowB w p 5 ws[k].2) (hall : AllB ws[k].2) (hm : m < 1000000) (ho : d.ops + k ≤ 1000000000) :
    Calls Tryd.prog 30 #[.pointer (some ⟨b, 0, none⟩), .int .i64 ws[k].1, .slice (some ⟨p, 0, none⟩) 64 64] w fun e w' => e = .returned (.int .i64 0) ∧ IsD w' base b (m + 1) (wrD d ws (k + 1)) ∧ Turn base KC w w' := by
  obtain ⟨e1, e2⟩ := wrD_next hk hd hl h1 h2 h3
  have q := write_any base b m (wrD d ws k) ws[k].1 (some ⟨p, 0, none⟩) 64 64 ws[k].2 w h hbase h3.symm (hR.isB hall) hm ho
  rw [e1, e2] at q
  exact q
theorem wrC_ok {b l : List Int} (hb : AllB b) (ha : apC l = true) {k : Nat} (hk : k < (wrC b l).length) : 1 ≤ (wrC b l)[k].1 ∧ (wrC b l)[k].1 ∈ l ∧ (wrC b l)[k].2.length = 64 ∧ AllB (wrC b l)[k].2 := by
  have hi : k < l.length := by rw [wrC_len] at hk; exact hk
  rw [wrC_at]
  have e : l.getD k 0 = l[k] := getD_at hi
  refine ⟨?_, ?_, secC_len (pcC_le b k) _, secC_allB (pcC_allB hb k) _⟩
  · show 1 ≤ l.getD k 0
    rw [e]; exact ((apC_iff.1 ha).1 _ (List.getElem_mem hi)).1
  · show l.getD k 0 ∈ l
    rw [e]; exact List.getElem_mem hi
/-- The loop's own variable. -/
def varW (w : World) (s : Int) (q : Nat) : World := w.alloc (.cells #[.int .i64 s, .slice (some ⟨q, 0, none⟩) 64 64] 37)
theorem varW_below (w : World) (s : Int) (q : Nat) : Below w.heap.size w (varW w s q) := (Below.refl _ w).alloc (Nat.le_refl _) _
end Go.Proofs.YtgmmgklcndnehaaDoor
