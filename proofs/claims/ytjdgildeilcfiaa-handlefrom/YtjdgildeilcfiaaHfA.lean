/- The document's table: next, Full, Find, Make, Get, Put, Drop. -/
import Derived.Test.YtjdgildeilcfiaaHdO
import Derived.Test.YtjdgildeilcfiaaHeA
import Derived.BigRegion
namespace Go.Proofs.Ytjdgildeilcfiaa
open Go.RowKit
set_option linter.unusedVariables false

/-- The document's table. -/
structure Rt (w : World) (mb mg n : Nat) (L : List Rw) : Prop where
  box : w.heap[mb]? = some (.cells #[.slice (some ⟨mg, 0, none⟩) n n] 64 (0, 0))
  row : w.heap[mg]? = some (.cells (cellsW (pad n L)).toArray 44 (0, 0))
  gd : Gd n L
theorem Rt.lt {w : World} {mb mg n : Nat} {L : List Rw} (h : Rt w mb mg n L) : mb < w.heap.size ∧ mg < w.heap.size := ⟨hlt h.box, hlt h.row⟩
theorem Rt.ne {w : World} {mb mg n : Nat} {L : List Rw} (h : Rt w mb mg n L) : mb ≠ mg := by
  rintro rfl
  have q := h.box
  rw [h.row] at q
  simp at q
theorem Rt.keep {w w' : World} {mb mg n : Nat} {L : List Rw} (h : Rt w mb mg n L) (hb : Below w.heap.size w w') : Rt w' mb mg n L := ⟨by rw [hb.block mb h.lt.1]; exact h.box, by rw [hb.block mg h.lt.2]; exact h.row, h.gd⟩
theorem Rt.tu {S : Nat → Prop} {w w' : World} {mb mg n : Nat} {L : List Rw} (h : Rt w mb mg n L) (ht : Tu S w w') (h1 : ¬ S mb) (h2 : ¬ S mg) : Rt w' mb mg n L := ⟨ht.block mb _ h.box h1, ht.block mg _ h.row h2, h.gd⟩
theorem Rt.drew {w : World} {mb mg n : Nat} {L : List Rw} (h : Rt w mb mg n L) : Rt w.drew mb mg n L := ⟨h.box, h.row, h.gd⟩
theorem Rt.drewN {w : World} {mb mg n : Nat} {L : List Rw} (h : Rt w mb mg n L) (m : Nat) : Rt (w.drewN m) mb mg n L := ⟨h.box, h.row, h.gd⟩
theorem Rt.cell {w : World} {mb mg n : Nat} {L : List Rw} (h : Rt w mb mg n L) : w.cell? ⟨mb, 0, none⟩ = some (.slice (some ⟨mg, 0, none⟩) n n) := cell_of_row w mb 0 _ _ _ h.box
theorem Rt.cells {w : World} {mb mg n : Nat} {L : List Rw} (h : Rt w mb mg n L) (i : Nat) (hi : i < n) (x : Rw) (hx : (pad n L)[i]'(by rw [pad_len h.gd.len]; exact hi) = x) : w.cell? ⟨mg, i * 4, none⟩ = some (.int .i64 x.gen) ∧ w.cell? ⟨mg, i * 4 + 1, none⟩ = some (.bool x.live) ∧ w.cell? ⟨mg, i * 4 + 2, none⟩ = some (.int .i64 x.kind) ∧ w.cell? ⟨mg, i * 4 + 3, none⟩ = some (.int .i64 x.pl) := by
  subst hx
  obtain ⟨k0, k1, k2, k3⟩ := cellsW_at (pad n L) i (by rw [pad_len h.gd.len]; exact hi)
  refine ⟨?_, ?_, ?_, ?_⟩
  · rw [cell_of_row _ _ _ _ _ _ h.row]; simpa using k0
  · rw [cell_of_row _ _ _ _ _ _ h.row]; simpa using k1
  · rw [cell_of_row _ _ _ _ _ _ h.row]; simpa using k2
  · rw [cell_of_row _ _ _ _ _ _ h.row]; simpa using k3
theorem Rt.thawed {w : World} {mb mg n : Nat} {L : List Rw} (h : Rt w mb mg n L) (j : Nat) : w.frozen? ⟨mg, j, none⟩ = false := frozen_of_row w mg j _ _ h.row
theorem Rt.n {w : World} {mb mg n : Nat} {L : List Rw} (h : Rt w mb mg n L) : 1 ≤ n ∧ n ≤ 4096 ∧ L.length ≤ n := ⟨h.gd.n1, h.gd.n2, h.gd.len⟩
theorem Rt.set4 {w : World} {mb mg n : Nat} {L L' : List Rw} (h : Rt w mb mg n L) (i : Nat) (hi : i < n) (r : Rw) (hL : (pad n L).set i r = pad n L') (hg : Gd n L') : Rt (set4 w mg i r) mb mg n L' := by
  have k1 := heap_setCell_same w mg (i * 4) _ _ (.int .i64 r.gen) h.row
  have k2 := heap_setCell_same _ mg (i * 4 + 1) _ _ (.bool r.live) k1
  have k3 := heap_setCell_same _ mg (i * 4 + 2) _ _ (.int .i64 r.kind) k2
  have k4 := heap_setCell_same _ mg (i * 4 + 3) _ _ (.int .i64 r.pl) k3
  refine ⟨?_, ?_, hg⟩
  · rw [(set4_only w mg i r).block mb h.ne]; exact h.box
  · show (World.setCell _ _ _).heap[mg]? = _
    rw [k4, ← hL, ← cellsW_set (pad n L) i r (by rw [pad_len h.gd.len]; exact hi)]
    simp
theorem Rt.set3 {w : World} {mb mg n : Nat} {L L' : List Rw} (h : Rt w mb mg n L) (i : Nat) (hi : i < n) (x : Int) (hL : putL (pad n L) i x = pad n L') (hg : Gd n L') : Rt (w.setCell ⟨mg, i * 4 + 3, none⟩ (.int .i64 x)) mb mg n L' := by
  have hl : i < (pad n L).length := by rw [pad_len h.gd.len]; exact hi
  have k4 := heap_setCell_same w mg (i * 4 + 3) _ _ (.int .i64 x) h.row
  refine ⟨?_, ?_, hg⟩
  · rw [(Only.set mg _ _ w).block mb h.ne]; exact h.box
  · rw [k4, ← hL, putL_eq hl, ← cellsW_set3 (pad n L) i hl x]
    simp

set_option maxHeartbeats 1000000 in
theorem rnext_any (mb mg n : Nat) (L : List Rw) (w : World) (h : Rt w mb mg n L) (R : Int) (hR : (if nxL L < n then ((nxL L : Nat) : Int) + 1 else 0) = R) :
    Calls Try.prog 40 #[.pointer (some ⟨mb, 0, none⟩)] w fun e w' => e = .returned (.int .i64 R) ∧ Below w.heap.size w w' := by
  have H : Hid (Rt w mb mg n L) := h
  have HR : Hid ((if nxL L < n then ((nxL L : Nat) : Int) + 1 else 0) = R) := hR
  have B0 : Hid (Below w.heap.size w w) := Below.refl _ _
  have c0 := h.cell
  have hn := h.n
  have PL : Hid ((pad n L).length = n) := pad_len h.gd.len
  have PN : Hid (nxL (pad n L) = nxL L) := pad_nx h.gd.len
  clear h hR
  go_enter Try.func40, Try.ntmps40
  go_wp2
  go_loopw [10] (fun iv wr => ∃ i : Nat, i ≤ n ∧ iv = .int .i64 (i : Nat) ∧ (∀ j (hj : j < i) (hj' : j < (pad n L).length), canG (pad n L)[j] = false) ∧ Below w.heap.size w wr) (fun iv _ => n - (intOf iv).toNat)
  case atStart => exact ⟨0, Nat.zero_le _, rfl, fun j hj => by omega, B0.out⟩
  case round =>
    obtain ⟨i, hi, rfl, hA, hB⟩ := hrel
    rename World => wr
    have HA : Hid (∀ j (hj : j < i) (hj' : j < (pad n L).length), canG (pad n L)[j] = false) := hA
    have HB : Hid (Below w.heap.size w wr) := hB
    have zz := hB.size
    by_cases hlt : i < n
    · have hil : i < (pad n L).length := by rw [PL.out]; exact hlt
      obtain ⟨x, hx⟩ : ∃ x, (pad n L)[i]'hil = x := ⟨_, rfl⟩
      obtain ⟨k0, k1, k2, k3⟩ := (H.out.keep hB).cells i hlt x hx
      have EX : Hid ((pad n L)[i]'hil = x) := hx
      have hlt' : (i : Int) < (n : Int) := by omega
      clear hA hB hx
      cases hz : canG x with
      | true =>
        have EN : Hid (((i : Nat) : Int) + 1 = R) := by
          have := nx_eq hil (by rw [EX.out]; exact hz) (fun j hj => HA.out j hj (by omega))
          rw [PN.out] at this
          show _ = _
          rw [← HR.out, this, if_pos hlt]
        have hz' : x.live = false ∧ x.gen < 65535 := by simpa [canG] using hz
        obtain ⟨xg, xl, xk, xp⟩ := x
        simp only at k0 k1 k2 k3 hz'
        obtain ⟨rfl, hg⟩ := hz'
        clear hz
        go_wp2
        go_ret
        exact ⟨ret_int EN.out, HB.out.alloc zz _⟩
      | false =>
        have EZ : Hid (canG x = false) := hz
        obtain ⟨xg, xl, xk, xp⟩ := x
        simp only at k0 k1 k2 k3
        have FIN : Hid (∀ o : Obj, ∃ i' : Nat, i' ≤ n ∧ Value.int .i64 ((i : Int) + 1) = .int .i64 (i' : Nat) ∧ (∀ j (hj : j < i') (hj' : j < (pad n L).length), canG (pad n L)[j] = false) ∧ Below w.heap.size w (wr.alloc o)) := fun o =>
          ⟨i + 1, by omega, by simp, fun j hj hj' => by
            rcases Nat.lt_or_ge j i with k | k
            · exact HA.out j k hj'
            · obtain rfl : j = i := by omega
              rw [EX.out]; exact EZ.out, HB.out.alloc zz o⟩
        cases xl with
        | true =>
          clear hz
          go_wp2
          go_roundw
          case rel => exact FIN.out _
          case measure => simp [intOf]; omega
        | false =>
          have hg : ¬ (xg < 65535) := by simp [canG] at hz; omega
          clear hz
          go_wp2
          go_roundw
          case rel => exact FIN.out _
          case measure => simp [intOf]; omega
    · obtain rfl : i = n := by omega
      have EN : Hid ((0 : Int) = R) := by
        have := nx_none (l := pad i L) (fun j hj => HA.out j (by have := PL.out; omega) hj)
        rw [PN.out, PL.out] at this
        show _ = _
        rw [← HR.out, this, if_neg (by omega)]
      clear hA hB
      go_wp2
      go_ret
      exact ⟨ret_int EN.out, HB.out⟩
theorem rfull_any (mb mg n : Nat) (L : List Rw) (w : World) (h : Rt w mb mg n L) :
    Calls Try.prog 32 #[.pointer (some ⟨mb, 0, none⟩)] w fun e w' => e = .returned (.bool (decide (n ≤ nxL L))) ∧ Below w.heap.size w w' := by
  have H : Hid (Rt w mb mg n L) := h
  clear h
  by_cases hf : n ≤ nxL L
  · rw [decide_eq_true hf]
    have E : Hid ((if nxL L < n then ((nxL L : Nat) : Int) + 1 else 0) = 0) := if_neg (by omega)
    go_enter Try.func32, Try.ntmps32
    go_wp2_with (go_at_call 40; refine (rnext_any mb mg n L _ H.out 0 E.out).mono ?_; rintro e w1 ⟨rfl, b1⟩; have B1 : Hid (Below w.heap.size w w1) := b1; clear b1)
    go_ret
    exact ⟨rfl, B1.out⟩
  · rw [decide_eq_false hf]
    have E : Hid ((if nxL L < n then ((nxL L : Nat) : Int) + 1 else 0) = ((nxL L : Nat) : Int) + 1) := if_pos (by omega)
    have hz : ¬ (((nxL L : Nat) : Int) + 1 = 0) := by omega
    go_enter Try.func32, Try.ntmps32
    go_wp2_with (go_at_call 40; refine (rnext_any mb mg n L _ H.out _ E.out).mono ?_; rintro e w1 ⟨rfl, b1⟩; have B1 : Hid (Below w.heap.size w w1) := b1; clear b1)
    go_ret
    exact ⟨ret_bool (by simpa using hz), B1.out⟩

set_option maxHeartbeats 1000000 in
theorem rfind_any (mb mg n : Nat) (L : List Rw) (h : Nat) (w : World) (hT : Rt w mb mg n L) (R : Int) (hR : (∃ i : Nat, LvAt L h i ∧ R = (i : Int) + 1) ∨ ((¬ ∃ i, LvAt L h i) ∧ R = 0)) :
    Calls Try.prog 41 #[.pointer (some ⟨mb, 0, none⟩), .int .u64 (h : Nat)] w fun e w' => e = .returned (.int .i64 R) ∧ Below w.heap.size w w' := by
  have H : Hid (Rt w mb mg n L) := hT
  have HR : Hid ((∃ i : Nat, LvAt L h i ∧ R = (i : Int) + 1) ∨ ((¬ ∃ i, LvAt L h i) ∧ R = 0)) := hR
  have B0 : Hid (Below w.heap.size w w) := Below.refl _ _
  have c0 := hT.cell
  have hn := hT.n
  have PL : Hid ((pad n L).length = n) := pad_len hT.gd.len
  clear hT hR
  go_enter Try.func41, Try.ntmps41
  go_wp2
  go_loopw [12] (fun iv wr => ∃ i : Nat, i ≤ n ∧ iv = .int .i64 (i : Nat) ∧ (∀ j, j < i → ¬ LvAt L h j) ∧ Below w.heap.size w wr) (fun iv _ => n - (intOf iv).toNat)
  case atStart => exact ⟨0, Nat.zero_le _, rfl, fun j hj => by omega, B0.out⟩
  case round =>
    obtain ⟨i, hi, rfl, hA, hB⟩ := hrel
    rename World => wr
    have HA : Hid (∀ j, j < i → ¬ LvAt L h j) := hA
    have HB : Hid (Below w.heap.size w wr) := hB
    have zz := hB.size
    by_cases hlt : i < n
    · have hil : i < (pad n L).length := by rw [PL.out]; exact hlt
      obtain ⟨x, hx⟩ : ∃ x, (pad n L)[i]'hil = x := ⟨_, rfl⟩
      obtain ⟨k0, k1, k2, k3⟩ := (H.out.keep hB).cells i hlt x hx
      have hlt' : (i : Int) < (n : Int) := by omega
      have NX : Hid (∀ o : Obj, ¬ LvAt L h i → ∃ i' : Nat, i' ≤ n ∧ Value.int .i64 ((i : Int) + 1) = .int .i64 (i' : Nat) ∧ (∀ j, j < i' → ¬ LvAt L h j) ∧ Below w.heap.size w (wr.alloc o)) := fun o hno =>
        ⟨i + 1, by omega, by simp, fun j hj => by
          rcases Nat.lt_or_ge j i with k | k
          · exact HA.out j k
          · obtain rfl : j = i := by omega
            exact hno, HB.out.alloc zz o⟩
      have HX : x.live = true → ∃ hi : i < L.length, L[i] = x := fun e => by
        rcases Nat.lt_or_ge i L.length with k | k
        · exact ⟨k, by rw [← hx, pad_at k]⟩
        · rw [pad_z k] at hx; rw [← hx] at e; cases e
      obtain ⟨xg, xl, xk, xp⟩ := x
      simp only at k0 k1 k2 k3
      cases xl with
      | false =>
        have NO : Hid (¬ LvAt L h i) := by
          intro e
          have e1 := e.live
          rw [pad_at e.lt] at hx
          rw [hx] at e1
          cases e1
        clear hA hB hx HX
        go_wp2
        go_roundw
        case rel => exact NX.out _ NO.out
        case measure => simp [intOf]; omega
      | true =>
        obtain ⟨hiL, hxL⟩ := HX rfl
        have hg := (H.out.gd.at hiL)
        rw [hxL] at hg
        have g1 : 0 ≤ xg := hg.1
        have g2 : xg ≤ 65535 := hg.2.1
        have OR : Hid (ofN ((i : Int) + 1) xg = h ↔ LvAt L h i) := by
          have q := of_row H.out.gd hiL (by rw [hxL]) h
          rw [hxL] at q
          exact q
        obtain ⟨N, hN⟩ : ∃ N, ofN ((i : Int) + 1) xg = N := ⟨_, rfl⟩
        have EN : Hid (ofN ((i : Int) + 1) xg = N) := hN
        rw [hN] at OR
        clear hA hB hx HX hg hxL hN
        by_cases he : N = h
        · have ER : Hid (((i : Nat) : Int) + 1 = R) := by
            have q := OR.out.1 he
            rcases HR.out with ⟨j, hj, e⟩ | ⟨hno, _⟩
            · obtain rfl : i = j := q.one hj
              exact e.symm
            · exact absurd ⟨i, q⟩ hno
          subst he
          go_wp2_with (go_at_call 19; refine (rof_q ((i : Int) + 1) xg N _ (by omega) (by omega) EN.out).mono ?_; rintro e w5 ⟨rfl, rfl⟩)
          go_ret
          exact ⟨ret_int ER.out, HB.out.alloc zz _⟩
        · have NO : Hid (¬ LvAt L h i) := fun e => he (OR.out.2 e)
          have he' : ¬ ((N : Int) = (h : Int)) := by omega
          go_wp2_with (go_at_call 19; refine (rof_q ((i : Int) + 1) xg N _ (by omega) (by omega) EN.out).mono ?_; rintro e w5 ⟨rfl, rfl⟩)
          go_roundw
          case rel => exact NX.out _ NO.out
          case measure => simp [intOf]; omega
    · obtain rfl : i = n := by omega
      have ER : Hid ((0 : Int) = R) := by
        rcases HR.out with ⟨j, hj, e⟩ | ⟨_, e⟩
        · exact absurd hj (HA.out j (by have := hj.lt; omega))
        · exact e.symm
      clear hA hB
      go_wp2
      go_ret
      exact ⟨ret_int ER.out, HB.out⟩
end Go.Proofs.Ytjdgildeilcfiaa
