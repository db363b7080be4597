/- What do answers. -/
import Derived.Test.YtjdgildeilcfiaaHgB
namespace Go.Proofs.Ytjdgildeilcfiaa
open Go.RowKit
set_option linter.unusedVariables false

set_option maxRecDepth 20000 in
set_option maxHeartbeats 4000000 in
theorem do_make (w wr : World) (b : Nat) (a : Option Addr) (c mb mg n : Nat) (L : List Rw) (pb : Nat) (ah : Option Addr) (ch : Nat) (M : List Nat) (kd cn : Int) (hh : Nat) (k2 pl : Int) (hT : Tw w wr b a c mb mg n L L pb ah ch M) (hH0 : hh < 18446744073709551616) (hM : M.length ≤ 100000) (hk : kd = 1) :
    Calls Try.prog 12 #[.pointer (some ⟨b, 0, none⟩), .pointer (some ⟨mb, 0, none⟩), .agg #[.int .i64 kd, .int .i64 cn, .int .u64 (hh : Nat), .int .i64 k2, .int .i64 pl], .pointer (some ⟨pb, 0, none⟩)] wr (DoPost w b mb mg n pb M) := by
  unfold DoPost
  obtain ⟨D, hD⟩ : ∃ D, wr.alloc (.cells #[.int .i64 kd, .int .i64 cn, .int .u64 (hh : Nat), .int .i64 k2, .int .i64 pl] 36) = D := ⟨_, rfl⟩
  have TQ : Hid (Tw w D b a c mb mg n L L pb ah ch M) := by show Tw _ _ _ _ _ _ _ _ _ _ _ _ _ _; rw [← hD]; exact hT.keep ((Below.refl _ wr).alloc (Nat.le_refl _) _)
  have XQ : Hid (D.heap[wr.heap.size]? = some (.cells #[.int .i64 kd, .int .i64 cn, .int .u64 (hh : Nat), .int .i64 k2, .int .i64 pl] 36 (0, 0))) := by show _ = _; rw [← hD]; exact Go.heap_alloc_new wr _
  have q0 : D.cell? ⟨wr.heap.size, 0, none⟩ = some (.int .i64 kd) := cell_of_row _ _ 0 _ _ _ XQ.out
  have q1 : D.cell? ⟨wr.heap.size, 1, none⟩ = some (.int .i64 cn) := cell_of_row _ _ 1 _ _ _ XQ.out
  have q2 : D.cell? ⟨wr.heap.size, 2, none⟩ = some (.int .u64 (hh : Nat)) := cell_of_row _ _ 2 _ _ _ XQ.out
  have q3 : D.cell? ⟨wr.heap.size, 3, none⟩ = some (.int .i64 k2) := cell_of_row _ _ 3 _ _ _ XQ.out
  have q4 : D.cell? ⟨wr.heap.size, 4, none⟩ = some (.int .i64 pl) := cell_of_row _ _ 4 _ _ _ XQ.out
  have qp := TQ.out.cellP
  have HD : Hid (wr.alloc (.cells #[.int .i64 kd, .int .i64 cn, .int .u64 (hh : Nat), .int .i64 k2, .int .i64 pl] 36) = D) := hD
  have hH := hH0
  clear hT
  subst hk
  go_enter Try.func12, Try.ntmps12
  by_cases hf : n ≤ nxL L
  · have HF : Hid (n ≤ nxL L) := hf
    clear hf
    go_wp2_with (first
      | (go_at_call 20; refine (make_full w.heap.size b a c n L k2 pl _ TQ.out.ct HF.out).mono ?_; rintro e w1 ⟨rfl, b1⟩; have T1 : Hid (Tw w w1 b a c mb mg n L L pb ah ch M) := TQ.out.keep b1; have X1 : w1.heap[wr.heap.size]? = some (.cells #[.int .i64 1, .int .i64 cn, .int .u64 (hh : Nat), .int .i64 k2, .int .i64 pl] 36 (0, 0)) := (by rw [b1.block _ (hlt XQ.out)]; exact XQ.out); have p3 : w1.cell? ⟨wr.heap.size, 3, none⟩ = some (.int .i64 k2) := cell_of_row w1 _ 3 _ _ _ X1; have p4 : w1.cell? ⟨wr.heap.size, 4, none⟩ = some (.int .i64 pl) := cell_of_row w1 _ 4 _ _ _ X1; clear b1 X1)
      | (go_at_call 26; refine (rmake_full mb mg n L k2 pl _ T1.out.rt HF.out).mono ?_; rintro e w2 ⟨rfl, b2⟩; have T2 : Hid (Tw w w2 b a c mb mg n L L pb ah ch M) := T1.out.keep b2; clear b2))
    go_ret
    exact ⟨ret_bool (by simp), a, c, L, ah, ch, M, T2.out, by omega⟩
  · have HF : Hid (nxL L < n) := by show _ < _; omega
    obtain ⟨N, hN⟩ : ∃ N, ofN ((nxL L : Nat) + 1) (makeG L) = N := ⟨_, rfl⟩
    have EN : Hid (ofN ((nxL L : Nat) + 1) (makeG L) = N) := hN
    have hNl : N < 4294967296 := by rw [← hN]; exact of_lt _ _
    clear hf hN
    go_wp2_with fail
    refine (make_any w.heap.size b a c n L k2 pl _ TQ.out.ct TQ.out.bel.size HF.out).mono ?_
    rw [EN.out]
    rintro e w1 ⟨a1, c1, rfl, k1, t1, o1⟩
    have T1 : Hid (Tw w w1 b a1 c1 mb mg n (makeL L k2 pl) L pb ah ch M) := TQ.out.code k1 t1 o1
    have X1 : w1.heap[wr.heap.size]? = some (.cells #[.int .i64 1, .int .i64 cn, .int .u64 (hh : Nat), .int .i64 k2, .int .i64 pl] 36 (0, 0)) := TQ.out.boxC XQ.out t1
    have p3 : w1.cell? ⟨wr.heap.size, 3, none⟩ = some (.int .i64 k2) := cell_of_row w1 _ 3 _ _ _ X1
    have p4 : w1.cell? ⟨wr.heap.size, 4, none⟩ = some (.int .i64 pl) := cell_of_row w1 _ 4 _ _ _ X1
    clear k1 t1 o1 X1
    go_wp2_with fail
    refine (rmake_ok mb mg n L k2 pl _ T1.out.rt HF.out).mono ?_
    rw [EN.out]
    rintro e w2 ⟨rfl, k2', t2⟩
    have T2 : Hid (Tw w w2 b a1 c1 mb mg n (makeL L k2 pl) (makeL L k2 pl) pb ah ch M) := T1.out.ref k2' t2
    clear k2' t2
    obtain ⟨wz, hwz⟩ : ∃ wz, w2.alloc (.cells #[.int .u64 (N : Nat)] 34) = wz := ⟨_, rfl⟩
    have BZ : Below w2.heap.size w2 wz := by rw [← hwz]; exact (Below.refl _ w2).alloc (Nat.le_refl _) _
    have QZ : wz.heap[w2.heap.size]? = some (.cells #[.int .u64 (N : Nat)] 34 (0, 0)) := by rw [← hwz]; exact Go.heap_alloc_new w2 _
    obtain ⟨ax, cx, wx, hrun, rx, ux, _⟩ := appH_run 31 w.heap.size wz (by have := BZ.size; have := T2.out.bel.size; omega) ah M ch ((T2.out.keep BZ).oh) w2.heap.size N 1 (cell_of_row wz _ 0 _ _ _ QZ) (by omega)
    obtain ⟨pcx, TX⟩ := (T2.out.keep BZ).more rx ux (by omega)
    have T3 : Hid (Tw w (wx.setCell ⟨pb, 0, none⟩ (.slice ax (M.length + 1) cx)) b a1 c1 mb mg n (makeL L k2 pl) (makeL L k2 pl) pb ax cx (M ++ [N])) := TX
    have y0 : w2.cell? ⟨pb, 0, none⟩ = some (.slice ah M.length ch) := T2.out.cellP
    have y1 : wx.cell? ⟨pb, 0, none⟩ = some (.slice ah M.length ch) := cell_of_row wx pb 0 _ _ _ pcx
    have y2 : wx.frozen? ⟨pb, 0, none⟩ = false := frozen_of_row wx pb 0 _ _ pcx
    clear rx ux QZ BZ TX pcx
    go_wp2_with (at_builtin; (try rw [hwz]); refine step_app rfl 31 _ _ rfl (.slice ah M.length ch) (.slice (some ⟨w2.heap.size, 0, none⟩) 1 1) (.slice ax (M.length + 1) cx) wx rfl rfl hrun ?_)
    go_ret
    exact ⟨ret_bool (by simp), a1, c1, _, ax, cx, M ++ [N], T3.out, by simp⟩

set_option maxRecDepth 20000 in
set_option maxHeartbeats 4000000 in
theorem do_get (w wr : World) (b : Nat) (a : Option Addr) (c mb mg n : Nat) (L : List Rw) (pb : Nat) (ah : Option Addr) (ch : Nat) (M : List Nat) (kd cn : Int) (hh : Nat) (k2 pl : Int) (hT : Tw w wr b a c mb mg n L L pb ah ch M) (hH0 : hh < 18446744073709551616) (hM : M.length ≤ 100000) (hk : kd = 2) :
    Calls Try.prog 12 #[.pointer (some ⟨b, 0, none⟩), .pointer (some ⟨mb, 0, none⟩), .agg #[.int .i64 kd, .int .i64 cn, .int .u64 (hh : Nat), .int .i64 k2, .int .i64 pl], .pointer (some ⟨pb, 0, none⟩)] wr (DoPost w b mb mg n pb M) := by
  unfold DoPost
  obtain ⟨D, hD⟩ : ∃ D, wr.alloc (.cells #[.int .i64 kd, .int .i64 cn, .int .u64 (hh : Nat), .int .i64 k2, .int .i64 pl] 36) = D := ⟨_, rfl⟩
  have TQ : Hid (Tw w D b a c mb mg n L L pb ah ch M) := by show Tw _ _ _ _ _ _ _ _ _ _ _ _ _ _; rw [← hD]; exact hT.keep ((Below.refl _ wr).alloc (Nat.le_refl _) _)
  have XQ : Hid (D.heap[wr.heap.size]? = some (.cells #[.int .i64 kd, .int .i64 cn, .int .u64 (hh : Nat), .int .i64 k2, .int .i64 pl] 36 (0, 0))) := by show _ = _; rw [← hD]; exact Go.heap_alloc_new wr _
  have q0 : D.cell? ⟨wr.heap.size, 0, none⟩ = some (.int .i64 kd) := cell_of_row _ _ 0 _ _ _ XQ.out
  have q1 : D.cell? ⟨wr.heap.size, 1, none⟩ = some (.int .i64 cn) := cell_of_row _ _ 1 _ _ _ XQ.out
  have q2 : D.cell? ⟨wr.heap.size, 2, none⟩ = some (.int .u64 (hh : Nat)) := cell_of_row _ _ 2 _ _ _ XQ.out
  have q3 : D.cell? ⟨wr.heap.size, 3, none⟩ = some (.int .i64 k2) := cell_of_row _ _ 3 _ _ _ XQ.out
  have q4 : D.cell? ⟨wr.heap.size, 4, none⟩ = some (.int .i64 pl) := cell_of_row _ _ 4 _ _ _ XQ.out
  have qp := TQ.out.cellP
  have HD : Hid (wr.alloc (.cells #[.int .i64 kd, .int .i64 cn, .int .u64 (hh : Nat), .int .i64 k2, .int .i64 pl] 36) = D) := hD
  have hH := hH0
  clear hT
  subst hk
  go_enter Try.func12, Try.ntmps12
  by_cases hv : ∃ i, LvAt L hh i
  · obtain ⟨i0, hi0⟩ := hv
    have LV : Hid (LvAt L hh i0) := hi0
    obtain ⟨x, hx⟩ : ∃ x, gtL L i0 = x := ⟨_, rfl⟩
    have EX : Hid (gtL L i0 = x) := hx
    clear hi0 hx
    go_wp2_with (first
      | (go_at_call 23; refine (get_ok w.heap.size b a c n L hh i0 _ TQ.out.ct hH LV.out).mono ?_; rw [EX.out]; rintro e w1 ⟨rfl, m1, rfl⟩; have T1 : Hid (Tw w (D.drewN m1) b a c mb mg n L L pb ah ch M) := TQ.out.drewN m1)
      | (go_at_call 27; refine (rget_ok mb mg n L hh i0 _ T1.out.rt LV.out).mono ?_; rw [EX.out]; rintro e w2 ⟨rfl, b2⟩; have T2 : Hid (Tw w w2 b a c mb mg n L L pb ah ch M) := T1.out.keep b2; clear b2))
    go_ret
    exact ⟨ret_bool (by simp), a, c, L, ah, ch, M, T2.out, by omega⟩
  · go_wp2_with (first
      | (go_at_call 23; refine (get_bad w.heap.size b a c n L hh _ TQ.out.ct hH hv).mono ?_; rintro e w1 ⟨rfl, rfl⟩)
      | (go_at_call 27; refine (rget_bad mb mg n L hh _ TQ.out.rt hv).mono ?_; rintro e w2 ⟨rfl, b2⟩; have T2 : Hid (Tw w w2 b a c mb mg n L L pb ah ch M) := TQ.out.keep b2; clear b2))
    go_ret
    exact ⟨ret_bool (by simp), a, c, L, ah, ch, M, T2.out, by omega⟩
end Go.Proofs.Ytjdgildeilcfiaa
