/- What do answers. -/
import Derived.Test.YtjdgildeilcfiaaHgB
namespace Go.Proofs.Ytjdgildeilcfiaa
open Go.RowKit
set_option linter.unusedVariables false

set_option maxRecDepth 20000 in
set_option maxHeartbeats 4000000 in
theorem do_put (w wr : World) (b : Nat) (a : Option Addr) (c mb mg n : Nat) (L : List Rw) (pb : Nat) (ah : Option Addr) (ch : Nat) (M : List Nat) (kd cn : Int) (hh : Nat) (k2 pl : Int) (hT : Tw w wr b a c mb mg n L L pb ah ch M) (hH0 : hh < 18446744073709551616) (hM : M.length ≤ 100000) (hk : kd = 3) :
    Calls Try.prog 12 #[.pointer (some ⟨b, 0, none⟩), .pointer (some ⟨mb, 0, none⟩), .agg #[.int .i64 kd, .int .i64 cn, .int .u64 (hh : Nat), .int .i64 k2, .int .i64 pl], .pointer (some ⟨pb, 0, none⟩)] wr (DoPost w b mb mg n pb M) := by
  unfold DoPost
  obtain ⟨D, hD⟩ : ∃ D, wr.alloc (.cells #[.int .i64 kd, .int .i64 cn, .int .u64 (hh : Nat), .int .i64 k2, .int .i64 pl] 36) = D := ⟨_, rfl⟩
  have TQ : Hid (Tw w D b a c mb mg n L L pb ah ch M) := by show Tw _ _ _ _ _ _ _ _ _ _ _ _ _ _; rw [← hD]; exact hT.keep ((Below.refl _ wr).alloc (Nat.le_refl _) _)
  have XQ : Hid (D.heap[wr.heap.size]? = some (.cells #[.int .i64 kd, .int .i64 cn, .int .u64 (hh : Nat), .int .i64 k2, .int .i64 pl] 36 (0, 0))) := by show _ = _; rw [← hD]; exact Go.heap_alloc_new wr _
  have q0 : D.cell? ⟨wr.heap.size, 0, none⟩ = some (.int .i64 kd) := cell_of_row _ _ 0 _ _ _ XQ.out
  have q1 : D.cell? ⟨wr.heap.size, 1, none⟩ = some (.int .i64 cn) := cell_of_row _ _ 1 _ _ _ XQ.out
  have q2 : D.cell? ⟨wr.heap.size, 2, none⟩ = some (.int .u64 (hh : Nat)) := cell_of_row _ _ 2 _ _ _ XQ.out
  have q3 : D.cell? ⟨wr.heap.size, 3, none⟩ = some (.int .i64 k2) := cell_of_row _ _ 3 _ _ _ XQ.out
  have q4 : D.cell? ⟨wr.heap.size, 4, none⟩ = some (.int .i64 pl) := cell_of_row _ _ 4 _ _ _ XQ.out
  have qp := TQ.out.cellP
  have HD : Hid (wr.alloc (.cells #[.int .i64 kd, .int .i64 cn, .int .u64 (hh : Nat), .int .i64 k2, .int .i64 pl] 36) = D) := hD
  have hH := hH0
  clear hT
  subst hk
  go_enter Try.func12, Try.ntmps12
  by_cases hv : ∃ i, LvAt L hh i
  · obtain ⟨i0, hi0⟩ := hv
    have LV : Hid (LvAt L hh i0) := hi0
    clear hi0
    go_wp2_with fail
    go_region_held3 (fun w' => w'.cell? ⟨wr.heap.size, 4, none⟩ = some (.int .i64 pl)) (first | assumption | go_keep)
      (first
        | (go_at_call 28; refine (rput_ok mb mg n L hh i0 pl _ T1.out.rt LV.out).mono ?_; rintro e w2 ⟨rfl, k2, t2⟩; have T2 : Hid (Tw w w2 b a c mb mg n (putL L i0 pl) (putL L i0 pl) pb ah ch M) := T1.out.ref k2 t2; have p2 : w2.cell? ⟨wr.heap.size, 4, none⟩ = some (.int .i64 pl) := cell_of_row w2 _ 4 _ _ _ (T1.out.boxR X1.out t2); clear k2 t2)
        | (go_at_call 24; refine (put_ok w.heap.size b a c n L hh i0 pl _ TQ.out.drew.ct hH LV.out).mono ?_; rintro e w1 ⟨rfl, k1, t1⟩; have T1 : Hid (Tw w w1 b a c mb mg n (putL L i0 pl) L pb ah ch M) := TQ.out.drew.code k1 t1 (.inl rfl); have X1 : Hid (w1.heap[wr.heap.size]? = some (.cells #[.int .i64 3, .int .i64 cn, .int .u64 (hh : Nat), .int .i64 k2, .int .i64 pl] 36 (0, 0))) := TQ.out.drew.boxC XQ.out t1; have p1 : w1.cell? ⟨wr.heap.size, 4, none⟩ = some (.int .i64 pl) := cell_of_row w1 _ 4 _ _ _ X1.out; clear k1 t1))
    go_wp2
    go_ret
    exact ⟨ret_bool (by simp), a, c, _, ah, ch, M, T2.out, by omega⟩
  · go_wp2_with fail
    go_region_held3 (fun w' => w'.cell? ⟨wr.heap.size, 4, none⟩ = some (.int .i64 pl)) (first | assumption | go_keep)
      (first
        | (go_at_call 28; refine (rput_bad mb mg n L hh pl _ TQ.out.drew.rt hv).mono ?_; rintro e w2 ⟨rfl, b2⟩; have T2 : Hid (Tw w w2 b a c mb mg n L L pb ah ch M) := TQ.out.drew.keep b2; have p2 : w2.cell? ⟨wr.heap.size, 4, none⟩ = some (.int .i64 pl) := cell_of_row w2 _ 4 _ _ _ (by rw [b2.block _ (hlt XQ.out)]; exact XQ.out); clear b2)
        | (go_at_call 24; refine (put_bad w.heap.size b a c n L hh pl _ TQ.out.drew.ct hH hv).mono ?_; rintro e w1 ⟨rfl, rfl⟩))
    go_wp2
    go_ret
    exact ⟨ret_bool (by simp), a, c, L, ah, ch, M, T2.out, by omega⟩

set_option maxRecDepth 20000 in
set_option maxHeartbeats 4000000 in
theorem do_drop (w wr : World) (b : Nat) (a : Option Addr) (c mb mg n : Nat) (L : List Rw) (pb : Nat) (ah : Option Addr) (ch : Nat) (M : List Nat) (kd cn : Int) (hh : Nat) (k2 pl : Int) (hT : Tw w wr b a c mb mg n L L pb ah ch M) (hH0 : hh < 18446744073709551616) (hM : M.length ≤ 100000) (hk : kd = 4) :
    Calls Try.prog 12 #[.pointer (some ⟨b, 0, none⟩), .pointer (some ⟨mb, 0, none⟩), .agg #[.int .i64 kd, .int .i64 cn, .int .u64 (hh : Nat), .int .i64 k2, .int .i64 pl], .pointer (some ⟨pb, 0, none⟩)] wr (DoPost w b mb mg n pb M) := by
  unfold DoPost
  obtain ⟨D, hD⟩ : ∃ D, wr.alloc (.cells #[.int .i64 kd, .int .i64 cn, .int .u64 (hh : Nat), .int .i64 k2, .int .i64 pl] 36) = D := ⟨_, rfl⟩
  have TQ : Hid (Tw w D b a c mb mg n L L pb ah ch M) := by show Tw _ _ _ _ _ _ _ _ _ _ _ _ _ _; rw [← hD]; exact hT.keep ((Below.refl _ wr).alloc (Nat.le_refl _) _)
  have XQ : Hid (D.heap[wr.heap.size]? = some (.cells #[.int .i64 kd, .int .i64 cn, .int .u64 (hh : Nat), .int .i64 k2, .int .i64 pl] 36 (0, 0))) := by show _ = _; rw [← hD]; exact Go.heap_alloc_new wr _
  have q0 : D.cell? ⟨wr.heap.size, 0, none⟩ = some (.int .i64 kd) := cell_of_row _ _ 0 _ _ _ XQ.out
  have q1 : D.cell? ⟨wr.heap.size, 1, none⟩ = some (.int .i64 cn) := cell_of_row _ _ 1 _ _ _ XQ.out
  have q2 : D.cell? ⟨wr.heap.size, 2, none⟩ = some (.int .u64 (hh : Nat)) := cell_of_row _ _ 2 _ _ _ XQ.out
  have q3 : D.cell? ⟨wr.heap.size, 3, none⟩ = some (.int .i64 k2) := cell_of_row _ _ 3 _ _ _ XQ.out
  have q4 : D.cell? ⟨wr.heap.size, 4, none⟩ = some (.int .i64 pl) := cell_of_row _ _ 4 _ _ _ XQ.out
  have qp := TQ.out.cellP
  have HD : Hid (wr.alloc (.cells #[.int .i64 kd, .int .i64 cn, .int .u64 (hh : Nat), .int .i64 k2, .int .i64 pl] 36) = D) := hD
  have hH := hH0
  clear hT
  subst hk
  go_enter Try.func12, Try.ntmps12
  by_cases hv : ∃ i, LvAt L hh i
  · obtain ⟨i0, hi0⟩ := hv
    have LV : Hid (LvAt L hh i0) := hi0
    clear hi0
    go_wp2_with (first
      | (go_at_call 22; refine (drop_ok w.heap.size b a c n L hh i0 _ TQ.out.ct hH LV.out).mono ?_; rintro e w1 ⟨rfl, k1, t1⟩; have T1 : Hid (Tw w w1 b a c mb mg n (dropL L i0) L pb ah ch M) := TQ.out.code k1 t1 (.inl rfl); clear k1 t1)
      | (go_at_call 29; refine (rdrop_ok mb mg n L hh i0 _ T1.out.rt LV.out).mono ?_; rintro e w2 ⟨rfl, k2, t2⟩; have T2 : Hid (Tw w w2 b a c mb mg n (dropL L i0) (dropL L i0) pb ah ch M) := T1.out.ref k2 t2; clear k2 t2))
    go_ret
    exact ⟨ret_bool (by simp), a, c, _, ah, ch, M, T2.out, by omega⟩
  · go_wp2_with (first
      | (go_at_call 22; refine (drop_bad w.heap.size b a c n L hh _ TQ.out.ct hH hv).mono ?_; rintro e w1 ⟨rfl, rfl⟩)
      | (go_at_call 29; refine (rdrop_bad mb mg n L hh _ TQ.out.rt hv).mono ?_; rintro e w2 ⟨rfl, b2⟩; have T2 : Hid (Tw w w2 b a c mb mg n L L pb ah ch M) := TQ.out.keep b2; clear b2))
    go_ret
    exact ⟨ret_bool (by simp), a, c, L, ah, ch, M, T2.out, by omega⟩

set_option maxRecDepth 20000 in
set_option maxHeartbeats 4000000 in
theorem do_else (w wr : World) (b : Nat) (a : Option Addr) (c mb mg n : Nat) (L : List Rw) (pb : Nat) (ah : Option Addr) (ch : Nat) (M : List Nat) (kd cn : Int) (hh : Nat) (k2 pl : Int) (hT : Tw w wr b a c mb mg n L L pb ah ch M) (hH0 : hh < 18446744073709551616) (hM : M.length ≤ 100000) (hk : kd < 5) (h1 : ¬ (kd = 1)) (h2 : ¬ (kd = 2)) (h3 : ¬ (kd = 3)) (h4 : ¬ (kd = 4)) :
    Calls Try.prog 12 #[.pointer (some ⟨b, 0, none⟩), .pointer (some ⟨mb, 0, none⟩), .agg #[.int .i64 kd, .int .i64 cn, .int .u64 (hh : Nat), .int .i64 k2, .int .i64 pl], .pointer (some ⟨pb, 0, none⟩)] wr (DoPost w b mb mg n pb M) := by
  unfold DoPost
  obtain ⟨D, hD⟩ : ∃ D, wr.alloc (.cells #[.int .i64 kd, .int .i64 cn, .int .u64 (hh : Nat), .int .i64 k2, .int .i64 pl] 36) = D := ⟨_, rfl⟩
  have TQ : Hid (Tw w D b a c mb mg n L L pb ah ch M) := by show Tw _ _ _ _ _ _ _ _ _ _ _ _ _ _; rw [← hD]; exact hT.keep ((Below.refl _ wr).alloc (Nat.le_refl _) _)
  have XQ : Hid (D.heap[wr.heap.size]? = some (.cells #[.int .i64 kd, .int .i64 cn, .int .u64 (hh : Nat), .int .i64 k2, .int .i64 pl] 36 (0, 0))) := by show _ = _; rw [← hD]; exact Go.heap_alloc_new wr _
  have q0 : D.cell? ⟨wr.heap.size, 0, none⟩ = some (.int .i64 kd) := cell_of_row _ _ 0 _ _ _ XQ.out
  have q1 : D.cell? ⟨wr.heap.size, 1, none⟩ = some (.int .i64 cn) := cell_of_row _ _ 1 _ _ _ XQ.out
  have q2 : D.cell? ⟨wr.heap.size, 2, none⟩ = some (.int .u64 (hh : Nat)) := cell_of_row _ _ 2 _ _ _ XQ.out
  have q3 : D.cell? ⟨wr.heap.size, 3, none⟩ = some (.int .i64 k2) := cell_of_row _ _ 3 _ _ _ XQ.out
  have q4 : D.cell? ⟨wr.heap.size, 4, none⟩ = some (.int .i64 pl) := cell_of_row _ _ 4 _ _ _ XQ.out
  have qp := TQ.out.cellP
  have HD : Hid (wr.alloc (.cells #[.int .i64 kd, .int .i64 cn, .int .u64 (hh : Nat), .int .i64 k2, .int .i64 pl] 36) = D) := hD
  have hH := hH0
  clear hT
  have g5 : ¬ (kd ≥ 5) := by omega
  have g5e : ¬ (kd = 5) := by omega
  have g6e : ¬ (kd = 6) := by omega
  have g7e : ¬ (kd = 7) := by omega
  go_enter Try.func12, Try.ntmps12
  go_wp2
  go_ret
  exact ⟨rfl, a, c, L, ah, ch, M, TQ.out, by omega⟩
end Go.Proofs.Ytjdgildeilcfiaa
