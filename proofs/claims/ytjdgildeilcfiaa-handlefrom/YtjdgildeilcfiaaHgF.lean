/- What do answers. -/
import Derived.Test.YtjdgildeilcfiaaHgB
namespace Go.Proofs.Ytjdgildeilcfiaa
open Go.RowKit
set_option linter.unusedVariables false

set_option maxRecDepth 20000 in
set_option maxHeartbeats 4000000 in
theorem do_get_made (w wr : World) (b : Nat) (a : Option Addr) (c mb mg n : Nat) (L : List Rw) (pb : Nat) (ah : Option Addr) (ch : Nat) (M : List Nat) (kd cn : Int) (hh : Nat) (k2 pl : Int) (hT : Tw w wr b a c mb mg n L L pb ah ch M) (hH0 : hh < 18446744073709551616) (hM : M.length ≤ 100000) (hk : kd = 5) (hz : 0 < M.length) :
    Calls Try.prog 12 #[.pointer (some ⟨b, 0, none⟩), .pointer (some ⟨mb, 0, none⟩), .agg #[.int .i64 kd, .int .i64 cn, .int .u64 (hh : Nat), .int .i64 k2, .int .i64 pl], .pointer (some ⟨pb, 0, none⟩)] wr (DoPost w b mb mg n pb M) := by
  unfold DoPost
  obtain ⟨D, hD⟩ : ∃ D, wr.alloc (.cells #[.int .i64 kd, .int .i64 cn, .int .u64 (hh : Nat), .int .i64 k2, .int .i64 pl] 36) = D := ⟨_, rfl⟩
  have TQ : Hid (Tw w D b a c mb mg n L L pb ah ch M) := by show Tw _ _ _ _ _ _ _ _ _ _ _ _ _ _; rw [← hD]; exact hT.keep ((Below.refl _ wr).alloc (Nat.le_refl _) _)
  have XQ : Hid (D.heap[wr.heap.size]? = some (.cells #[.int .i64 kd, .int .i64 cn, .int .u64 (hh : Nat), .int .i64 k2, .int .i64 pl] 36 (0, 0))) := by show _ = _; rw [← hD]; exact Go.heap_alloc_new wr _
  have q0 : D.cell? ⟨wr.heap.size, 0, none⟩ = some (.int .i64 kd) := cell_of_row _ _ 0 _ _ _ XQ.out
  have q1 : D.cell? ⟨wr.heap.size, 1, none⟩ = some (.int .i64 cn) := cell_of_row _ _ 1 _ _ _ XQ.out
  have q2 : D.cell? ⟨wr.heap.size, 2, none⟩ = some (.int .u64 (hh : Nat)) := cell_of_row _ _ 2 _ _ _ XQ.out
  have q3 : D.cell? ⟨wr.heap.size, 3, none⟩ = some (.int .i64 k2) := cell_of_row _ _ 3 _ _ _ XQ.out
  have q4 : D.cell? ⟨wr.heap.size, 4, none⟩ = some (.int .i64 pl) := cell_of_row _ _ 4 _ _ _ XQ.out
  have qp := TQ.out.cellP
  have HD : Hid (wr.alloc (.cells #[.int .i64 kd, .int .i64 cn, .int .u64 (hh : Nat), .int .i64 k2, .int .i64 pl] 36) = D) := hD
  have hH := hH0
  clear hT
  subst hk
  obtain ⟨V, hV, hVM⟩ := rem_small cn M.length (by omega) (by omega)
  obtain ⟨gh, rfl, _, _, kc⟩ := TQ.out.oh.cells V hVM
  obtain ⟨X, hX⟩ : ∃ X, M[V] = X := ⟨_, rfl⟩
  have hXl : X < 18446744073709551616 := by rw [← hX]; exact TQ.out.sm _ (List.getElem_mem hVM)
  rw [hX] at kc
  obtain ⟨Ml, hMl⟩ : ∃ Ml, M.length = Ml := ⟨_, rfl⟩
  have EML : Hid (M.length = Ml) := hMl
  rw [hMl] at hV hVM qp hz hM ⊢
  have h0V : (0 : Int) ≤ (V : Nat) := by omega
  have hVM' : (V : Int) < (Ml : Int) := by omega
  have hzN : ¬ (Ml = 0) := by omega
  have hzI : (Ml : Int) > 0 := by omega
  have wU : IntKind.wrap .u64 ((Ml : Nat) : Int) = (Ml : Nat) := by rw [IntKind.wrap_u64]; omega
  clear hH hX hMl
  have hH := hXl
  go_enter Try.func12, Try.ntmps12
  go_wp2_with fail
  try rw [HD.out]
  go_quiet (fail)
  obtain ⟨WQ, hWQ⟩ : ∃ WQ, D.drewN nq = WQ := ⟨_, rfl⟩
  have TQ' : Hid (Tw w WQ b a c mb mg n L L pb (some ⟨gh, 0, none⟩) ch M) := by show Tw _ _ _ _ _ _ _ _ _ _ _ _ _ _; rw [← hWQ]; exact TQ.out.drewN nq
  have XQ' : Hid (WQ.heap[wr.heap.size]? = some (.cells #[.int .i64 5, .int .i64 cn, .int .u64 (hh : Nat), .int .i64 k2, .int .i64 pl] 36 (0, 0))) := by show _ = _; rw [← hWQ]; exact XQ.out
  rw [hWQ]
  clear TQ XQ hWQ q0 q1 q2 q3 q4 qp
  have TQ := TQ'
  have XQ := XQ'
  have q0 : WQ.cell? ⟨wr.heap.size, 0, none⟩ = some (.int .i64 5) := cell_of_row _ _ 0 _ _ _ XQ.out
  have q4 : WQ.cell? ⟨wr.heap.size, 4, none⟩ = some (.int .i64 pl) := cell_of_row _ _ 4 _ _ _ XQ.out
  clear TQ' XQ'
  by_cases hv : ∃ i, LvAt L X i
  · obtain ⟨i0, hi0⟩ := hv
    have LV : Hid (LvAt L X i0) := hi0
    obtain ⟨x, hx⟩ : ∃ x, gtL L i0 = x := ⟨_, rfl⟩
    have EX : Hid (gtL L i0 = x) := hx
    clear hi0 hx
    go_wp2_with (first
      | (go_at_call 23; refine (get_ok w.heap.size b a c n L X i0 _ TQ.out.ct hH LV.out).mono ?_; rw [EX.out]; rintro e w1 ⟨rfl, m1, rfl⟩; have T1 : Hid (Tw w (WQ.drewN m1) b a c mb mg n L L pb (some ⟨gh, 0, none⟩) ch M) := TQ.out.drewN m1)
      | (go_at_call 27; refine (rget_ok mb mg n L X i0 _ T1.out.rt LV.out).mono ?_; rw [EX.out]; rintro e w2 ⟨rfl, b2⟩; have T2 : Hid (Tw w w2 b a c mb mg n L L pb (some ⟨gh, 0, none⟩) ch M) := T1.out.keep b2; clear b2))
    go_ret
    exact ⟨ret_bool (by simp), a, c, L, (some ⟨gh, 0, none⟩), ch, M, T2.out, by rw [EML.out]; omega⟩
  · go_wp2_with (first
      | (go_at_call 23; refine (get_bad w.heap.size b a c n L X _ TQ.out.ct hH hv).mono ?_; rintro e w1 ⟨rfl, rfl⟩)
      | (go_at_call 27; refine (rget_bad mb mg n L X _ TQ.out.rt hv).mono ?_; rintro e w2 ⟨rfl, b2⟩; have T2 : Hid (Tw w w2 b a c mb mg n L L pb (some ⟨gh, 0, none⟩) ch M) := TQ.out.keep b2; clear b2))
    go_ret
    exact ⟨ret_bool (by simp), a, c, L, (some ⟨gh, 0, none⟩), ch, M, T2.out, by rw [EML.out]; omega⟩
end Go.Proofs.Ytjdgildeilcfiaa
