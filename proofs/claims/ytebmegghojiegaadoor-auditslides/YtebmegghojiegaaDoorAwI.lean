/- Check: the rule that a view breaks first. -/
import Derived.Test.YtebmegghojiegaaDoorAwH
namespace Go.Proofs.YtebmegghojiegaaDoor
open Go.RowKit
set_option linter.unusedVariables false

set_option maxRecDepth 20000 in
set_option maxHeartbeats 4000000 in
theorem check_any14 (V : Vw) (A : Va) (w : World) (h : Rv w V A) (hT : TabC w) :
    Calls Tryd.prog 11 #[.agg #[.int .i64 V.base, .int .i64 V.pgs, .slice A.ka A.kn A.kc, .slice A.ra A.rn A.rc, .slice A.sa A.sn A.sc, .slice A.ba A.bn A.bc]] w fun e w' => ∃ r x, e = .returned (.tuple #[.int .i64 r, .int .i64 x]) ∧ ChkR V r x ∧ Below w.heap.size w w' := by
  obtain ⟨E, hE⟩ : ∃ E, w.alloc (.cells #[.int .i64 V.base, .int .i64 V.pgs, .slice A.ka A.kn A.kc, .slice A.ra A.rn A.rc, .slice A.sa A.sn A.sc, .slice A.ba A.bn A.bc] 27) = E := ⟨_, rfl⟩
  have bE : Below w.heap.size w E := by rw [← hE]; exact (Below.refl _ w).alloc (Nat.le_refl _) _
  have HV : Hid (Rv E V A) := h.keep bE
  have HT : Hid (TabC E) := hT.keep bE
  have BE : Hid (Below w.heap.size w E) := bE
  have rE : E.heap[w.heap.size]? = some (.cells #[.int .i64 V.base, .int .i64 V.pgs, .slice A.ka A.kn A.kc, .slice A.ra A.rn A.rc, .slice A.sa A.sn A.sc, .slice A.ba A.bn A.bc] 27 (0, 0)) := by rw [← hE]; exact Go.heap_alloc_new w _
  have d0 : E.cell? ⟨w.heap.size, 0, none⟩ = some (.int .i64 V.base) := cell_of_row _ _ 0 _ _ _ rE
  have d1 : E.cell? ⟨w.heap.size, 1, none⟩ = some (.int .i64 V.pgs) := cell_of_row _ _ 1 _ _ _ rE
  have d2 : E.cell? ⟨w.heap.size, 2, none⟩ = some (.slice A.ka A.kn A.kc) := cell_of_row _ _ 2 _ _ _ rE
  have d3 : E.cell? ⟨w.heap.size, 3, none⟩ = some (.slice A.ra A.rn A.rc) := cell_of_row _ _ 3 _ _ _ rE
  have d4 : E.cell? ⟨w.heap.size, 4, none⟩ = some (.slice A.sa A.sn A.sc) := cell_of_row _ _ 4 _ _ _ rE
  have d5 : E.cell? ⟨w.heap.size, 5, none⟩ = some (.slice A.ba A.bn A.bc) := cell_of_row _ _ 5 _ _ _ rE
  clear h hT bE rE
  go_enter Tryd.func11, Tryd.ntmps11
  go_wp2_with (first
    | (go_at_call 25; refine (look_any V A _ HV.out HT.out).mono ?_; rintro e w2 ⟨lb, ms, mi, nf, nr, f, rfl, lk, hlb, b2⟩; have LK : Hid (Lk w2 lb ms mi V A nf nr f) := lk; have B2 : Hid (Below w.heap.size w w2) := BE.out.trans (b2.mono BE.out.size); clear lk b2)
    | (go_at_call 26; refine (broken_any lb ms mi V A nf nr f _ LK.out).mono ?_; rintro e w3 ⟨r, x, rfl, hc, b3⟩; have HC : Hid (ChkR V r x) := hc; have B3 : Hid (Below w.heap.size w w3) := B2.out.trans (b3.mono B2.out.size); clear hc b3))
  go_ret2
  exact ⟨r, x, rfl, HC.out, B3.out⟩
end Go.Proofs.YtebmegghojiegaaDoor
