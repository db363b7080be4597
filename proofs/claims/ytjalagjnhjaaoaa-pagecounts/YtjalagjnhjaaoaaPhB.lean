/- Layer 18: a row's bytes as a page is given them (Rows' closure), and Rows. -/
import Derived.Test.YtjalagjnhjaaoaaPhA
namespace Go.Proofs.Ytjalagjnhjaaoaa
open Go.RowKit
set_option linter.unusedVariables false
set_option maxRecDepth 4000

/-- What the closure answers: a row's bytes, or none. -/
def rowO (x : HRw) : List Int := if mayR x = true then rowB x else []
set_option maxRecDepth 20000 in
set_option maxHeartbeats 4000000 in
theorem prows1_any (x : HRw) (w : World) :
    Calls Try.prog 24 #[.agg #[.int .i64 x.gen, .bool x.live, .int .i64 x.kind, .int .i64 x.pl]] w fun e w' => ∃ a c, e = .returned (.slice a (rowO x).length c) ∧ OwnsB w' w.heap.size a (rowO x) c ∧ Below w.heap.size w w' := by
  obtain ⟨D, hD, rD, bD⟩ := rbox18 w x
  have HX : Hid (∀ v, mayR x = v → ∀ w : World, Calls Try.prog 25 #[.agg #[.int .i64 x.gen, .bool x.live, .int .i64 x.kind, .int .i64 x.pl]] w fun e w' => e = .returned (.bool v) ∧ Below w.heap.size w w') := fun v hv w => pmay_any x v w hv
  have HY : Hid (mayR x = true → ∀ w : World, Calls Try.prog 26 #[.agg #[.int .i64 x.gen, .bool x.live, .int .i64 x.kind, .int .i64 x.pl]] w fun e w' => ∃ a c, e = .returned (.slice a (rowB x).length c) ∧ OwnsB w' w.heap.size a (rowB x) c ∧ Below w.heap.size w w') := fun hv w => prowb_any x w hv
  have HT : Hid (mayR x = true → rowO x = rowB x) := fun h => if_pos h
  have HF : Hid (mayR x = false → rowO x = []) := fun h => if_neg (by rw [h]; decide)
  obtain ⟨v, hv⟩ : ∃ v, mayR x = v := ⟨_, rfl⟩
  have HV : Hid (mayR x = v) := hv
  clear hv
  obtain ⟨g, lv, k, a⟩ := x
  simp only at hD rD HX HY
  have HD : Hid (w.alloc (.cells #[.int .i64 g, .bool lv, .int .i64 k, .int .i64 a] 51) = D) := hD
  have BD : Hid (Below w.heap.size w D) := bD
  have RD : Hid (D.heap[w.heap.size]? = some (.cells #[.int .i64 g, .bool lv, .int .i64 k, .int .i64 a] 51 (0, 0))) := rD
  have c0 : D.cell? ⟨w.heap.size, 0, none⟩ = some (.int .i64 g) := cell_of_row _ _ 0 _ _ _ rD
  have c1 : D.cell? ⟨w.heap.size, 1, none⟩ = some (.bool lv) := cell_of_row _ _ 1 _ _ _ rD
  have c2 : D.cell? ⟨w.heap.size, 2, none⟩ = some (.int .i64 k) := cell_of_row _ _ 2 _ _ _ rD
  have c3 : D.cell? ⟨w.heap.size, 3, none⟩ = some (.int .i64 a) := cell_of_row _ _ 3 _ _ _ rD
  have z1 : w.heap.size < D.heap.size := hlt rD
  clear hD rD bD
  cases v
  · go_enter Try.func24, Try.ntmps24
    go_upto_region 1 with (fail)
    rw [HD.out]
    go_wp2_with (go_at_call 25; refine (HX.out false HV.out _).mono ?_; rintro e w1 ⟨rfl, b1⟩; have B1 : Hid (Below w.heap.size w w1) := BD.out.trans (b1.mono BD.out.size); clear b1)
    go_ret
    rw [HF.out HV.out]
    exact ⟨none, 0, rfl, World.ownsRow_nil _ _ _ _, B1.out⟩
  · go_enter Try.func24, Try.ntmps24
    go_upto_region 1 with (fail)
    rw [HD.out]
    go_wp2_with fail
    refine (HX.out true HV.out _).mono ?_
    rintro e w1 ⟨rfl, b1⟩
    have B1 : Hid (Below w.heap.size w w1) := BD.out.trans (b1.mono BD.out.size)
    have r1 : w1.heap[w.heap.size]? = some (.cells #[.int .i64 g, .bool lv, .int .i64 k, .int .i64 a] 51 (0, 0)) := by rw [b1.block _ z1]; exact RD.out
    have e0 := cell_of_row _ _ 0 _ _ _ r1
    have e1 := cell_of_row _ _ 1 _ _ _ r1
    have e2 := cell_of_row _ _ 2 _ _ _ r1
    have e3 := cell_of_row _ _ 3 _ _ _ r1
    clear b1 r1 c0 c1 c2 c3
    go_wp2_with fail
    refine (HY.out HV.out _).mono ?_
    rintro e w2 ⟨a2, cc2, rfl, o2, b2⟩
    go_wp2
    go_ret
    rw [HT.out HV.out]
    exact ⟨a2, cc2, rfl, OwnsB.mono o2 B1.out.size, B1.out.trans (b2.mono B1.out.size)⟩
end Go.Proofs.Ytjalagjnhjaaoaa
