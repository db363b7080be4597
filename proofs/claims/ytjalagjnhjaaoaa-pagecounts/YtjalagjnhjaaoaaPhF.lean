/- Layer 18: the walk of readRow, and ReadRows' closure. -/
import Derived.Test.YtjalagjnhjaaoaaPhE
namespace Go.Proofs.Ytjalagjnhjaaoaa
open Go.RowKit
set_option linter.unusedVariables false
set_option maxRecDepth 4000

set_option maxRecDepth 20000 in
set_option maxHeartbeats 4000000 in
/-- The row is dead. -/
theorem preadrow_dead (B : Nat) (l r : List Int) (e0 g e : Int) (w : World) (h : RdAt w B l e0) (hu : upS l e0 131071 = (g, r, e)) (g0 : 0 ≤ g) (g1 : g ≤ 131071) (hg : ¬ g % 2 = 1) (RW : RowR l e0 ⟨g / 2, false, 0, 0⟩ r e) :
    Calls Try.prog 32 #[.pointer (some ⟨B, 0, none⟩)] w (RowP w B l e0) := by
  have hB := h.lt
  obtain ⟨D, hD, rD, bD⟩ := rbox18 w hz
  simp only [hz] at hD rD
  have HD : Hid (w.alloc (.cells #[.int .i64 0, .bool false, .int .i64 0, .int .i64 0] 51) = D) := hD
  have R0 : Hid (RdAt D B l e0) := rd_keep h bD
  have HU : Hid (upS l e0 131071 = (g, r, e)) := hu
  have HRW : Hid (RowR l e0 ⟨g / 2, false, 0, 0⟩ r e) := RW
  have wg : IntKind.i64.wrap g = g := by rw [IntKind.wrap_i64]; omega
  have d1 : g.tdiv 2 = g / 2 := Int.tdiv_eq_ediv_of_nonneg g0
  have d2 : g.tmod 2 = g % 2 := Int.tmod_eq_emod_of_nonneg g0
  have wd : IntKind.i64.wrap (g / 2) = g / 2 := by rw [IntKind.wrap_i64]; omega
  have wm : IntKind.i64.wrap (g % 2) = g % 2 := by rw [IntKind.wrap_i64]; omega
  have hb : (g % 2 == 1) = false := by rw [beq_eq_false_iff_ne]; exact hg
  clear h hu RW hD rD bD
  go_enter Try.func32, Try.ntmps32
  go_upto_region 1 with (fail)
  rw [HD.out]
  go_wp2_with fail
  refine (upto_any B l e0 131071 _ R0.out).mono ?_
  rw [HU.out]
  rintro r' w1 ⟨rfl, r1, g1'⟩
  have SX0 := Rb.new (g := g / 2) (lv := false) hB HD.out (Tg.ofGrown g1') r1
  obtain ⟨X, hX⟩ : ∃ X, w1.alloc (.cells #[.int .i64 (g / 2), .bool false, .int .i64 0, .int .i64 0] 51) = X := ⟨_, rfl⟩
  obtain ⟨K, hK⟩ : ∃ K, w1.heap.size = K := ⟨_, rfl⟩
  rw [hX, hK] at SX0
  have HX : Hid _ := hX
  have HK : Hid (w1.heap.size = K) := hK
  have S0 : Hid (Rb w X B K r e (g / 2) false 0 0) := SX0
  clear hX hK SX0 r1 g1'
  go_upto_region 3 with (fail)
  rw [HX.out]
  try rw [HK.out]
  obtain ⟨gq, hgq⟩ : ∃ gq, g / 2 = gq := ⟨_, rfl⟩
  rw [hgq] at S0 HRW ⊢
  obtain ⟨y0, y1, y2, y3, z0, z1, z2, z3⟩ := res_cells S0.out.res
  obtain ⟨x0, x1, x2, x3, _, _⟩ := S0.out.cells
  obtain ⟨r9, t9, b9⟩ := S0.out.laid
  obtain ⟨f0, f1, f2, f3, _, _, _, _⟩ := res_cells b9
  have R9 : Hid (RdAt (layW X w.heap.size gq false 0 0) B r e) := r9
  have T9 : Hid (Tg B w (layW X w.heap.size gq false 0 0)) := t9
  unfold layW at f0 f1 f2 f3
  clear r9 t9 b9 hgq d1 d2 wd wm hb
  go_wp2
  refine bodyPost_ret (v := .agg #[.int .i64 gq, .bool false, .int .i64 0, .int .i64 0]) (by simp [results, Try.results32, go_sem, f0, f1, f2, f3]) rfl ⟨⟨gq, false, 0, 0⟩, r, e, rfl, R9.out, T9.out, HRW.out⟩

set_option maxRecDepth 20000 in
set_option maxHeartbeats 8000000 in
/-- The row lives. -/
theorem preadrow_live (B : Nat) (l r r2 r3 : List Int) (e0 g e em ka e2 pa e3 : Int) (w : World) (h : RdAt w B l e0) (hu : upS l e0 131071 = (g, r, e)) (g0 : 0 ≤ g) (g1 : g ≤ 131071) (hg : g % 2 = 1) (hem : em = if g = 1 then failV e 4 else e) (hk : upS r em 63 = (ka, r2, e2)) (ha : upS r2 e2 1048575 = (pa, r3, e3)) (kk : 0 ≤ ka ∧ ka ≤ 63) (pp : 0 ≤ pa ∧ pa ≤ 1048575) (RW : RowR l e0 ⟨g / 2, true, ka, pa⟩ r3 e3) :
    Calls Try.prog 32 #[.pointer (some ⟨B, 0, none⟩)] w (RowP w B l e0) := by
  have hB := h.lt
  obtain ⟨D, hD, rD, bD⟩ := rbox18 w hz
  simp only [hz] at hD rD
  have HD : Hid (w.alloc (.cells #[.int .i64 0, .bool false, .int .i64 0, .int .i64 0] 51) = D) := hD
  have R0 : Hid (RdAt D B l e0) := rd_keep h bD
  have HU : Hid (upS l e0 131071 = (g, r, e)) := hu
  have HKU : Hid (upS r em 63 = (ka, r2, e2)) := hk
  have HAU : Hid (upS r2 e2 1048575 = (pa, r3, e3)) := ha
  have HEM : Hid (em = if g = 1 then failV e 4 else e) := hem
  have HRW : Hid (RowR l e0 ⟨g / 2, true, ka, pa⟩ r3 e3) := RW
  have wg : IntKind.i64.wrap g = g := by rw [IntKind.wrap_i64]; omega
  have wk : IntKind.i64.wrap ka = ka := by rw [IntKind.wrap_i64]; omega
  have wp : IntKind.i64.wrap pa = pa := by rw [IntKind.wrap_i64]; omega
  have d1 : g.tdiv 2 = g / 2 := Int.tdiv_eq_ediv_of_nonneg g0
  have d2 : g.tmod 2 = g % 2 := Int.tmod_eq_emod_of_nonneg g0
  have wd : IntKind.i64.wrap (g / 2) = g / 2 := by rw [IntKind.wrap_i64]; omega
  have wm : IntKind.i64.wrap (g % 2) = g % 2 := by rw [IntKind.wrap_i64]; omega
  have hb : (g % 2 == 1) = true := by rw [beq_iff_eq]; exact hg
  clear h hu RW hD rD bD hem hk ha
  go_enter Try.func32, Try.ntmps32
  go_upto_region 1 with (fail)
  rw [HD.out]
  go_wp2_with fail
  refine (upto_any B l e0 131071 _ R0.out).mono ?_
  rw [HU.out]
  rintro r' w1 ⟨rfl, r1, g1'⟩
  have SX0 := Rb.new (g := g / 2) (lv := true) hB HD.out (Tg.ofGrown g1') r1
  obtain ⟨X, hX⟩ : ∃ X, w1.alloc (.cells #[.int .i64 (g / 2), .bool true, .int .i64 0, .int .i64 0] 51) = X := ⟨_, rfl⟩
  obtain ⟨K, hK⟩ : ∃ K, w1.heap.size = K := ⟨_, rfl⟩
  rw [hX, hK] at SX0
  have HX : Hid _ := hX
  have HK : Hid (w1.heap.size = K) := hK
  have S0 : Hid (Rb w X B K r e (g / 2) true 0 0) := SX0
  clear hX hK SX0 r1 g1'
  go_upto_region 3 with (fail)
  rw [HX.out]
  try rw [HK.out]
  obtain ⟨gq, hgq⟩ : ∃ gq, g / 2 = gq := ⟨_, rfl⟩
  have HGQ : Hid (g / 2 = gq) := hgq
  rw [hgq] at S0 HRW ⊢
  obtain ⟨x0, x1, x2, x3, _, _⟩ := S0.out.cells
  clear hgq d1 d2 wd wm hb
  by_cases hq : g = 1
  · have q0 : gq = 0 := by have := HGQ.out; omega
    have EE : Hid (failV e 4 = em) := by show _ = _; rw [HEM.out, if_pos hq]
    subst q0
    clear hq
    go_wp2_with fail
    refine (fail_any B r e 4 _ S0.out.rd).mono ?_
    rw [EE.out]
    rintro r' w2 ⟨rfl, r2', g2'⟩
    have S2 : Hid (Rb w w2 B K r em 0 true 0 0) := S0.out.go (Tg.ofGrown g2') r2'
    clear r2' g2' x0 x1 x2 x3 S0
    go_wp2_with fail
    refine (upto_any B r em 63 _ S2.out.rd).mono ?_
    rw [HKU.out]
    rintro r' w3 ⟨rfl, r3', g3'⟩
    have S3 : Hid (Rb w w3 B K r2 e2 0 true 0 0) := S2.out.go (Tg.ofGrown g3') r3'
    obtain ⟨_, _, y2, _, y5, _⟩ := S3.out.cells
    have S4 : Hid (Rb w (w3.setCell ⟨K, 2, none⟩ (.int .i64 ka)) B K r2 e2 0 true ka 0) := S3.out.kind ka
    obtain ⟨W4, hW4⟩ : ∃ W4, w3.setCell ⟨K, 2, none⟩ (.int .i64 ka) = W4 := ⟨_, rfl⟩
    have HW4 : Hid _ := hW4
    rw [hW4] at S4
    clear r3' g3' hW4
    go_wp2_with fail
    rw [HW4.out]
    refine (upto_any B r2 e2 1048575 _ S4.out.rd).mono ?_
    rw [HAU.out]
    rintro r' w5 ⟨rfl, r5', g5'⟩
    have S5 : Hid (Rb w w5 B K r3 e3 0 true ka 0) := S4.out.go (Tg.ofGrown g5') r5'
    obtain ⟨_, _, _, v3, _, v6⟩ := S5.out.cells
    have S6 : Hid (Rb w (w5.setCell ⟨K, 3, none⟩ (.int .i64 pa)) B K r3 e3 0 true ka pa) := S5.out.at pa
    obtain ⟨W6, hW6⟩ : ∃ W6, w5.setCell ⟨K, 3, none⟩ (.int .i64 pa) = W6 := ⟨_, rfl⟩
    have HW6 : Hid _ := hW6
    rw [hW6] at S6
    clear r5' g5' hW6
    go_upto_region 9 with (fail)
    rw [HW6.out]
    obtain ⟨y0, y1, y2, y3, z0, z1, z2, z3⟩ := res_cells S6.out.res
    obtain ⟨x0, x1, x2, x3, _, _⟩ := S6.out.cells
    obtain ⟨r9, t9, b9⟩ := S6.out.laid
    obtain ⟨f0, f1, f2, f3, _, _, _, _⟩ := res_cells b9
    have R9 : Hid (RdAt (layW W6 w.heap.size 0 true ka pa) B r3 e3) := r9
    have T9 : Hid (Tg B w (layW W6 w.heap.size 0 true ka pa)) := t9
    unfold layW at f0 f1 f2 f3
    clear r9 t9 b9
    go_wp2
    refine bodyPost_ret (v := .agg #[.int .i64 0, .bool true, .int .i64 ka, .int .i64 pa]) (by simp [results, Try.results32, go_sem, f0, f1, f2, f3]) rfl ⟨⟨0, true, ka, pa⟩, r3, e3, rfl, R9.out, T9.out, HRW.out⟩
  · have q0 : ¬ gq = 0 := by have := HGQ.out; omega
    have q1 : (gq == 0) = false := by rw [beq_eq_false_iff_ne]; exact q0
    have EE : Hid (e = em) := by show _ = _; rw [HEM.out, if_neg hq]
    have S2 : Hid (Rb w X B K r em gq true 0 0) := by show Rb _ _ _ _ _ _ _ _ _ _; rw [← EE.out]; exact S0.out
    clear hq S0
    go_wp2_with fail
    refine (upto_any B r em 63 _ S2.out.rd).mono ?_
    rw [HKU.out]
    rintro r' w3 ⟨rfl, r3', g3'⟩
    have S3 : Hid (Rb w w3 B K r2 e2 gq true 0 0) := S2.out.go (Tg.ofGrown g3') r3'
    obtain ⟨_, _, y2, _, y5, _⟩ := S3.out.cells
    have S4 : Hid (Rb w (w3.setCell ⟨K, 2, none⟩ (.int .i64 ka)) B K r2 e2 gq true ka 0) := S3.out.kind ka
    obtain ⟨W4, hW4⟩ : ∃ W4, w3.setCell ⟨K, 2, none⟩ (.int .i64 ka) = W4 := ⟨_, rfl⟩
    have HW4 : Hid _ := hW4
    rw [hW4] at S4
    clear r3' g3' hW4
    go_wp2_with fail
    rw [HW4.out]
    refine (upto_any B r2 e2 1048575 _ S4.out.rd).mono ?_
    rw [HAU.out]
    rintro r' w5 ⟨rfl, r5', g5'⟩
    have S5 : Hid (Rb w w5 B K r3 e3 gq true ka 0) := S4.out.go (Tg.ofGrown g5') r5'
    obtain ⟨_, _, _, v3, _, v6⟩ := S5.out.cells
    have S6 : Hid (Rb w (w5.setCell ⟨K, 3, none⟩ (.int .i64 pa)) B K r3 e3 gq true ka pa) := S5.out.at pa
    obtain ⟨W6, hW6⟩ : ∃ W6, w5.setCell ⟨K, 3, none⟩ (.int .i64 pa) = W6 := ⟨_, rfl⟩
    have HW6 : Hid _ := hW6
    rw [hW6] at S6
    clear r5' g5' hW6
    go_upto_region 9 with (fail)
    rw [HW6.out]
    obtain ⟨y0, y1, y2, y3, z0, z1, z2, z3⟩ := res_cells S6.out.res
    obtain ⟨x0, x1, x2, x3, _, _⟩ := S6.out.cells
    obtain ⟨r9, t9, b9⟩ := S6.out.laid
    obtain ⟨f0, f1, f2, f3, _, _, _, _⟩ := res_cells b9
    have R9 : Hid (RdAt (layW W6 w.heap.size gq true ka pa) B r3 e3) := r9
    have T9 : Hid (Tg B w (layW W6 w.heap.size gq true ka pa)) := t9
    unfold layW at f0 f1 f2 f3
    clear r9 t9 b9
    go_wp2
    refine bodyPost_ret (v := .agg #[.int .i64 gq, .bool true, .int .i64 ka, .int .i64 pa]) (by simp [results, Try.results32, go_sem, f0, f1, f2, f3]) rfl ⟨⟨gq, true, ka, pa⟩, r3, e3, rfl, R9.out, T9.out, HRW.out⟩
end Go.Proofs.Ytjalagjnhjaaoaa
