/- Layer 15: Play, the other kinds of steps (mkebo.py writes this). -/
import Derived.Test.YtgdjlopnhecmjaaGreatDoorGzBK
namespace Go.Proofs.YtgdjlopnhecmjaaGreatDoor
open Go.RowKit
set_option linter.unusedVariables false
set_option maxRecDepth 4000

set_option maxRecDepth 20000 in
set_option maxHeartbeats 4000000 in
theorem play_free (hv : Option Addr) (o : Op15) (hk : o.k = 3) (w : World) (G : Int → World → World → Prop)
    (hc : ∀ D, Pl w o D → Calls Tryz.prog 36 #[.pointer hv, .int .i64 o.wk, .int .u64 (o.x : Nat)] D fun e w1 => ∃ (r1 : Int), e = .returned (.int .i64 r1) ∧ G r1 D w1 ∧ Kpl w D w1) :
    Calls Tryz.prog 31 #[.pointer hv, .agg o.cs] w fun e w' => ∃ (r1 : Int) (D w1 : World), e = .returned (.agg #[.int .i64 r1, .int .i64 0, .int .u64 0, .slice none 0 0]) ∧ Pl w o D ∧ G r1 D w1 ∧ Pw w w1 w' := by
  obtain ⟨D, hD, pD⟩ := pl15 w o
  have hc' := hc D pD
  obtain ⟨k, wk, x, y, at', n, ba, bn, bc, pa, pn, pc, ka, kn, kc⟩ := o
  simp only [Op15.cs] at hD hk hc' ⊢
  subst hk
  have HD : Hid _ := hD
  have PD : Hid (Pl w ⟨3, wk, x, y, at', n, ba, bn, bc, pa, pn, pc, ka, kn, kc⟩ D) := pD
  have HC : Hid _ := hc'
  obtain ⟨o0, o1, o2, o3, o4, o5, o6, o7⟩ := nine15 pD.op
  obtain ⟨s, hs⟩ : ∃ s, w.heap.size = s := ⟨_, rfl⟩
  have HS : Hid (w.heap.size = s) := hs
  rw [hs] at o0 o1 o2 o3 o4 o5 o6 o7
  clear hD pD hc hc' hs
  go_enter Tryz.func31, Tryz.ntmps31
  go_upto_region 2 with (fail)
  rw [HD.out, HS.out]
  go_wp2_with fail
  refine Calls.mono HC.out ?_
  rintro e w1 ⟨r1, rfl, g1, k1⟩
  have G1 : Hid (G r1 D w1) := g1
  have ra : w1.heap[s + 1 + 1]? = some (.cells #[.int .i64 0, .int .i64 0, .int .u64 0, .slice none 0 0] 75 (0, 0)) := by rw [← HS.out]; exact (k1.box _ (by omega) (by omega)).trans PD.out.ans
  have rr : w1.heap[s + 1]? = some (.cells #[.int .i64 0, .int .i64 0, .int .u64 0, .slice none 0 0] 75 (0, 0)) := by rw [← HS.out]; exact (k1.box _ (by omega) (by omega)).trans PD.out.res
  obtain ⟨y0, y1, y2, y3⟩ := four15 ra
  obtain ⟨f0, f1, f2, f3⟩ := fourF15 ra
  obtain ⟨W2, hW2⟩ : ∃ W2, w1.setCell ⟨s + 1 + 1, 0, none⟩ (.int .i64 r1) = W2 := ⟨_, rfl⟩
  have HW2 : Hid (w1.setCell ⟨s + 1 + 1, 0, none⟩ (.int .i64 r1) = W2) := hW2
  have on2 : Only (s + 1 + 1) w1 W2 := by rw [← hW2]; exact Only.set _ _ _ _
  have r2 : W2.heap[s + 1 + 1]? = some (.cells #[.int .i64 r1, .int .i64 0, .int .u64 0, .slice none 0 0] 75 (0, 0)) := by
    rw [← hW2, heap_setCell_same w1 _ 0 _ _ _ ra]; rfl
  have rr2 : W2.heap[s + 1]? = some (.cells #[.int .i64 0, .int .i64 0, .int .u64 0, .slice none 0 0] 75 (0, 0)) := by rw [on2.block _ (by omega)]; exact rr
  have P2 : Hid (Pw w w1 W2) := (Pw.refl w w1).ans (by rw [HS.out]; exact on2)
  clear g1 k1 ra rr hW2 on2
  go_upto_region 23 with (fail)
  rw [HW2.out]
  clear y0 y1 y2 y3 f0 f1 f2 f3
  obtain ⟨y0, y1, y2, y3⟩ := four15 r2
  obtain ⟨z0, z1, z2, z3⟩ := four15 rr2
  obtain ⟨f0, f1, f2, f3⟩ := fourF15 rr2
  obtain ⟨e0, e1, e2, e3⟩ := four15 (layA_row (a := .int .i64 r1) (b := .int .i64 0) (c := .int .u64 0) (d := .slice none 0 0) rr2)
  have P3 : Hid (Pw w w1 (layA W2 (s + 1) (.int .i64 r1) (.int .i64 0) (.int .u64 0) (.slice none 0 0))) := P2.out.res (by rw [HS.out]; exact layA_only _ _ _ _ _ _)
  unfold layA at e0 e1 e2 e3
  clear r2 rr2
  go_wp2
  refine bodyPost_ret (v := .agg #[.int .i64 r1, .int .i64 0, .int .u64 0, .slice none 0 0]) (by simp [results, Tryz.results31, go_sem, e0, e1, e2, e3]) rfl ⟨r1, D, w1, rfl, PD.out, G1.out, P3.out⟩
set_option maxRecDepth 20000 in
set_option maxHeartbeats 4000000 in
theorem play_read (hv : Option Addr) (o : Op15) (hk : o.k = 4) (w : World) (G : Option Addr → Nat → Nat → Int → World → World → Prop)
    (hc : ∀ D, Pl w o D → Calls Tryz.prog 48 #[.pointer hv, .int .u64 (o.x : Nat), .int .i64 o.a, .int .i64 o.n] D fun e w1 => ∃ (a1 : Option Addr) (n1 : Nat) (c1 : Nat) (r1 : Int), e = .returned (.tuple #[.slice a1 n1 c1, .int .i64 r1]) ∧ G a1 n1 c1 r1 D w1 ∧ Kpl w D w1) :
    Calls Tryz.prog 31 #[.pointer hv, .agg o.cs] w fun e w' => ∃ (a1 : Option Addr) (n1 : Nat) (c1 : Nat) (r1 : Int) (D w1 : World), e = .returned (.agg #[.int .i64 r1, .int .i64 0, .int .u64 0, .slice a1 n1 c1]) ∧ Pl w o D ∧ G a1 n1 c1 r1 D w1 ∧ Pw w w1 w' := by
  obtain ⟨D, hD, pD⟩ := pl15 w o
  have hc' := hc D pD
  obtain ⟨k, wk, x, y, at', n, ba, bn, bc, pa, pn, pc, ka, kn, kc⟩ := o
  simp only [Op15.cs] at hD hk hc' ⊢
  subst hk
  have HD : Hid _ := hD
  have PD : Hid (Pl w ⟨4, wk, x, y, at', n, ba, bn, bc, pa, pn, pc, ka, kn, kc⟩ D) := pD
  have HC : Hid _ := hc'
  obtain ⟨o0, o1, o2, o3, o4, o5, o6, o7⟩ := nine15 pD.op
  obtain ⟨s, hs⟩ : ∃ s, w.heap.size = s := ⟨_, rfl⟩
  have HS : Hid (w.heap.size = s) := hs
  rw [hs] at o0 o1 o2 o3 o4 o5 o6 o7
  clear hD pD hc hc' hs
  go_enter Tryz.func31, Tryz.ntmps31
  go_upto_region 2 with (fail)
  rw [HD.out, HS.out]
  go_wp2_with fail
  refine Calls.mono HC.out ?_
  rintro e w1 ⟨a1, n1, c1, r1, rfl, g1, k1⟩
  have G1 : Hid (G a1 n1 c1 r1 D w1) := g1
  have ra : w1.heap[s + 1 + 1]? = some (.cells #[.int .i64 0, .int .i64 0, .int .u64 0, .slice none 0 0] 75 (0, 0)) := by rw [← HS.out]; exact (k1.box _ (by omega) (by omega)).trans PD.out.ans
  have rr : w1.heap[s + 1]? = some (.cells #[.int .i64 0, .int .i64 0, .int .u64 0, .slice none 0 0] 75 (0, 0)) := by rw [← HS.out]; exact (k1.box _ (by omega) (by omega)).trans PD.out.res
  obtain ⟨y0, y1, y2, y3⟩ := four15 ra
  obtain ⟨f0, f1, f2, f3⟩ := fourF15 ra
  obtain ⟨W2, hW2⟩ : ∃ W2, (w1.setCell ⟨s + 1 + 1, 3, none⟩ (.slice a1 n1 c1)).setCell ⟨s + 1 + 1, 0, none⟩ (.int .i64 r1) = W2 := ⟨_, rfl⟩
  have HW2 : Hid ((w1.setCell ⟨s + 1 + 1, 3, none⟩ (.slice a1 n1 c1)).setCell ⟨s + 1 + 1, 0, none⟩ (.int .i64 r1) = W2) := hW2
  have on2 : Only (s + 1 + 1) w1 W2 := by rw [← hW2]; exact Only.set2 _ _ _ _ _ _
  have r2 : W2.heap[s + 1 + 1]? = some (.cells #[.int .i64 r1, .int .i64 0, .int .u64 0, .slice a1 n1 c1] 75 (0, 0)) := by
    rw [← hW2, heap_setCell_same _ _ 0 _ _ _ (heap_setCell_same w1 _ 3 _ _ _ ra)]; rfl
  have rr2 : W2.heap[s + 1]? = some (.cells #[.int .i64 0, .int .i64 0, .int .u64 0, .slice none 0 0] 75 (0, 0)) := by rw [on2.block _ (by omega)]; exact rr
  have P2 : Hid (Pw w w1 W2) := (Pw.refl w w1).ans (by rw [HS.out]; exact on2)
  clear g1 k1 ra rr hW2 on2
  go_upto_region 23 with (fail)
  rw [HW2.out]
  clear y0 y1 y2 y3 f0 f1 f2 f3
  obtain ⟨y0, y1, y2, y3⟩ := four15 r2
  obtain ⟨z0, z1, z2, z3⟩ := four15 rr2
  obtain ⟨f0, f1, f2, f3⟩ := fourF15 rr2
  obtain ⟨e0, e1, e2, e3⟩ := four15 (layA_row (a := .int .i64 r1) (b := .int .i64 0) (c := .int .u64 0) (d := .slice a1 n1 c1) rr2)
  have P3 : Hid (Pw w w1 (layA W2 (s + 1) (.int .i64 r1) (.int .i64 0) (.int .u64 0) (.slice a1 n1 c1))) := P2.out.res (by rw [HS.out]; exact layA_only _ _ _ _ _ _)
  unfold layA at e0 e1 e2 e3
  clear r2 rr2
  go_wp2
  refine bodyPost_ret (v := .agg #[.int .i64 r1, .int .i64 0, .int .u64 0, .slice a1 n1 c1]) (by simp [results, Tryz.results31, go_sem, e0, e1, e2, e3]) rfl ⟨a1, n1, c1, r1, D, w1, rfl, PD.out, G1.out, P3.out⟩
set_option maxRecDepth 20000 in
set_option maxHeartbeats 4000000 in
theorem play_get (hv : Option Addr) (o : Op15) (hk : o.k = 6) (w : World) (G : Nat → Int → World → World → Prop)
    (hc : ∀ D, Pl w o D → Calls Tryz.prog 37 #[.pointer hv, .int .u64 (o.x : Nat), .int .i64 o.n] D fun e w1 => ∃ (x1 : Nat) (r1 : Int), e = .returned (.tuple #[.int .u64 (x1 : Nat), .int .i64 r1]) ∧ G x1 r1 D w1 ∧ Kpl w D w1) :
    Calls Tryz.prog 31 #[.pointer hv, .agg o.cs] w fun e w' => ∃ (x1 : Nat) (r1 : Int) (D w1 : World), e = .returned (.agg #[.int .i64 r1, .int .i64 0, .int .u64 (x1 : Nat), .slice none 0 0]) ∧ Pl w o D ∧ G x1 r1 D w1 ∧ Pw w w1 w' := by
  obtain ⟨D, hD, pD⟩ := pl15 w o
  have hc' := hc D pD
  obtain ⟨k, wk, x, y, at', n, ba, bn, bc, pa, pn, pc, ka, kn, kc⟩ := o
  simp only [Op15.cs] at hD hk hc' ⊢
  subst hk
  have HD : Hid _ := hD
  have PD : Hid (Pl w ⟨6, wk, x, y, at', n, ba, bn, bc, pa, pn, pc, ka, kn, kc⟩ D) := pD
  have HC : Hid _ := hc'
  obtain ⟨o0, o1, o2, o3, o4, o5, o6, o7⟩ := nine15 pD.op
  obtain ⟨s, hs⟩ : ∃ s, w.heap.size = s := ⟨_, rfl⟩
  have HS : Hid (w.heap.size = s) := hs
  rw [hs] at o0 o1 o2 o3 o4 o5 o6 o7
  clear hD pD hc hc' hs
  go_enter Tryz.func31, Tryz.ntmps31
  go_upto_region 2 with (fail)
  rw [HD.out, HS.out]
  go_wp2_with fail
  refine Calls.mono HC.out ?_
  rintro e w1 ⟨x1, r1, rfl, g1, k1⟩
  have G1 : Hid (G x1 r1 D w1) := g1
  have ra : w1.heap[s + 1 + 1]? = some (.cells #[.int .i64 0, .int .i64 0, .int .u64 0, .slice none 0 0] 75 (0, 0)) := by rw [← HS.out]; exact (k1.box _ (by omega) (by omega)).trans PD.out.ans
  have rr : w1.heap[s + 1]? = some (.cells #[.int .i64 0, .int .i64 0, .int .u64 0, .slice none 0 0] 75 (0, 0)) := by rw [← HS.out]; exact (k1.box _ (by omega) (by omega)).trans PD.out.res
  obtain ⟨y0, y1, y2, y3⟩ := four15 ra
  obtain ⟨f0, f1, f2, f3⟩ := fourF15 ra
  obtain ⟨W2, hW2⟩ : ∃ W2, (w1.setCell ⟨s + 1 + 1, 2, none⟩ (.int .u64 (x1 : Nat))).setCell ⟨s + 1 + 1, 0, none⟩ (.int .i64 r1) = W2 := ⟨_, rfl⟩
  have HW2 : Hid ((w1.setCell ⟨s + 1 + 1, 2, none⟩ (.int .u64 (x1 : Nat))).setCell ⟨s + 1 + 1, 0, none⟩ (.int .i64 r1) = W2) := hW2
  have on2 : Only (s + 1 + 1) w1 W2 := by rw [← hW2]; exact Only.set2 _ _ _ _ _ _
  have r2 : W2.heap[s + 1 + 1]? = some (.cells #[.int .i64 r1, .int .i64 0, .int .u64 (x1 : Nat), .slice none 0 0] 75 (0, 0)) := by
    rw [← hW2, heap_setCell_same _ _ 0 _ _ _ (heap_setCell_same w1 _ 2 _ _ _ ra)]; rfl
  have rr2 : W2.heap[s + 1]? = some (.cells #[.int .i64 0, .int .i64 0, .int .u64 0, .slice none 0 0] 75 (0, 0)) := by rw [on2.block _ (by omega)]; exact rr
  have P2 : Hid (Pw w w1 W2) := (Pw.refl w w1).ans (by rw [HS.out]; exact on2)
  clear g1 k1 ra rr hW2 on2
  go_upto_region 23 with (fail)
  rw [HW2.out]
  clear y0 y1 y2 y3 f0 f1 f2 f3
  obtain ⟨y0, y1, y2, y3⟩ := four15 r2
  obtain ⟨z0, z1, z2, z3⟩ := four15 rr2
  obtain ⟨f0, f1, f2, f3⟩ := fourF15 rr2
  obtain ⟨e0, e1, e2, e3⟩ := four15 (layA_row (a := .int .i64 r1) (b := .int .i64 0) (c := .int .u64 (x1 : Nat)) (d := .slice none 0 0) rr2)
  have P3 : Hid (Pw w w1 (layA W2 (s + 1) (.int .i64 r1) (.int .i64 0) (.int .u64 (x1 : Nat)) (.slice none 0 0))) := P2.out.res (by rw [HS.out]; exact layA_only _ _ _ _ _ _)
  unfold layA at e0 e1 e2 e3
  clear r2 rr2
  go_wp2
  refine bodyPost_ret (v := .agg #[.int .i64 r1, .int .i64 0, .int .u64 (x1 : Nat), .slice none 0 0]) (by simp [results, Tryz.results31, go_sem, e0, e1, e2, e3]) rfl ⟨x1, r1, D, w1, rfl, PD.out, G1.out, P3.out⟩
set_option maxRecDepth 20000 in
set_option maxHeartbeats 4000000 in
theorem play_set (hv : Option Addr) (o : Op15) (hk : o.k = 7) (w : World) (G : Int → World → World → Prop)
    (hc : ∀ D, Pl w o D → Calls Tryz.prog 47 #[.pointer hv, .int .u64 (o.x : Nat), .int .i64 o.n, .int .u64 (o.y : Nat)] D fun e w1 => ∃ (r1 : Int), e = .returned (.int .i64 r1) ∧ G r1 D w1 ∧ Kpl w D w1) :
    Calls Tryz.prog 31 #[.pointer hv, .agg o.cs] w fun e w' => ∃ (r1 : Int) (D w1 : World), e = .returned (.agg #[.int .i64 r1, .int .i64 0, .int .u64 0, .slice none 0 0]) ∧ Pl w o D ∧ G r1 D w1 ∧ Pw w w1 w' := by
  obtain ⟨D, hD, pD⟩ := pl15 w o
  have hc' := hc D pD
  obtain ⟨k, wk, x, y, at', n, ba, bn, bc, pa, pn, pc, ka, kn, kc⟩ := o
  simp only [Op15.cs] at hD hk hc' ⊢
  subst hk
  have HD : Hid _ := hD
  have PD : Hid (Pl w ⟨7, wk, x, y, at', n, ba, bn, bc, pa, pn, pc, ka, kn, kc⟩ D) := pD
  have HC : Hid _ := hc'
  obtain ⟨o0, o1, o2, o3, o4, o5, o6, o7⟩ := nine15 pD.op
  obtain ⟨s, hs⟩ : ∃ s, w.heap.size = s := ⟨_, rfl⟩
  have HS : Hid (w.heap.size = s) := hs
  rw [hs] at o0 o1 o2 o3 o4 o5 o6 o7
  clear hD pD hc hc' hs
  go_enter Tryz.func31, Tryz.ntmps31
  go_upto_region 2 with (fail)
  rw [HD.out, HS.out]
  go_wp2_with fail
  refine Calls.mono HC.out ?_
  rintro e w1 ⟨r1, rfl, g1, k1⟩
  have G1 : Hid (G r1 D w1) := g1
  have ra : w1.heap[s + 1 + 1]? = some (.cells #[.int .i64 0, .int .i64 0, .int .u64 0, .slice none 0 0] 75 (0, 0)) := by rw [← HS.out]; exact (k1.box _ (by omega) (by omega)).trans PD.out.ans
  have rr : w1.heap[s + 1]? = some (.cells #[.int .i64 0, .int .i64 0, .int .u64 0, .slice none 0 0] 75 (0, 0)) := by rw [← HS.out]; exact (k1.box _ (by omega) (by omega)).trans PD.out.res
  obtain ⟨y0, y1, y2, y3⟩ := four15 ra
  obtain ⟨f0, f1, f2, f3⟩ := fourF15 ra
  obtain ⟨W2, hW2⟩ : ∃ W2, w1.setCell ⟨s + 1 + 1, 0, none⟩ (.int .i64 r1) = W2 := ⟨_, rfl⟩
  have HW2 : Hid (w1.setCell ⟨s + 1 + 1, 0, none⟩ (.int .i64 r1) = W2) := hW2
  have on2 : Only (s + 1 + 1) w1 W2 := by rw [← hW2]; exact Only.set _ _ _ _
  have r2 : W2.heap[s + 1 + 1]? = some (.cells #[.int .i64 r1, .int .i64 0, .int .u64 0, .slice none 0 0] 75 (0, 0)) := by
    rw [← hW2, heap_setCell_same w1 _ 0 _ _ _ ra]; rfl
  have rr2 : W2.heap[s + 1]? = some (.cells #[.int .i64 0, .int .i64 0, .int .u64 0, .slice none 0 0] 75 (0, 0)) := by rw [on2.block _ (by omega)]; exact rr
  have P2 : Hid (Pw w w1 W2) := (Pw.refl w w1).ans (by rw [HS.out]; exact on2)
  clear g1 k1 ra rr hW2 on2
  go_upto_region 23 with (fail)
  rw [HW2.out]
  clear y0 y1 y2 y3 f0 f1 f2 f3
  obtain ⟨y0, y1, y2, y3⟩ := four15 r2
  obtain ⟨z0, z1, z2, z3⟩ := four15 rr2
  obtain ⟨f0, f1, f2, f3⟩ := fourF15 rr2
  obtain ⟨e0, e1, e2, e3⟩ := four15 (layA_row (a := .int .i64 r1) (b := .int .i64 0) (c := .int .u64 0) (d := .slice none 0 0) rr2)
  have P3 : Hid (Pw w w1 (layA W2 (s + 1) (.int .i64 r1) (.int .i64 0) (.int .u64 0) (.slice none 0 0))) := P2.out.res (by rw [HS.out]; exact layA_only _ _ _ _ _ _)
  unfold layA at e0 e1 e2 e3
  clear r2 rr2
  go_wp2
  refine bodyPost_ret (v := .agg #[.int .i64 r1, .int .i64 0, .int .u64 0, .slice none 0 0]) (by simp [results, Tryz.results31, go_sem, e0, e1, e2, e3]) rfl ⟨r1, D, w1, rfl, PD.out, G1.out, P3.out⟩
set_option maxRecDepth 20000 in
set_option maxHeartbeats 4000000 in
theorem play_flush (hv : Option Addr) (o : Op15) (hk : o.k = 8) (w : World) (G : Int → World → World → Prop)
    (hc : ∀ D, Pl w o D → Calls Tryz.prog 26 #[.pointer hv, .int .i64 o.wk] D fun e w1 => ∃ (r1 : Int), e = .returned (.int .i64 r1) ∧ G r1 D w1 ∧ Kpl w D w1) :
    Calls Tryz.prog 31 #[.pointer hv, .agg o.cs] w fun e w' => ∃ (r1 : Int) (D w1 : World), e = .returned (.agg #[.int .i64 r1, .int .i64 0, .int .u64 0, .slice none 0 0]) ∧ Pl w o D ∧ G r1 D w1 ∧ Pw w w1 w' := by
  obtain ⟨D, hD, pD⟩ := pl15 w o
  have hc' := hc D pD
  obtain ⟨k, wk, x, y, at', n, ba, bn, bc, pa, pn, pc, ka, kn, kc⟩ := o
  simp only [Op15.cs] at hD hk hc' ⊢
  subst hk
  have HD : Hid _ := hD
  have PD : Hid (Pl w ⟨8, wk, x, y, at', n, ba, bn, bc, pa, pn, pc, ka, kn, kc⟩ D) := pD
  have HC : Hid _ := hc'
  obtain ⟨o0, o1, o2, o3, o4, o5, o6, o7⟩ := nine15 pD.op
  obtain ⟨s, hs⟩ : ∃ s, w.heap.size = s := ⟨_, rfl⟩
  have HS : Hid (w.heap.size = s) := hs
  rw [hs] at o0 o1 o2 o3 o4 o5 o6 o7
  clear hD pD hc hc' hs
  go_enter Tryz.func31, Tryz.ntmps31
  go_upto_region 2 with (fail)
  rw [HD.out, HS.out]
  go_wp2_with fail
  refine Calls.mono HC.out ?_
  rintro e w1 ⟨r1, rfl, g1, k1⟩
  have G1 : Hid (G r1 D w1) := g1
  have ra : w1.heap[s + 1 + 1]? = some (.cells #[.int .i64 0, .int .i64 0, .int .u64 0, .slice none 0 0] 75 (0, 0)) := by rw [← HS.out]; exact (k1.box _ (by omega) (by omega)).trans PD.out.ans
  have rr : w1.heap[s + 1]? = some (.cells #[.int .i64 0, .int .i64 0, .int .u64 0, .slice none 0 0] 75 (0, 0)) := by rw [← HS.out]; exact (k1.box _ (by omega) (by omega)).trans PD.out.res
  obtain ⟨y0, y1, y2, y3⟩ := four15 ra
  obtain ⟨f0, f1, f2, f3⟩ := fourF15 ra
  obtain ⟨W2, hW2⟩ : ∃ W2, w1.setCell ⟨s + 1 + 1, 0, none⟩ (.int .i64 r1) = W2 := ⟨_, rfl⟩
  have HW2 : Hid (w1.setCell ⟨s + 1 + 1, 0, none⟩ (.int .i64 r1) = W2) := hW2
  have on2 : Only (s + 1 + 1) w1 W2 := by rw [← hW2]; exact Only.set _ _ _ _
  have r2 : W2.heap[s + 1 + 1]? = some (.cells #[.int .i64 r1, .int .i64 0, .int .u64 0, .slice none 0 0] 75 (0, 0)) := by
    rw [← hW2, heap_setCell_same w1 _ 0 _ _ _ ra]; rfl
  have rr2 : W2.heap[s + 1]? = some (.cells #[.int .i64 0, .int .i64 0, .int .u64 0, .slice none 0 0] 75 (0, 0)) := by rw [on2.block _ (by omega)]; exact rr
  have P2 : Hid (Pw w w1 W2) := (Pw.refl w w1).ans (by rw [HS.out]; exact on2)
  clear g1 k1 ra rr hW2 on2
  go_upto_region 23 with (fail)
  rw [HW2.out]
  clear y0 y1 y2 y3 f0 f1 f2 f3
  obtain ⟨y0, y1, y2, y3⟩ := four15 r2
  obtain ⟨z0, z1, z2, z3⟩ := four15 rr2
  obtain ⟨f0, f1, f2, f3⟩ := fourF15 rr2
  obtain ⟨e0, e1, e2, e3⟩ := four15 (layA_row (a := .int .i64 r1) (b := .int .i64 0) (c := .int .u64 0) (d := .slice none 0 0) rr2)
  have P3 : Hid (Pw w w1 (layA W2 (s + 1) (.int .i64 r1) (.int .i64 0) (.int .u64 0) (.slice none 0 0))) := P2.out.res (by rw [HS.out]; exact layA_only _ _ _ _ _ _)
  unfold layA at e0 e1 e2 e3
  clear r2 rr2
  go_wp2
  refine bodyPost_ret (v := .agg #[.int .i64 r1, .int .i64 0, .int .u64 0, .slice none 0 0]) (by simp [results, Tryz.results31, go_sem, e0, e1, e2, e3]) rfl ⟨r1, D, w1, rfl, PD.out, G1.out, P3.out⟩
set_option maxRecDepth 20000 in
set_option maxHeartbeats 4000000 in
theorem play_scav (hv : Option Addr) (o : Op15) (hk : o.k = 9) (w : World) (G : Value → World → World → Prop)
    (hc : ∀ D, Pl w o D → Calls Tryz.prog 27 #[.pointer hv] D fun e w1 => ∃ (v1 : Value), e = .returned (v1) ∧ G v1 D w1 ∧ Kpl w D w1) :
    Calls Tryz.prog 31 #[.pointer hv, .agg o.cs] w fun e w' => ∃ (v1 : Value) (D w1 : World), e = .returned (.agg #[.int .i64 0, .int .i64 0, .int .u64 0, .slice none 0 0]) ∧ Pl w o D ∧ G v1 D w1 ∧ Pw w w1 w' := by
  obtain ⟨D, hD, pD⟩ := pl15 w o
  have hc' := hc D pD
  obtain ⟨k, wk, x, y, at', n, ba, bn, bc, pa, pn, pc, ka, kn, kc⟩ := o
  simp only [Op15.cs] at hD hk hc' ⊢
  subst hk
  have HD : Hid _ := hD
  have PD : Hid (Pl w ⟨9, wk, x, y, at', n, ba, bn, bc, pa, pn, pc, ka, kn, kc⟩ D) := pD
  have HC : Hid _ := hc'
  obtain ⟨o0, o1, o2, o3, o4, o5, o6, o7⟩ := nine15 pD.op
  obtain ⟨s, hs⟩ : ∃ s, w.heap.size = s := ⟨_, rfl⟩
  have HS : Hid (w.heap.size = s) := hs
  rw [hs] at o0 o1 o2 o3 o4 o5 o6 o7
  clear hD pD hc hc' hs
  go_enter Tryz.func31, Tryz.ntmps31
  go_upto_region 2 with (fail)
  rw [HD.out, HS.out]
  go_wp2_with fail
  refine Calls.mono HC.out ?_
  rintro e w1 ⟨v1, rfl, g1, k1⟩
  have G1 : Hid (G v1 D w1) := g1
  have ra : w1.heap[s + 1 + 1]? = some (.cells #[.int .i64 0, .int .i64 0, .int .u64 0, .slice none 0 0] 75 (0, 0)) := by rw [← HS.out]; exact (k1.box _ (by omega) (by omega)).trans PD.out.ans
  have rr : w1.heap[s + 1]? = some (.cells #[.int .i64 0, .int .i64 0, .int .u64 0, .slice none 0 0] 75 (0, 0)) := by rw [← HS.out]; exact (k1.box _ (by omega) (by omega)).trans PD.out.res
  obtain ⟨y0, y1, y2, y3⟩ := four15 ra
  obtain ⟨f0, f1, f2, f3⟩ := fourF15 ra
  obtain ⟨W2, hW2⟩ : ∃ W2, w1 = W2 := ⟨_, rfl⟩
  have HW2 : Hid (w1 = W2) := hW2
  have on2 : Only (s + 1 + 1) w1 W2 := by rw [← hW2]; exact ⟨rfl, rfl, rfl, rfl, fun _ _ => rfl⟩
  have r2 : W2.heap[s + 1 + 1]? = some (.cells #[.int .i64 0, .int .i64 0, .int .u64 0, .slice none 0 0] 75 (0, 0)) := by
    rw [← hW2]; exact ra
  have rr2 : W2.heap[s + 1]? = some (.cells #[.int .i64 0, .int .i64 0, .int .u64 0, .slice none 0 0] 75 (0, 0)) := by rw [on2.block _ (by omega)]; exact rr
  have P2 : Hid (Pw w w1 W2) := (Pw.refl w w1).ans (by rw [HS.out]; exact on2)
  clear g1 k1 ra rr hW2 on2
  go_upto_region 23 with (fail)
  try rw [HW2.out]
  clear y0 y1 y2 y3 f0 f1 f2 f3
  obtain ⟨y0, y1, y2, y3⟩ := four15 r2
  obtain ⟨z0, z1, z2, z3⟩ := four15 rr2
  obtain ⟨f0, f1, f2, f3⟩ := fourF15 rr2
  obtain ⟨e0, e1, e2, e3⟩ := four15 (layA_row (a := .int .i64 0) (b := .int .i64 0) (c := .int .u64 0) (d := .slice none 0 0) rr2)
  have P3 : Hid (Pw w w1 (layA W2 (s + 1) (.int .i64 0) (.int .i64 0) (.int .u64 0) (.slice none 0 0))) := P2.out.res (by rw [HS.out]; exact layA_only _ _ _ _ _ _)
  unfold layA at e0 e1 e2 e3
  clear r2 rr2
  go_wp2
  refine bodyPost_ret (v := .agg #[.int .i64 0, .int .i64 0, .int .u64 0, .slice none 0 0]) (by simp [results, Tryz.results31, go_sem, e0, e1, e2, e3]) rfl ⟨v1, D, w1, rfl, PD.out, G1.out, P3.out⟩
set_option maxRecDepth 20000 in
set_option maxHeartbeats 4000000 in
theorem play_comp (hv : Option Addr) (o : Op15) (hk : o.k = 10) (w : World) (G : Value → World → World → Prop)
    (hc : ∀ D, Pl w o D → Calls Tryz.prog 21 #[.pointer hv] D fun e w1 => ∃ (v1 : Value), e = .returned (v1) ∧ G v1 D w1 ∧ Kpl w D w1) :
    Calls Tryz.prog 31 #[.pointer hv, .agg o.cs] w fun e w' => ∃ (v1 : Value) (D w1 : World), e = .returned (.agg #[.int .i64 0, .int .i64 0, .int .u64 0, .slice none 0 0]) ∧ Pl w o D ∧ G v1 D w1 ∧ Pw w w1 w' := by
  obtain ⟨D, hD, pD⟩ := pl15 w o
  have hc' := hc D pD
  obtain ⟨k, wk, x, y, at', n, ba, bn, bc, pa, pn, pc, ka, kn, kc⟩ := o
  simp only [Op15.cs] at hD hk hc' ⊢
  subst hk
  have HD : Hid _ := hD
  have PD : Hid (Pl w ⟨10, wk, x, y, at', n, ba, bn, bc, pa, pn, pc, ka, kn, kc⟩ D) := pD
  have HC : Hid _ := hc'
  obtain ⟨o0, o1, o2, o3, o4, o5, o6, o7⟩ := nine15 pD.op
  obtain ⟨s, hs⟩ : ∃ s, w.heap.size = s := ⟨_, rfl⟩
  have HS : Hid (w.heap.size = s) := hs
  rw [hs] at o0 o1 o2 o3 o4 o5 o6 o7
  clear hD pD hc hc' hs
  go_enter Tryz.func31, Tryz.ntmps31
  go_upto_region 2 with (fail)
  rw [HD.out, HS.out]
  go_wp2_with fail
  refine Calls.mono HC.out ?_
  rintro e w1 ⟨v1, rfl, g1, k1⟩
  have G1 : Hid (G v1 D w1) := g1
  have ra : w1.heap[s + 1 + 1]? = some (.cells #[.int .i64 0, .int .i64 0, .int .u64 0, .slice none 0 0] 75 (0, 0)) := by rw [← HS.out]; exact (k1.box _ (by omega) (by omega)).trans PD.out.ans
  have rr : w1.heap[s + 1]? = some (.cells #[.int .i64 0, .int .i64 0, .int .u64 0, .slice none 0 0] 75 (0, 0)) := by rw [← HS.out]; exact (k1.box _ (by omega) (by omega)).trans PD.out.res
  obtain ⟨y0, y1, y2, y3⟩ := four15 ra
  obtain ⟨f0, f1, f2, f3⟩ := fourF15 ra
  obtain ⟨W2, hW2⟩ : ∃ W2, w1 = W2 := ⟨_, rfl⟩
  have HW2 : Hid (w1 = W2) := hW2
  have on2 : Only (s + 1 + 1) w1 W2 := by rw [← hW2]; exact ⟨rfl, rfl, rfl, rfl, fun _ _ => rfl⟩
  have r2 : W2.heap[s + 1 + 1]? = some (.cells #[.int .i64 0, .int .i64 0, .int .u64 0, .slice none 0 0] 75 (0, 0)) := by
    rw [← hW2]; exact ra
  have rr2 : W2.heap[s + 1]? = some (.cells #[.int .i64 0, .int .i64 0, .int .u64 0, .slice none 0 0] 75 (0, 0)) := by rw [on2.block _ (by omega)]; exact rr
  have P2 : Hid (Pw w w1 W2) := (Pw.refl w w1).ans (by rw [HS.out]; exact on2)
  clear g1 k1 ra rr hW2 on2
  go_upto_region 23 with (fail)
  try rw [HW2.out]
  clear y0 y1 y2 y3 f0 f1 f2 f3
  obtain ⟨y0, y1, y2, y3⟩ := four15 r2
  obtain ⟨z0, z1, z2, z3⟩ := four15 rr2
  obtain ⟨f0, f1, f2, f3⟩ := fourF15 rr2
  obtain ⟨e0, e1, e2, e3⟩ := four15 (layA_row (a := .int .i64 0) (b := .int .i64 0) (c := .int .u64 0) (d := .slice none 0 0) rr2)
  have P3 : Hid (Pw w w1 (layA W2 (s + 1) (.int .i64 0) (.int .i64 0) (.int .u64 0) (.slice none 0 0))) := P2.out.res (by rw [HS.out]; exact layA_only _ _ _ _ _ _)
  unfold layA at e0 e1 e2 e3
  clear r2 rr2
  go_wp2
  refine bodyPost_ret (v := .agg #[.int .i64 0, .int .i64 0, .int .u64 0, .slice none 0 0]) (by simp [results, Tryz.results31, go_sem, e0, e1, e2, e3]) rfl ⟨v1, D, w1, rfl, PD.out, G1.out, P3.out⟩
end Go.Proofs.YtgdjlopnhecmjaaGreatDoor

/- Layer 15: Play of a step that defines a kind, of one that writes, and of one that is none. -/
namespace Go.Proofs.YtgdjlopnhecmjaaGreatDoor
open Go.RowKit
set_option linter.unusedVariables false
set_option maxRecDepth 4000

set_option maxRecDepth 20000 in
set_option maxHeartbeats 4000000 in
theorem play_define (hv : Option Addr) (o : Op15) (hk : o.k = 1) (w : World) (G : Int → Int → World → World → Prop) (l : List Int) (hI : IsI w o.pa l) (hl : o.pn = l.length) (hnil : o.pa = none → l = [] ∧ o.pc = 0) (hlen : l.length ≤ 17592186044416)
    (hc : ∀ D W a1 c1, Pl w o D → Below D.heap.size D W → OwnsI W D.heap.size a1 l c1 → Calls Tryz.prog 46 #[.pointer hv, .agg #[.int .i64 o.n, .slice a1 l.length c1]] W fun e w1 => ∃ (n1 r1 : Int), e = .returned (.tuple #[.int .i64 n1, .int .i64 r1]) ∧ G n1 r1 D w1 ∧ Kpl w D w1) :
    Calls Tryz.prog 31 #[.pointer hv, .agg o.cs] w fun e w' => ∃ (n1 r1 : Int) (D w1 : World), e = .returned (.agg #[.int .i64 r1, .int .i64 n1, .int .u64 0, .slice none 0 0]) ∧ Pl w o D ∧ G n1 r1 D w1 ∧ Pw w w1 w' := by
  obtain ⟨D, hD, pD⟩ := pl15 w o
  have hc' := hc D
  obtain ⟨k, wk, x, y, at', n, ba, bn, bc, pa, pn, pc, ka, kn, kc⟩ := o
  simp only [Op15.cs] at hD hk hc' hI hl hnil ⊢
  subst hk
  subst hl
  have HD : Hid _ := hD
  have PD : Hid (Pl w ⟨1, wk, x, y, at', n, ba, bn, bc, pa, l.length, pc, ka, kn, kc⟩ D) := pD
  obtain ⟨a2, c2, w2, hrun, o2, _, b2⟩ := appi_any D.drew pa l pc (hI.keep pD.low).drew hnil hlen
  have hrun' : (Builtin.append_ #[40, 40] 40 #[.slice (some ⟨D.heap.size, 0, none⟩) 0 0, .slice pa l.length pc]).run Tryz.prog (D.alloc (.cells #[] 3)).drew = .ok (.slice a2 l.length c2) w2 := hrun
  have B2 : Hid (Below D.heap.size D w2) := Below.ofDrew b2
  have HC : Hid _ := hc' w2 a2 c2 pD B2.out o2
  obtain ⟨o0, _, _, _, _, o5, _, o7⟩ := nine15 pD.op
  obtain ⟨s, hs⟩ : ∃ s, w.heap.size = s := ⟨_, rfl⟩
  have HS : Hid (w.heap.size = s) := hs
  rw [hs] at o0 o5 o7
  have q5 := bcellK B2.out o5
  have q7 := bcellK B2.out o7
  have hne : s ≠ s + 1 + 1 := by omega
  clear hD pD hc hc' hs hI hnil o2 b2 hrun
  go_enter Tryz.func31, Tryz.ntmps31
  go_upto_region 2 with (fail)
  rw [HD.out, HS.out]
  go_upto_region 4 with (fail)
  go_region_held3 (fun w' => w'.cell? ⟨s, 5, none⟩ = some (.int .i64 n) ∧ w'.cell? ⟨s, 7, none⟩ = some (.slice pa l.length pc)) (first | with_reducible exact ⟨setc_else hne d5, setc_else hne d7⟩ | with_reducible exact ⟨setc_else hne (setc_else hne d5), setc_else hne (setc_else hne d7)⟩ | assumption | exact ⟨by assumption, by assumption⟩ | go_keep)
    (first
      | (refine step_app rfl _ _ 40 rfl _ _ rfl rfl _ _ hrun' ?_)
      | (go_at_call 46; refine Calls.mono HC.out ?_; rintro e w1 ⟨n1, r1, rfl, g1, k1⟩; have G1 : Hid (G n1 r1 D w1) := g1; have ra : w1.heap[s + 1 + 1]? = some (.cells #[.int .i64 0, .int .i64 0, .int .u64 0, .slice none 0 0] 75 (0, 0)) := (by rw [← HS.out]; exact (k1.box _ (by omega) (by omega)).trans PD.out.ans); have rr : w1.heap[s + 1]? = some (.cells #[.int .i64 0, .int .i64 0, .int .u64 0, .slice none 0 0] 75 (0, 0)) := (by rw [← HS.out]; exact (k1.box _ (by omega) (by omega)).trans PD.out.res); have RA : Hid _ := ra; have RR : Hid _ := rr; obtain ⟨_, _, _, _, _, d5, _, d7⟩ := nine15 (show w1.heap[s]? = _ by rw [← HS.out]; exact (k1.box _ (by omega) (by omega)).trans PD.out.op); obtain ⟨y0, y1, y2, y3⟩ := four15 ra; obtain ⟨f0, f1, f2, f3⟩ := fourF15 ra; clear g1 k1 ra rr))
  all_goals
    have ra := RA.out
    have rr := RR.out
    obtain ⟨W2, hW2⟩ : ∃ W2, (w1.setCell ⟨s + 1 + 1, 1, none⟩ (.int .i64 n1)).setCell ⟨s + 1 + 1, 0, none⟩ (.int .i64 r1) = W2 := ⟨_, rfl⟩
    have HW2 : Hid ((w1.setCell ⟨s + 1 + 1, 1, none⟩ (.int .i64 n1)).setCell ⟨s + 1 + 1, 0, none⟩ (.int .i64 r1) = W2) := hW2
    have on2 : Only (s + 1 + 1) w1 W2 := by rw [← hW2]; exact Only.set2 _ _ _ _ _ _
    have r2 : W2.heap[s + 1 + 1]? = some (.cells #[.int .i64 r1, .int .i64 n1, .int .u64 0, .slice none 0 0] 75 (0, 0)) := by
      rw [← hW2, heap_setCell_same _ _ 0 _ _ _ (heap_setCell_same w1 _ 1 _ _ _ ra)]; rfl
    have rr2 : W2.heap[s + 1]? = some (.cells #[.int .i64 0, .int .i64 0, .int .u64 0, .slice none 0 0] 75 (0, 0)) := by rw [on2.block _ (by omega)]; exact rr
    have P2 : Hid (Pw w w1 W2) := (Pw.refl w w1).ans (by rw [HS.out]; exact on2)
    clear ra rr hW2 on2
    go_upto_region 23 with (fail)
    rw [HW2.out]
    clear y0 y1 y2 y3 f0 f1 f2 f3
    obtain ⟨y0, y1, y2, y3⟩ := four15 r2
    obtain ⟨z0, z1, z2, z3⟩ := four15 rr2
    obtain ⟨f0, f1, f2, f3⟩ := fourF15 rr2
    obtain ⟨e0, e1, e2, e3⟩ := four15 (layA_row (a := .int .i64 r1) (b := .int .i64 n1) (c := .int .u64 0) (d := .slice none 0 0) rr2)
    have P3 : Hid (Pw w w1 (layA W2 (s + 1) (.int .i64 r1) (.int .i64 n1) (.int .u64 0) (.slice none 0 0))) := P2.out.res (by rw [HS.out]; exact layA_only _ _ _ _ _ _)
    unfold layA at e0 e1 e2 e3
    clear r2 rr2
    go_wp2
    refine bodyPost_ret (v := .agg #[.int .i64 r1, .int .i64 n1, .int .u64 0, .slice none 0 0]) (by simp [results, Tryz.results31, go_sem, e0, e1, e2, e3]) rfl ⟨n1, r1, D, w1, rfl, PD.out, G1.out, P3.out⟩
set_option maxRecDepth 20000 in
set_option maxHeartbeats 4000000 in
theorem play_write (hv : Option Addr) (o : Op15) (hk : o.k = 5) (w : World) (G : Int → World → World → Prop) (l : List Int) (hI : IsB w o.ba l) (hl : o.bn = l.length) (hlen : o.bn ≤ 140737488355328)
    (hc : ∀ D W a1 c1, Pl w o D → Below D.heap.size D W → OwnsB W D.heap.size a1 l c1 → Calls Tryz.prog 82 #[.pointer hv, .int .u64 (o.x : Nat), .int .i64 o.a, .slice a1 l.length c1] W fun e w1 => ∃ (r1 : Int), e = .returned (.int .i64 r1) ∧ G r1 D w1 ∧ Kpl w D w1) :
    Calls Tryz.prog 31 #[.pointer hv, .agg o.cs] w fun e w' => ∃ (r1 : Int) (D w1 : World), e = .returned (.agg #[.int .i64 r1, .int .i64 0, .int .u64 0, .slice none 0 0]) ∧ Pl w o D ∧ G r1 D w1 ∧ Pw w w1 w' := by
  obtain ⟨D, hD, pD⟩ := pl15 w o
  have hc' := hc D
  obtain ⟨k, wk, x, y, at', n, ba, bn, bc, pa, pn, pc, ka, kn, kc⟩ := o
  simp only [Op15.cs] at hD hk hc' hI hl hlen ⊢
  subst hk
  subst hl
  have HD : Hid _ := hD
  have PD : Hid (Pl w ⟨5, wk, x, y, at', n, ba, l.length, bc, pa, pn, pc, ka, kn, kc⟩ D) := pD
  have ID : Hid (IsB D ba l) := hI.keep pD.low
  have HC : Hid (∀ W a1 c1, Pl w ⟨5, wk, x, y, at', n, ba, l.length, bc, pa, pn, pc, ka, kn, kc⟩ D → Below D.heap.size D W → OwnsB W D.heap.size a1 l c1 → Calls Tryz.prog 82 #[.pointer hv, .int .u64 (x : Nat), .int .i64 at', .slice a1 l.length c1] W fun e w1 => ∃ (r1 : Int), e = .returned (.int .i64 r1) ∧ G r1 D w1 ∧ Kpl w D w1) := hc'
  obtain ⟨o0, _, o2, _, o4, _, o6, _⟩ := nine15 pD.op
  obtain ⟨s, hs⟩ : ∃ s, w.heap.size = s := ⟨_, rfl⟩
  have HS : Hid (w.heap.size = s) := hs
  rw [hs] at o0 o2 o4 o6
  have hne : s ≠ s + 1 + 1 := by omega
  clear hD pD hc hc' hs hI
  go_enter Tryz.func31, Tryz.ntmps31
  go_upto_region 2 with (fail)
  rw [HD.out, HS.out]
  go_upto_region 12 with (fail)
  go_region_held3 (fun w' => w'.cell? ⟨s, 2, none⟩ = some (.int .u64 (x : Nat)) ∧ w'.cell? ⟨s, 4, none⟩ = some (.int .i64 at') ∧ w'.cell? ⟨s, 6, none⟩ = some (.slice ba l.length bc)) (first | with_reducible exact ⟨setc_else hne d2, setc_else hne d4, setc_else hne d6⟩ | assumption | exact ⟨by assumption, by assumption, by assumption⟩ | go_keep)
    (first
      | (go_at_call 83; refine Calls.mono (copy_any ba bc l.length l _ rfl ID.out.drew (by omega)) ?_; rintro e w2 ⟨g2, c2, rfl, p2, b2⟩; have B2 : Hid (Below D.heap.size D w2) := Below.ofDrew b2; have P2 : Hid (OwnsB w2 D.heap.size (some ⟨g2, 0, none⟩) l c2) := p2; have d2 := bcellK B2.out o2; have d4 := bcellK B2.out o4; have d6 := bcellK B2.out o6; clear b2 p2)
      | (go_at_call 82; refine Calls.mono (HC.out w2 _ _ PD.out B2.out P2.out) ?_; rintro e w1 ⟨r1, rfl, g1, k1⟩; have G1 : Hid (G r1 D w1) := g1; have ra : w1.heap[s + 1 + 1]? = some (.cells #[.int .i64 0, .int .i64 0, .int .u64 0, .slice none 0 0] 75 (0, 0)) := (by rw [← HS.out]; exact (k1.box _ (by omega) (by omega)).trans PD.out.ans); have rr : w1.heap[s + 1]? = some (.cells #[.int .i64 0, .int .i64 0, .int .u64 0, .slice none 0 0] 75 (0, 0)) := (by rw [← HS.out]; exact (k1.box _ (by omega) (by omega)).trans PD.out.res); have RA : Hid _ := ra; have RR : Hid _ := rr; obtain ⟨_, _, d2, _, d4, _, d6, _⟩ := nine15 (show w1.heap[s]? = _ by rw [← HS.out]; exact (k1.box _ (by omega) (by omega)).trans PD.out.op); obtain ⟨y0, y1, y2, y3⟩ := four15 ra; obtain ⟨f0, f1, f2, f3⟩ := fourF15 ra; clear g1 k1 ra rr P2))
  all_goals
    have ra := RA.out
    have rr := RR.out
    obtain ⟨W2, hW2⟩ : ∃ W2, w1.setCell ⟨s + 1 + 1, 0, none⟩ (.int .i64 r1) = W2 := ⟨_, rfl⟩
    have HW2 : Hid (w1.setCell ⟨s + 1 + 1, 0, none⟩ (.int .i64 r1) = W2) := hW2
    have on2 : Only (s + 1 + 1) w1 W2 := by rw [← hW2]; exact Only.set _ _ _ _
    have r2 : W2.heap[s + 1 + 1]? = some (.cells #[.int .i64 r1, .int .i64 0, .int .u64 0, .slice none 0 0] 75 (0, 0)) := by
      rw [← hW2, heap_setCell_same w1 _ 0 _ _ _ ra]; rfl
    have rr2 : W2.heap[s + 1]? = some (.cells #[.int .i64 0, .int .i64 0, .int .u64 0, .slice none 0 0] 75 (0, 0)) := by rw [on2.block _ (by omega)]; exact rr
    have P2 : Hid (Pw w w1 W2) := (Pw.refl w w1).ans (by rw [HS.out]; exact on2)
    clear ra rr hW2 on2
    go_upto_region 23 with (fail)
    rw [HW2.out]
    clear y0 y1 y2 y3 f0 f1 f2 f3
    obtain ⟨y0, y1, y2, y3⟩ := four15 r2
    obtain ⟨z0, z1, z2, z3⟩ := four15 rr2
    obtain ⟨f0, f1, f2, f3⟩ := fourF15 rr2
    obtain ⟨e0, e1, e2, e3⟩ := four15 (layA_row (a := .int .i64 r1) (b := .int .i64 0) (c := .int .u64 0) (d := .slice none 0 0) rr2)
    have P3 : Hid (Pw w w1 (layA W2 (s + 1) (.int .i64 r1) (.int .i64 0) (.int .u64 0) (.slice none 0 0))) := P2.out.res (by rw [HS.out]; exact layA_only _ _ _ _ _ _)
    unfold layA at e0 e1 e2 e3
    clear r2 rr2
    go_wp2
    refine bodyPost_ret (v := .agg #[.int .i64 r1, .int .i64 0, .int .u64 0, .slice none 0 0]) (by simp [results, Tryz.results31, go_sem, e0, e1, e2, e3]) rfl ⟨r1, D, w1, rfl, PD.out, G1.out, P3.out⟩
end Go.Proofs.YtgdjlopnhecmjaaGreatDoor
