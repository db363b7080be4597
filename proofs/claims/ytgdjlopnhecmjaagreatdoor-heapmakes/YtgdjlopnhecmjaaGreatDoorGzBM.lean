/- Layer 15: Play of a heap that isn't there; Answers. -/
import Derived.Test.YtgdjlopnhecmjaaGreatDoorGzBL
import Derived.Test.YtgdjlopnhecmjaaGreatDoorGzBJ
namespace Go.Proofs.YtgdjlopnhecmjaaGreatDoor
open Go.RowKit
set_option linter.unusedVariables false
set_option maxRecDepth 4000

set_option maxRecDepth 20000 in
set_option maxHeartbeats 4000000 in
theorem play_other (hv : Option Addr) (o : Op15) (hk : o.k < 1 ∨ 10 < o.k) (w : World) :
    Calls Tryz.prog 31 #[.pointer hv, .agg o.cs] w fun e w' => ∃ D, e = .returned (.agg #[.int .i64 0, .int .i64 0, .int .u64 0, .slice none 0 0]) ∧ Pl w o D ∧ Pw w D w' := by
  obtain ⟨D, hD, pD⟩ := pl15 w o
  obtain ⟨k, wk, x, y, at', n, ba, bn, bc, pa, pn, pc, ka, kn, kc⟩ := o
  simp only [Op15.cs] at hD hk ⊢
  have k1 : (k == 1) = false := beq_eq_false_iff_ne.2 (by omega)
  have k2 : (k == 2) = false := beq_eq_false_iff_ne.2 (by omega)
  have k3 : (k == 3) = false := beq_eq_false_iff_ne.2 (by omega)
  have k4 : (k == 4) = false := beq_eq_false_iff_ne.2 (by omega)
  have k5 : (k == 5) = false := beq_eq_false_iff_ne.2 (by omega)
  have k6 : (k == 6) = false := beq_eq_false_iff_ne.2 (by omega)
  have k7 : (k == 7) = false := beq_eq_false_iff_ne.2 (by omega)
  have k8 : (k == 8) = false := beq_eq_false_iff_ne.2 (by omega)
  have k9 : (k == 9) = false := beq_eq_false_iff_ne.2 (by omega)
  have k10 : (k == 10) = false := beq_eq_false_iff_ne.2 (by omega)
  have HD : Hid _ := hD
  have PD : Hid (Pl w ⟨k, wk, x, y, at', n, ba, bn, bc, pa, pn, pc, ka, kn, kc⟩ D) := pD
  obtain ⟨o0, _, _, _, _, _, _, _⟩ := nine15 pD.op
  obtain ⟨s, hs⟩ : ∃ s, w.heap.size = s := ⟨_, rfl⟩
  have HS : Hid (w.heap.size = s) := hs
  have r2 : D.heap[s + 1 + 1]? = some (.cells #[.int .i64 0, .int .i64 0, .int .u64 0, .slice none 0 0] 75 (0, 0)) := by rw [← hs]; exact pD.ans
  have rr2 : D.heap[s + 1]? = some (.cells #[.int .i64 0, .int .i64 0, .int .u64 0, .slice none 0 0] 75 (0, 0)) := by rw [← hs]; exact pD.res
  rw [hs] at o0
  clear hD pD hs hk
  go_enter Tryz.func31, Tryz.ntmps31
  go_upto_region 2 with (fail)
  rw [HD.out, HS.out]
  go_upto_region 23 with (fail)
  obtain ⟨y0, y1, y2, y3⟩ := four15 r2
  obtain ⟨z0, z1, z2, z3⟩ := four15 rr2
  obtain ⟨f0, f1, f2, f3⟩ := fourF15 rr2
  obtain ⟨e0, e1, e2, e3⟩ := four15 (layA_row (a := .int .i64 0) (b := .int .i64 0) (c := .int .u64 0) (d := .slice none 0 0) rr2)
  have P3 : Hid (Pw w D (layA D (s + 1) (.int .i64 0) (.int .i64 0) (.int .u64 0) (.slice none 0 0))) := (Pw.refl w D).res (by rw [HS.out]; exact layA_only _ _ _ _ _ _)
  unfold layA at e0 e1 e2 e3
  clear r2 rr2
  go_wp2
  refine bodyPost_ret (v := .agg #[.int .i64 0, .int .i64 0, .int .u64 0, .slice none 0 0]) (by simp [results, Tryz.results31, go_sem, e0, e1, e2, e3]) rfl ⟨rfl, D, PD.out, P3.out⟩
theorem Pw.low {w D w1 w' : World} {o : Op15} (p : Pl w o D) (b : Below D.heap.size D w1) (h : Pw w w1 w') : Below w.heap.size w w' := by
  have s0 := p.low.size
  have s1 := b.size
  refine (p.low.trans (b.mono s0)).trans ⟨h.os, h.tape, h.output, h.size, fun k hk => ?_⟩
  have hk2 : k < w1.heap.size := by omega
  rw [Array.getElem?_eq_getElem hk2]
  exact h.block k _ (Array.getElem?_eq_getElem hk2) (by omega)
/-- A step of a heap that isn't there. -/
theorem play_nil (o : Op15) (w : World) (lp lb : List Int) (hp : IsI w o.pa lp) (hpn : o.pn = lp.length) (hp0 : o.pa = none → lp = [] ∧ o.pc = 0) (hpl : lp.length ≤ 17592186044416) (hb : IsB w o.ba lb) (hbn : o.bn = lb.length) (hbl : o.bn ≤ 140737488355328) :
    Calls Tryz.prog 31 #[.pointer none, .agg o.cs] w fun e w' => ∃ r : Int, e = .returned (.agg #[.int .i64 r, .int .i64 0, .int .u64 0, .slice none 0 0]) ∧ (1 ≤ o.k ∧ o.k ≤ 8 → r = 1) ∧ Below w.heap.size w w' := by
  by_cases h0 : o.k < 1 ∨ 10 < o.k
  · exact (play_other none o h0 w).mono (fun e w' ⟨D, e1, p, q⟩ => ⟨0, e1, fun c => by omega, Pw.low p (Below.refl _ _) q⟩)
  rcases (by omega : o.k = 1 ∨ o.k = 2 ∨ o.k = 3 ∨ o.k = 4 ∨ o.k = 5 ∨ o.k = 6 ∨ o.k = 7 ∨ o.k = 8 ∨ o.k = 9 ∨ o.k = 10) with h | h | h | h | h | h | h | h | h | h
  · refine (play_define none o h w (fun n r D w1 => n = 0 ∧ r = 1 ∧ Below D.heap.size D w1) lp hp hpn hp0 hpl (fun D W a1 c1 p b _ => (edefine_nil _ ⟨_, _, _, _, rfl⟩ W).mono (fun e w1 ⟨e1, e2⟩ => ⟨0, 1, e1, ⟨rfl, rfl, b.trans (e2.mono b.size)⟩, Kpl.below p (b.trans (e2.mono b.size))⟩))).mono ?_
    rintro e w' ⟨n1, r1, D, w1, rfl, p, ⟨rfl, rfl, b⟩, q⟩
    exact ⟨1, rfl, fun _ => rfl, Pw.low p b q⟩
  · refine (play_alloc none o h w (fun x r D w1 => x = 0 ∧ r = 1 ∧ Below D.heap.size D w1) (fun D p => (ealloc_nil _ _ D).mono (fun e w1 ⟨e1, e2⟩ => ⟨0, 1, e1, ⟨rfl, rfl, e2 ▸ Below.refl _ _⟩, Kpl.below p (e2 ▸ Below.refl _ _)⟩))).mono ?_
    rintro e w' ⟨x1, r1, D, w1, rfl, p, ⟨rfl, rfl, b⟩, q⟩
    exact ⟨1, rfl, fun _ => rfl, Pw.low p b q⟩
  · refine (play_free none o h w (fun r D w1 => r = 1 ∧ Below D.heap.size D w1) (fun D p => (efree_nil _ _ D).mono (fun e w1 ⟨e1, e2⟩ => ⟨1, e1, ⟨rfl, e2 ▸ Below.refl _ _⟩, Kpl.below p (e2 ▸ Below.refl _ _)⟩))).mono ?_
    rintro e w' ⟨r1, D, w1, rfl, p, ⟨rfl, b⟩, q⟩
    exact ⟨1, rfl, fun _ => rfl, Pw.low p b q⟩
  · refine (play_read none o h w (fun a n c r D w1 => a = none ∧ n = 0 ∧ c = 0 ∧ r = 1 ∧ Below D.heap.size D w1) (fun D p => (eread_nil _ _ _ D).mono (fun e w1 ⟨e1, e2⟩ => ⟨none, 0, 0, 1, e1, ⟨rfl, rfl, rfl, rfl, e2⟩, Kpl.below p e2⟩))).mono ?_
    rintro e w' ⟨a1, n1, c1, r1, D, w1, rfl, p, ⟨rfl, rfl, rfl, rfl, b⟩, q⟩
    exact ⟨1, rfl, fun _ => rfl, Pw.low p b q⟩
  · refine (play_write none o h w (fun r D w1 => r = 1 ∧ Below D.heap.size D w1) lb hb hbn hbl (fun D W a1 c1 p b _ => (ewrite_nil _ _ _ _ _ W).mono (fun e w1 ⟨e1, e2⟩ => ⟨1, e1, ⟨rfl, b.trans (e2.mono b.size)⟩, Kpl.below p (b.trans (e2.mono b.size))⟩))).mono ?_
    rintro e w' ⟨r1, D, w1, rfl, p, ⟨rfl, b⟩, q⟩
    exact ⟨1, rfl, fun _ => rfl, Pw.low p b q⟩
  · refine (play_get none o h w (fun x r D w1 => x = 0 ∧ r = 1 ∧ Below D.heap.size D w1) (fun D p => (eget_nil _ _ D).mono (fun e w1 ⟨e1, e2⟩ => ⟨0, 1, e1, ⟨rfl, rfl, e2⟩, Kpl.below p e2⟩))).mono ?_
    rintro e w' ⟨x1, r1, D, w1, rfl, p, ⟨rfl, rfl, b⟩, q⟩
    exact ⟨1, rfl, fun _ => rfl, Pw.low p b q⟩
  · refine (play_set none o h w (fun r D w1 => r = 1 ∧ Below D.heap.size D w1) (fun D p => (eset_nil _ _ _ D).mono (fun e w1 ⟨e1, e2⟩ => ⟨1, e1, ⟨rfl, e2⟩, Kpl.below p e2⟩))).mono ?_
    rintro e w' ⟨r1, D, w1, rfl, p, ⟨rfl, b⟩, q⟩
    exact ⟨1, rfl, fun _ => rfl, Pw.low p b q⟩
  · refine (play_flush none o h w (fun r D w1 => r = 1 ∧ Below D.heap.size D w1) (fun D p => (eflush_nil _ D).mono (fun e w1 ⟨e1, e2⟩ => ⟨1, e1, ⟨rfl, e2 ▸ Below.refl _ _⟩, Kpl.below p (e2 ▸ Below.refl _ _)⟩))).mono ?_
    rintro e w' ⟨r1, D, w1, rfl, p, ⟨rfl, b⟩, q⟩
    exact ⟨1, rfl, fun _ => rfl, Pw.low p b q⟩
  · refine (play_scav none o h w (fun v D w1 => Below D.heap.size D w1) (fun D p => (escav_nil D).mono (fun e w1 ⟨e1, e2⟩ => ⟨_, e1, e2 ▸ Below.refl _ _, Kpl.below p (e2 ▸ Below.refl _ _)⟩))).mono ?_
    rintro e w' ⟨v1, D, w1, rfl, p, b, q⟩
    exact ⟨0, rfl, fun c => by omega, Pw.low p b q⟩
  · refine (play_comp none o h w (fun v D w1 => Below D.heap.size D w1) (fun D p => (ecompact_nil D).mono (fun e w1 ⟨⟨v, e1⟩, e2⟩ => ⟨v, e1, e2 ▸ Below.refl _ _, Kpl.below p (e2 ▸ Below.refl _ _)⟩))).mono ?_
    rintro e w' ⟨v1, D, w1, rfl, p, b, q⟩
    exact ⟨0, rfl, fun c => by omega, Pw.low p b q⟩
set_option maxHeartbeats 4000000 in
/-- The same answer. -/
theorem mans_true (r n : Int) (x : Nat) (a b : Option Addr) (m ca cb : Nat) (l : List Int) (w : World) (hm : m = l.length) (ha : IsB w a l) (hb : IsB w b l) :
    Calls Tryz.prog 33 #[.agg #[.int .i64 r, .int .i64 n, .int .u64 (x : Nat), .slice a m ca], .agg #[.int .i64 r, .int .i64 n, .int .u64 (x : Nat), .slice b m cb]] w fun e w' => e = .returned (.bool true) ∧ Below w.heap.size w w' := by
  obtain ⟨D0, hD0⟩ : ∃ D, w.alloc (.cells #[.int .i64 r, .int .i64 n, .int .u64 (x : Nat), .slice a m ca] 75) = D := ⟨_, rfl⟩
  obtain ⟨D1, hD1⟩ : ∃ D, D0.alloc (.cells #[.int .i64 r, .int .i64 n, .int .u64 (x : Nat), .slice b m cb] 75) = D := ⟨_, rfl⟩
  have s0 : D0.heap.size = w.heap.size + 1 := by rw [← hD0]; simp
  have b0 : Below w.heap.size w D0 := by rw [← hD0]; exact (Below.refl _ w).alloc (Nat.le_refl _) _
  have b1 : Below D0.heap.size D0 D1 := by rw [← hD1]; exact (Below.refl _ D0).alloc (Nat.le_refl _) _
  have r0 : D0.heap[w.heap.size]? = some (.cells #[.int .i64 r, .int .i64 n, .int .u64 (x : Nat), .slice a m ca] 75 (0, 0)) := by rw [← hD0]; exact Go.heap_alloc_new w _
  have r1 : D1.heap[w.heap.size + 1]? = some (.cells #[.int .i64 r, .int .i64 n, .int .u64 (x : Nat), .slice b m cb] 75 (0, 0)) := by rw [← hD1, ← s0]; exact Go.heap_alloc_new D0 _
  have r0' : D1.heap[w.heap.size]? = some (.cells #[.int .i64 r, .int .i64 n, .int .u64 (x : Nat), .slice a m ca] 75 (0, 0)) := by rw [b1.block _ (by omega)]; exact r0
  have bb : Below w.heap.size w D1 := b0.trans (b1.mono b0.size)
  have BB : Hid (Below w.heap.size w D1) := bb
  have SM : Hid (Calls Tryz.prog 88 #[.slice a m ca, .slice b m cb] D1 fun e w' => e = .returned (.bool true) ∧ D1 = w') := by
    have q := same_any a b m m ca cb l l D1 (ha.keep bb) (hb.keep bb) hm hm
    rw [decide_eq_true (p := l = l) rfl] at q
    exact q
  obtain ⟨c0, c1, c2, c3⟩ := four15 r0'
  obtain ⟨d0, d1, d2, d3⟩ := four15 r1
  have HD : Hid ((w.alloc (.cells #[.int .i64 r, .int .i64 n, .int .u64 (x : Nat), .slice a m ca] 75)).alloc (.cells #[.int .i64 r, .int .i64 n, .int .u64 (x : Nat), .slice b m cb] 75) = D1) := by show _ = _; rw [hD0]; exact hD1
  have k0 : (r == r) = true := beq_self_eq_true r
  have k1 : (n == n) = true := beq_self_eq_true n
  clear hD0 hD1 s0 b0 b1 r0 r1 r0' bb ha hb hm
  go_enter Tryz.func33, Tryz.ntmps33
  go_upto_region 1 with (fail)
  rw [HD.out]
  go_wp2_with (go_at_call 88; refine Calls.mono SM.out ?_; rintro e w' ⟨rfl, rfl⟩)
  go_ret
  exact ⟨rfl, BB.out⟩
end Go.Proofs.YtgdjlopnhecmjaaGreatDoor

/- Layer 15: the walk of HeapMakes (mkebs.py writes this). -/
namespace Go.Proofs.YtgdjlopnhecmjaaGreatDoor
open Go.RowKit
set_option linter.unusedVariables false
set_option maxRecDepth 4000

theorem equal_nil (w : World) : Calls Tryz.prog 43 #[.agg #[.int .i64 0, .int .i64 0, .slice none 0 0, .slice none 0 0, .slice none 0 0, .slice none 0 0], .agg #[.int .i64 0, .int .i64 0, .slice none 0 0, .slice none 0 0, .slice none 0 0, .slice none 0 0]] w fun e w' => e = .returned (.bool true) ∧ Below w.heap.size w w' := by
  have R : Rv w ⟨0, 0, [], [], [], []⟩ ⟨none, none, none, none, 0, 0, 0, 0, 0, 0, 0, 0⟩ := ⟨rfl, rfl, rfl, rfl, fun i h => (by cases h), .inl rfl, fun i h => (by cases h), IsB.nil _ _, by unfold i64; decide, by unfold i64; decide, fun t h => (by cases h), fun t h => (by cases h), by simp, by simp, by simp, by simp, by decide, by decide⟩
  exact equal_true ⟨0, 0, [], [], [], []⟩ ⟨none, none, none, none, 0, 0, 0, 0, 0, 0, 0, 0⟩ ⟨none, none, none, none, 0, 0, 0, 0, 0, 0, 0, 0⟩ w R R
set_option maxRecDepth 20000 in
set_option maxHeartbeats 8000000 in
theorem makes_at (w : World) (hT : Tabs w) (base pg wk hd sc : Int) (o : Op15) (lp lb : List Int) (hp : IsI w o.pa lp) (hpn : o.pn = lp.length) (hp0 : o.pa = none → lp = [] ∧ o.pc = 0) (hpl : lp.length ≤ 17592186044416) (hb : IsB w o.ba lb) (hbn : o.bn = lb.length) (hbl : o.bn ≤ 140737488355328)
    (hk : 1 ≤ o.k ∧ o.k ≤ 8) (hpg : 200 < pg ∧ pg ≤ 4096) :
    Calls Tryz.prog 11 #[.agg #[.int .i64 base, .int .i64 pg, .int .i64 wk, .int .i64 hd, .int .i64 sc], .agg o.cs] w fun e w' => e = .returned (.bool true) ∧ Below w.heap.size w w' := by
  obtain ⟨D0, hD0⟩ : ∃ D, w.alloc (.cells #[.int .i64 base, .int .i64 pg, .int .i64 wk, .int .i64 hd, .int .i64 sc] 34) = D := ⟨_, rfl⟩
  obtain ⟨D, hD⟩ : ∃ D, D0.alloc (.cells o.cs 42) = D := ⟨_, rfl⟩
  have s0 : D0.heap.size = w.heap.size + 1 := by rw [← hD0]; simp
  have b0 : Below w.heap.size w D0 := by rw [← hD0]; exact (Below.refl _ w).alloc (Nat.le_refl _) _
  have b1 : Below D0.heap.size D0 D := by rw [← hD]; exact (Below.refl _ D0).alloc (Nat.le_refl _) _
  have bb : Below w.heap.size w D := b0.trans (b1.mono b0.size)
  have r0 : D0.heap[w.heap.size]? = some (.cells #[.int .i64 base, .int .i64 pg, .int .i64 wk, .int .i64 hd, .int .i64 sc] 34 (0, 0)) := by rw [← hD0]; exact Go.heap_alloc_new w _
  have RO : Hid (D.heap[w.heap.size + 1]? = some (.cells o.cs 42 (0, 0))) := by show _ = _; rw [← hD, ← s0]; exact Go.heap_alloc_new D0 _
  have RC : Hid (D.heap[w.heap.size]? = some (.cells #[.int .i64 base, .int .i64 pg, .int .i64 wk, .int .i64 hd, .int .i64 sc] 34 (0, 0))) := by show _ = _; rw [b1.block _ (by omega)]; exact r0
  have TD : Hid (Tabs D) := hT.keep bb
  have PL : Hid (∀ w1, Below D.heap.size D w1 → Calls Tryz.prog 31 #[.pointer none, .agg o.cs] w1 fun e w' => ∃ r : Int, e = .returned (.agg #[.int .i64 r, .int .i64 0, .int .u64 0, .slice none 0 0]) ∧ (1 ≤ o.k ∧ o.k ≤ 8 → r = 1) ∧ Below w1.heap.size w1 w') := fun w1 h1 => by
    have h2 := bb.trans (h1.mono bb.size)
    exact play_nil o w1 lp lb (hp.keep h2) hpn hp0 hpl (hb.keep h2) hbn hbl
  have HD : Hid ((w.alloc (.cells #[.int .i64 base, .int .i64 pg, .int .i64 wk, .int .i64 hd, .int .i64 sc] 34)).alloc (.cells o.cs 42) = D) := by show _ = _; rw [hD0]; exact hD
  have BD0 : Hid (Below w.heap.size w D) := bb
  clear hp hpn hp0 hpl hb hbn hbl hD0 hD s0 b0 b1 bb r0 hT
  obtain ⟨k, owk, ox, oy, oat, on', oba, obn, obc, opa, opn, opc, oka, okn, okc⟩ := o
  simp only [Op15.cs] at HD RO PL hk ⊢
  obtain ⟨s, hs⟩ : ∃ s, w.heap.size = s := ⟨_, rfl⟩
  have HS : Hid (w.heap.size = s) := hs
  rw [hs] at RO RC
  clear hs
  go_enter Tryz.func11, Tryz.ntmps11
  go_upto_region 1 with (fail)
  rw [HD.out]
  try rw [HS.out]
  go_wp2_with fail
  refine (alive15_any _ TD.out).mono ?_
  rintro e wA ⟨rfl, bA⟩
  have BA : Hid (Below D.heap.size D wA) := bA
  have RO1 : Hid (wA.heap[s + 1]? = _) := (bA.block _ (hlt RO.out)).trans RO.out
  obtain ⟨o0, o1, o2, o3, o4, o5, o6, o7⟩ := nine15 RO1.out
  have o8 := cell_of_row _ _ 8 _ _ _ RO1.out
  clear bA
  go_wp2_with fail
  refine (PL.out wA BA.out).mono ?_
  rintro e wP ⟨r, rfl, hr, bP⟩
  obtain rfl := hr hk
  have k1 : 1 ≤ k := hk.1
  have k2 : k ≤ 8 := hk.2
  clear hr hk
  have BP : Hid (Below wA.heap.size wA wP) := bP
  clear bP o0 o1 o2 o3 o4 o5 o6 o7 o8
  obtain ⟨E1, hE1⟩ : ∃ E, wP.alloc (.cells #[.int .i64 1, .int .i64 0, .int .u64 0, .slice none 0 0] 75) = E := ⟨_, rfl⟩
  have HE1 : Hid (wP.alloc (.cells #[.int .i64 1, .int .i64 0, .int .u64 0, .slice none 0 0] 75) = E1) := hE1
  obtain ⟨s1, hs1⟩ : ∃ s1, wP.heap.size = s1 := ⟨_, rfl⟩
  have HS1 : Hid (wP.heap.size = s1) := hs1
  have BE1 : Hid (Below wP.heap.size wP E1) := by show Below _ _ _; rw [← hE1]; exact (Below.refl _ wP).alloc (Nat.le_refl _) _
  have RA : Hid (E1.heap[s1]? = some (.cells #[.int .i64 1, .int .i64 0, .int .u64 0, .slice none 0 0] 75 (0, 0))) := by show _ = _; rw [← hE1, ← hs1]; exact Go.heap_alloc_new wP _
  clear hE1 hs1
  go_upto_region 5 with (fail)
  rw [HE1.out]
  try rw [HS1.out]
  go_wp2_with fail
  refine (eview_nil _).mono ?_
  rintro e wV ⟨rfl, bV⟩
  have BV : Hid (Below E1.heap.size E1 wV) := bV
  obtain ⟨E2, hE2, rE2, bE2⟩ := zbox15 wV
  have HE2 : Hid _ := hE2
  obtain ⟨s2, hs2⟩ : ∃ s2, wV.heap.size = s2 := ⟨_, rfl⟩
  have HS2 : Hid (wV.heap.size = s2) := hs2
  rw [hs2] at rE2
  have BX : Hid (Below D.heap.size D E2) := BA.out.trans ((BP.out.trans ((BE1.out.trans ((bV.trans (bE2.mono bV.size)).mono BE1.out.size)).mono BP.out.size)).mono BA.out.size)
  have ra : E2.heap[s1]? = some (.cells #[.int .i64 1, .int .i64 0, .int .u64 0, .slice none 0 0] 75 (0, 0)) := ((bV.trans (bE2.mono bV.size)).block _ (hlt RA.out)).trans RA.out
  have ro := (BX.out.block _ (hlt RO.out)).trans RO.out
  have rc := (BX.out.block _ (hlt RC.out)).trans RC.out
  obtain ⟨o0, _, o2, _, _, _, _, _⟩ := nine15 ro
  obtain ⟨a0, a1, a2, a3⟩ := four15 ra
  obtain ⟨v0, v1, v2, v3, v4, v5⟩ := six rE2
  have RC2 : Hid _ := rc
  obtain ⟨c0, c1, c2, c3⟩ := cells15c rc
  have c4 := cell_of_row _ _ 4 _ _ _ rc
  have RV2 : Hid _ := rE2
  clear hE2 hs2 bV bE2 ra ro rc rE2
  go_upto_region 6 with (fail)
  rw [HE2.out]
  try rw [HS2.out]
  go_wp2_with fail
  refine (ekind_nil _ _).mono ?_
  rintro e wK ⟨rfl, rfl⟩
  go_wp2_with fail
  refine (mans_true 1 0 0 none none 0 0 0 [] E2 rfl (IsB.nil _ _) (IsB.nil _ _)).mono ?_
  rintro e wM ⟨rfl, bM⟩
  have BM : Hid (Below D.heap.size D wM) := BX.out.trans (bM.mono BX.out.size)
  have RC3 : Hid (wM.heap[s]? = _) := (bM.block _ (hlt RC2.out)).trans RC2.out
  obtain ⟨x0, x1, x2, x3, x4, x5⟩ := six ((bM.block _ (hlt RV2.out)).trans RV2.out)
  clear bM v0 v1 v2 v3 v4 v5 c0 c1 c2 c3 c4 a0 a1 a2 a3 o0 o2
  go_wp2_with fail
  refine (equal_nil _).mono ?_
  rintro e wE ⟨rfl, bE⟩
  have BE : Hid (Below D.heap.size D wE) := BM.out.trans (bE.mono BM.out.size)
  have rc := (bE.block _ (hlt RC3.out)).trans RC3.out
  have RC4 : Hid _ := rc
  obtain ⟨c0, c1, c2, c3⟩ := cells15c rc
  have c4 := cell_of_row _ _ 4 _ _ _ rc
  have BF : Hid (Below D.heap.size D wE) := BE.out
  clear bE x0 x1 x2 x3 x4 x5 rc
  have p1 : 200 < pg := hpg.1
  have p2 : pg ≤ 4096 := hpg.2
  clear hpg
  go_wp2
  go_ret
  exact ⟨rfl, by first | exact BD0.out.trans (BF.out.mono BD0.out.size) | (rw [← HS.out]; exact BD0.out.trans (BF.out.mono BD0.out.size))⟩
set_option maxRecDepth 20000 in
set_option maxHeartbeats 8000000 in
theorem makes_au (w : World) (hT : Tabs w) (base pg wk hd sc : Int) (o : Op15) (lp lb : List Int) (hp : IsI w o.pa lp) (hpn : o.pn = lp.length) (hp0 : o.pa = none → lp = [] ∧ o.pc = 0) (hpl : lp.length ≤ 17592186044416) (hb : IsB w o.ba lb) (hbn : o.bn = lb.length) (hbl : o.bn ≤ 140737488355328)
    (hk : o.k < 1) (hpg : 200 < pg ∧ pg ≤ 4096) :
    Calls Tryz.prog 11 #[.agg #[.int .i64 base, .int .i64 pg, .int .i64 wk, .int .i64 hd, .int .i64 sc], .agg o.cs] w fun e w' => e = .returned (.bool true) ∧ Below w.heap.size w w' := by
  obtain ⟨D0, hD0⟩ : ∃ D, w.alloc (.cells #[.int .i64 base, .int .i64 pg, .int .i64 wk, .int .i64 hd, .int .i64 sc] 34) = D := ⟨_, rfl⟩
  obtain ⟨D, hD⟩ : ∃ D, D0.alloc (.cells o.cs 42) = D := ⟨_, rfl⟩
  have s0 : D0.heap.size = w.heap.size + 1 := by rw [← hD0]; simp
  have b0 : Below w.heap.size w D0 := by rw [← hD0]; exact (Below.refl _ w).alloc (Nat.le_refl _) _
  have b1 : Below D0.heap.size D0 D := by rw [← hD]; exact (Below.refl _ D0).alloc (Nat.le_refl _) _
  have bb : Below w.heap.size w D := b0.trans (b1.mono b0.size)
  have r0 : D0.heap[w.heap.size]? = some (.cells #[.int .i64 base, .int .i64 pg, .int .i64 wk, .int .i64 hd, .int .i64 sc] 34 (0, 0)) := by rw [← hD0]; exact Go.heap_alloc_new w _
  have RO : Hid (D.heap[w.heap.size + 1]? = some (.cells o.cs 42 (0, 0))) := by show _ = _; rw [← hD, ← s0]; exact Go.heap_alloc_new D0 _
  have RC : Hid (D.heap[w.heap.size]? = some (.cells #[.int .i64 base, .int .i64 pg, .int .i64 wk, .int .i64 hd, .int .i64 sc] 34 (0, 0))) := by show _ = _; rw [b1.block _ (by omega)]; exact r0
  have TD : Hid (Tabs D) := hT.keep bb
  have PL : Hid (∀ w1, Below D.heap.size D w1 → Calls Tryz.prog 31 #[.pointer none, .agg o.cs] w1 fun e w' => ∃ r : Int, e = .returned (.agg #[.int .i64 r, .int .i64 0, .int .u64 0, .slice none 0 0]) ∧ (1 ≤ o.k ∧ o.k ≤ 8 → r = 1) ∧ Below w1.heap.size w1 w') := fun w1 h1 => by
    have h2 := bb.trans (h1.mono bb.size)
    exact play_nil o w1 lp lb (hp.keep h2) hpn hp0 hpl (hb.keep h2) hbn hbl
  have HD : Hid ((w.alloc (.cells #[.int .i64 base, .int .i64 pg, .int .i64 wk, .int .i64 hd, .int .i64 sc] 34)).alloc (.cells o.cs 42) = D) := by show _ = _; rw [hD0]; exact hD
  have BD0 : Hid (Below w.heap.size w D) := bb
  clear hp hpn hp0 hpl hb hbn hbl hD0 hD s0 b0 b1 bb r0 hT
  obtain ⟨k, owk, ox, oy, oat, on', oba, obn, obc, opa, opn, opc, oka, okn, okc⟩ := o
  simp only [Op15.cs] at HD RO PL hk ⊢
  obtain ⟨s, hs⟩ : ∃ s, w.heap.size = s := ⟨_, rfl⟩
  have HS : Hid (w.heap.size = s) := hs
  rw [hs] at RO RC
  clear hs
  go_enter Tryz.func11, Tryz.ntmps11
  go_upto_region 1 with (fail)
  rw [HD.out]
  try rw [HS.out]
  go_wp2_with fail
  refine (alive15_any _ TD.out).mono ?_
  rintro e wA ⟨rfl, bA⟩
  have BA : Hid (Below D.heap.size D wA) := bA
  have RO1 : Hid (wA.heap[s + 1]? = _) := (bA.block _ (hlt RO.out)).trans RO.out
  obtain ⟨o0, o1, o2, o3, o4, o5, o6, o7⟩ := nine15 RO1.out
  have o8 := cell_of_row _ _ 8 _ _ _ RO1.out
  clear bA
  go_wp2_with fail
  refine (PL.out wA BA.out).mono ?_
  rintro e wP ⟨r, rfl, hr, bP⟩
  have k1 : ¬ 1 ≤ k := by omega
  clear hr hk
  have BP : Hid (Below wA.heap.size wA wP) := bP
  clear bP o0 o1 o2 o3 o4 o5 o6 o7 o8
  obtain ⟨E1, hE1⟩ : ∃ E, wP.alloc (.cells #[.int .i64 r, .int .i64 0, .int .u64 0, .slice none 0 0] 75) = E := ⟨_, rfl⟩
  have HE1 : Hid (wP.alloc (.cells #[.int .i64 r, .int .i64 0, .int .u64 0, .slice none 0 0] 75) = E1) := hE1
  obtain ⟨s1, hs1⟩ : ∃ s1, wP.heap.size = s1 := ⟨_, rfl⟩
  have HS1 : Hid (wP.heap.size = s1) := hs1
  have BE1 : Hid (Below wP.heap.size wP E1) := by show Below _ _ _; rw [← hE1]; exact (Below.refl _ wP).alloc (Nat.le_refl _) _
  have RA : Hid (E1.heap[s1]? = some (.cells #[.int .i64 r, .int .i64 0, .int .u64 0, .slice none 0 0] 75 (0, 0))) := by show _ = _; rw [← hE1, ← hs1]; exact Go.heap_alloc_new wP _
  clear hE1 hs1
  go_upto_region 5 with (fail)
  rw [HE1.out]
  try rw [HS1.out]
  go_wp2_with fail
  refine (eview_nil _).mono ?_
  rintro e wV ⟨rfl, bV⟩
  have BV : Hid (Below E1.heap.size E1 wV) := bV
  obtain ⟨E2, hE2, rE2, bE2⟩ := zbox15 wV
  have HE2 : Hid _ := hE2
  obtain ⟨s2, hs2⟩ : ∃ s2, wV.heap.size = s2 := ⟨_, rfl⟩
  have HS2 : Hid (wV.heap.size = s2) := hs2
  rw [hs2] at rE2
  have BX : Hid (Below D.heap.size D E2) := BA.out.trans ((BP.out.trans ((BE1.out.trans ((bV.trans (bE2.mono bV.size)).mono BE1.out.size)).mono BP.out.size)).mono BA.out.size)
  have ra : E2.heap[s1]? = some (.cells #[.int .i64 r, .int .i64 0, .int .u64 0, .slice none 0 0] 75 (0, 0)) := ((bV.trans (bE2.mono bV.size)).block _ (hlt RA.out)).trans RA.out
  have ro := (BX.out.block _ (hlt RO.out)).trans RO.out
  have rc := (BX.out.block _ (hlt RC.out)).trans RC.out
  obtain ⟨o0, _, o2, _, _, _, _, _⟩ := nine15 ro
  obtain ⟨a0, a1, a2, a3⟩ := four15 ra
  obtain ⟨v0, v1, v2, v3, v4, v5⟩ := six rE2
  have RC2 : Hid _ := rc
  obtain ⟨c0, c1, c2, c3⟩ := cells15c rc
  have c4 := cell_of_row _ _ 4 _ _ _ rc
  have RV2 : Hid _ := rE2
  clear hE2 hs2 bV bE2 ra ro rc rE2
  go_upto_region 6 with (fail)
  rw [HE2.out]
  try rw [HS2.out]
  go_wp2_with fail
  refine (ekind_nil _ _).mono ?_
  rintro e wK ⟨rfl, rfl⟩
  have BM : Hid (Below D.heap.size D E2) := BX.out
  have RC3 : Hid (E2.heap[s]? = _) := RC2.out
  go_wp2_with fail
  refine (equal_nil _).mono ?_
  rintro e wE ⟨rfl, bE⟩
  have BE : Hid (Below D.heap.size D wE) := BM.out.trans (bE.mono BM.out.size)
  have rc := (bE.block _ (hlt RC3.out)).trans RC3.out
  have RC4 : Hid _ := rc
  clear v0 v1 v2 v3 v4 v5 c0 c1 c2 c3 c4 a0 a1 a2 a3 o0 o2
  obtain ⟨c0, c1, c2, c3⟩ := cells15c rc
  have c4 := cell_of_row _ _ 4 _ _ _ rc
  have BF : Hid (Below D.heap.size D wE) := BE.out
  clear bE rc
  have p1 : 200 < pg := hpg.1
  have p2 : pg ≤ 4096 := hpg.2
  clear hpg
  go_wp2
  go_ret
  exact ⟨rfl, by first | exact BD0.out.trans (BF.out.mono BD0.out.size) | (rw [← HS.out]; exact BD0.out.trans (BF.out.mono BD0.out.size))⟩
set_option maxRecDepth 20000 in
set_option maxHeartbeats 8000000 in
theorem makes_av (w : World) (hT : Tabs w) (base pg wk hd sc : Int) (o : Op15) (lp lb : List Int) (hp : IsI w o.pa lp) (hpn : o.pn = lp.length) (hp0 : o.pa = none → lp = [] ∧ o.pc = 0) (hpl : lp.length ≤ 17592186044416) (hb : IsB w o.ba lb) (hbn : o.bn = lb.length) (hbl : o.bn ≤ 140737488355328)
    (hk : 8 < o.k) (hpg : 200 < pg ∧ pg ≤ 4096) :
    Calls Tryz.prog 11 #[.agg #[.int .i64 base, .int .i64 pg, .int .i64 wk, .int .i64 hd, .int .i64 sc], .agg o.cs] w fun e w' => e = .returned (.bool true) ∧ Below w.heap.size w w' := by
  obtain ⟨D0, hD0⟩ : ∃ D, w.alloc (.cells #[.int .i64 base, .int .i64 pg, .int .i64 wk, .int .i64 hd, .int .i64 sc] 34) = D := ⟨_, rfl⟩
  obtain ⟨D, hD⟩ : ∃ D, D0.alloc (.cells o.cs 42) = D := ⟨_, rfl⟩
  have s0 : D0.heap.size = w.heap.size + 1 := by rw [← hD0]; simp
  have b0 : Below w.heap.size w D0 := by rw [← hD0]; exact (Below.refl _ w).alloc (Nat.le_refl _) _
  have b1 : Below D0.heap.size D0 D := by rw [← hD]; exact (Below.refl _ D0).alloc (Nat.le_refl _) _
  have bb : Below w.heap.size w D := b0.trans (b1.mono b0.size)
  have r0 : D0.heap[w.heap.size]? = some (.cells #[.int .i64 base, .int .i64 pg, .int .i64 wk, .int .i64 hd, .int .i64 sc] 34 (0, 0)) := by rw [← hD0]; exact Go.heap_alloc_new w _
  have RO : Hid (D.heap[w.heap.size + 1]? = some (.cells o.cs 42 (0, 0))) := by show _ = _; rw [← hD, ← s0]; exact Go.heap_alloc_new D0 _
  have RC : Hid (D.heap[w.heap.size]? = some (.cells #[.int .i64 base, .int .i64 pg, .int .i64 wk, .int .i64 hd, .int .i64 sc] 34 (0, 0))) := by show _ = _; rw [b1.block _ (by omega)]; exact r0
  have TD : Hid (Tabs D) := hT.keep bb
  have PL : Hid (∀ w1, Below D.heap.size D w1 → Calls Tryz.prog 31 #[.pointer none, .agg o.cs] w1 fun e w' => ∃ r : Int, e = .returned (.agg #[.int .i64 r, .int .i64 0, .int .u64 0, .slice none 0 0]) ∧ (1 ≤ o.k ∧ o.k ≤ 8 → r = 1) ∧ Below w1.heap.size w1 w') := fun w1 h1 => by
    have h2 := bb.trans (h1.mono bb.size)
    exact play_nil o w1 lp lb (hp.keep h2) hpn hp0 hpl (hb.keep h2) hbn hbl
  have HD : Hid ((w.alloc (.cells #[.int .i64 base, .int .i64 pg, .int .i64 wk, .int .i64 hd, .int .i64 sc] 34)).alloc (.cells o.cs 42) = D) := by show _ = _; rw [hD0]; exact hD
  have BD0 : Hid (Below w.heap.size w D) := bb
  clear hp hpn hp0 hpl hb hbn hbl hD0 hD s0 b0 b1 bb r0 hT
  obtain ⟨k, owk, ox, oy, oat, on', oba, obn, obc, opa, opn, opc, oka, okn, okc⟩ := o
  simp only [Op15.cs] at HD RO PL hk ⊢
  obtain ⟨s, hs⟩ : ∃ s, w.heap.size = s := ⟨_, rfl⟩
  have HS : Hid (w.heap.size = s) := hs
  rw [hs] at RO RC
  clear hs
  go_enter Tryz.func11, Tryz.ntmps11
  go_upto_region 1 with (fail)
  rw [HD.out]
  try rw [HS.out]
  go_wp2_with fail
  refine (alive15_any _ TD.out).mono ?_
  rintro e wA ⟨rfl, bA⟩
  have BA : Hid (Below D.heap.size D wA) := bA
  have RO1 : Hid (wA.heap[s + 1]? = _) := (bA.block _ (hlt RO.out)).trans RO.out
  obtain ⟨o0, o1, o2, o3, o4, o5, o6, o7⟩ := nine15 RO1.out
  have o8 := cell_of_row _ _ 8 _ _ _ RO1.out
  clear bA
  go_wp2_with fail
  refine (PL.out wA BA.out).mono ?_
  rintro e wP ⟨r, rfl, hr, bP⟩
  have k1 : 1 ≤ k := by omega
  have k2 : ¬ k ≤ 8 := by omega
  clear hr hk
  have BP : Hid (Below wA.heap.size wA wP) := bP
  clear bP o0 o1 o2 o3 o4 o5 o6 o7 o8
  obtain ⟨E1, hE1⟩ : ∃ E, wP.alloc (.cells #[.int .i64 r, .int .i64 0, .int .u64 0, .slice none 0 0] 75) = E := ⟨_, rfl⟩
  have HE1 : Hid (wP.alloc (.cells #[.int .i64 r, .int .i64 0, .int .u64 0, .slice none 0 0] 75) = E1) := hE1
  obtain ⟨s1, hs1⟩ : ∃ s1, wP.heap.size = s1 := ⟨_, rfl⟩
  have HS1 : Hid (wP.heap.size = s1) := hs1
  have BE1 : Hid (Below wP.heap.size wP E1) := by show Below _ _ _; rw [← hE1]; exact (Below.refl _ wP).alloc (Nat.le_refl _) _
  have RA : Hid (E1.heap[s1]? = some (.cells #[.int .i64 r, .int .i64 0, .int .u64 0, .slice none 0 0] 75 (0, 0))) := by show _ = _; rw [← hE1, ← hs1]; exact Go.heap_alloc_new wP _
  clear hE1 hs1
  go_upto_region 5 with (fail)
  rw [HE1.out]
  try rw [HS1.out]
  go_wp2_with fail
  refine (eview_nil _).mono ?_
  rintro e wV ⟨rfl, bV⟩
  have BV : Hid (Below E1.heap.size E1 wV) := bV
  obtain ⟨E2, hE2, rE2, bE2⟩ := zbox15 wV
  have HE2 : Hid _ := hE2
  obtain ⟨s2, hs2⟩ : ∃ s2, wV.heap.size = s2 := ⟨_, rfl⟩
  have HS2 : Hid (wV.heap.size = s2) := hs2
  rw [hs2] at rE2
  have BX : Hid (Below D.heap.size D E2) := BA.out.trans ((BP.out.trans ((BE1.out.trans ((bV.trans (bE2.mono bV.size)).mono BE1.out.size)).mono BP.out.size)).mono BA.out.size)
  have ra : E2.heap[s1]? = some (.cells #[.int .i64 r, .int .i64 0, .int .u64 0, .slice none 0 0] 75 (0, 0)) := ((bV.trans (bE2.mono bV.size)).block _ (hlt RA.out)).trans RA.out
  have ro := (BX.out.block _ (hlt RO.out)).trans RO.out
  have rc := (BX.out.block _ (hlt RC.out)).trans RC.out
  obtain ⟨o0, _, o2, _, _, _, _, _⟩ := nine15 ro
  obtain ⟨a0, a1, a2, a3⟩ := four15 ra
  obtain ⟨v0, v1, v2, v3, v4, v5⟩ := six rE2
  have RC2 : Hid _ := rc
  obtain ⟨c0, c1, c2, c3⟩ := cells15c rc
  have c4 := cell_of_row _ _ 4 _ _ _ rc
  have RV2 : Hid _ := rE2
  clear hE2 hs2 bV bE2 ra ro rc rE2
  go_upto_region 6 with (fail)
  rw [HE2.out]
  try rw [HS2.out]
  go_wp2_with fail
  refine (ekind_nil _ _).mono ?_
  rintro e wK ⟨rfl, rfl⟩
  have BM : Hid (Below D.heap.size D E2) := BX.out
  have RC3 : Hid (E2.heap[s]? = _) := RC2.out
  go_wp2_with fail
  refine (equal_nil _).mono ?_
  rintro e wE ⟨rfl, bE⟩
  have BE : Hid (Below D.heap.size D wE) := BM.out.trans (bE.mono BM.out.size)
  have rc := (bE.block _ (hlt RC3.out)).trans RC3.out
  have RC4 : Hid _ := rc
  clear v0 v1 v2 v3 v4 v5 c0 c1 c2 c3 c4 a0 a1 a2 a3 o0 o2
  obtain ⟨c0, c1, c2, c3⟩ := cells15c rc
  have c4 := cell_of_row _ _ 4 _ _ _ rc
  have BF : Hid (Below D.heap.size D wE) := BE.out
  clear bE rc
  have p1 : 200 < pg := hpg.1
  have p2 : pg ≤ 4096 := hpg.2
  clear hpg
  go_wp2
  go_ret
  exact ⟨rfl, by first | exact BD0.out.trans (BF.out.mono BD0.out.size) | (rw [← HS.out]; exact BD0.out.trans (BF.out.mono BD0.out.size))⟩
end Go.Proofs.YtgdjlopnhecmjaaGreatDoor
