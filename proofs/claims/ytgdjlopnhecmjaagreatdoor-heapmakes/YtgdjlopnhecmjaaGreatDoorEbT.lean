/- Layer 15: the walk of HeapMakes (mkebs.py writes this). -/
import Derived.Test.YtgdjlopnhecmjaaGreatDoorGzBM
namespace Go.Proofs.YtgdjlopnhecmjaaGreatDoor
open Go.RowKit
set_option linter.unusedVariables false
set_option maxRecDepth 4000

set_option maxRecDepth 20000 in
set_option maxHeartbeats 8000000 in
theorem makes_bt (w : World) (hT : Tabs w) (base pg wk hd sc : Int) (o : Op15) (lp lb : List Int) (hp : IsI w o.pa lp) (hpn : o.pn = lp.length) (hp0 : o.pa = none → lp = [] ∧ o.pc = 0) (hpl : lp.length ≤ 17592186044416) (hb : IsB w o.ba lb) (hbn : o.bn = lb.length) (hbl : o.bn ≤ 140737488355328)
    (hk : 1 ≤ o.k ∧ o.k ≤ 8) (hpg : pg ≤ 200 ∧ ¬ (1 ≤ pg ∧ pg ≤ 4096 ∧ mayE wk hd)) :
    Calls Tryz.prog 11 #[.agg #[.int .i64 base, .int .i64 pg, .int .i64 wk, .int .i64 hd, .int .i64 sc], .agg o.cs] w fun e w' => e = .returned (.bool true) ∧ Below w.heap.size w w' := by
  obtain ⟨D0, hD0⟩ : ∃ D, w.alloc (.cells #[.int .i64 base, .int .i64 pg, .int .i64 wk, .int .i64 hd, .int .i64 sc] 34) = D := ⟨_, rfl⟩
  obtain ⟨D, hD⟩ : ∃ D, D0.alloc (.cells o.cs 42) = D := ⟨_, rfl⟩
  have s0 : D0.heap.size = w.heap.size + 1 := by rw [← hD0]; simp
  have b0 : Below w.heap.size w D0 := by rw [← hD0]; exact (Below.refl _ w).alloc (Nat.le_refl _) _
  have b1 : Below D0.heap.size D0 D := by rw [← hD]; exact (Below.refl _ D0).alloc (Nat.le_refl _) _
  have bb : Below w.heap.size w D := b0.trans (b1.mono b0.size)
  have r0 : D0.heap[w.heap.size]? = some (.cells #[.int .i64 base, .int .i64 pg, .int .i64 wk, .int .i64 hd, .int .i64 sc] 34 (0, 0)) := by rw [← hD0]; exact Go.heap_alloc_new w _
  have RO : Hid (D.heap[w.heap.size + 1]? = some (.cells o.cs 42 (0, 0))) := by show _ = _; rw [← hD, ← s0]; exact Go.heap_alloc_new D0 _
  have RC : Hid (D.heap[w.heap.size]? = some (.cells #[.int .i64 base, .int .i64 pg, .int .i64 wk, .int .i64 hd, .int .i64 sc] 34 (0, 0))) := by show _ = _; rw [b1.block _ (by omega)]; exact r0
  have TD : Hid (Tabs D) := hT.keep bb
  have PL : Hid (∀ w1, Below D.heap.size D w1 → Calls Tryz.prog 31 #[.pointer none, .agg o.cs] w1 fun e w' => ∃ r : Int, e = .returned (.agg #[.int .i64 r, .int .i64 0, .int .u64 0, .slice none 0 0]) ∧ (1 ≤ o.k ∧ o.k ≤ 8 → r = 1) ∧ Below w1.heap.size w1 w') := fun w1 h1 => by
    have h2 := bb.trans (h1.mono bb.size)
    exact play_nil o w1 lp lb (hp.keep h2) hpn hp0 hpl (hb.keep h2) hbn hbl
  have HD : Hid ((w.alloc (.cells #[.int .i64 base, .int .i64 pg, .int .i64 wk, .int .i64 hd, .int .i64 sc] 34)).alloc (.cells o.cs 42) = D) := by show _ = _; rw [hD0]; exact hD
  have BD0 : Hid (Below w.heap.size w D) := bb
  clear hp hpn hp0 hpl hb hbn hbl hD0 hD s0 b0 b1 bb r0 hT
  obtain ⟨k, owk, ox, oy, oat, on', oba, obn, obc, opa, opn, opc, oka, okn, okc⟩ := o
  simp only [Op15.cs] at HD RO PL hk ⊢
  obtain ⟨s, hs⟩ : ∃ s, w.heap.size = s := ⟨_, rfl⟩
  have HS : Hid (w.heap.size = s) := hs
  rw [hs] at RO RC
  clear hs
  go_enter Tryz.func11, Tryz.ntmps11
  go_upto_region 1 with (fail)
  rw [HD.out]
  try rw [HS.out]
  go_wp2_with fail
  refine (alive15_any _ TD.out).mono ?_
  rintro e wA ⟨rfl, bA⟩
  have BA : Hid (Below D.heap.size D wA) := bA
  have RO1 : Hid (wA.heap[s + 1]? = _) := (bA.block _ (hlt RO.out)).trans RO.out
  obtain ⟨o0, o1, o2, o3, o4, o5, o6, o7⟩ := nine15 RO1.out
  have o8 := cell_of_row _ _ 8 _ _ _ RO1.out
  clear bA
  go_wp2_with fail
  refine (PL.out wA BA.out).mono ?_
  rintro e wP ⟨r, rfl, hr, bP⟩
  obtain rfl := hr hk
  have k1 : 1 ≤ k := hk.1
  have k2 : k ≤ 8 := hk.2
  clear hr hk
  have BP : Hid (Below wA.heap.size wA wP) := bP
  clear bP o0 o1 o2 o3 o4 o5 o6 o7 o8
  obtain ⟨E1, hE1⟩ : ∃ E, wP.alloc (.cells #[.int .i64 1, .int .i64 0, .int .u64 0, .slice none 0 0] 75) = E := ⟨_, rfl⟩
  have HE1 : Hid (wP.alloc (.cells #[.int .i64 1, .int .i64 0, .int .u64 0, .slice none 0 0] 75) = E1) := hE1
  obtain ⟨s1, hs1⟩ : ∃ s1, wP.heap.size = s1 := ⟨_, rfl⟩
  have HS1 : Hid (wP.heap.size = s1) := hs1
  have BE1 : Hid (Below wP.heap.size wP E1) := by show Below _ _ _; rw [← hE1]; exact (Below.refl _ wP).alloc (Nat.le_refl _) _
  have RA : Hid (E1.heap[s1]? = some (.cells #[.int .i64 1, .int .i64 0, .int .u64 0, .slice none 0 0] 75 (0, 0))) := by show _ = _; rw [← hE1, ← hs1]; exact Go.heap_alloc_new wP _
  clear hE1 hs1
  go_upto_region 5 with (fail)
  rw [HE1.out]
  try rw [HS1.out]
  go_wp2_with fail
  refine (eview_nil _).mono ?_
  rintro e wV ⟨rfl, bV⟩
  have BV : Hid (Below E1.heap.size E1 wV) := bV
  obtain ⟨E2, hE2, rE2, bE2⟩ := zbox15 wV
  have HE2 : Hid _ := hE2
  obtain ⟨s2, hs2⟩ : ∃ s2, wV.heap.size = s2 := ⟨_, rfl⟩
  have HS2 : Hid (wV.heap.size = s2) := hs2
  rw [hs2] at rE2
  have BX : Hid (Below D.heap.size D E2) := BA.out.trans ((BP.out.trans ((BE1.out.trans ((bV.trans (bE2.mono bV.size)).mono BE1.out.size)).mono BP.out.size)).mono BA.out.size)
  have ra : E2.heap[s1]? = some (.cells #[.int .i64 1, .int .i64 0, .int .u64 0, .slice none 0 0] 75 (0, 0)) := ((bV.trans (bE2.mono bV.size)).block _ (hlt RA.out)).trans RA.out
  have ro := (BX.out.block _ (hlt RO.out)).trans RO.out
  have rc := (BX.out.block _ (hlt RC.out)).trans RC.out
  obtain ⟨o0, _, o2, _, _, _, _, _⟩ := nine15 ro
  obtain ⟨a0, a1, a2, a3⟩ := four15 ra
  obtain ⟨v0, v1, v2, v3, v4, v5⟩ := six rE2
  have RC2 : Hid _ := rc
  obtain ⟨c0, c1, c2, c3⟩ := cells15c rc
  have c4 := cell_of_row _ _ 4 _ _ _ rc
  have RV2 : Hid _ := rE2
  clear hE2 hs2 bV bE2 ra ro rc rE2
  go_upto_region 6 with (fail)
  rw [HE2.out]
  try rw [HS2.out]
  go_wp2_with fail
  refine (ekind_nil _ _).mono ?_
  rintro e wK ⟨rfl, rfl⟩
  go_wp2_with fail
  refine (mans_true 1 0 0 none none 0 0 0 [] E2 rfl (IsB.nil _ _) (IsB.nil _ _)).mono ?_
  rintro e wM ⟨rfl, bM⟩
  have BM : Hid (Below D.heap.size D wM) := BX.out.trans (bM.mono BX.out.size)
  have RC3 : Hid (wM.heap[s]? = _) := (bM.block _ (hlt RC2.out)).trans RC2.out
  obtain ⟨x0, x1, x2, x3, x4, x5⟩ := six ((bM.block _ (hlt RV2.out)).trans RV2.out)
  clear bM v0 v1 v2 v3 v4 v5 c0 c1 c2 c3 c4 a0 a1 a2 a3 o0 o2
  go_wp2_with fail
  refine (equal_nil _).mono ?_
  rintro e wE ⟨rfl, bE⟩
  have BE : Hid (Below D.heap.size D wE) := BM.out.trans (bE.mono BM.out.size)
  have rc := (bE.block _ (hlt RC3.out)).trans RC3.out
  have RC4 : Hid _ := rc
  obtain ⟨c0, c1, c2, c3⟩ := cells15c rc
  have c4 := cell_of_row _ _ 4 _ _ _ rc
  have BF : Hid (Below D.heap.size D wE) := BE.out
  clear bE x0 x1 x2 x3 x4 x5 rc
  have HN : Hid (¬ (1 ≤ pg ∧ pg ≤ 4096 ∧ mayE wk hd)) := hpg.2
  have p1 : ¬ 200 < pg := by omega
  have q2 : ¬ 4096 < pg := by omega
  clear hpg
  go_wp2_with fail
  refine (enew_arg _ base pg wk hd sc HN.out).mono ?_
  rintro e wN ⟨rfl, bN⟩
  have rc := (bN.block _ (hlt RC4.out)).trans RC4.out
  clear c0 c1 c2 c3 c4
  obtain ⟨c0, c1, c2, c3⟩ := cells15c rc
  have BF : Hid (Below D.heap.size D wN) := BE.out.trans (bN.mono BE.out.size)
  clear rc bN
  by_cases q1 : pg < 1
  · go_wp2
    go_ret
    exact ⟨rfl, by first | exact BD0.out.trans (BF.out.mono BD0.out.size) | (rw [← HS.out]; exact BD0.out.trans (BF.out.mono BD0.out.size))⟩
  by_cases q3 : wk < 1
  · go_wp2
    go_ret
    exact ⟨rfl, by first | exact BD0.out.trans (BF.out.mono BD0.out.size) | (rw [← HS.out]; exact BD0.out.trans (BF.out.mono BD0.out.size))⟩
  by_cases q4 : 8 < wk
  · go_wp2
    go_ret
    exact ⟨rfl, by first | exact BD0.out.trans (BF.out.mono BD0.out.size) | (rw [← HS.out]; exact BD0.out.trans (BF.out.mono BD0.out.size))⟩
  by_cases q5 : hd < 1
  · go_wp2
    go_ret
    exact ⟨rfl, by first | exact BD0.out.trans (BF.out.mono BD0.out.size) | (rw [← HS.out]; exact BD0.out.trans (BF.out.mono BD0.out.size))⟩
  have q6 : 4096 < hd := by
    have := HN.out
    unfold mayE at this
    omega
  go_wp2
  go_ret
  exact ⟨rfl, by first | exact BD0.out.trans (BF.out.mono BD0.out.size) | (rw [← HS.out]; exact BD0.out.trans (BF.out.mono BD0.out.size))⟩
set_option maxRecDepth 20000 in
set_option maxHeartbeats 8000000 in
theorem makes_bu (w : World) (hT : Tabs w) (base pg wk hd sc : Int) (o : Op15) (lp lb : List Int) (hp : IsI w o.pa lp) (hpn : o.pn = lp.length) (hp0 : o.pa = none → lp = [] ∧ o.pc = 0) (hpl : lp.length ≤ 17592186044416) (hb : IsB w o.ba lb) (hbn : o.bn = lb.length) (hbl : o.bn ≤ 140737488355328)
    (hk : o.k < 1) (hpg : pg ≤ 200 ∧ ¬ (1 ≤ pg ∧ pg ≤ 4096 ∧ mayE wk hd)) :
    Calls Tryz.prog 11 #[.agg #[.int .i64 base, .int .i64 pg, .int .i64 wk, .int .i64 hd, .int .i64 sc], .agg o.cs] w fun e w' => e = .returned (.bool true) ∧ Below w.heap.size w w' := by
  obtain ⟨D0, hD0⟩ : ∃ D, w.alloc (.cells #[.int .i64 base, .int .i64 pg, .int .i64 wk, .int .i64 hd, .int .i64 sc] 34) = D := ⟨_, rfl⟩
  obtain ⟨D, hD⟩ : ∃ D, D0.alloc (.cells o.cs 42) = D := ⟨_, rfl⟩
  have s0 : D0.heap.size = w.heap.size + 1 := by rw [← hD0]; simp
  have b0 : Below w.heap.size w D0 := by rw [← hD0]; exact (Below.refl _ w).alloc (Nat.le_refl _) _
  have b1 : Below D0.heap.size D0 D := by rw [← hD]; exact (Below.refl _ D0).alloc (Nat.le_refl _) _
  have bb : Below w.heap.size w D := b0.trans (b1.mono b0.size)
  have r0 : D0.heap[w.heap.size]? = some (.cells #[.int .i64 base, .int .i64 pg, .int .i64 wk, .int .i64 hd, .int .i64 sc] 34 (0, 0)) := by rw [← hD0]; exact Go.heap_alloc_new w _
  have RO : Hid (D.heap[w.heap.size + 1]? = some (.cells o.cs 42 (0, 0))) := by show _ = _; rw [← hD, ← s0]; exact Go.heap_alloc_new D0 _
  have RC : Hid (D.heap[w.heap.size]? = some (.cells #[.int .i64 base, .int .i64 pg, .int .i64 wk, .int .i64 hd, .int .i64 sc] 34 (0, 0))) := by show _ = _; rw [b1.block _ (by omega)]; exact r0
  have TD : Hid (Tabs D) := hT.keep bb
  have PL : Hid (∀ w1, Below D.heap.size D w1 → Calls Tryz.prog 31 #[.pointer none, .agg o.cs] w1 fun e w' => ∃ r : Int, e = .returned (.agg #[.int .i64 r, .int .i64 0, .int .u64 0, .slice none 0 0]) ∧ (1 ≤ o.k ∧ o.k ≤ 8 → r = 1) ∧ Below w1.heap.size w1 w') := fun w1 h1 => by
    have h2 := bb.trans (h1.mono bb.size)
    exact play_nil o w1 lp lb (hp.keep h2) hpn hp0 hpl (hb.keep h2) hbn hbl
  have HD : Hid ((w.alloc (.cells #[.int .i64 base, .int .i64 pg, .int .i64 wk, .int .i64 hd, .int .i64 sc] 34)).alloc (.cells o.cs 42) = D) := by show _ = _; rw [hD0]; exact hD
  have BD0 : Hid (Below w.heap.size w D) := bb
  clear hp hpn hp0 hpl hb hbn hbl hD0 hD s0 b0 b1 bb r0 hT
  obtain ⟨k, owk, ox, oy, oat, on', oba, obn, obc, opa, opn, opc, oka, okn, okc⟩ := o
  simp only [Op15.cs] at HD RO PL hk ⊢
  obtain ⟨s, hs⟩ : ∃ s, w.heap.size = s := ⟨_, rfl⟩
  have HS : Hid (w.heap.size = s) := hs
  rw [hs] at RO RC
  clear hs
  go_enter Tryz.func11, Tryz.ntmps11
  go_upto_region 1 with (fail)
  rw [HD.out]
  try rw [HS.out]
  go_wp2_with fail
  refine (alive15_any _ TD.out).mono ?_
  rintro e wA ⟨rfl, bA⟩
  have BA : Hid (Below D.heap.size D wA) := bA
  have RO1 : Hid (wA.heap[s + 1]? = _) := (bA.block _ (hlt RO.out)).trans RO.out
  obtain ⟨o0, o1, o2, o3, o4, o5, o6, o7⟩ := nine15 RO1.out
  have o8 := cell_of_row _ _ 8 _ _ _ RO1.out
  clear bA
  go_wp2_with fail
  refine (PL.out wA BA.out).mono ?_
  rintro e wP ⟨r, rfl, hr, bP⟩
  have k1 : ¬ 1 ≤ k := by omega
  clear hr hk
  have BP : Hid (Below wA.heap.size wA wP) := bP
  clear bP o0 o1 o2 o3 o4 o5 o6 o7 o8
  obtain ⟨E1, hE1⟩ : ∃ E, wP.alloc (.cells #[.int .i64 r, .int .i64 0, .int .u64 0, .slice none 0 0] 75) = E := ⟨_, rfl⟩
  have HE1 : Hid (wP.alloc (.cells #[.int .i64 r, .int .i64 0, .int .u64 0, .slice none 0 0] 75) = E1) := hE1
  obtain ⟨s1, hs1⟩ : ∃ s1, wP.heap.size = s1 := ⟨_, rfl⟩
  have HS1 : Hid (wP.heap.size = s1) := hs1
  have BE1 : Hid (Below wP.heap.size wP E1) := by show Below _ _ _; rw [← hE1]; exact (Below.refl _ wP).alloc (Nat.le_refl _) _
  have RA : Hid (E1.heap[s1]? = some (.cells #[.int .i64 r, .int .i64 0, .int .u64 0, .slice none 0 0] 75 (0, 0))) := by show _ = _; rw [← hE1, ← hs1]; exact Go.heap_alloc_new wP _
  clear hE1 hs1
  go_upto_region 5 with (fail)
  rw [HE1.out]
  try rw [HS1.out]
  go_wp2_with fail
  refine (eview_nil _).mono ?_
  rintro e wV ⟨rfl, bV⟩
  have BV : Hid (Below E1.heap.size E1 wV) := bV
  obtain ⟨E2, hE2, rE2, bE2⟩ := zbox15 wV
  have HE2 : Hid _ := hE2
  obtain ⟨s2, hs2⟩ : ∃ s2, wV.heap.size = s2 := ⟨_, rfl⟩
  have HS2 : Hid (wV.heap.size = s2) := hs2
  rw [hs2] at rE2
  have BX : Hid (Below D.heap.size D E2) := BA.out.trans ((BP.out.trans ((BE1.out.trans ((bV.trans (bE2.mono bV.size)).mono BE1.out.size)).mono BP.out.size)).mono BA.out.size)
  have ra : E2.heap[s1]? = some (.cells #[.int .i64 r, .int .i64 0, .int .u64 0, .slice none 0 0] 75 (0, 0)) := ((bV.trans (bE2.mono bV.size)).block _ (hlt RA.out)).trans RA.out
  have ro := (BX.out.block _ (hlt RO.out)).trans RO.out
  have rc := (BX.out.block _ (hlt RC.out)).trans RC.out
  obtain ⟨o0, _, o2, _, _, _, _, _⟩ := nine15 ro
  obtain ⟨a0, a1, a2, a3⟩ := four15 ra
  obtain ⟨v0, v1, v2, v3, v4, v5⟩ := six rE2
  have RC2 : Hid _ := rc
  obtain ⟨c0, c1, c2, c3⟩ := cells15c rc
  have c4 := cell_of_row _ _ 4 _ _ _ rc
  have RV2 : Hid _ := rE2
  clear hE2 hs2 bV bE2 ra ro rc rE2
  go_upto_region 6 with (fail)
  rw [HE2.out]
  try rw [HS2.out]
  go_wp2_with fail
  refine (ekind_nil _ _).mono ?_
  rintro e wK ⟨rfl, rfl⟩
  have BM : Hid (Below D.heap.size D E2) := BX.out
  have RC3 : Hid (E2.heap[s]? = _) := RC2.out
  go_wp2_with fail
  refine (equal_nil _).mono ?_
  rintro e wE ⟨rfl, bE⟩
  have BE : Hid (Below D.heap.size D wE) := BM.out.trans (bE.mono BM.out.size)
  have rc := (bE.block _ (hlt RC3.out)).trans RC3.out
  have RC4 : Hid _ := rc
  clear v0 v1 v2 v3 v4 v5 c0 c1 c2 c3 c4 a0 a1 a2 a3 o0 o2
  obtain ⟨c0, c1, c2, c3⟩ := cells15c rc
  have c4 := cell_of_row _ _ 4 _ _ _ rc
  have BF : Hid (Below D.heap.size D wE) := BE.out
  clear bE rc
  have HN : Hid (¬ (1 ≤ pg ∧ pg ≤ 4096 ∧ mayE wk hd)) := hpg.2
  have p1 : ¬ 200 < pg := by omega
  have q2 : ¬ 4096 < pg := by omega
  clear hpg
  go_wp2_with fail
  refine (enew_arg _ base pg wk hd sc HN.out).mono ?_
  rintro e wN ⟨rfl, bN⟩
  have rc := (bN.block _ (hlt RC4.out)).trans RC4.out
  clear c0 c1 c2 c3 c4
  obtain ⟨c0, c1, c2, c3⟩ := cells15c rc
  have BF : Hid (Below D.heap.size D wN) := BE.out.trans (bN.mono BE.out.size)
  clear rc bN
  by_cases q1 : pg < 1
  · go_wp2
    go_ret
    exact ⟨rfl, by first | exact BD0.out.trans (BF.out.mono BD0.out.size) | (rw [← HS.out]; exact BD0.out.trans (BF.out.mono BD0.out.size))⟩
  by_cases q3 : wk < 1
  · go_wp2
    go_ret
    exact ⟨rfl, by first | exact BD0.out.trans (BF.out.mono BD0.out.size) | (rw [← HS.out]; exact BD0.out.trans (BF.out.mono BD0.out.size))⟩
  by_cases q4 : 8 < wk
  · go_wp2
    go_ret
    exact ⟨rfl, by first | exact BD0.out.trans (BF.out.mono BD0.out.size) | (rw [← HS.out]; exact BD0.out.trans (BF.out.mono BD0.out.size))⟩
  by_cases q5 : hd < 1
  · go_wp2
    go_ret
    exact ⟨rfl, by first | exact BD0.out.trans (BF.out.mono BD0.out.size) | (rw [← HS.out]; exact BD0.out.trans (BF.out.mono BD0.out.size))⟩
  have q6 : 4096 < hd := by
    have := HN.out
    unfold mayE at this
    omega
  go_wp2
  go_ret
  exact ⟨rfl, by first | exact BD0.out.trans (BF.out.mono BD0.out.size) | (rw [← HS.out]; exact BD0.out.trans (BF.out.mono BD0.out.size))⟩
set_option maxRecDepth 20000 in
set_option maxHeartbeats 8000000 in
theorem makes_bv (w : World) (hT : Tabs w) (base pg wk hd sc : Int) (o : Op15) (lp lb : List Int) (hp : IsI w o.pa lp) (hpn : o.pn = lp.length) (hp0 : o.pa = none → lp = [] ∧ o.pc = 0) (hpl : lp.length ≤ 17592186044416) (hb : IsB w o.ba lb) (hbn : o.bn = lb.length) (hbl : o.bn ≤ 140737488355328)
    (hk : 8 < o.k) (hpg : pg ≤ 200 ∧ ¬ (1 ≤ pg ∧ pg ≤ 4096 ∧ mayE wk hd)) :
    Calls Tryz.prog 11 #[.agg #[.int .i64 base, .int .i64 pg, .int .i64 wk, .int .i64 hd, .int .i64 sc], .agg o.cs] w fun e w' => e = .returned (.bool true) ∧ Below w.heap.size w w' := by
  obtain ⟨D0, hD0⟩ : ∃ D, w.alloc (.cells #[.int .i64 base, .int .i64 pg, .int .i64 wk, .int .i64 hd, .int .i64 sc] 34) = D := ⟨_, rfl⟩
  obtain ⟨D, hD⟩ : ∃ D, D0.alloc (.cells o.cs 42) = D := ⟨_, rfl⟩
  have s0 : D0.heap.size = w.heap.size + 1 := by rw [← hD0]; simp
  have b0 : Below w.heap.size w D0 := by rw [← hD0]; exact (Below.refl _ w).alloc (Nat.le_refl _) _
  have b1 : Below D0.heap.size D0 D := by rw [← hD]; exact (Below.refl _ D0).alloc (Nat.le_refl _) _
  have bb : Below w.heap.size w D := b0.trans (b1.mono b0.size)
  have r0 : D0.heap[w.heap.size]? = some (.cells #[.int .i64 base, .int .i64 pg, .int .i64 wk, .int .i64 hd, .int .i64 sc] 34 (0, 0)) := by rw [← hD0]; exact Go.heap_alloc_new w _
  have RO : Hid (D.heap[w.heap.size + 1]? = some (.cells o.cs 42 (0, 0))) := by show _ = _; rw [← hD, ← s0]; exact Go.heap_alloc_new D0 _
  have RC : Hid (D.heap[w.heap.size]? = some (.cells #[.int .i64 base, .int .i64 pg, .int .i64 wk, .int .i64 hd, .int .i64 sc] 34 (0, 0))) := by show _ = _; rw [b1.block _ (by omega)]; exact r0
  have TD : Hid (Tabs D) := hT.keep bb
  have PL : Hid (∀ w1, Below D.heap.size D w1 → Calls Tryz.prog 31 #[.pointer none, .agg o.cs] w1 fun e w' => ∃ r : Int, e = .returned (.agg #[.int .i64 r, .int .i64 0, .int .u64 0, .slice none 0 0]) ∧ (1 ≤ o.k ∧ o.k ≤ 8 → r = 1) ∧ Below w1.heap.size w1 w') := fun w1 h1 => by
    have h2 := bb.trans (h1.mono bb.size)
    exact play_nil o w1 lp lb (hp.keep h2) hpn hp0 hpl (hb.keep h2) hbn hbl
  have HD : Hid ((w.alloc (.cells #[.int .i64 base, .int .i64 pg, .int .i64 wk, .int .i64 hd, .int .i64 sc] 34)).alloc (.cells o.cs 42) = D) := by show _ = _; rw [hD0]; exact hD
  have BD0 : Hid (Below w.heap.size w D) := bb
  clear hp hpn hp0 hpl hb hbn hbl hD0 hD s0 b0 b1 bb r0 hT
  obtain ⟨k, owk, ox, oy, oat, on', oba, obn, obc, opa, opn, opc, oka, okn, okc⟩ := o
  simp only [Op15.cs] at HD RO PL hk ⊢
  obtain ⟨s, hs⟩ : ∃ s, w.heap.size = s := ⟨_, rfl⟩
  have HS : Hid (w.heap.size = s) := hs
  rw [hs] at RO RC
  clear hs
  go_enter Tryz.func11, Tryz.ntmps11
  go_upto_region 1 with (fail)
  rw [HD.out]
  try rw [HS.out]
  go_wp2_with fail
  refine (alive15_any _ TD.out).mono ?_
  rintro e wA ⟨rfl, bA⟩
  have BA : Hid (Below D.heap.size D wA) := bA
  have RO1 : Hid (wA.heap[s + 1]? = _) := (bA.block _ (hlt RO.out)).trans RO.out
  obtain ⟨o0, o1, o2, o3, o4, o5, o6, o7⟩ := nine15 RO1.out
  have o8 := cell_of_row _ _ 8 _ _ _ RO1.out
  clear bA
  go_wp2_with fail
  refine (PL.out wA BA.out).mono ?_
  rintro e wP ⟨r, rfl, hr, bP⟩
  have k1 : 1 ≤ k := by omega
  have k2 : ¬ k ≤ 8 := by omega
  clear hr hk
  have BP : Hid (Below wA.heap.size wA wP) := bP
  clear bP o0 o1 o2 o3 o4 o5 o6 o7 o8
  obtain ⟨E1, hE1⟩ : ∃ E, wP.alloc (.cells #[.int .i64 r, .int .i64 0, .int .u64 0, .slice none 0 0] 75) = E := ⟨_, rfl⟩
  have HE1 : Hid (wP.alloc (.cells #[.int .i64 r, .int .i64 0, .int .u64 0, .slice none 0 0] 75) = E1) := hE1
  obtain ⟨s1, hs1⟩ : ∃ s1, wP.heap.size = s1 := ⟨_, rfl⟩
  have HS1 : Hid (wP.heap.size = s1) := hs1
  have BE1 : Hid (Below wP.heap.size wP E1) := by show Below _ _ _; rw [← hE1]; exact (Below.refl _ wP).alloc (Nat.le_refl _) _
  have RA : Hid (E1.heap[s1]? = some (.cells #[.int .i64 r, .int .i64 0, .int .u64 0, .slice none 0 0] 75 (0, 0))) := by show _ = _; rw [← hE1, ← hs1]; exact Go.heap_alloc_new wP _
  clear hE1 hs1
  go_upto_region 5 with (fail)
  rw [HE1.out]
  try rw [HS1.out]
  go_wp2_with fail
  refine (eview_nil _).mono ?_
  rintro e wV ⟨rfl, bV⟩
  have BV : Hid (Below E1.heap.size E1 wV) := bV
  obtain ⟨E2, hE2, rE2, bE2⟩ := zbox15 wV
  have HE2 : Hid _ := hE2
  obtain ⟨s2, hs2⟩ : ∃ s2, wV.heap.size = s2 := ⟨_, rfl⟩
  have HS2 : Hid (wV.heap.size = s2) := hs2
  rw [hs2] at rE2
  have BX : Hid (Below D.heap.size D E2) := BA.out.trans ((BP.out.trans ((BE1.out.trans ((bV.trans (bE2.mono bV.size)).mono BE1.out.size)).mono BP.out.size)).mono BA.out.size)
  have ra : E2.heap[s1]? = some (.cells #[.int .i64 r, .int .i64 0, .int .u64 0, .slice none 0 0] 75 (0, 0)) := ((bV.trans (bE2.mono bV.size)).block _ (hlt RA.out)).trans RA.out
  have ro := (BX.out.block _ (hlt RO.out)).trans RO.out
  have rc := (BX.out.block _ (hlt RC.out)).trans RC.out
  obtain ⟨o0, _, o2, _, _, _, _, _⟩ := nine15 ro
  obtain ⟨a0, a1, a2, a3⟩ := four15 ra
  obtain ⟨v0, v1, v2, v3, v4, v5⟩ := six rE2
  have RC2 : Hid _ := rc
  obtain ⟨c0, c1, c2, c3⟩ := cells15c rc
  have c4 := cell_of_row _ _ 4 _ _ _ rc
  have RV2 : Hid _ := rE2
  clear hE2 hs2 bV bE2 ra ro rc rE2
  go_upto_region 6 with (fail)
  rw [HE2.out]
  try rw [HS2.out]
  go_wp2_with fail
  refine (ekind_nil _ _).mono ?_
  rintro e wK ⟨rfl, rfl⟩
  have BM : Hid (Below D.heap.size D E2) := BX.out
  have RC3 : Hid (E2.heap[s]? = _) := RC2.out
  go_wp2_with fail
  refine (equal_nil _).mono ?_
  rintro e wE ⟨rfl, bE⟩
  have BE : Hid (Below D.heap.size D wE) := BM.out.trans (bE.mono BM.out.size)
  have rc := (bE.block _ (hlt RC3.out)).trans RC3.out
  have RC4 : Hid _ := rc
  clear v0 v1 v2 v3 v4 v5 c0 c1 c2 c3 c4 a0 a1 a2 a3 o0 o2
  obtain ⟨c0, c1, c2, c3⟩ := cells15c rc
  have c4 := cell_of_row _ _ 4 _ _ _ rc
  have BF : Hid (Below D.heap.size D wE) := BE.out
  clear bE rc
  have HN : Hid (¬ (1 ≤ pg ∧ pg ≤ 4096 ∧ mayE wk hd)) := hpg.2
  have p1 : ¬ 200 < pg := by omega
  have q2 : ¬ 4096 < pg := by omega
  clear hpg
  go_wp2_with fail
  refine (enew_arg _ base pg wk hd sc HN.out).mono ?_
  rintro e wN ⟨rfl, bN⟩
  have rc := (bN.block _ (hlt RC4.out)).trans RC4.out
  clear c0 c1 c2 c3 c4
  obtain ⟨c0, c1, c2, c3⟩ := cells15c rc
  have BF : Hid (Below D.heap.size D wN) := BE.out.trans (bN.mono BE.out.size)
  clear rc bN
  by_cases q1 : pg < 1
  · go_wp2
    go_ret
    exact ⟨rfl, by first | exact BD0.out.trans (BF.out.mono BD0.out.size) | (rw [← HS.out]; exact BD0.out.trans (BF.out.mono BD0.out.size))⟩
  by_cases q3 : wk < 1
  · go_wp2
    go_ret
    exact ⟨rfl, by first | exact BD0.out.trans (BF.out.mono BD0.out.size) | (rw [← HS.out]; exact BD0.out.trans (BF.out.mono BD0.out.size))⟩
  by_cases q4 : 8 < wk
  · go_wp2
    go_ret
    exact ⟨rfl, by first | exact BD0.out.trans (BF.out.mono BD0.out.size) | (rw [← HS.out]; exact BD0.out.trans (BF.out.mono BD0.out.size))⟩
  by_cases q5 : hd < 1
  · go_wp2
    go_ret
    exact ⟨rfl, by first | exact BD0.out.trans (BF.out.mono BD0.out.size) | (rw [← HS.out]; exact BD0.out.trans (BF.out.mono BD0.out.size))⟩
  have q6 : 4096 < hd := by
    have := HN.out
    unfold mayE at this
    omega
  go_wp2
  go_ret
  exact ⟨rfl, by first | exact BD0.out.trans (BF.out.mono BD0.out.size) | (rw [← HS.out]; exact BD0.out.trans (BF.out.mono BD0.out.size))⟩
set_option maxRecDepth 20000 in
set_option maxHeartbeats 8000000 in
theorem makes_et (w : World) (hT : Tabs w) (base pg wk hd sc : Int) (o : Op15) (lp lb : List Int) (hp : IsI w o.pa lp) (hpn : o.pn = lp.length) (hp0 : o.pa = none → lp = [] ∧ o.pc = 0) (hpl : lp.length ≤ 17592186044416) (hb : IsB w o.ba lb) (hbn : o.bn = lb.length) (hbl : o.bn ≤ 140737488355328)
    (hk : 1 ≤ o.k ∧ o.k ≤ 8) (hpg : 4096 < pg) :
    Calls Tryz.prog 11 #[.agg #[.int .i64 base, .int .i64 pg, .int .i64 wk, .int .i64 hd, .int .i64 sc], .agg o.cs] w fun e w' => e = .returned (.bool true) ∧ Below w.heap.size w w' := by
  obtain ⟨D0, hD0⟩ : ∃ D, w.alloc (.cells #[.int .i64 base, .int .i64 pg, .int .i64 wk, .int .i64 hd, .int .i64 sc] 34) = D := ⟨_, rfl⟩
  obtain ⟨D, hD⟩ : ∃ D, D0.alloc (.cells o.cs 42) = D := ⟨_, rfl⟩
  have s0 : D0.heap.size = w.heap.size + 1 := by rw [← hD0]; simp
  have b0 : Below w.heap.size w D0 := by rw [← hD0]; exact (Below.refl _ w).alloc (Nat.le_refl _) _
  have b1 : Below D0.heap.size D0 D := by rw [← hD]; exact (Below.refl _ D0).alloc (Nat.le_refl _) _
  have bb : Below w.heap.size w D := b0.trans (b1.mono b0.size)
  have r0 : D0.heap[w.heap.size]? = some (.cells #[.int .i64 base, .int .i64 pg, .int .i64 wk, .int .i64 hd, .int .i64 sc] 34 (0, 0)) := by rw [← hD0]; exact Go.heap_alloc_new w _
  have RO : Hid (D.heap[w.heap.size + 1]? = some (.cells o.cs 42 (0, 0))) := by show _ = _; rw [← hD, ← s0]; exact Go.heap_alloc_new D0 _
  have RC : Hid (D.heap[w.heap.size]? = some (.cells #[.int .i64 base, .int .i64 pg, .int .i64 wk, .int .i64 hd, .int .i64 sc] 34 (0, 0))) := by show _ = _; rw [b1.block _ (by omega)]; exact r0
  have TD : Hid (Tabs D) := hT.keep bb
  have PL : Hid (∀ w1, Below D.heap.size D w1 → Calls Tryz.prog 31 #[.pointer none, .agg o.cs] w1 fun e w' => ∃ r : Int, e = .returned (.agg #[.int .i64 r, .int .i64 0, .int .u64 0, .slice none 0 0]) ∧ (1 ≤ o.k ∧ o.k ≤ 8 → r = 1) ∧ Below w1.heap.size w1 w') := fun w1 h1 => by
    have h2 := bb.trans (h1.mono bb.size)
    exact play_nil o w1 lp lb (hp.keep h2) hpn hp0 hpl (hb.keep h2) hbn hbl
  have HD : Hid ((w.alloc (.cells #[.int .i64 base, .int .i64 pg, .int .i64 wk, .int .i64 hd, .int .i64 sc] 34)).alloc (.cells o.cs 42) = D) := by show _ = _; rw [hD0]; exact hD
  have BD0 : Hid (Below w.heap.size w D) := bb
  clear hp hpn hp0 hpl hb hbn hbl hD0 hD s0 b0 b1 bb r0 hT
  obtain ⟨k, owk, ox, oy, oat, on', oba, obn, obc, opa, opn, opc, oka, okn, okc⟩ := o
  simp only [Op15.cs] at HD RO PL hk ⊢
  obtain ⟨s, hs⟩ : ∃ s, w.heap.size = s := ⟨_, rfl⟩
  have HS : Hid (w.heap.size = s) := hs
  rw [hs] at RO RC
  clear hs
  go_enter Tryz.func11, Tryz.ntmps11
  go_upto_region 1 with (fail)
  rw [HD.out]
  try rw [HS.out]
  go_wp2_with fail
  refine (alive15_any _ TD.out).mono ?_
  rintro e wA ⟨rfl, bA⟩
  have BA : Hid (Below D.heap.size D wA) := bA
  have RO1 : Hid (wA.heap[s + 1]? = _) := (bA.block _ (hlt RO.out)).trans RO.out
  obtain ⟨o0, o1, o2, o3, o4, o5, o6, o7⟩ := nine15 RO1.out
  have o8 := cell_of_row _ _ 8 _ _ _ RO1.out
  clear bA
  go_wp2_with fail
  refine (PL.out wA BA.out).mono ?_
  rintro e wP ⟨r, rfl, hr, bP⟩
  obtain rfl := hr hk
  have k1 : 1 ≤ k := hk.1
  have k2 : k ≤ 8 := hk.2
  clear hr hk
  have BP : Hid (Below wA.heap.size wA wP) := bP
  clear bP o0 o1 o2 o3 o4 o5 o6 o7 o8
  obtain ⟨E1, hE1⟩ : ∃ E, wP.alloc (.cells #[.int .i64 1, .int .i64 0, .int .u64 0, .slice none 0 0] 75) = E := ⟨_, rfl⟩
  have HE1 : Hid (wP.alloc (.cells #[.int .i64 1, .int .i64 0, .int .u64 0, .slice none 0 0] 75) = E1) := hE1
  obtain ⟨s1, hs1⟩ : ∃ s1, wP.heap.size = s1 := ⟨_, rfl⟩
  have HS1 : Hid (wP.heap.size = s1) := hs1
  have BE1 : Hid (Below wP.heap.size wP E1) := by show Below _ _ _; rw [← hE1]; exact (Below.refl _ wP).alloc (Nat.le_refl _) _
  have RA : Hid (E1.heap[s1]? = some (.cells #[.int .i64 1, .int .i64 0, .int .u64 0, .slice none 0 0] 75 (0, 0))) := by show _ = _; rw [← hE1, ← hs1]; exact Go.heap_alloc_new wP _
  clear hE1 hs1
  go_upto_region 5 with (fail)
  rw [HE1.out]
  try rw [HS1.out]
  go_wp2_with fail
  refine (eview_nil _).mono ?_
  rintro e wV ⟨rfl, bV⟩
  have BV : Hid (Below E1.heap.size E1 wV) := bV
  obtain ⟨E2, hE2, rE2, bE2⟩ := zbox15 wV
  have HE2 : Hid _ := hE2
  obtain ⟨s2, hs2⟩ : ∃ s2, wV.heap.size = s2 := ⟨_, rfl⟩
  have HS2 : Hid (wV.heap.size = s2) := hs2
  rw [hs2] at rE2
  have BX : Hid (Below D.heap.size D E2) := BA.out.trans ((BP.out.trans ((BE1.out.trans ((bV.trans (bE2.mono bV.size)).mono BE1.out.size)).mono BP.out.size)).mono BA.out.size)
  have ra : E2.heap[s1]? = some (.cells #[.int .i64 1, .int .i64 0, .int .u64 0, .slice none 0 0] 75 (0, 0)) := ((bV.trans (bE2.mono bV.size)).block _ (hlt RA.out)).trans RA.out
  have ro := (BX.out.block _ (hlt RO.out)).trans RO.out
  have rc := (BX.out.block _ (hlt RC.out)).trans RC.out
  obtain ⟨o0, _, o2, _, _, _, _, _⟩ := nine15 ro
  obtain ⟨a0, a1, a2, a3⟩ := four15 ra
  obtain ⟨v0, v1, v2, v3, v4, v5⟩ := six rE2
  have RC2 : Hid _ := rc
  obtain ⟨c0, c1, c2, c3⟩ := cells15c rc
  have c4 := cell_of_row _ _ 4 _ _ _ rc
  have RV2 : Hid _ := rE2
  clear hE2 hs2 bV bE2 ra ro rc rE2
  go_upto_region 6 with (fail)
  rw [HE2.out]
  try rw [HS2.out]
  go_wp2_with fail
  refine (ekind_nil _ _).mono ?_
  rintro e wK ⟨rfl, rfl⟩
  go_wp2_with fail
  refine (mans_true 1 0 0 none none 0 0 0 [] E2 rfl (IsB.nil _ _) (IsB.nil _ _)).mono ?_
  rintro e wM ⟨rfl, bM⟩
  have BM : Hid (Below D.heap.size D wM) := BX.out.trans (bM.mono BX.out.size)
  have RC3 : Hid (wM.heap[s]? = _) := (bM.block _ (hlt RC2.out)).trans RC2.out
  obtain ⟨x0, x1, x2, x3, x4, x5⟩ := six ((bM.block _ (hlt RV2.out)).trans RV2.out)
  clear bM v0 v1 v2 v3 v4 v5 c0 c1 c2 c3 c4 a0 a1 a2 a3 o0 o2
  go_wp2_with fail
  refine (equal_nil _).mono ?_
  rintro e wE ⟨rfl, bE⟩
  have BE : Hid (Below D.heap.size D wE) := BM.out.trans (bE.mono BM.out.size)
  have rc := (bE.block _ (hlt RC3.out)).trans RC3.out
  have RC4 : Hid _ := rc
  obtain ⟨c0, c1, c2, c3⟩ := cells15c rc
  have c4 := cell_of_row _ _ 4 _ _ _ rc
  have BF : Hid (Below D.heap.size D wE) := BE.out
  clear bE x0 x1 x2 x3 x4 x5 rc
  have HN : Hid (¬ (1 ≤ pg ∧ pg ≤ 4096 ∧ mayE wk hd)) := by show ¬ _; omega
  have p1 : 200 < pg := by omega
  have p2 : ¬ pg ≤ 4096 := by omega
  have q1 : ¬ pg < 1 := by omega
  have q2 : 4096 < pg := by omega
  clear hpg
  go_wp2_with fail
  refine (enew_arg _ base pg wk hd sc HN.out).mono ?_
  rintro e wN ⟨rfl, bN⟩
  have rc := (bN.block _ (hlt RC4.out)).trans RC4.out
  clear c0 c1 c2 c3 c4
  obtain ⟨c0, c1, c2, c3⟩ := cells15c rc
  have BF : Hid (Below D.heap.size D wN) := BE.out.trans (bN.mono BE.out.size)
  clear rc bN
  go_wp2
  go_ret
  exact ⟨rfl, by first | exact BD0.out.trans (BF.out.mono BD0.out.size) | (rw [← HS.out]; exact BD0.out.trans (BF.out.mono BD0.out.size))⟩
set_option maxRecDepth 20000 in
set_option maxHeartbeats 8000000 in
theorem makes_eu (w : World) (hT : Tabs w) (base pg wk hd sc : Int) (o : Op15) (lp lb : List Int) (hp : IsI w o.pa lp) (hpn : o.pn = lp.length) (hp0 : o.pa = none → lp = [] ∧ o.pc = 0) (hpl : lp.length ≤ 17592186044416) (hb : IsB w o.ba lb) (hbn : o.bn = lb.length) (hbl : o.bn ≤ 140737488355328)
    (hk : o.k < 1) (hpg : 4096 < pg) :
    Calls Tryz.prog 11 #[.agg #[.int .i64 base, .int .i64 pg, .int .i64 wk, .int .i64 hd, .int .i64 sc], .agg o.cs] w fun e w' => e = .returned (.bool true) ∧ Below w.heap.size w w' := by
  obtain ⟨D0, hD0⟩ : ∃ D, w.alloc (.cells #[.int .i64 base, .int .i64 pg, .int .i64 wk, .int .i64 hd, .int .i64 sc] 34) = D := ⟨_, rfl⟩
  obtain ⟨D, hD⟩ : ∃ D, D0.alloc (.cells o.cs 42) = D := ⟨_, rfl⟩
  have s0 : D0.heap.size = w.heap.size + 1 := by rw [← hD0]; simp
  have b0 : Below w.heap.size w D0 := by rw [← hD0]; exact (Below.refl _ w).alloc (Nat.le_refl _) _
  have b1 : Below D0.heap.size D0 D := by rw [← hD]; exact (Below.refl _ D0).alloc (Nat.le_refl _) _
  have bb : Below w.heap.size w D := b0.trans (b1.mono b0.size)
  have r0 : D0.heap[w.heap.size]? = some (.cells #[.int .i64 base, .int .i64 pg, .int .i64 wk, .int .i64 hd, .int .i64 sc] 34 (0, 0)) := by rw [← hD0]; exact Go.heap_alloc_new w _
  have RO : Hid (D.heap[w.heap.size + 1]? = some (.cells o.cs 42 (0, 0))) := by show _ = _; rw [← hD, ← s0]; exact Go.heap_alloc_new D0 _
  have RC : Hid (D.heap[w.heap.size]? = some (.cells #[.int .i64 base, .int .i64 pg, .int .i64 wk, .int .i64 hd, .int .i64 sc] 34 (0, 0))) := by show _ = _; rw [b1.block _ (by omega)]; exact r0
  have TD : Hid (Tabs D) := hT.keep bb
  have PL : Hid (∀ w1, Below D.heap.size D w1 → Calls Tryz.prog 31 #[.pointer none, .agg o.cs] w1 fun e w' => ∃ r : Int, e = .returned (.agg #[.int .i64 r, .int .i64 0, .int .u64 0, .slice none 0 0]) ∧ (1 ≤ o.k ∧ o.k ≤ 8 → r = 1) ∧ Below w1.heap.size w1 w') := fun w1 h1 => by
    have h2 := bb.trans (h1.mono bb.size)
    exact play_nil o w1 lp lb (hp.keep h2) hpn hp0 hpl (hb.keep h2) hbn hbl
  have HD : Hid ((w.alloc (.cells #[.int .i64 base, .int .i64 pg, .int .i64 wk, .int .i64 hd, .int .i64 sc] 34)).alloc (.cells o.cs 42) = D) := by show _ = _; rw [hD0]; exact hD
  have BD0 : Hid (Below w.heap.size w D) := bb
  clear hp hpn hp0 hpl hb hbn hbl hD0 hD s0 b0 b1 bb r0 hT
  obtain ⟨k, owk, ox, oy, oat, on', oba, obn, obc, opa, opn, opc, oka, okn, okc⟩ := o
  simp only [Op15.cs] at HD RO PL hk ⊢
  obtain ⟨s, hs⟩ : ∃ s, w.heap.size = s := ⟨_, rfl⟩
  have HS : Hid (w.heap.size = s) := hs
  rw [hs] at RO RC
  clear hs
  go_enter Tryz.func11, Tryz.ntmps11
  go_upto_region 1 with (fail)
  rw [HD.out]
  try rw [HS.out]
  go_wp2_with fail
  refine (alive15_any _ TD.out).mono ?_
  rintro e wA ⟨rfl, bA⟩
  have BA : Hid (Below D.heap.size D wA) := bA
  have RO1 : Hid (wA.heap[s + 1]? = _) := (bA.block _ (hlt RO.out)).trans RO.out
  obtain ⟨o0, o1, o2, o3, o4, o5, o6, o7⟩ := nine15 RO1.out
  have o8 := cell_of_row _ _ 8 _ _ _ RO1.out
  clear bA
  go_wp2_with fail
  refine (PL.out wA BA.out).mono ?_
  rintro e wP ⟨r, rfl, hr, bP⟩
  have k1 : ¬ 1 ≤ k := by omega
  clear hr hk
  have BP : Hid (Below wA.heap.size wA wP) := bP
  clear bP o0 o1 o2 o3 o4 o5 o6 o7 o8
  obtain ⟨E1, hE1⟩ : ∃ E, wP.alloc (.cells #[.int .i64 r, .int .i64 0, .int .u64 0, .slice none 0 0] 75) = E := ⟨_, rfl⟩
  have HE1 : Hid (wP.alloc (.cells #[.int .i64 r, .int .i64 0, .int .u64 0, .slice none 0 0] 75) = E1) := hE1
  obtain ⟨s1, hs1⟩ : ∃ s1, wP.heap.size = s1 := ⟨_, rfl⟩
  have HS1 : Hid (wP.heap.size = s1) := hs1
  have BE1 : Hid (Below wP.heap.size wP E1) := by show Below _ _ _; rw [← hE1]; exact (Below.refl _ wP).alloc (Nat.le_refl _) _
  have RA : Hid (E1.heap[s1]? = some (.cells #[.int .i64 r, .int .i64 0, .int .u64 0, .slice none 0 0] 75 (0, 0))) := by show _ = _; rw [← hE1, ← hs1]; exact Go.heap_alloc_new wP _
  clear hE1 hs1
  go_upto_region 5 with (fail)
  rw [HE1.out]
  try rw [HS1.out]
  go_wp2_with fail
  refine (eview_nil _).mono ?_
  rintro e wV ⟨rfl, bV⟩
  have BV : Hid (Below E1.heap.size E1 wV) := bV
  obtain ⟨E2, hE2, rE2, bE2⟩ := zbox15 wV
  have HE2 : Hid _ := hE2
  obtain ⟨s2, hs2⟩ : ∃ s2, wV.heap.size = s2 := ⟨_, rfl⟩
  have HS2 : Hid (wV.heap.size = s2) := hs2
  rw [hs2] at rE2
  have BX : Hid (Below D.heap.size D E2) := BA.out.trans ((BP.out.trans ((BE1.out.trans ((bV.trans (bE2.mono bV.size)).mono BE1.out.size)).mono BP.out.size)).mono BA.out.size)
  have ra : E2.heap[s1]? = some (.cells #[.int .i64 r, .int .i64 0, .int .u64 0, .slice none 0 0] 75 (0, 0)) := ((bV.trans (bE2.mono bV.size)).block _ (hlt RA.out)).trans RA.out
  have ro := (BX.out.block _ (hlt RO.out)).trans RO.out
  have rc := (BX.out.block _ (hlt RC.out)).trans RC.out
  obtain ⟨o0, _, o2, _, _, _, _, _⟩ := nine15 ro
  obtain ⟨a0, a1, a2, a3⟩ := four15 ra
  obtain ⟨v0, v1, v2, v3, v4, v5⟩ := six rE2
  have RC2 : Hid _ := rc
  obtain ⟨c0, c1, c2, c3⟩ := cells15c rc
  have c4 := cell_of_row _ _ 4 _ _ _ rc
  have RV2 : Hid _ := rE2
  clear hE2 hs2 bV bE2 ra ro rc rE2
  go_upto_region 6 with (fail)
  rw [HE2.out]
  try rw [HS2.out]
  go_wp2_with fail
  refine (ekind_nil _ _).mono ?_
  rintro e wK ⟨rfl, rfl⟩
  have BM : Hid (Below D.heap.size D E2) := BX.out
  have RC3 : Hid (E2.heap[s]? = _) := RC2.out
  go_wp2_with fail
  refine (equal_nil _).mono ?_
  rintro e wE ⟨rfl, bE⟩
  have BE : Hid (Below D.heap.size D wE) := BM.out.trans (bE.mono BM.out.size)
  have rc := (bE.block _ (hlt RC3.out)).trans RC3.out
  have RC4 : Hid _ := rc
  clear v0 v1 v2 v3 v4 v5 c0 c1 c2 c3 c4 a0 a1 a2 a3 o0 o2
  obtain ⟨c0, c1, c2, c3⟩ := cells15c rc
  have c4 := cell_of_row _ _ 4 _ _ _ rc
  have BF : Hid (Below D.heap.size D wE) := BE.out
  clear bE rc
  have HN : Hid (¬ (1 ≤ pg ∧ pg ≤ 4096 ∧ mayE wk hd)) := by show ¬ _; omega
  have p1 : 200 < pg := by omega
  have p2 : ¬ pg ≤ 4096 := by omega
  have q1 : ¬ pg < 1 := by omega
  have q2 : 4096 < pg := by omega
  clear hpg
  go_wp2_with fail
  refine (enew_arg _ base pg wk hd sc HN.out).mono ?_
  rintro e wN ⟨rfl, bN⟩
  have rc := (bN.block _ (hlt RC4.out)).trans RC4.out
  clear c0 c1 c2 c3 c4
  obtain ⟨c0, c1, c2, c3⟩ := cells15c rc
  have BF : Hid (Below D.heap.size D wN) := BE.out.trans (bN.mono BE.out.size)
  clear rc bN
  go_wp2
  go_ret
  exact ⟨rfl, by first | exact BD0.out.trans (BF.out.mono BD0.out.size) | (rw [← HS.out]; exact BD0.out.trans (BF.out.mono BD0.out.size))⟩
set_option maxRecDepth 20000 in
set_option maxHeartbeats 8000000 in
theorem makes_ev (w : World) (hT : Tabs w) (base pg wk hd sc : Int) (o : Op15) (lp lb : List Int) (hp : IsI w o.pa lp) (hpn : o.pn = lp.length) (hp0 : o.pa = none → lp = [] ∧ o.pc = 0) (hpl : lp.length ≤ 17592186044416) (hb : IsB w o.ba lb) (hbn : o.bn = lb.length) (hbl : o.bn ≤ 140737488355328)
    (hk : 8 < o.k) (hpg : 4096 < pg) :
    Calls Tryz.prog 11 #[.agg #[.int .i64 base, .int .i64 pg, .int .i64 wk, .int .i64 hd, .int .i64 sc], .agg o.cs] w fun e w' => e = .returned (.bool true) ∧ Below w.heap.size w w' := by
  obtain ⟨D0, hD0⟩ : ∃ D, w.alloc (.cells #[.int .i64 base, .int .i64 pg, .int .i64 wk, .int .i64 hd, .int .i64 sc] 34) = D := ⟨_, rfl⟩
  obtain ⟨D, hD⟩ : ∃ D, D0.alloc (.cells o.cs 42) = D := ⟨_, rfl⟩
  have s0 : D0.heap.size = w.heap.size + 1 := by rw [← hD0]; simp
  have b0 : Below w.heap.size w D0 := by rw [← hD0]; exact (Below.refl _ w).alloc (Nat.le_refl _) _
  have b1 : Below D0.heap.size D0 D := by rw [← hD]; exact (Below.refl _ D0).alloc (Nat.le_refl _) _
  have bb : Below w.heap.size w D := b0.trans (b1.mono b0.size)
  have r0 : D0.heap[w.heap.size]? = some (.cells #[.int .i64 base, .int .i64 pg, .int .i64 wk, .int .i64 hd, .int .i64 sc] 34 (0, 0)) := by rw [← hD0]; exact Go.heap_alloc_new w _
  have RO : Hid (D.heap[w.heap.size + 1]? = some (.cells o.cs 42 (0, 0))) := by show _ = _; rw [← hD, ← s0]; exact Go.heap_alloc_new D0 _
  have RC : Hid (D.heap[w.heap.size]? = some (.cells #[.int .i64 base, .int .i64 pg, .int .i64 wk, .int .i64 hd, .int .i64 sc] 34 (0, 0))) := by show _ = _; rw [b1.block _ (by omega)]; exact r0
  have TD : Hid (Tabs D) := hT.keep bb
  have PL : Hid (∀ w1, Below D.heap.size D w1 → Calls Tryz.prog 31 #[.pointer none, .agg o.cs] w1 fun e w' => ∃ r : Int, e = .returned (.agg #[.int .i64 r, .int .i64 0, .int .u64 0, .slice none 0 0]) ∧ (1 ≤ o.k ∧ o.k ≤ 8 → r = 1) ∧ Below w1.heap.size w1 w') := fun w1 h1 => by
    have h2 := bb.trans (h1.mono bb.size)
    exact play_nil o w1 lp lb (hp.keep h2) hpn hp0 hpl (hb.keep h2) hbn hbl
  have HD : Hid ((w.alloc (.cells #[.int .i64 base, .int .i64 pg, .int .i64 wk, .int .i64 hd, .int .i64 sc] 34)).alloc (.cells o.cs 42) = D) := by show _ = _; rw [hD0]; exact hD
  have BD0 : Hid (Below w.heap.size w D) := bb
  clear hp hpn hp0 hpl hb hbn hbl hD0 hD s0 b0 b1 bb r0 hT
  obtain ⟨k, owk, ox, oy, oat, on', oba, obn, obc, opa, opn, opc, oka, okn, okc⟩ := o
  simp only [Op15.cs] at HD RO PL hk ⊢
  obtain ⟨s, hs⟩ : ∃ s, w.heap.size = s := ⟨_, rfl⟩
  have HS : Hid (w.heap.size = s) := hs
  rw [hs] at RO RC
  clear hs
  go_enter Tryz.func11, Tryz.ntmps11
  go_upto_region 1 with (fail)
  rw [HD.out]
  try rw [HS.out]
  go_wp2_with fail
  refine (alive15_any _ TD.out).mono ?_
  rintro e wA ⟨rfl, bA⟩
  have BA : Hid (Below D.heap.size D wA) := bA
  have RO1 : Hid (wA.heap[s + 1]? = _) := (bA.block _ (hlt RO.out)).trans RO.out
  obtain ⟨o0, o1, o2, o3, o4, o5, o6, o7⟩ := nine15 RO1.out
  have o8 := cell_of_row _ _ 8 _ _ _ RO1.out
  clear bA
  go_wp2_with fail
  refine (PL.out wA BA.out).mono ?_
  rintro e wP ⟨r, rfl, hr, bP⟩
  have k1 : 1 ≤ k := by omega
  have k2 : ¬ k ≤ 8 := by omega
  clear hr hk
  have BP : Hid (Below wA.heap.size wA wP) := bP
  clear bP o0 o1 o2 o3 o4 o5 o6 o7 o8
  obtain ⟨E1, hE1⟩ : ∃ E, wP.alloc (.cells #[.int .i64 r, .int .i64 0, .int .u64 0, .slice none 0 0] 75) = E := ⟨_, rfl⟩
  have HE1 : Hid (wP.alloc (.cells #[.int .i64 r, .int .i64 0, .int .u64 0, .slice none 0 0] 75) = E1) := hE1
  obtain ⟨s1, hs1⟩ : ∃ s1, wP.heap.size = s1 := ⟨_, rfl⟩
  have HS1 : Hid (wP.heap.size = s1) := hs1
  have BE1 : Hid (Below wP.heap.size wP E1) := by show Below _ _ _; rw [← hE1]; exact (Below.refl _ wP).alloc (Nat.le_refl _) _
  have RA : Hid (E1.heap[s1]? = some (.cells #[.int .i64 r, .int .i64 0, .int .u64 0, .slice none 0 0] 75 (0, 0))) := by show _ = _; rw [← hE1, ← hs1]; exact Go.heap_alloc_new wP _
  clear hE1 hs1
  go_upto_region 5 with (fail)
  rw [HE1.out]
  try rw [HS1.out]
  go_wp2_with fail
  refine (eview_nil _).mono ?_
  rintro e wV ⟨rfl, bV⟩
  have BV : Hid (Below E1.heap.size E1 wV) := bV
  obtain ⟨E2, hE2, rE2, bE2⟩ := zbox15 wV
  have HE2 : Hid _ := hE2
  obtain ⟨s2, hs2⟩ : ∃ s2, wV.heap.size = s2 := ⟨_, rfl⟩
  have HS2 : Hid (wV.heap.size = s2) := hs2
  rw [hs2] at rE2
  have BX : Hid (Below D.heap.size D E2) := BA.out.trans ((BP.out.trans ((BE1.out.trans ((bV.trans (bE2.mono bV.size)).mono BE1.out.size)).mono BP.out.size)).mono BA.out.size)
  have ra : E2.heap[s1]? = some (.cells #[.int .i64 r, .int .i64 0, .int .u64 0, .slice none 0 0] 75 (0, 0)) := ((bV.trans (bE2.mono bV.size)).block _ (hlt RA.out)).trans RA.out
  have ro := (BX.out.block _ (hlt RO.out)).trans RO.out
  have rc := (BX.out.block _ (hlt RC.out)).trans RC.out
  obtain ⟨o0, _, o2, _, _, _, _, _⟩ := nine15 ro
  obtain ⟨a0, a1, a2, a3⟩ := four15 ra
  obtain ⟨v0, v1, v2, v3, v4, v5⟩ := six rE2
  have RC2 : Hid _ := rc
  obtain ⟨c0, c1, c2, c3⟩ := cells15c rc
  have c4 := cell_of_row _ _ 4 _ _ _ rc
  have RV2 : Hid _ := rE2
  clear hE2 hs2 bV bE2 ra ro rc rE2
  go_upto_region 6 with (fail)
  rw [HE2.out]
  try rw [HS2.out]
  go_wp2_with fail
  refine (ekind_nil _ _).mono ?_
  rintro e wK ⟨rfl, rfl⟩
  have BM : Hid (Below D.heap.size D E2) := BX.out
  have RC3 : Hid (E2.heap[s]? = _) := RC2.out
  go_wp2_with fail
  refine (equal_nil _).mono ?_
  rintro e wE ⟨rfl, bE⟩
  have BE : Hid (Below D.heap.size D wE) := BM.out.trans (bE.mono BM.out.size)
  have rc := (bE.block _ (hlt RC3.out)).trans RC3.out
  have RC4 : Hid _ := rc
  clear v0 v1 v2 v3 v4 v5 c0 c1 c2 c3 c4 a0 a1 a2 a3 o0 o2
  obtain ⟨c0, c1, c2, c3⟩ := cells15c rc
  have c4 := cell_of_row _ _ 4 _ _ _ rc
  have BF : Hid (Below D.heap.size D wE) := BE.out
  clear bE rc
  have HN : Hid (¬ (1 ≤ pg ∧ pg ≤ 4096 ∧ mayE wk hd)) := by show ¬ _; omega
  have p1 : 200 < pg := by omega
  have p2 : ¬ pg ≤ 4096 := by omega
  have q1 : ¬ pg < 1 := by omega
  have q2 : 4096 < pg := by omega
  clear hpg
  go_wp2_with fail
  refine (enew_arg _ base pg wk hd sc HN.out).mono ?_
  rintro e wN ⟨rfl, bN⟩
  have rc := (bN.block _ (hlt RC4.out)).trans RC4.out
  clear c0 c1 c2 c3 c4
  obtain ⟨c0, c1, c2, c3⟩ := cells15c rc
  have BF : Hid (Below D.heap.size D wN) := BE.out.trans (bN.mono BE.out.size)
  clear rc bN
  go_wp2
  go_ret
  exact ⟨rfl, by first | exact BD0.out.trans (BF.out.mono BD0.out.size) | (rw [← HS.out]; exact BD0.out.trans (BF.out.mono BD0.out.size))⟩
end Go.Proofs.YtgdjlopnhecmjaaGreatDoor
