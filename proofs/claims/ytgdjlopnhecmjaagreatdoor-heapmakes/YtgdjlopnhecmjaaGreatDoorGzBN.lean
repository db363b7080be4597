/- Layer 15: the walk of HeapMakes (mkebs.py writes this). -/
import Derived.Test.YtgdjlopnhecmjaaGreatDoorGzBM
namespace Go.Proofs.YtgdjlopnhecmjaaGreatDoor
open Go.RowKit
set_option linter.unusedVariables false
set_option maxRecDepth 4000

set_option maxRecDepth 20000 in
set_option maxHeartbeats 8000000 in
theorem makes_ct (w : World) (hT : Tabs w) (base pg wk hd sc : Int) (o : Op15) (lp lb : List Int) (hp : IsI w o.pa lp) (hpn : o.pn = lp.length) (hp0 : o.pa = none → lp = [] ∧ o.pc = 0) (hpl : lp.length ≤ 17592186044416) (hb : IsB w o.ba lb) (hbn : o.bn = lb.length) (hbl : o.bn ≤ 140737488355328)
    (hk : 1 ≤ o.k ∧ o.k ≤ 8) (hpg : 1 ≤ pg ∧ pg ≤ 200 ∧ mayE wk hd ∧ ¬ goodR base) :
    Calls Tryz.prog 11 #[.agg #[.int .i64 base, .int .i64 pg, .int .i64 wk, .int .i64 hd, .int .i64 sc], .agg o.cs] w fun e w' => e = .returned (.bool true) ∧ Below w.heap.size w w' := by
  obtain ⟨D0, hD0⟩ : ∃ D, w.alloc (.cells #[.int .i64 base, .int .i64 pg, .int .i64 wk, .int .i64 hd, .int .i64 sc] 34) = D := ⟨_, rfl⟩
  obtain ⟨D, hD⟩ : ∃ D, D0.alloc (.cells o.cs 42) = D := ⟨_, rfl⟩
  have s0 : D0.heap.size = w.heap.size + 1 := by rw [← hD0]; simp
  have b0 : Below w.heap.size w D0 := by rw [← hD0]; exact (Below.refl _ w).alloc (Nat.le_refl _) _
  have b1 : Below D0.heap.size D0 D := by rw [← hD]; exact (Below.refl _ D0).alloc (Nat.le_refl _) _
  have bb : Below w.heap.size w D := b0.trans (b1.mono b0.size)
  have r0 : D0.heap[w.heap.size]? = some (.cells #[.int .i64 base, .int .i64 pg, .int .i64 wk, .int .i64 hd, .int .i64 sc] 34 (0, 0)) := by rw [← hD0]; exact Go.heap_alloc_new w _
  have RO : Hid (D.heap[w.heap.size + 1]? = some (.cells o.cs 42 (0, 0))) := by show _ = _; rw [← hD, ← s0]; exact Go.heap_alloc_new D0 _
  have RC : Hid (D.heap[w.heap.size]? = some (.cells #[.int .i64 base, .int .i64 pg, .int .i64 wk, .int .i64 hd, .int .i64 sc] 34 (0, 0))) := by show _ = _; rw [b1.block _ (by omega)]; exact r0
  have TD : Hid (Tabs D) := hT.keep bb
  have PL : Hid (∀ w1, Below D.heap.size D w1 → Calls Tryz.prog 31 #[.pointer none, .agg o.cs] w1 fun e w' => ∃ r : Int, e = .returned (.agg #[.int .i64 r, .int .i64 0, .int .u64 0, .slice none 0 0]) ∧ (1 ≤ o.k ∧ o.k ≤ 8 → r = 1) ∧ Below w1.heap.size w1 w') := fun w1 h1 => by
    have h2 := bb.trans (h1.mono bb.size)
    exact play_nil o w1 lp lb (hp.keep h2) hpn hp0 hpl (hb.keep h2) hbn hbl
  have HD : Hid ((w.alloc (.cells #[.int .i64 base, .int .i64 pg, .int .i64 wk, .int .i64 hd, .int .i64 sc] 34)).alloc (.cells o.cs 42) = D) := by show _ = _; rw [hD0]; exact hD
  have BD0 : Hid (Below w.heap.size w D) := bb
  clear hp hpn hp0 hpl hb hbn hbl hD0 hD s0 b0 b1 bb r0 hT
  obtain ⟨k, owk, ox, oy, oat, on', oba, obn, obc, opa, opn, opc, oka, okn, okc⟩ := o
  simp only [Op15.cs] at HD RO PL hk ⊢
  obtain ⟨s, hs⟩ : ∃ s, w.heap.size = s := ⟨_, rfl⟩
  have HS : Hid (w.heap.size = s) := hs
  rw [hs] at RO RC
  clear hs
  go_enter Tryz.func11, Tryz.ntmps11
  go_upto_region 1 with (fail)
  rw [HD.out]
  try rw [HS.out]
  go_wp2_with fail
  refine (alive15_any _ TD.out).mono ?_
  rintro e wA ⟨rfl, bA⟩
  have BA : Hid (Below D.heap.size D wA) := bA
  have RO1 : Hid (wA.heap[s + 1]? = _) := (bA.block _ (hlt RO.out)).trans RO.out
  obtain ⟨o0, o1, o2, o3, o4, o5, o6, o7⟩ := nine15 RO1.out
  have o8 := cell_of_row _ _ 8 _ _ _ RO1.out
  clear bA
  go_wp2_with fail
  refine (PL.out wA BA.out).mono ?_
  rintro e wP ⟨r, rfl, hr, bP⟩
  obtain rfl := hr hk
  have k1 : 1 ≤ k := hk.1
  have k2 : k ≤ 8 := hk.2
  clear hr hk
  have BP : Hid (Below wA.heap.size wA wP) := bP
  clear bP o0 o1 o2 o3 o4 o5 o6 o7 o8
  obtain ⟨E1, hE1⟩ : ∃ E, wP.alloc (.cells #[.int .i64 1, .int .i64 0, .int .u64 0, .slice none 0 0] 75) = E := ⟨_, rfl⟩
  have HE1 : Hid (wP.alloc (.cells #[.int .i64 1, .int .i64 0, .int .u64 0, .slice none 0 0] 75) = E1) := hE1
  obtain ⟨s1, hs1⟩ : ∃ s1, wP.heap.size = s1 := ⟨_, rfl⟩
  have HS1 : Hid (wP.heap.size = s1) := hs1
  have BE1 : Hid (Below wP.heap.size wP E1) := by show Below _ _ _; rw [← hE1]; exact (Below.refl _ wP).alloc (Nat.le_refl _) _
  have RA : Hid (E1.heap[s1]? = some (.cells #[.int .i64 1, .int .i64 0, .int .u64 0, .slice none 0 0] 75 (0, 0))) := by show _ = _; rw [← hE1, ← hs1]; exact Go.heap_alloc_new wP _
  clear hE1 hs1
  go_upto_region 5 with (fail)
  rw [HE1.out]
  try rw [HS1.out]
  go_wp2_with fail
  refine (eview_nil _).mono ?_
  rintro e wV ⟨rfl, bV⟩
  have BV : Hid (Below E1.heap.size E1 wV) := bV
  obtain ⟨E2, hE2, rE2, bE2⟩ := zbox15 wV
  have HE2 : Hid _ := hE2
  obtain ⟨s2, hs2⟩ : ∃ s2, wV.heap.size = s2 := ⟨_, rfl⟩
  have HS2 : Hid (wV.heap.size = s2) := hs2
  rw [hs2] at rE2
  have BX : Hid (Below D.heap.size D E2) := BA.out.trans ((BP.out.trans ((BE1.out.trans ((bV.trans (bE2.mono bV.size)).mono BE1.out.size)).mono BP.out.size)).mono BA.out.size)
  have ra : E2.heap[s1]? = some (.cells #[.int .i64 1, .int .i64 0, .int .u64 0, .slice none 0 0] 75 (0, 0)) := ((bV.trans (bE2.mono bV.size)).block _ (hlt RA.out)).trans RA.out
  have ro := (BX.out.block _ (hlt RO.out)).trans RO.out
  have rc := (BX.out.block _ (hlt RC.out)).trans RC.out
  obtain ⟨o0, _, o2, _, _, _, _, _⟩ := nine15 ro
  obtain ⟨a0, a1, a2, a3⟩ := four15 ra
  obtain ⟨v0, v1, v2, v3, v4, v5⟩ := six rE2
  have RC2 : Hid _ := rc
  obtain ⟨c0, c1, c2, c3⟩ := cells15c rc
  have c4 := cell_of_row _ _ 4 _ _ _ rc
  have RV2 : Hid _ := rE2
  clear hE2 hs2 bV bE2 ra ro rc rE2
  go_upto_region 6 with (fail)
  rw [HE2.out]
  try rw [HS2.out]
  go_wp2_with fail
  refine (ekind_nil _ _).mono ?_
  rintro e wK ⟨rfl, rfl⟩
  go_wp2_with fail
  refine (mans_true 1 0 0 none none 0 0 0 [] E2 rfl (IsB.nil _ _) (IsB.nil _ _)).mono ?_
  rintro e wM ⟨rfl, bM⟩
  have BM : Hid (Below D.heap.size D wM) := BX.out.trans (bM.mono BX.out.size)
  have RC3 : Hid (wM.heap[s]? = _) := (bM.block _ (hlt RC2.out)).trans RC2.out
  obtain ⟨x0, x1, x2, x3, x4, x5⟩ := six ((bM.block _ (hlt RV2.out)).trans RV2.out)
  clear bM v0 v1 v2 v3 v4 v5 c0 c1 c2 c3 c4 a0 a1 a2 a3 o0 o2
  go_wp2_with fail
  refine (equal_nil _).mono ?_
  rintro e wE ⟨rfl, bE⟩
  have BE : Hid (Below D.heap.size D wE) := BM.out.trans (bE.mono BM.out.size)
  have rc := (bE.block _ (hlt RC3.out)).trans RC3.out
  have RC4 : Hid _ := rc
  obtain ⟨c0, c1, c2, c3⟩ := cells15c rc
  have c4 := cell_of_row _ _ 4 _ _ _ rc
  have BF : Hid (Below D.heap.size D wE) := BE.out
  clear bE x0 x1 x2 x3 x4 x5 rc
  have p1 : ¬ 200 < pg := by omega
  have q1 : ¬ pg < 1 := by omega
  have q2 : ¬ 4096 < pg := by omega
  have q3 : ¬ wk < 1 := by have := hpg.2.2.1; unfold mayE at this; omega
  have q4 : ¬ 8 < wk := by have := hpg.2.2.1; unfold mayE at this; omega
  have q5 : ¬ hd < 1 := by have := hpg.2.2.1; unfold mayE at this; omega
  have q6 : ¬ 4096 < hd := by have := hpg.2.2.1; unfold mayE at this; omega
  have HN : Hid ((1 ≤ pg ∧ pg ≤ 4096 ∧ mayE wk hd) ∧ ¬ goodR base) := ⟨⟨hpg.1, by omega, hpg.2.2.1⟩, hpg.2.2.2⟩
  clear hpg
  go_wp2_with fail
  refine (enew_addr _ base pg wk hd sc HN.out.1 HN.out.2).mono ?_
  rintro e wN ⟨rfl, bN⟩
  have rc := (bN.block _ (hlt RC4.out)).trans RC4.out
  clear c0 c1 c2 c3 c4
  obtain ⟨c0, c1, c2, c3⟩ := cells15c rc
  have BF : Hid (Below D.heap.size D wN) := BE.out.trans (bN.mono BE.out.size)
  clear rc bN
  by_cases a1 : base < 256
  · go_wp2
    go_ret
    exact ⟨rfl, by first | exact BD0.out.trans (BF.out.mono BD0.out.size) | (rw [← HS.out]; exact BD0.out.trans (BF.out.mono BD0.out.size))⟩
  by_cases a2 : 1099511627776 < base
  · go_wp2
    go_ret
    exact ⟨rfl, by first | exact BD0.out.trans (BF.out.mono BD0.out.size) | (rw [← HS.out]; exact BD0.out.trans (BF.out.mono BD0.out.size))⟩
  have n0 : 0 ≤ base := by omega
  have n2 : base ≤ 1099511627776 := by omega
  have a3 : ¬ base % 256 = 0 := by
    have := HN.out.2
    unfold goodR at this
    omega
  have a4 : (base % 256 != 0) = true := bne_iff_ne.2 a3
  go_wp2
  go_ret
  exact ⟨rfl, by first | exact BD0.out.trans (BF.out.mono BD0.out.size) | (rw [← HS.out]; exact BD0.out.trans (BF.out.mono BD0.out.size))⟩
set_option maxRecDepth 20000 in
set_option maxHeartbeats 8000000 in
theorem makes_cu (w : World) (hT : Tabs w) (base pg wk hd sc : Int) (o : Op15) (lp lb : List Int) (hp : IsI w o.pa lp) (hpn : o.pn = lp.length) (hp0 : o.pa = none → lp = [] ∧ o.pc = 0) (hpl : lp.length ≤ 17592186044416) (hb : IsB w o.ba lb) (hbn : o.bn = lb.length) (hbl : o.bn ≤ 140737488355328)
    (hk : o.k < 1) (hpg : 1 ≤ pg ∧ pg ≤ 200 ∧ mayE wk hd ∧ ¬ goodR base) :
    Calls Tryz.prog 11 #[.agg #[.int .i64 base, .int .i64 pg, .int .i64 wk, .int .i64 hd, .int .i64 sc], .agg o.cs] w fun e w' => e = .returned (.bool true) ∧ Below w.heap.size w w' := by
  obtain ⟨D0, hD0⟩ : ∃ D, w.alloc (.cells #[.int .i64 base, .int .i64 pg, .int .i64 wk, .int .i64 hd, .int .i64 sc] 34) = D := ⟨_, rfl⟩
  obtain ⟨D, hD⟩ : ∃ D, D0.alloc (.cells o.cs 42) = D := ⟨_, rfl⟩
  have s0 : D0.heap.size = w.heap.size + 1 := by rw [← hD0]; simp
  have b0 : Below w.heap.size w D0 := by rw [← hD0]; exact (Below.refl _ w).alloc (Nat.le_refl _) _
  have b1 : Below D0.heap.size D0 D := by rw [← hD]; exact (Below.refl _ D0).alloc (Nat.le_refl _) _
  have bb : Below w.heap.size w D := b0.trans (b1.mono b0.size)
  have r0 : D0.heap[w.heap.size]? = some (.cells #[.int .i64 base, .int .i64 pg, .int .i64 wk, .int .i64 hd, .int .i64 sc] 34 (0, 0)) := by rw [← hD0]; exact Go.heap_alloc_new w _
  have RO : Hid (D.heap[w.heap.size + 1]? = some (.cells o.cs 42 (0, 0))) := by show _ = _; rw [← hD, ← s0]; exact Go.heap_alloc_new D0 _
  have RC : Hid (D.heap[w.heap.size]? = some (.cells #[.int .i64 base, .int .i64 pg, .int .i64 wk, .int .i64 hd, .int .i64 sc] 34 (0, 0))) := by show _ = _; rw [b1.block _ (by omega)]; exact r0
  have TD : Hid (Tabs D) := hT.keep bb
  have PL : Hid (∀ w1, Below D.heap.size D w1 → Calls Tryz.prog 31 #[.pointer none, .agg o.cs] w1 fun e w' => ∃ r : Int, e = .returned (.agg #[.int .i64 r, .int .i64 0, .int .u64 0, .slice none 0 0]) ∧ (1 ≤ o.k ∧ o.k ≤ 8 → r = 1) ∧ Below w1.heap.size w1 w') := fun w1 h1 => by
    have h2 := bb.trans (h1.mono bb.size)
    exact play_nil o w1 lp lb (hp.keep h2) hpn hp0 hpl (hb.keep h2) hbn hbl
  have HD : Hid ((w.alloc (.cells #[.int .i64 base, .int .i64 pg, .int .i64 wk, .int .i64 hd, .int .i64 sc] 34)).alloc (.cells o.cs 42) = D) := by show _ = _; rw [hD0]; exact hD
  have BD0 : Hid (Below w.heap.size w D) := bb
  clear hp hpn hp0 hpl hb hbn hbl hD0 hD s0 b0 b1 bb r0 hT
  obtain ⟨k, owk, ox, oy, oat, on', oba, obn, obc, opa, opn, opc, oka, okn, okc⟩ := o
  simp only [Op15.cs] at HD RO PL hk ⊢
  obtain ⟨s, hs⟩ : ∃ s, w.heap.size = s := ⟨_, rfl⟩
  have HS : Hid (w.heap.size = s) := hs
  rw [hs] at RO RC
  clear hs
  go_enter Tryz.func11, Tryz.ntmps11
  go_upto_region 1 with (fail)
  rw [HD.out]
  try rw [HS.out]
  go_wp2_with fail
  refine (alive15_any _ TD.out).mono ?_
  rintro e wA ⟨rfl, bA⟩
  have BA : Hid (Below D.heap.size D wA) := bA
  have RO1 : Hid (wA.heap[s + 1]? = _) := (bA.block _ (hlt RO.out)).trans RO.out
  obtain ⟨o0, o1, o2, o3, o4, o5, o6, o7⟩ := nine15 RO1.out
  have o8 := cell_of_row _ _ 8 _ _ _ RO1.out
  clear bA
  go_wp2_with fail
  refine (PL.out wA BA.out).mono ?_
  rintro e wP ⟨r, rfl, hr, bP⟩
  have k1 : ¬ 1 ≤ k := by omega
  clear hr hk
  have BP : Hid (Below wA.heap.size wA wP) := bP
  clear bP o0 o1 o2 o3 o4 o5 o6 o7 o8
  obtain ⟨E1, hE1⟩ : ∃ E, wP.alloc (.cells #[.int .i64 r, .int .i64 0, .int .u64 0, .slice none 0 0] 75) = E := ⟨_, rfl⟩
  have HE1 : Hid (wP.alloc (.cells #[.int .i64 r, .int .i64 0, .int .u64 0, .slice none 0 0] 75) = E1) := hE1
  obtain ⟨s1, hs1⟩ : ∃ s1, wP.heap.size = s1 := ⟨_, rfl⟩
  have HS1 : Hid (wP.heap.size = s1) := hs1
  have BE1 : Hid (Below wP.heap.size wP E1) := by show Below _ _ _; rw [← hE1]; exact (Below.refl _ wP).alloc (Nat.le_refl _) _
  have RA : Hid (E1.heap[s1]? = some (.cells #[.int .i64 r, .int .i64 0, .int .u64 0, .slice none 0 0] 75 (0, 0))) := by show _ = _; rw [← hE1, ← hs1]; exact Go.heap_alloc_new wP _
  clear hE1 hs1
  go_upto_region 5 with (fail)
  rw [HE1.out]
  try rw [HS1.out]
  go_wp2_with fail
  refine (eview_nil _).mono ?_
  rintro e wV ⟨rfl, bV⟩
  have BV : Hid (Below E1.heap.size E1 wV) := bV
  obtain ⟨E2, hE2, rE2, bE2⟩ := zbox15 wV
  have HE2 : Hid _ := hE2
  obtain ⟨s2, hs2⟩ : ∃ s2, wV.heap.size = s2 := ⟨_, rfl⟩
  have HS2 : Hid (wV.heap.size = s2) := hs2
  rw [hs2] at rE2
  have BX : Hid (Below D.heap.size D E2) := BA.out.trans ((BP.out.trans ((BE1.out.trans ((bV.trans (bE2.mono bV.size)).mono BE1.out.size)).mono BP.out.size)).mono BA.out.size)
  have ra : E2.heap[s1]? = some (.cells #[.int .i64 r, .int .i64 0, .int .u64 0, .slice none 0 0] 75 (0, 0)) := ((bV.trans (bE2.mono bV.size)).block _ (hlt RA.out)).trans RA.out
  have ro := (BX.out.block _ (hlt RO.out)).trans RO.out
  have rc := (BX.out.block _ (hlt RC.out)).trans RC.out
  obtain ⟨o0, _, o2, _, _, _, _, _⟩ := nine15 ro
  obtain ⟨a0, a1, a2, a3⟩ := four15 ra
  obtain ⟨v0, v1, v2, v3, v4, v5⟩ := six rE2
  have RC2 : Hid _ := rc
  obtain ⟨c0, c1, c2, c3⟩ := cells15c rc
  have c4 := cell_of_row _ _ 4 _ _ _ rc
  have RV2 : Hid _ := rE2
  clear hE2 hs2 bV bE2 ra ro rc rE2
  go_upto_region 6 with (fail)
  rw [HE2.out]
  try rw [HS2.out]
  go_wp2_with fail
  refine (ekind_nil _ _).mono ?_
  rintro e wK ⟨rfl, rfl⟩
  have BM : Hid (Below D.heap.size D E2) := BX.out
  have RC3 : Hid (E2.heap[s]? = _) := RC2.out
  go_wp2_with fail
  refine (equal_nil _).mono ?_
  rintro e wE ⟨rfl, bE⟩
  have BE : Hid (Below D.heap.size D wE) := BM.out.trans (bE.mono BM.out.size)
  have rc := (bE.block _ (hlt RC3.out)).trans RC3.out
  have RC4 : Hid _ := rc
  clear v0 v1 v2 v3 v4 v5 c0 c1 c2 c3 c4 a0 a1 a2 a3 o0 o2
  obtain ⟨c0, c1, c2, c3⟩ := cells15c rc
  have c4 := cell_of_row _ _ 4 _ _ _ rc
  have BF : Hid (Below D.heap.size D wE) := BE.out
  clear bE rc
  have p1 : ¬ 200 < pg := by omega
  have q1 : ¬ pg < 1 := by omega
  have q2 : ¬ 4096 < pg := by omega
  have q3 : ¬ wk < 1 := by have := hpg.2.2.1; unfold mayE at this; omega
  have q4 : ¬ 8 < wk := by have := hpg.2.2.1; unfold mayE at this; omega
  have q5 : ¬ hd < 1 := by have := hpg.2.2.1; unfold mayE at this; omega
  have q6 : ¬ 4096 < hd := by have := hpg.2.2.1; unfold mayE at this; omega
  have HN : Hid ((1 ≤ pg ∧ pg ≤ 4096 ∧ mayE wk hd) ∧ ¬ goodR base) := ⟨⟨hpg.1, by omega, hpg.2.2.1⟩, hpg.2.2.2⟩
  clear hpg
  go_wp2_with fail
  refine (enew_addr _ base pg wk hd sc HN.out.1 HN.out.2).mono ?_
  rintro e wN ⟨rfl, bN⟩
  have rc := (bN.block _ (hlt RC4.out)).trans RC4.out
  clear c0 c1 c2 c3 c4
  obtain ⟨c0, c1, c2, c3⟩ := cells15c rc
  have BF : Hid (Below D.heap.size D wN) := BE.out.trans (bN.mono BE.out.size)
  clear rc bN
  by_cases a1 : base < 256
  · go_wp2
    go_ret
    exact ⟨rfl, by first | exact BD0.out.trans (BF.out.mono BD0.out.size) | (rw [← HS.out]; exact BD0.out.trans (BF.out.mono BD0.out.size))⟩
  by_cases a2 : 1099511627776 < base
  · go_wp2
    go_ret
    exact ⟨rfl, by first | exact BD0.out.trans (BF.out.mono BD0.out.size) | (rw [← HS.out]; exact BD0.out.trans (BF.out.mono BD0.out.size))⟩
  have n0 : 0 ≤ base := by omega
  have n2 : base ≤ 1099511627776 := by omega
  have a3 : ¬ base % 256 = 0 := by
    have := HN.out.2
    unfold goodR at this
    omega
  have a4 : (base % 256 != 0) = true := bne_iff_ne.2 a3
  go_wp2
  go_ret
  exact ⟨rfl, by first | exact BD0.out.trans (BF.out.mono BD0.out.size) | (rw [← HS.out]; exact BD0.out.trans (BF.out.mono BD0.out.size))⟩
set_option maxRecDepth 20000 in
set_option maxHeartbeats 8000000 in
theorem makes_cv (w : World) (hT : Tabs w) (base pg wk hd sc : Int) (o : Op15) (lp lb : List Int) (hp : IsI w o.pa lp) (hpn : o.pn = lp.length) (hp0 : o.pa = none → lp = [] ∧ o.pc = 0) (hpl : lp.length ≤ 17592186044416) (hb : IsB w o.ba lb) (hbn : o.bn = lb.length) (hbl : o.bn ≤ 140737488355328)
    (hk : 8 < o.k) (hpg : 1 ≤ pg ∧ pg ≤ 200 ∧ mayE wk hd ∧ ¬ goodR base) :
    Calls Tryz.prog 11 #[.agg #[.int .i64 base, .int .i64 pg, .int .i64 wk, .int .i64 hd, .int .i64 sc], .agg o.cs] w fun e w' => e = .returned (.bool true) ∧ Below w.heap.size w w' := by
  obtain ⟨D0, hD0⟩ : ∃ D, w.alloc (.cells #[.int .i64 base, .int .i64 pg, .int .i64 wk, .int .i64 hd, .int .i64 sc] 34) = D := ⟨_, rfl⟩
  obtain ⟨D, hD⟩ : ∃ D, D0.alloc (.cells o.cs 42) = D := ⟨_, rfl⟩
  have s0 : D0.heap.size = w.heap.size + 1 := by rw [← hD0]; simp
  have b0 : Below w.heap.size w D0 := by rw [← hD0]; exact (Below.refl _ w).alloc (Nat.le_refl _) _
  have b1 : Below D0.heap.size D0 D := by rw [← hD]; exact (Below.refl _ D0).alloc (Nat.le_refl _) _
  have bb : Below w.heap.size w D := b0.trans (b1.mono b0.size)
  have r0 : D0.heap[w.heap.size]? = some (.cells #[.int .i64 base, .int .i64 pg, .int .i64 wk, .int .i64 hd, .int .i64 sc] 34 (0, 0)) := by rw [← hD0]; exact Go.heap_alloc_new w _
  have RO : Hid (D.heap[w.heap.size + 1]? = some (.cells o.cs 42 (0, 0))) := by show _ = _; rw [← hD, ← s0]; exact Go.heap_alloc_new D0 _
  have RC : Hid (D.heap[w.heap.size]? = some (.cells #[.int .i64 base, .int .i64 pg, .int .i64 wk, .int .i64 hd, .int .i64 sc] 34 (0, 0))) := by show _ = _; rw [b1.block _ (by omega)]; exact r0
  have TD : Hid (Tabs D) := hT.keep bb
  have PL : Hid (∀ w1, Below D.heap.size D w1 → Calls Tryz.prog 31 #[.pointer none, .agg o.cs] w1 fun e w' => ∃ r : Int, e = .returned (.agg #[.int .i64 r, .int .i64 0, .int .u64 0, .slice none 0 0]) ∧ (1 ≤ o.k ∧ o.k ≤ 8 → r = 1) ∧ Below w1.heap.size w1 w') := fun w1 h1 => by
    have h2 := bb.trans (h1.mono bb.size)
    exact play_nil o w1 lp lb (hp.keep h2) hpn hp0 hpl (hb.keep h2) hbn hbl
  have HD : Hid ((w.alloc (.cells #[.int .i64 base, .int .i64 pg, .int .i64 wk, .int .i64 hd, .int .i64 sc] 34)).alloc (.cells o.cs 42) = D) := by show _ = _; rw [hD0]; exact hD
  have BD0 : Hid (Below w.heap.size w D) := bb
  clear hp hpn hp0 hpl hb hbn hbl hD0 hD s0 b0 b1 bb r0 hT
  obtain ⟨k, owk, ox, oy, oat, on', oba, obn, obc, opa, opn, opc, oka, okn, okc⟩ := o
  simp only [Op15.cs] at HD RO PL hk ⊢
  obtain ⟨s, hs⟩ : ∃ s, w.heap.size = s := ⟨_, rfl⟩
  have HS : Hid (w.heap.size = s) := hs
  rw [hs] at RO RC
  clear hs
  go_enter Tryz.func11, Tryz.ntmps11
  go_upto_region 1 with (fail)
  rw [HD.out]
  try rw [HS.out]
  go_wp2_with fail
  refine (alive15_any _ TD.out).mono ?_
  rintro e wA ⟨rfl, bA⟩
  have BA : Hid (Below D.heap.size D wA) := bA
  have RO1 : Hid (wA.heap[s + 1]? = _) := (bA.block _ (hlt RO.out)).trans RO.out
  obtain ⟨o0, o1, o2, o3, o4, o5, o6, o7⟩ := nine15 RO1.out
  have o8 := cell_of_row _ _ 8 _ _ _ RO1.out
  clear bA
  go_wp2_with fail
  refine (PL.out wA BA.out).mono ?_
  rintro e wP ⟨r, rfl, hr, bP⟩
  have k1 : 1 ≤ k := by omega
  have k2 : ¬ k ≤ 8 := by omega
  clear hr hk
  have BP : Hid (Below wA.heap.size wA wP) := bP
  clear bP o0 o1 o2 o3 o4 o5 o6 o7 o8
  obtain ⟨E1, hE1⟩ : ∃ E, wP.alloc (.cells #[.int .i64 r, .int .i64 0, .int .u64 0, .slice none 0 0] 75) = E := ⟨_, rfl⟩
  have HE1 : Hid (wP.alloc (.cells #[.int .i64 r, .int .i64 0, .int .u64 0, .slice none 0 0] 75) = E1) := hE1
  obtain ⟨s1, hs1⟩ : ∃ s1, wP.heap.size = s1 := ⟨_, rfl⟩
  have HS1 : Hid (wP.heap.size = s1) := hs1
  have BE1 : Hid (Below wP.heap.size wP E1) := by show Below _ _ _; rw [← hE1]; exact (Below.refl _ wP).alloc (Nat.le_refl _) _
  have RA : Hid (E1.heap[s1]? = some (.cells #[.int .i64 r, .int .i64 0, .int .u64 0, .slice none 0 0] 75 (0, 0))) := by show _ = _; rw [← hE1, ← hs1]; exact Go.heap_alloc_new wP _
  clear hE1 hs1
  go_upto_region 5 with (fail)
  rw [HE1.out]
  try rw [HS1.out]
  go_wp2_with fail
  refine (eview_nil _).mono ?_
  rintro e wV ⟨rfl, bV⟩
  have BV : Hid (Below E1.heap.size E1 wV) := bV
  obtain ⟨E2, hE2, rE2, bE2⟩ := zbox15 wV
  have HE2 : Hid _ := hE2
  obtain ⟨s2, hs2⟩ : ∃ s2, wV.heap.size = s2 := ⟨_, rfl⟩
  have HS2 : Hid (wV.heap.size = s2) := hs2
  rw [hs2] at rE2
  have BX : Hid (Below D.heap.size D E2) := BA.out.trans ((BP.out.trans ((BE1.out.trans ((bV.trans (bE2.mono bV.size)).mono BE1.out.size)).mono BP.out.size)).mono BA.out.size)
  have ra : E2.heap[s1]? = some (.cells #[.int .i64 r, .int .i64 0, .int .u64 0, .slice none 0 0] 75 (0, 0)) := ((bV.trans (bE2.mono bV.size)).block _ (hlt RA.out)).trans RA.out
  have ro := (BX.out.block _ (hlt RO.out)).trans RO.out
  have rc := (BX.out.block _ (hlt RC.out)).trans RC.out
  obtain ⟨o0, _, o2, _, _, _, _, _⟩ := nine15 ro
  obtain ⟨a0, a1, a2, a3⟩ := four15 ra
  obtain ⟨v0, v1, v2, v3, v4, v5⟩ := six rE2
  have RC2 : Hid _ := rc
  obtain ⟨c0, c1, c2, c3⟩ := cells15c rc
  have c4 := cell_of_row _ _ 4 _ _ _ rc
  have RV2 : Hid _ := rE2
  clear hE2 hs2 bV bE2 ra ro rc rE2
  go_upto_region 6 with (fail)
  rw [HE2.out]
  try rw [HS2.out]
  go_wp2_with fail
  refine (ekind_nil _ _).mono ?_
  rintro e wK ⟨rfl, rfl⟩
  have BM : Hid (Below D.heap.size D E2) := BX.out
  have RC3 : Hid (E2.heap[s]? = _) := RC2.out
  go_wp2_with fail
  refine (equal_nil _).mono ?_
  rintro e wE ⟨rfl, bE⟩
  have BE : Hid (Below D.heap.size D wE) := BM.out.trans (bE.mono BM.out.size)
  have rc := (bE.block _ (hlt RC3.out)).trans RC3.out
  have RC4 : Hid _ := rc
  clear v0 v1 v2 v3 v4 v5 c0 c1 c2 c3 c4 a0 a1 a2 a3 o0 o2
  obtain ⟨c0, c1, c2, c3⟩ := cells15c rc
  have c4 := cell_of_row _ _ 4 _ _ _ rc
  have BF : Hid (Below D.heap.size D wE) := BE.out
  clear bE rc
  have p1 : ¬ 200 < pg := by omega
  have q1 : ¬ pg < 1 := by omega
  have q2 : ¬ 4096 < pg := by omega
  have q3 : ¬ wk < 1 := by have := hpg.2.2.1; unfold mayE at this; omega
  have q4 : ¬ 8 < wk := by have := hpg.2.2.1; unfold mayE at this; omega
  have q5 : ¬ hd < 1 := by have := hpg.2.2.1; unfold mayE at this; omega
  have q6 : ¬ 4096 < hd := by have := hpg.2.2.1; unfold mayE at this; omega
  have HN : Hid ((1 ≤ pg ∧ pg ≤ 4096 ∧ mayE wk hd) ∧ ¬ goodR base) := ⟨⟨hpg.1, by omega, hpg.2.2.1⟩, hpg.2.2.2⟩
  clear hpg
  go_wp2_with fail
  refine (enew_addr _ base pg wk hd sc HN.out.1 HN.out.2).mono ?_
  rintro e wN ⟨rfl, bN⟩
  have rc := (bN.block _ (hlt RC4.out)).trans RC4.out
  clear c0 c1 c2 c3 c4
  obtain ⟨c0, c1, c2, c3⟩ := cells15c rc
  have BF : Hid (Below D.heap.size D wN) := BE.out.trans (bN.mono BE.out.size)
  clear rc bN
  by_cases a1 : base < 256
  · go_wp2
    go_ret
    exact ⟨rfl, by first | exact BD0.out.trans (BF.out.mono BD0.out.size) | (rw [← HS.out]; exact BD0.out.trans (BF.out.mono BD0.out.size))⟩
  by_cases a2 : 1099511627776 < base
  · go_wp2
    go_ret
    exact ⟨rfl, by first | exact BD0.out.trans (BF.out.mono BD0.out.size) | (rw [← HS.out]; exact BD0.out.trans (BF.out.mono BD0.out.size))⟩
  have n0 : 0 ≤ base := by omega
  have n2 : base ≤ 1099511627776 := by omega
  have a3 : ¬ base % 256 = 0 := by
    have := HN.out.2
    unfold goodR at this
    omega
  have a4 : (base % 256 != 0) = true := bne_iff_ne.2 a3
  go_wp2
  go_ret
  exact ⟨rfl, by first | exact BD0.out.trans (BF.out.mono BD0.out.size) | (rw [← HS.out]; exact BD0.out.trans (BF.out.mono BD0.out.size))⟩
end Go.Proofs.YtgdjlopnhecmjaaGreatDoor

/- Layer 15: the document's Check and Objects of a view without kinds, rows and spans. -/
namespace Go.Proofs.YtgdjlopnhecmjaaGreatDoor
open Go.RowKit
set_option linter.unusedVariables false
set_option maxRecDepth 4000

set_option maxRecDepth 20000 in
set_option maxHeartbeats 4000000 in
theorem racheck_none (base pg : Int) (bn : Nat) (ka ra sa ba : Option Addr) (kc rc sc bc : Nat) (w : World) (hp : 1 ≤ pg ∧ pg ≤ 4096) (hg : goodR base) (hb : (bn : Int) = 256 * pg) :
    Calls Tryz.prog 42 #[.agg #[.int .i64 base, .int .i64 pg, .slice ka 0 kc, .slice ra 0 rc, .slice sa 0 sc, .slice ba bn bc]] w fun e w' => e = .returned (.tuple #[.int .i64 0, .int .i64 0]) ∧ Below w.heap.size w w' := by
  obtain ⟨E, hE⟩ : ∃ E, w.alloc (.cells #[.int .i64 base, .int .i64 pg, .slice ka 0 kc, .slice ra 0 rc, .slice sa 0 sc, .slice ba bn bc] 54) = E := ⟨_, rfl⟩
  have rE : E.heap[w.heap.size]? = some (.cells #[.int .i64 base, .int .i64 pg, .slice ka 0 kc, .slice ra 0 rc, .slice sa 0 sc, .slice ba bn bc] 54 (0, 0)) := by rw [← hE]; exact Go.heap_alloc_new w _
  have BE : Hid (Below w.heap.size w E) := by show Below _ _ _; rw [← hE]; exact (Below.refl _ w).alloc (Nat.le_refl _) _
  have HE : Hid _ := hE
  obtain ⟨vb, hvb⟩ : ∃ vb, w.heap.size = vb := ⟨_, rfl⟩
  have HVB : Hid (w.heap.size = vb) := hvb
  rw [hvb] at rE
  obtain ⟨c0, c1, c2, c3, c4, c5⟩ := six rE
  have a1 : ¬ (pg < 1) := by omega
  have a2 : ¬ (4096 < pg) := by omega
  have a3 : decide (pg < 1) = false := by simp; omega
  have a4 : IntKind.i64.wrap (256 * pg) = 256 * pg := by rw [IntKind.wrap_i64]; omega
  have a5 : ((bn : Int) != 256 * pg) = false := by rw [bne_eq_false_iff_eq]; exact hb
  have HG : Hid (goodR base) := hg
  clear hE rE hvb hg hb
  go_enter Tryz.func42, Tryz.ntmps42
  go_upto_region 1 with (fail)
  (try rw [HE.out])
  (try rw [HVB.out])
  go_wp2_with (go_at_call 100; refine (rgood_of base true _ (by simp [HG.out])).mono ?_; rintro e w' ⟨rfl, rfl⟩)
  all_goals
    iterate 6
      refine wp_loop_rounds 1 ?_
      rw [rounds_succ]
      go_wp2_with fail
    go_ret2
    exact ⟨rfl, BE.out⟩
set_option maxRecDepth 20000 in
set_option maxHeartbeats 4000000 in
theorem raobjects_none (base pg : Int) (bn : Nat) (ka ra sa ba : Option Addr) (kc rc sc bc : Nat) (w : World) (hp : 1 ≤ pg ∧ pg ≤ 4096) (hg : goodR base) (hb : (bn : Int) = 256 * pg) :
    Calls Tryz.prog 35 #[.agg #[.int .i64 base, .int .i64 pg, .slice ka 0 kc, .slice ra 0 rc, .slice sa 0 sc, .slice ba bn bc]] w fun e w' => e = .returned (.slice none 0 0) ∧ Below w.heap.size w w' := by
  obtain ⟨E, hE⟩ : ∃ E, w.alloc (.cells #[.int .i64 base, .int .i64 pg, .slice ka 0 kc, .slice ra 0 rc, .slice sa 0 sc, .slice ba bn bc] 54) = E := ⟨_, rfl⟩
  have rE : E.heap[w.heap.size]? = some (.cells #[.int .i64 base, .int .i64 pg, .slice ka 0 kc, .slice ra 0 rc, .slice sa 0 sc, .slice ba bn bc] 54 (0, 0)) := by rw [← hE]; exact Go.heap_alloc_new w _
  have BE : Hid (Below w.heap.size w E) := by show Below _ _ _; rw [← hE]; exact (Below.refl _ w).alloc (Nat.le_refl _) _
  have HE : Hid _ := hE
  obtain ⟨vb, hvb⟩ : ∃ vb, w.heap.size = vb := ⟨_, rfl⟩
  have HVB : Hid (w.heap.size = vb) := hvb
  rw [hvb] at rE
  have RE : Hid _ := rE
  obtain ⟨c0, c1, c2, c3, c4, c5⟩ := six rE
  clear hE rE hvb
  go_enter Tryz.func35, Tryz.ntmps35
  go_wp2_with fail
  (try rw [HE.out])
  (try rw [HVB.out])
  refine (racheck_none base pg bn ka ra sa ba kc rc sc bc E hp hg hb).mono ?_
  rintro e w3 ⟨rfl, b3⟩
  have B3 : Hid (Below E.heap.size E w3) := b3
  clear c0 c1 c2 c3 c4 c5 b3
  obtain ⟨c0, c1, c2, c3, c4, c5⟩ := six ((B3.out.block _ (hlt RE.out)).trans RE.out)
  go_wp2_with fail
  refine wp_loop_rounds 1 ?_
  rw [rounds_succ]
  go_wp2_with fail
  go_ret
  exact ⟨rfl, BE.out.trans (B3.out.mono BE.out.size)⟩
end Go.Proofs.YtgdjlopnhecmjaaGreatDoor
