/- Layer 15: the walk of HeapMakes (mkebs.py writes this). -/
import Derived.Test.YtgdjlopnhecmjaaGreatDoorGzBN
import Derived.Test.YtgdjlopnhecmjaaGreatDoorEbT
import Derived.Test.YtgdjlopnhecmjaaGreatDoorGzBO
namespace Go.Proofs.YtgdjlopnhecmjaaGreatDoor
open Go.RowKit
set_option linter.unusedVariables false
set_option maxRecDepth 4000

set_option maxRecDepth 20000 in
set_option maxHeartbeats 8000000 in
theorem makes_dv (w : World) (hT : Tabs w) (base pg wk hd sc : Int) (o : Op15) (lp lb : List Int) (hp : IsI w o.pa lp) (hpn : o.pn = lp.length) (hp0 : o.pa = none → lp = [] ∧ o.pc = 0) (hpl : lp.length ≤ 17592186044416) (hb : IsB w o.ba lb) (hbn : o.bn = lb.length) (hbl : o.bn ≤ 140737488355328)
    (hk : 8 < o.k) (hpg : 1 ≤ pg ∧ pg ≤ 200 ∧ mayE wk hd ∧ goodR base) :
    Calls Tryz.prog 11 #[.agg #[.int .i64 base, .int .i64 pg, .int .i64 wk, .int .i64 hd, .int .i64 sc], .agg o.cs] w fun e w' => e = .returned (.bool true) ∧ Below w.heap.size w w' := by
  obtain ⟨D0, hD0⟩ : ∃ D, w.alloc (.cells #[.int .i64 base, .int .i64 pg, .int .i64 wk, .int .i64 hd, .int .i64 sc] 34) = D := ⟨_, rfl⟩
  obtain ⟨D, hD⟩ : ∃ D, D0.alloc (.cells o.cs 42) = D := ⟨_, rfl⟩
  have s0 : D0.heap.size = w.heap.size + 1 := by rw [← hD0]; simp
  have b0 : Below w.heap.size w D0 := by rw [← hD0]; exact (Below.refl _ w).alloc (Nat.le_refl _) _
  have b1 : Below D0.heap.size D0 D := by rw [← hD]; exact (Below.refl _ D0).alloc (Nat.le_refl _) _
  have bb : Below w.heap.size w D := b0.trans (b1.mono b0.size)
  have r0 : D0.heap[w.heap.size]? = some (.cells #[.int .i64 base, .int .i64 pg, .int .i64 wk, .int .i64 hd, .int .i64 sc] 34 (0, 0)) := by rw [← hD0]; exact Go.heap_alloc_new w _
  have RO : Hid (D.heap[w.heap.size + 1]? = some (.cells o.cs 42 (0, 0))) := by show _ = _; rw [← hD, ← s0]; exact Go.heap_alloc_new D0 _
  have RC : Hid (D.heap[w.heap.size]? = some (.cells #[.int .i64 base, .int .i64 pg, .int .i64 wk, .int .i64 hd, .int .i64 sc] 34 (0, 0))) := by show _ = _; rw [b1.block _ (by omega)]; exact r0
  have TD : Hid (Tabs D) := hT.keep bb
  have PL : Hid (∀ w1, Below D.heap.size D w1 → Calls Tryz.prog 31 #[.pointer none, .agg o.cs] w1 fun e w' => ∃ r : Int, e = .returned (.agg #[.int .i64 r, .int .i64 0, .int .u64 0, .slice none 0 0]) ∧ (1 ≤ o.k ∧ o.k ≤ 8 → r = 1) ∧ Below w1.heap.size w1 w') := fun w1 h1 => by
    have h2 := bb.trans (h1.mono bb.size)
    exact play_nil o w1 lp lb (hp.keep h2) hpn hp0 hpl (hb.keep h2) hbn hbl
  have HD : Hid ((w.alloc (.cells #[.int .i64 base, .int .i64 pg, .int .i64 wk, .int .i64 hd, .int .i64 sc] 34)).alloc (.cells o.cs 42) = D) := by show _ = _; rw [hD0]; exact hD
  have BD0 : Hid (Below w.heap.size w D) := bb
  clear hp hpn hp0 hpl hb hbn hbl hD0 hD s0 b0 b1 bb r0 hT
  obtain ⟨k, owk, ox, oy, oat, on', oba, obn, obc, opa, opn, opc, oka, okn, okc⟩ := o
  simp only [Op15.cs] at HD RO PL hk ⊢
  obtain ⟨s, hs⟩ : ∃ s, w.heap.size = s := ⟨_, rfl⟩
  have HS : Hid (w.heap.size = s) := hs
  rw [hs] at RO RC
  clear hs
  go_enter Tryz.func11, Tryz.ntmps11
  go_upto_region 1 with (fail)
  rw [HD.out]
  try rw [HS.out]
  go_wp2_with fail
  refine (alive15_any _ TD.out).mono ?_
  rintro e wA ⟨rfl, bA⟩
  have BA : Hid (Below D.heap.size D wA) := bA
  have RO1 : Hid (wA.heap[s + 1]? = _) := (bA.block _ (hlt RO.out)).trans RO.out
  obtain ⟨o0, o1, o2, o3, o4, o5, o6, o7⟩ := nine15 RO1.out
  have o8 := cell_of_row _ _ 8 _ _ _ RO1.out
  clear bA
  go_wp2_with fail
  refine (PL.out wA BA.out).mono ?_
  rintro e wP ⟨r, rfl, hr, bP⟩
  have k1 : 1 ≤ k := by omega
  have k2 : ¬ k ≤ 8 := by omega
  clear hr hk
  have BP : Hid (Below wA.heap.size wA wP) := bP
  clear bP o0 o1 o2 o3 o4 o5 o6 o7 o8
  obtain ⟨E1, hE1⟩ : ∃ E, wP.alloc (.cells #[.int .i64 r, .int .i64 0, .int .u64 0, .slice none 0 0] 75) = E := ⟨_, rfl⟩
  have HE1 : Hid (wP.alloc (.cells #[.int .i64 r, .int .i64 0, .int .u64 0, .slice none 0 0] 75) = E1) := hE1
  obtain ⟨s1, hs1⟩ : ∃ s1, wP.heap.size = s1 := ⟨_, rfl⟩
  have HS1 : Hid (wP.heap.size = s1) := hs1
  have BE1 : Hid (Below wP.heap.size wP E1) := by show Below _ _ _; rw [← hE1]; exact (Below.refl _ wP).alloc (Nat.le_refl _) _
  have RA : Hid (E1.heap[s1]? = some (.cells #[.int .i64 r, .int .i64 0, .int .u64 0, .slice none 0 0] 75 (0, 0))) := by show _ = _; rw [← hE1, ← hs1]; exact Go.heap_alloc_new wP _
  clear hE1 hs1
  go_upto_region 5 with (fail)
  rw [HE1.out]
  try rw [HS1.out]
  go_wp2_with fail
  refine (eview_nil _).mono ?_
  rintro e wV ⟨rfl, bV⟩
  have BV : Hid (Below E1.heap.size E1 wV) := bV
  obtain ⟨E2, hE2, rE2, bE2⟩ := zbox15 wV
  have HE2 : Hid _ := hE2
  obtain ⟨s2, hs2⟩ : ∃ s2, wV.heap.size = s2 := ⟨_, rfl⟩
  have HS2 : Hid (wV.heap.size = s2) := hs2
  rw [hs2] at rE2
  have BX : Hid (Below D.heap.size D E2) := BA.out.trans ((BP.out.trans ((BE1.out.trans ((bV.trans (bE2.mono bV.size)).mono BE1.out.size)).mono BP.out.size)).mono BA.out.size)
  have ra : E2.heap[s1]? = some (.cells #[.int .i64 r, .int .i64 0, .int .u64 0, .slice none 0 0] 75 (0, 0)) := ((bV.trans (bE2.mono bV.size)).block _ (hlt RA.out)).trans RA.out
  have ro := (BX.out.block _ (hlt RO.out)).trans RO.out
  have rc := (BX.out.block _ (hlt RC.out)).trans RC.out
  obtain ⟨o0, _, o2, _, _, _, _, _⟩ := nine15 ro
  obtain ⟨a0, a1, a2, a3⟩ := four15 ra
  obtain ⟨v0, v1, v2, v3, v4, v5⟩ := six rE2
  have RC2 : Hid _ := rc
  obtain ⟨c0, c1, c2, c3⟩ := cells15c rc
  have c4 := cell_of_row _ _ 4 _ _ _ rc
  have RV2 : Hid _ := rE2
  clear hE2 hs2 bV bE2 ra ro rc rE2
  go_upto_region 6 with (fail)
  rw [HE2.out]
  try rw [HS2.out]
  go_wp2_with fail
  refine (ekind_nil _ _).mono ?_
  rintro e wK ⟨rfl, rfl⟩
  have BM : Hid (Below D.heap.size D E2) := BX.out
  have RC3 : Hid (E2.heap[s]? = _) := RC2.out
  go_wp2_with fail
  refine (equal_nil _).mono ?_
  rintro e wE ⟨rfl, bE⟩
  have BE : Hid (Below D.heap.size D wE) := BM.out.trans (bE.mono BM.out.size)
  have rc := (bE.block _ (hlt RC3.out)).trans RC3.out
  have RC4 : Hid _ := rc
  clear v0 v1 v2 v3 v4 v5 c0 c1 c2 c3 c4 a0 a1 a2 a3 o0 o2
  obtain ⟨c0, c1, c2, c3⟩ := cells15c rc
  have c4 := cell_of_row _ _ 4 _ _ _ rc
  have BF : Hid (Below D.heap.size D wE) := BE.out
  clear bE rc
  have p1 : ¬ 200 < pg := by omega
  have q1 : ¬ pg < 1 := by omega
  have q2 : ¬ 4096 < pg := by omega
  have q3 : ¬ wk < 1 := by have := hpg.2.2.1; unfold mayE at this; omega
  have q4 : ¬ 8 < wk := by have := hpg.2.2.1; unfold mayE at this; omega
  have q5 : ¬ hd < 1 := by have := hpg.2.2.1; unfold mayE at this; omega
  have q6 : ¬ 4096 < hd := by have := hpg.2.2.1; unfold mayE at this; omega
  obtain ⟨P, rfl⟩ : ∃ P : Nat, pg = P := ⟨pg.toNat, by omega⟩
  have hmm := hpg.2.2.1
  unfold mayE at hmm
  obtain ⟨W, rfl⟩ : ∃ W : Nat, wk = W := ⟨wk.toNat, by omega⟩
  obtain ⟨N, rfl⟩ : ∃ N : Nat, hd = N := ⟨hd.toNat, by omega⟩
  have HGB : Hid (goodR base) := hpg.2.2.2
  have HGC : 256 ≤ base ∧ base ≤ 1099511627776 ∧ base % 256 = 0 := by have := HGB.out; unfold goodR at this; exact this
  have g1 : ¬ base < 256 := by omega
  have g2 : ¬ 1099511627776 < base := by omega
  have n0 : 0 ≤ base := by omega
  have n2 : base ≤ 1099511627776 := by omega
  have g4 : (base % 256 != 0) = false := by rw [bne_eq_false_iff_eq]; exact HGC.2.2
  have PB : Hid (1 ≤ P ∧ P ≤ 4096) := by show _ ∧ _; omega
  have PB2 : Hid (P ≤ 200) := by show _ ≤ _; omega
  have WB : Hid (1 ≤ W ∧ W ≤ 8) := by show _ ∧ _; omega
  have NB : Hid (1 ≤ N ∧ N ≤ 4096) := by show _ ∧ _; omega
  have wq : IntKind.i64.wrap ((P : Int) * 256) = (P : Int) * 256 := by rw [IntKind.wrap_i64]; omega
  clear hpg hmm HGC
  go_wp2_with fail
  refine (enew_ok _ (TD.out.keep BE.out) base sc P W N PB.out WB.out NB.out HGB.out).mono ?_
  rintro e wN ⟨e2, rfl, Λ, hb, pa, pk, pc, pn, mb, he, hx, bN, _, _⟩
  cases he
  have HX : Hid (Ehx wN Λ hb pa pk pc pn mb 0 W base (List.replicate (P * 256) 0) [] P [] N [] (fun _ => none)) := hx
  have RC5 : Hid (wN.heap[s]? = _) := (bN.block _ (hlt RC4.out)).trans RC4.out
  have rc := RC5.out
  clear c0 c1 c2 c3 c4 hx
  obtain ⟨c0, c1, c2, c3⟩ := cells15c rc
  have c4 := cell_of_row _ _ 4 _ _ _ rc
  have BFN : Hid (Below D.heap.size D wN) := BE.out.trans (bN.mono BE.out.size)
  clear rc bN
  go_wp2_with fail
  refine (eview_any HX.out ⟨PB.out.1, PB.out.2, WB.out.1, WB.out.2, by first | trivial | simp [Fit]⟩ (P : Int) (by rw [List.length_replicate]; omega)).mono ?_
  rintro e wW ⟨⟨ka, ra, sa, ba, kn, rn, sn, bn, kc, rc, sc2, bc⟩, rfl, vt, bW⟩
  obtain rfl : kn = 0 := vt.kn.symm
  obtain rfl : rn = 0 := vt.rn.symm
  obtain rfl : sn = 0 := vt.sn.symm
  obtain rfl : bn = P * 256 := by have := vt.bn; simpa using this.symm
  obtain ⟨E7, hE7⟩ : ∃ E7, wW.alloc (.cells #[.int .i64 base, .int .i64 (P : Nat), .slice ka 0 kc, .slice ra 0 rc, .slice sa 0 sc2, .slice ba (P * 256) bc] 54) = E7 := ⟨_, rfl⟩
  have rE7 : E7.heap[wW.heap.size]? = some (.cells #[.int .i64 base, .int .i64 (P : Nat), .slice ka 0 kc, .slice ra 0 rc, .slice sa 0 sc2, .slice ba (P * 256) bc] 54 (0, 0)) := by rw [← hE7]; exact Go.heap_alloc_new wW _
  have bE7 : Below wN.heap.size wN E7 := bW.trans (by rw [← hE7]; exact (Below.refl _ wW).alloc bW.size _)
  have HE7 : Hid _ := hE7
  have BF7 : Hid (Below D.heap.size D E7) := BFN.out.trans (bE7.mono BFN.out.size)
  obtain ⟨s7, hs7⟩ : ∃ s7, wW.heap.size = s7 := ⟨_, rfl⟩
  have HS7 : Hid (wW.heap.size = s7) := hs7
  rw [hs7] at rE7
  have RE7 : Hid _ := rE7
  have rc7 := (bE7.block _ (hlt RC5.out)).trans RC5.out
  have RC7 : Hid _ := rc7
  clear c0 c1 c2 c3 c4 hE7 hs7 vt bW bE7 HX
  obtain ⟨c0, c1, c2, c3⟩ := cells15c rc7
  obtain ⟨v0, v1, v2, v3, v4, v5⟩ := six rE7
  clear rc7 rE7
  have KEEP : Hid (∀ X : World, Below E7.heap.size E7 X → (X.cell? ⟨s, 0, none⟩ = some (.int .i64 base) ∧ X.cell? ⟨s, 1, none⟩ = some (.int .i64 (P : Nat))) ∧ (X.cell? ⟨s7, 0, none⟩ = some (.int .i64 base) ∧ X.cell? ⟨s7, 1, none⟩ = some (.int .i64 (P : Nat)) ∧ X.cell? ⟨s7, 2, none⟩ = some (.slice ka 0 kc) ∧ X.cell? ⟨s7, 3, none⟩ = some (.slice ra 0 rc) ∧ X.cell? ⟨s7, 4, none⟩ = some (.slice sa 0 sc2) ∧ X.cell? ⟨s7, 5, none⟩ = some (.slice ba (P * 256) bc))) := fun X hX => by
    obtain ⟨e0, e1, _, _⟩ := cells15c ((hX.block _ (hlt RC7.out)).trans RC7.out)
    obtain ⟨u0, u1, u2, u3, u4, u5⟩ := six ((hX.block _ (hlt RE7.out)).trans RE7.out)
    exact ⟨⟨e0, e1⟩, u0, u1, u2, u3, u4, u5⟩
  have KA : Hid (∀ X : World, Calls Tryz.prog 44 #[.slice ka 0 kc, .slice none 0 0] X fun e w' => e = .returned (.bool true) ∧ Below X.heap.size X w') := fun X => kall_rd ka none 0 0 kc 0 [] X (fun k hk => absurd hk (Nat.not_lt_zero _)) (fun k hk => absurd hk (Nat.not_lt_zero _)) rfl rfl (Nat.zero_le _)
  have OB : Hid (∀ X : World, Calls Tryz.prog 35 #[.agg #[.int .i64 base, .int .i64 (P : Nat), .slice ka 0 kc, .slice ra 0 rc, .slice sa 0 sc2, .slice ba (P * 256) bc]] X fun e w' => e = .returned (.slice none 0 0) ∧ Below X.heap.size X w') := fun X => raobjects_none base (P : Nat) (P * 256) ka ra sa ba kc rc sc2 bc X (by have := PB.out; omega) HGB.out (by omega)
  go_upto_region 19 with (fail)
  rw [HE7.out]
  try rw [HS7.out]
  go_wp2_with (first
      | (go_at_call 44; refine (KA.out _).mono ?_; rintro e wa ⟨rfl, ba1⟩; have QA : Hid (Below E7.heap.size E7 wa) := ba1; obtain ⟨⟨p0, p1⟩, p2, p3, p4, p5, p6, p7⟩ := KEEP.out _ QA.out; clear ba1)
      | (go_at_call 45; refine (hsame_true ra none rc 0 [] _ (.inl rfl) (.inl rfl) (by simp)).mono ?_; rintro e wb ⟨rfl, mq, hmq⟩; have QB : Hid (Below E7.heap.size E7 wb) := QA.out.trans (by rw [hmq]; exact ⟨rfl, rfl, rfl, Nat.le_refl _, fun _ _ => rfl⟩); obtain ⟨⟨q0, q1⟩, q2, q3, q4, q5, q6, q7⟩ := KEEP.out _ QB.out; clear hmq)
      | (go_at_call 35; refine (OB.out _).mono ?_; rintro e wc ⟨rfl, bc1⟩; have QC : Hid (Below E7.heap.size E7 wc) := QB.out.trans (bc1.mono QB.out.size); obtain ⟨⟨t0, t1⟩, t2, t3, t4, t5, t6, t7⟩ := KEEP.out _ QC.out; clear bc1))
  have BF8 : Hid (Below D.heap.size D wc) := BF7.out.trans (QC.out.mono BF7.out.size)
  go_ret
  exact ⟨rfl, by first | exact BD0.out.trans (BF8.out.mono BD0.out.size) | (rw [← HS.out]; exact BD0.out.trans (BF8.out.mono BD0.out.size))⟩
end Go.Proofs.YtgdjlopnhecmjaaGreatDoor

/- Layer 15: HeapMakes, for every input. -/
namespace Go.Proofs.YtgdjlopnhecmjaaGreatDoor
open Go.RowKit
set_option linter.unusedVariables false
set_option maxRecDepth 4000

theorem heapMakes_any (w : World) (hT : Tabs w) (base pg wk hd sc : Int) (o : Op15) (lp lb : List Int) (hp : IsI w o.pa lp) (hpn : o.pn = lp.length) (hp0 : o.pa = none → lp = [] ∧ o.pc = 0) (hpl : lp.length ≤ 17592186044416) (hb : IsB w o.ba lb) (hbn : o.bn = lb.length) (hbl : o.bn ≤ 140737488355328) :
    Calls Tryz.prog 11 #[.agg #[.int .i64 base, .int .i64 pg, .int .i64 wk, .int .i64 hd, .int .i64 sc], .agg o.cs] w fun e w' => e = .returned (.bool true) ∧ Below w.heap.size w w' := by
  by_cases p1 : 4096 < pg
  · by_cases k1 : o.k < 1
    · exact makes_eu w hT base pg wk hd sc o lp lb hp hpn hp0 hpl hb hbn hbl k1 p1
    by_cases k2 : 8 < o.k
    · exact makes_ev w hT base pg wk hd sc o lp lb hp hpn hp0 hpl hb hbn hbl k2 p1
    exact makes_et w hT base pg wk hd sc o lp lb hp hpn hp0 hpl hb hbn hbl ⟨by omega, by omega⟩ p1
  by_cases p2 : 200 < pg
  · have q : 200 < pg ∧ pg ≤ 4096 := ⟨p2, by omega⟩
    by_cases k1 : o.k < 1
    · exact makes_au w hT base pg wk hd sc o lp lb hp hpn hp0 hpl hb hbn hbl k1 q
    by_cases k2 : 8 < o.k
    · exact makes_av w hT base pg wk hd sc o lp lb hp hpn hp0 hpl hb hbn hbl k2 q
    exact makes_at w hT base pg wk hd sc o lp lb hp hpn hp0 hpl hb hbn hbl ⟨by omega, by omega⟩ q
  by_cases p3 : 1 ≤ pg ∧ pg ≤ 4096 ∧ mayE wk hd
  · by_cases p4 : goodR base
    · have q : 1 ≤ pg ∧ pg ≤ 200 ∧ mayE wk hd ∧ goodR base := ⟨p3.1, by omega, p3.2.2, p4⟩
      by_cases k1 : o.k < 1
      · exact makes_du w hT base pg wk hd sc o lp lb hp hpn hp0 hpl hb hbn hbl k1 q
      by_cases k2 : 8 < o.k
      · exact makes_dv w hT base pg wk hd sc o lp lb hp hpn hp0 hpl hb hbn hbl k2 q
      exact makes_dt w hT base pg wk hd sc o lp lb hp hpn hp0 hpl hb hbn hbl ⟨by omega, by omega⟩ q
    · have q : 1 ≤ pg ∧ pg ≤ 200 ∧ mayE wk hd ∧ ¬ goodR base := ⟨p3.1, by omega, p3.2.2, p4⟩
      by_cases k1 : o.k < 1
      · exact makes_cu w hT base pg wk hd sc o lp lb hp hpn hp0 hpl hb hbn hbl k1 q
      by_cases k2 : 8 < o.k
      · exact makes_cv w hT base pg wk hd sc o lp lb hp hpn hp0 hpl hb hbn hbl k2 q
      exact makes_ct w hT base pg wk hd sc o lp lb hp hpn hp0 hpl hb hbn hbl ⟨by omega, by omega⟩ q
  · have q : pg ≤ 200 ∧ ¬ (1 ≤ pg ∧ pg ≤ 4096 ∧ mayE wk hd) := ⟨by omega, p3⟩
    by_cases k1 : o.k < 1
    · exact makes_bu w hT base pg wk hd sc o lp lb hp hpn hp0 hpl hb hbn hbl k1 q
    by_cases k2 : 8 < o.k
    · exact makes_bv w hT base pg wk hd sc o lp lb hp hpn hp0 hpl hb hbn hbl k2 q
    exact makes_bt w hT base pg wk hd sc o lp lb hp hpn hp0 hpl hb hbn hbl ⟨by omega, by omega⟩ q
end Go.Proofs.YtgdjlopnhecmjaaGreatDoor
