/- The walk of the law AuditChecks. -/
import Derived.Test.YtebmegghojiegaaDoorBfA
import Derived.Test.YtebmegghojiegaaDoorBdB
import Derived.Test.YtebmegghojiegaaDoorBcD
namespace Go.Proofs.YtebmegghojiegaaDoor
open Go.RowKit
set_option linter.unusedVariables false
set_option linter.unusedSimpArgs false

set_option maxRecDepth 20000 in
set_option maxHeartbeats 8000000 in
theorem auditChecks_any (V : Vw) (A : Va) (w : World) (h : Rv0 w V A) (hk : ∀ k ∈ V.ks, k.l.length ≤ 17592186044416) (ht : ∀ t ∈ V.ts, t.l.length ≤ 17592186044416) (hT : TabC w) :
    Calls Tryd.prog 3 #[.agg #[.int .i64 V.base, .int .i64 V.pgs, .slice A.ka A.kn A.kc, .slice A.ra A.rn A.rc, .slice A.sa A.sn A.sc, .slice A.ba A.bn A.bc]] w fun e w' => e = .returned (.bool true) ∧ Below w.heap.size w w' := by
  obtain ⟨base, pgs, ks, rs, ts, bs⟩ := V
  obtain ⟨ka, ra, sa, ba, kn, rn, sn, bn, kc, rc, sc, bc⟩ := A
  obtain ⟨E, hE, bE, rE⟩ := vbox w (⟨base, pgs, ks, rs, ts, bs⟩ : Vw) (⟨ka, ra, sa, ba, kn, rn, sn, bn, kc, rc, sc, bc⟩ : Va)
  simp only at hE rE hk ht
  have HE : Hid (w.alloc (.cells #[.int .i64 base, .int .i64 pgs, .slice ka kn kc, .slice ra rn rc, .slice sa sn sc, .slice ba bn bc] 27) = E) := hE
  have BE : Hid (Bl w E) := bE
  have RE : Hid (E.heap[w.heap.size]? = some (.cells #[.int .i64 base, .int .i64 pgs, .slice ka kn kc, .slice ra rn rc, .slice sa sn sc, .slice ba bn bc] 27 (0, 0))) := rE
  have H0 : Hid (Rv0 E (⟨base, pgs, ks, rs, ts, bs⟩ : Vw) (⟨ka, ra, sa, ba, kn, rn, sn, bn, kc, rc, sc, bc⟩ : Va)) := h.keep bE
  have HK : Hid (∀ k ∈ ks, k.l.length ≤ 17592186044416) := hk
  have HTS : Hid (∀ t ∈ ts, t.l.length ≤ 17592186044416) := ht
  have HT : Hid (TabC E) := hT.keep bE
  obtain ⟨vb, hvb⟩ : ∃ vb, w.heap.size = vb := ⟨_, rfl⟩
  have HVB : Hid (w.heap.size = vb) := hvb
  rw [hvb] at RE
  have FIN : Hid (∀ w', Bl E w' → Below w.heap.size w w') := fun w' b => BE.out.trans b
  clear h hk ht hT bE rE hE hvb
  go_enter Tryd.func3, Tryd.ntmps3
  go_wp2_with fail
  rw [HE.out, HVB.out]
  refine (alive14 E HT.out).mono ?_
  rintro e w1 ⟨rfl, b1⟩
  have B1 : Hid (Bl E w1) := b1
  obtain ⟨c0, c1, c2, c3, c4, c5⟩ := six (B1.out.row RE.out)
  clear b1
  go_wp2_with fail
  refine (great_any (⟨base, pgs, ks, rs, ts, bs⟩ : Vw) (⟨ka, ra, sa, ba, kn, rn, sn, bn, kc, rc, sc, bc⟩ : Va) w1 (H0.out.keep B1.out)).mono ?_
  rintro e w2 ⟨r2, rfl, hs, b2⟩
  have B2 : Hid (Bl E w2) := B1.out.trans b2
  clear c0 c1 c2 c3 c4 c5 b2
  cases r2 with
  | true =>
    go_wp2
    go_ret
    exact ⟨rfl, (by first | exact FIN.out _ B2.out | (have := FIN.out _ B2.out; rw [HVB.out] at this; exact this))⟩
  | false =>
    have SM : Hid (SmallV (⟨base, pgs, ks, rs, ts, bs⟩ : Vw)) := hs rfl
    clear hs
    have RVE : Hid (Rv E (⟨base, pgs, ks, rs, ts, bs⟩ : Vw) (⟨ka, ra, sa, ba, kn, rn, sn, bn, kc, rc, sc, bc⟩ : Va)) := H0.out.small SM.out
    have NM : Hid (Nums (⟨base, pgs, ks, rs, ts, bs⟩ : Vw)) := RVE.out.nums
    obtain ⟨c0, c1, c2, c3, c4, c5⟩ := six (B2.out.row RE.out)
    go_wp2_with fail
    refine (acopy_any (⟨base, pgs, ks, rs, ts, bs⟩ : Vw) (⟨ka, ra, sa, ba, kn, rn, sn, bn, kc, rc, sc, bc⟩ : Va) w2 (RVE.out.keep B2.out) HK.out HTS.out).mono ?_
    rintro e w4 ⟨A', gr, gb, rfl, cp, b4⟩
    obtain ⟨ka1, ra1, sa1, ba1, kn1, rn1, sn1, bn1, kc1, rc1, sc1, bc1⟩ := A'
    simp only
    obtain ⟨X5, hX5⟩ : ∃ X5, w4.alloc (.cells #[.int .i64 base, .int .i64 pgs, .slice ka1 kn1 kc1, .slice ra1 rn1 rc1, .slice sa1 sn1 sc1, .slice ba1 bn1 bc1] 27) = X5 := ⟨_, rfl⟩
    have b5 : Bl w4 X5 := by rw [← hX5]; exact (Bl.refl w4).alloc _
    have r5 : X5.heap[w4.heap.size]? = some (.cells #[.int .i64 base, .int .i64 pgs, .slice ka1 kn1 kc1, .slice ra1 rn1 rc1, .slice sa1 sn1 sc1, .slice ba1 bn1 bc1] 27 (0, 0)) := by rw [← hX5]; exact Go.heap_alloc_new w4 _
    have R5 : Hid (Rv X5 (⟨base, pgs, ks, rs, ts, bs⟩ : Vw) ⟨ka1, ra1, sa1, ba1, kn1, rn1, sn1, bn1, kc1, rc1, sc1, bc1⟩) := (cp.keep b5).rv NM.out
    have B5 : Hid (Bl E X5) := (B2.out.trans b4).trans b5
    obtain ⟨v5, hv5⟩ : ∃ v5, w4.heap.size = v5 := ⟨_, rfl⟩
    rw [hv5] at r5
    have RX : Hid _ := r5
    obtain ⟨k0, k1, k2, k3, k4, k5⟩ := six r5
    clear cp b4 b5 r5 c0 c1 c2 c3 c4 c5
    go_wp2_with fail
    refine (check_any14 (⟨base, pgs, ks, rs, ts, bs⟩ : Vw) ⟨ka1, ra1, sa1, ba1, kn1, rn1, sn1, bn1, kc1, rc1, sc1, bc1⟩ X5 R5.out (HT.out.keep B5.out)).mono ?_
    rintro e w6 ⟨r6, x6, rfl, hc6, b6⟩
    have HC6 : Hid (ChkR (⟨base, pgs, ks, rs, ts, bs⟩ : Vw) r6 x6) := hc6
    have B56 : Hid (Bl X5 w6) := b6
    have B6 : Hid (Bl E w6) := B5.out.trans b6
    obtain ⟨c0, c1, c2, c3, c4, c5⟩ := six (B6.out.row RE.out)
    clear hc6 b6 k0 k1 k2 k3 k4 k5
    go_wp2_with fail
    refine (racheck_any (⟨base, pgs, ks, rs, ts, bs⟩ : Vw) (⟨ka, ra, sa, ba, kn, rn, sn, bn, kc, rc, sc, bc⟩ : Va) w6 (RVE.out.keep B6.out)).mono ?_
    rintro e w7 ⟨r7, x7, rfl, hc7, b7⟩
    obtain ⟨rfl, rfl⟩ := HC6.out.one hc7
    have B67 : Hid (Bl X5 w7) := B56.out.trans b7
    have B7 : Hid (Bl E w7) := B6.out.trans b7
    obtain ⟨c0, c1, c2, c3, c4, c5⟩ := six (B7.out.row RE.out)
    obtain ⟨k0, k1, k2, k3, k4, k5⟩ := six (B67.out.row RX.out)
    clear hc7 b7
    go_wp2_with fail
    refine (equal_true (⟨base, pgs, ks, rs, ts, bs⟩ : Vw) ⟨ka1, ra1, sa1, ba1, kn1, rn1, sn1, bn1, kc1, rc1, sc1, bc1⟩ (⟨ka, ra, sa, ba, kn, rn, sn, bn, kc, rc, sc, bc⟩ : Va) w7 (R5.out.keep B67.out) (RVE.out.keep B7.out)).mono ?_
    rintro e w8 ⟨rfl, b8⟩
    have B8 : Hid (Bl E w8) := B7.out.trans b8
    clear b8 c0 c1 c2 c3 c4 c5 k0 k1 k2 k3 k4 k5
    go_wp2
    go_ret
    exact ⟨rfl, (by first | exact FIN.out _ B8.out | (have := FIN.out _ B8.out; rw [HVB.out] at this; exact this))⟩
end Go.Proofs.YtebmegghojiegaaDoor
