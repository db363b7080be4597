/- The walk of the law AuditSlides. -/
import Derived.Test.YtebmegghojiegaaDoorBjB
import Derived.Test.YtebmegghojiegaaDoorGsR
import Derived.Test.YtebmegghojiegaaDoorBdB
namespace Go.Proofs.YtebmegghojiegaaDoor
open Go.RowKit
set_option linter.unusedVariables false
set_option linter.unusedSimpArgs false

/-- The slid view's numbers. -/
theorem slid_nums {V : Vw} (h : Hold V 7) (n : Nums V) : Nums (slidV V) := by
  obtain ⟨P, f⟩ := h.slf
  have ml := mvAll_len _ _ f.dn
  have most := f.sd.most
  have rt : ∀ t ∈ spV V, rightT t ∧ t.p + (pgsN t.c t.s : Int) ≤ (P : Int) := fun t ht => by
    obtain ⟨j, hj, rfl⟩ := List.getElem_of_mem ht
    have s := f.at2
    unfold stdB at s
    rw [Bool.and_eq_true] at s
    have ok := of_decide_eq_true (stdU_ok s.2 hj)
    rw [tdD_at hj] at ok
    exact ⟨⟨ok.1, ok.2.1⟩, ok.2.2.2⟩
  refine ⟨n.ki, fun t ht x hx => ?_, slL_all _ _ (mvAll_all _ _ n.ab), n.bi, n.pi, fun t ht => ?_, fun r hr => ?_, n.kz, ?_, ?_, ?_⟩
  · obtain ⟨k0, k1, _⟩ := right_at (rt t ht).1 hx
    have r := newE_rt (rt t ht).1.1
    have q := clSl_pos t.c.toNat (by have := r.c7; omega)
    unfold clSl at q
    rw [Int.toNat_of_nonneg r.c0] at q
    omega
  · have r0 := (newE_rt (rt t ht).1.1).p0
    have := (rt t ht).2
    unfold i64
    omega
  · have hr : r ∈ V.rs.map (slRw (phV V)) := hr
    obtain ⟨q, hq, rfl⟩ := List.mem_map.1 hr
    obtain ⟨a, b, c⟩ := n.ri q hq
    rw [slRw_kind, slRw_gen]
    refine ⟨?_, b, c⟩
    cases hl : q.live with
    | false => rw [slRw_dead hl]; exact a
    | true =>
      obtain ⟨i, hi, rfl⟩ := List.getElem_of_mem hq
      rw [slRw_pl hl]
      have li : (rwD V.rs i).live = true := by rw [rwD_at hi]; exact hl
      have N := f.new h hi li
      rw [← rwD_at hi]
      have n0 := N.x0
      have n1 := N.fit
      have := n.bz
      unfold i64
      omega
  · show (V.rs.map (slRw (phV V))).length ≤ 300
    rw [List.length_map]; exact n.rz
  · show (spV V).length ≤ 64
    have : (spV V).length ≤ V.ts.length := by
      unfold spV
      rw [planT_kept, List.length_map]
      have := keepL_len (V.ts.map snT) (clsF (V.ts.map snT) (FT V.ts) 7) (V.ts.map snT).length
      rw [List.length_map] at this
      unfold kept
      rw [List.length_map]
      exact this
    have := n.tz
    omega
  · show (slL V (phV V) (fldP V V.rs.length) (mvAll (moV V) V.bs)).length ≤ 16384
    rw [slL_len _ _ (f.fds h), ml]; exact n.bz
set_option maxRecDepth 20000 in
set_option maxHeartbeats 8000000 in
theorem auditSlides_any (V : Vw) (A : Va) (w : World) (h : Rv0 w V A) (hk : ∀ k ∈ V.ks, k.l.length ≤ 17592186044416) (ht : ∀ t ∈ V.ts, t.l.length ≤ 17592186044416) (hT : TabC w) :
    Calls Tryd.prog 6 #[.agg #[.int .i64 V.base, .int .i64 V.pgs, .slice A.ka A.kn A.kc, .slice A.ra A.rn A.rc, .slice A.sa A.sn A.sc, .slice A.ba A.bn A.bc]] w fun e w' => e = .returned (.bool true) ∧ Below w.heap.size w w' := by
  obtain ⟨base, pgs, ks, rs, ts, bs⟩ := V
  obtain ⟨ka, ra, sa, ba, kn, rn, sn, bn, kc, rc, sc, bc⟩ := A
  obtain ⟨E, hE, bE, rE⟩ := vbox w (⟨base, pgs, ks, rs, ts, bs⟩ : Vw) (⟨ka, ra, sa, ba, kn, rn, sn, bn, kc, rc, sc, bc⟩ : Va)
  simp only at hE rE hk ht
  have HE : Hid (w.alloc (.cells #[.int .i64 base, .int .i64 pgs, .slice ka kn kc, .slice ra rn rc, .slice sa sn sc, .slice ba bn bc] 27) = E) := hE
  have BE : Hid (Bl w E) := bE
  have RE : Hid (E.heap[w.heap.size]? = some (.cells #[.int .i64 base, .int .i64 pgs, .slice ka kn kc, .slice ra rn rc, .slice sa sn sc, .slice ba bn bc] 27 (0, 0))) := rE
  have H0 : Hid (Rv0 E (⟨base, pgs, ks, rs, ts, bs⟩ : Vw) (⟨ka, ra, sa, ba, kn, rn, sn, bn, kc, rc, sc, bc⟩ : Va)) := h.keep bE
  have HK : Hid (∀ k ∈ ks, k.l.length ≤ 17592186044416) := hk
  have HTS : Hid (∀ t ∈ ts, t.l.length ≤ 17592186044416) := ht
  have HT : Hid (TabC E) := hT.keep bE
  obtain ⟨vb, hvb⟩ : ∃ vb, w.heap.size = vb := ⟨_, rfl⟩
  have HVB : Hid (w.heap.size = vb) := hvb
  rw [hvb] at RE
  have FIN : Hid (∀ w', Bl E w' → Below w.heap.size w w') := fun w' b => BE.out.trans b
  clear h hk ht hT bE rE hE hvb
  go_enter Tryd.func6, Tryd.ntmps6
  go_wp2_with fail
  rw [HE.out, HVB.out]
  refine (alive14 E HT.out).mono ?_
  rintro e w1 ⟨rfl, b1⟩
  have B1 : Hid (Bl E w1) := b1
  obtain ⟨c0, c1, c2, c3, c4, c5⟩ := six (B1.out.row RE.out)
  clear b1
  go_wp2_with fail
  refine (great_any (⟨base, pgs, ks, rs, ts, bs⟩ : Vw) (⟨ka, ra, sa, ba, kn, rn, sn, bn, kc, rc, sc, bc⟩ : Va) w1 (H0.out.keep B1.out)).mono ?_
  rintro e w2 ⟨r2, rfl, hs, b2⟩
  have B2 : Hid (Bl E w2) := B1.out.trans b2
  clear c0 c1 c2 c3 c4 c5 b2
  cases r2 with
  | true =>
    go_wp2
    go_ret
    exact ⟨rfl, (by first | exact FIN.out _ B2.out | (have := FIN.out _ B2.out; rw [HVB.out] at this; exact this))⟩
  | false =>
    have SM : Hid (SmallV (⟨base, pgs, ks, rs, ts, bs⟩ : Vw)) := hs rfl
    clear hs
    have RVE : Hid (Rv E (⟨base, pgs, ks, rs, ts, bs⟩ : Vw) (⟨ka, ra, sa, ba, kn, rn, sn, bn, kc, rc, sc, bc⟩ : Va)) := H0.out.small SM.out
    have NM : Hid (Nums (⟨base, pgs, ks, rs, ts, bs⟩ : Vw)) := RVE.out.nums
    obtain ⟨c0, c1, c2, c3, c4, c5⟩ := six (B2.out.row RE.out)
    go_wp2_with fail
    refine (check_any14 (⟨base, pgs, ks, rs, ts, bs⟩ : Vw) (⟨ka, ra, sa, ba, kn, rn, sn, bn, kc, rc, sc, bc⟩ : Va) w2 (RVE.out.keep B2.out) (HT.out.keep B2.out)).mono ?_
    rintro e w3 ⟨r3, x3, rfl, hc3, b3⟩
    have HC3 : Hid (ChkR (⟨base, pgs, ks, rs, ts, bs⟩ : Vw) r3 x3) := hc3
    have B3 : Hid (Bl E w3) := B2.out.trans b3
    obtain ⟨c0, c1, c2, c3, c4, c5⟩ := six (B3.out.row RE.out)
    clear hc3 b3
    by_cases r30 : r3 = 0
    · have HH : Hid (Hold (⟨base, pgs, ks, rs, ts, bs⟩ : Vw) 7) := HC3.out.zero.1 r30
      subst r30
      go_wp2_with fail
      refine (aslid_any (⟨base, pgs, ks, rs, ts, bs⟩ : Vw) (⟨ka, ra, sa, ba, kn, rn, sn, bn, kc, rc, sc, bc⟩ : Va) w3 (RVE.out.keep B3.out) HH.out HK.out HTS.out).mono ?_
      rintro e w4 ⟨A', gr, gb, rfl, cp, b4⟩
      obtain ⟨ka1, ra1, sa1, ba1, kn1, rn1, sn1, bn1, kc1, rc1, sc1, bc1⟩ := A'
      simp only
      have NM2 : Hid (Nums (slidV (⟨base, pgs, ks, rs, ts, bs⟩ : Vw))) := slid_nums HH.out NM.out
      obtain ⟨X, hX⟩ : ∃ X, w4.alloc (.cells #[.int .i64 base, .int .i64 pgs, .slice ka1 kn1 kc1, .slice ra1 rn1 rc1, .slice sa1 sn1 sc1, .slice ba1 bn1 bc1] 27) = X := ⟨_, rfl⟩
      have bX : Bl w4 X := by rw [← hX]; exact (Bl.refl w4).alloc _
      have rX : X.heap[w4.heap.size]? = some (.cells #[.int .i64 base, .int .i64 pgs, .slice ka1 kn1 kc1, .slice ra1 rn1 rc1, .slice sa1 sn1 sc1, .slice ba1 bn1 bc1] 27 (0, 0)) := by rw [← hX]; exact Go.heap_alloc_new w4 _
      have RX : Hid (Rv X (slidV (⟨base, pgs, ks, rs, ts, bs⟩ : Vw)) ⟨ka1, ra1, sa1, ba1, kn1, rn1, sn1, bn1, kc1, rc1, sc1, bc1⟩) := (cp.keep bX).rv NM2.out
      have BX : Hid (Bl E X) := (B3.out.trans b4).trans bX
      obtain ⟨v7, hv7⟩ : ∃ v7, w4.heap.size = v7 := ⟨_, rfl⟩
      rw [hv7] at rX
      have R7 : Hid (X.heap[v7]? = some (.cells #[.int .i64 base, .int .i64 pgs, .slice ka1 kn1 kc1, .slice ra1 rn1 rc1, .slice sa1 sn1 sc1, .slice ba1 bn1 bc1] 27 (0, 0))) := rX
      obtain ⟨k0, k1, k2, k3, k4, k5⟩ := six rX
      clear cp b4 bX rX c0 c1 c2 c3 c4 c5
      go_wp2_with fail
      refine (check_any14 (slidV (⟨base, pgs, ks, rs, ts, bs⟩ : Vw)) ⟨ka1, ra1, sa1, ba1, kn1, rn1, sn1, bn1, kc1, rc1, sc1, bc1⟩ X RX.out (HT.out.keep BX.out)).mono ?_
      rintro e w9 ⟨r9, x9, rfl, hc9, b9⟩
      obtain rfl : r9 = 0 := hc9.zero.2 ((slid_tr HH.out).hold HH.out)
      have BX9 : Hid (Bl X w9) := b9
      have B9 : Hid (Bl E w9) := BX.out.trans b9
      clear hc9 b9 k0 k1 k2 k3 k4 k5
      have s12 : ∀ w' : World, Bl w9 w' → (w'.cell? ⟨v7, 0, none⟩ = some (.int .i64 base) ∧ w'.cell? ⟨v7, 1, none⟩ = some (.int .i64 pgs) ∧ w'.cell? ⟨v7, 2, none⟩ = some (.slice ka1 kn1 kc1) ∧ w'.cell? ⟨v7, 3, none⟩ = some (.slice ra1 rn1 rc1) ∧ w'.cell? ⟨v7, 4, none⟩ = some (.slice sa1 sn1 sc1) ∧ w'.cell? ⟨v7, 5, none⟩ = some (.slice ba1 bn1 bc1) ∧ w'.cell? ⟨vb, 0, none⟩ = some (.int .i64 base) ∧ w'.cell? ⟨vb, 1, none⟩ = some (.int .i64 pgs) ∧ w'.cell? ⟨vb, 2, none⟩ = some (.slice ka kn kc) ∧ w'.cell? ⟨vb, 3, none⟩ = some (.slice ra rn rc) ∧ w'.cell? ⟨vb, 4, none⟩ = some (.slice sa sn sc) ∧ w'.cell? ⟨vb, 5, none⟩ = some (.slice ba bn bc)) := fun w' b => by
        obtain ⟨p0, p1, p2, p3, p4, p5⟩ := six ((BX9.out.trans b).row R7.out)
        obtain ⟨c0, c1, c2, c3, c4, c5⟩ := six ((B9.out.trans b).row RE.out)
        exact ⟨p0, p1, p2, p3, p4, p5, c0, c1, c2, c3, c4, c5⟩
      have HSS : Hid (∀ w' : World, Bl w9 w' → (w'.cell? ⟨v7, 0, none⟩ = some (.int .i64 base) ∧ w'.cell? ⟨v7, 1, none⟩ = some (.int .i64 pgs) ∧ w'.cell? ⟨v7, 2, none⟩ = some (.slice ka1 kn1 kc1) ∧ w'.cell? ⟨v7, 3, none⟩ = some (.slice ra1 rn1 rc1) ∧ w'.cell? ⟨v7, 4, none⟩ = some (.slice sa1 sn1 sc1) ∧ w'.cell? ⟨v7, 5, none⟩ = some (.slice ba1 bn1 bc1) ∧ w'.cell? ⟨vb, 0, none⟩ = some (.int .i64 base) ∧ w'.cell? ⟨vb, 1, none⟩ = some (.int .i64 pgs) ∧ w'.cell? ⟨vb, 2, none⟩ = some (.slice ka kn kc) ∧ w'.cell? ⟨vb, 3, none⟩ = some (.slice ra rn rc) ∧ w'.cell? ⟨vb, 4, none⟩ = some (.slice sa sn sc) ∧ w'.cell? ⟨vb, 5, none⟩ = some (.slice ba bn bc))) := s12
      obtain ⟨p0, p1, p2, p3, p4, p5, c0, c1, c2, c3, c4, c5⟩ := s12 w9 (Bl.refl _)
      have L9 : Hid (Bl w9 w9.drew) := (Bl.refl _).drew
      have OBV : Hid (objsV (slidV (⟨base, pgs, ks, rs, ts, bs⟩ : Vw)) = objsV (⟨base, pgs, ks, rs, ts, bs⟩ : Vw)) := (slid_tr HH.out).objs HH.out
      have OLN : Hid ((objsV (⟨base, pgs, ks, rs, ts, bs⟩ : Vw)).length ≤ 300) := by
        show _ ≤ _
        have := objsU_len (⟨base, pgs, ks, rs, ts, bs⟩ : Vw) rs.length
        have := RVE.out.rz
        unfold objsV
        simp only at *
        omega
      clear s12
      have OS : Hid (∃ os, objsV (⟨base, pgs, ks, rs, ts, bs⟩ : Vw) = os) := ⟨_, rfl⟩
      obtain ⟨os, hos⟩ := OS.out
      rw [hos] at OBV OLN
      have CO1 : Hid (∀ W : World, Bl w9 W → Calls Tryd.prog 14 #[.agg #[.int .i64 base, .int .i64 pgs, .slice ka1 kn1 kc1, .slice ra1 rn1 rc1, .slice sa1 sn1 sc1, .slice ba1 bn1 bc1]] W fun e w' => ∃ a n c, e = .returned (.slice a n c) ∧ os.length = n ∧ RdO w' a os ∧ Below W.heap.size W w') := fun W b =>
        (objects_any (slidV (⟨base, pgs, ks, rs, ts, bs⟩ : Vw)) ⟨ka1, ra1, sa1, ba1, kn1, rn1, sn1, bn1, kc1, rc1, sc1, bc1⟩ W (RX.out.keep (BX9.out.trans b)) (HT.out.keep (B9.out.trans b))).mono (by
          rintro e w' ⟨r, x, hc, h, b'⟩
          obtain rfl : r = 0 := hc.zero.2 ((slid_tr HH.out).hold HH.out)
          rcases h with ⟨_, a, n, c, rfl, hn, ht⟩ | ⟨h, _⟩
          · rw [OBV.out] at hn ht
            exact ⟨a, n, c, rfl, hn, ht.rd, b'⟩
          · exact absurd rfl h)
      have CO2 : Hid (∀ W : World, Bl w9 W → Calls Tryd.prog 14 #[.agg #[.int .i64 base, .int .i64 pgs, .slice ka kn kc, .slice ra rn rc, .slice sa sn sc, .slice ba bn bc]] W fun e w' => ∃ a n c, e = .returned (.slice a n c) ∧ os.length = n ∧ RdO w' a os ∧ Below W.heap.size W w') := fun W b =>
        (objects_any (⟨base, pgs, ks, rs, ts, bs⟩ : Vw) (⟨ka, ra, sa, ba, kn, rn, sn, bn, kc, rc, sc, bc⟩ : Va) W (RVE.out.keep (B9.out.trans b)) (HT.out.keep (B9.out.trans b))).mono (by
          rintro e w' ⟨r, x, hc, h, b'⟩
          obtain rfl : r = 0 := hc.zero.2 HH.out
          rcases h with ⟨_, a, n, c, rfl, hn, ht⟩ | ⟨h, _⟩
          · rw [hos] at hn ht
            exact ⟨a, n, c, rfl, hn, ht.rd, b'⟩
          · exact absurd rfl h)
      clear hos OS
      go_wp2_with fail
      go_region_held3 (fun w' => w'.cell? ⟨v7, 0, none⟩ = some (.int .i64 base) ∧ w'.cell? ⟨v7, 1, none⟩ = some (.int .i64 pgs) ∧ w'.cell? ⟨v7, 2, none⟩ = some (.slice ka1 kn1 kc1) ∧ w'.cell? ⟨v7, 3, none⟩ = some (.slice ra1 rn1 rc1) ∧ w'.cell? ⟨v7, 4, none⟩ = some (.slice sa1 sn1 sc1) ∧ w'.cell? ⟨v7, 5, none⟩ = some (.slice ba1 bn1 bc1) ∧ w'.cell? ⟨vb, 0, none⟩ = some (.int .i64 base) ∧ w'.cell? ⟨vb, 1, none⟩ = some (.int .i64 pgs) ∧ w'.cell? ⟨vb, 2, none⟩ = some (.slice ka kn kc) ∧ w'.cell? ⟨vb, 3, none⟩ = some (.slice ra rn rc) ∧ w'.cell? ⟨vb, 4, none⟩ = some (.slice sa sn sc) ∧ w'.cell? ⟨vb, 5, none⟩ = some (.slice ba bn bc)) (with_reducible first | exact HSS.out _ L5.out | exact HSS.out _ L4.out | exact HSS.out _ L3.out | exact HSS.out _ L2.out | exact HSS.out _ L1.out | exact HSS.out _ L9.out | exact HSS.out _ (Bl.refl _))
        (first
        | (have hz := N4; go_at_call 15; refine (asame_true a2 a4 n1 c2 n3 c4 os _ N24.out N4.out E1.out E3.out (by have := OLN.out; omega)).mono ?_; rintro e u5 ⟨rfl, b5⟩; have L5 : Hid (Bl w9 u5) := L4.out.trans b5; clear hz b5)
        | (have hz := N3; go_at_call 16; refine (own_any a3 n3 c3 os _ N3.out E3.out (by have := OLN.out; have := E3.out; omega)).mono ?_; rintro e u4 ⟨a4, c4, rfl, n4, b4⟩; have N4 : Hid (RdO u4 a4 os) := n4; have N24 : Hid (RdO u4 a2 os) := (N23.out.keep b4); have L4 : Hid (Bl w9 u4) := L3.out.trans b4; clear hz n4 b4)
        | (have hz := N2; go_at_call 14; refine (CO2.out _ L2.out).mono ?_; rintro e u3 ⟨a3, n3, c3, rfl, e3, n3', b3⟩; have N3 : Hid (RdO u3 a3 os) := n3'; have E3 : Hid (os.length = n3) := e3; have N23 : Hid (RdO u3 a2 os) := (N2.out.keep b3); have L3 : Hid (Bl w9 u3) := L2.out.trans b3; clear hz n3' e3 b3)
        | (have hz := N1; go_at_call 16; refine (own_any a1 n1 c1 os _ N1.out E1.out (by have := OLN.out; have := E1.out; omega)).mono ?_; rintro e u2 ⟨a2, c2, rfl, n2, b2⟩; have N2 : Hid (RdO u2 a2 os) := n2; have L2 : Hid (Bl w9 u2) := L1.out.trans b2; clear hz n2 b2)
        | (go_at_call 14; refine (CO1.out _ L9.out).mono ?_; rintro e u1 ⟨a1, n1, c1, rfl, e1, n1', b1⟩; have N1 : Hid (RdO u1 a1 os) := n1'; have E1 : Hid (os.length = n1) := e1; have L1 : Hid (Bl w9 u1) := L9.out.trans b1; clear n1' e1 b1))
      go_wp2
      go_ret
      exact ⟨rfl, (by first | exact FIN.out _ (B9.out.trans L5.out) | (have := FIN.out _ (B9.out.trans L5.out); rw [HVB.out] at this; exact this))⟩
    · have q0 : (r3 != 0) = true := by rw [bne_iff_ne]; exact r30
      go_wp2
      go_ret
      exact ⟨rfl, (by first | exact FIN.out _ B3.out | (have := FIN.out _ B3.out; rw [HVB.out] at this; exact this))⟩
end Go.Proofs.YtebmegghojiegaaDoor
