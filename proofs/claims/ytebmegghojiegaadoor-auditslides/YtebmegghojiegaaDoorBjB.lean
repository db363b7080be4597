/- A view slid together by the law: what slid answers. -/
import Derived.Test.YtebmegghojiegaaDoorBjA
namespace Go.Proofs.YtebmegghojiegaaDoor
open Go.RowKit
set_option linter.unusedVariables false
set_option linter.unusedSimpArgs false

theorem SlF.ok {V : Vw} {P : Nat} (f : SlF V P) : ∀ v ∈ moV V, v.Ok := fun v hv => by
  have d := plan_dn f.sd (FT V.ts) v hv
  have m := f.sd.most
  unfold Mv.Dn at d
  unfold Mv.Ok
  omega
theorem SlF.few {V : Vw} {P : Nat} (f : SlF V P) (h : V.ts.length ≤ 64) : (moV V).length ≤ 7232 := by
  have := plan_len f.sd (FT V.ts)
  rw [List.length_map] at this
  unfold moV
  omega

set_option maxRecDepth 20000 in
set_option maxHeartbeats 16000000 in
theorem aslid_any (V : Vw) (A : Va) (w : World) (h : Rv w V A) (hH : Hold V 7) (hk : ∀ k ∈ V.ks, k.l.length ≤ 17592186044416) (ht : ∀ t ∈ V.ts, t.l.length ≤ 17592186044416) :
    Calls Tryd.prog 19 #[.agg #[.int .i64 V.base, .int .i64 V.pgs, .slice A.ka A.kn A.kc, .slice A.ra A.rn A.rc, .slice A.sa A.sn A.sc, .slice A.ba A.bn A.bc]] w fun e w' => ∃ A' gr gb, e = .returned (.agg #[.int .i64 V.base, .int .i64 V.pgs, .slice A'.ka A'.kn A'.kc, .slice A'.ra A'.rn A'.rc, .slice A'.sa A'.sn A'.sc, .slice A'.ba A'.bn A'.bc]) ∧ Cpy w' w.heap.size (slidV V) A' gr gb ∧ Below w.heap.size w w' := by
  obtain ⟨base, pgs, ks, rs, ts, bs⟩ := V
  obtain ⟨ka, ra, sa, ba, kn, rn, sn, bn, kc, rc, sc, bc⟩ := A
  obtain ⟨V, hV⟩ : ∃ V : Vw, V = ⟨base, pgs, ks, rs, ts, bs⟩ := ⟨_, rfl⟩
  obtain ⟨E1, hE1, bE1, rE1⟩ := vbox w (⟨base, pgs, ks, rs, ts, bs⟩ : Vw) (⟨ka, ra, sa, ba, kn, rn, sn, bn, kc, rc, sc, bc⟩ : Va)
  simp only at hE1 rE1 hk ht
  obtain ⟨E, hE⟩ : ∃ E, E1.alloc (.cells #[.int .i64 0, .int .i64 0, .slice none 0 0, .slice none 0 0, .slice none 0 0, .slice none 0 0] 27) = E := ⟨_, rfl⟩
  have bE : Bl E1 E := by rw [← hE]; exact (Bl.refl E1).alloc _
  have zE1 : E1.heap.size = w.heap.size + 1 := by rw [← hE1]; simp
  have zE : E.heap.size = w.heap.size + 2 := by rw [← hE]; simp; omega
  obtain ⟨vb, hvb⟩ : ∃ vb, w.heap.size = vb := ⟨_, rfl⟩
  have HVB : Hid (w.heap.size = vb) := hvb
  rw [hvb] at rE1 zE1 zE
  have ZE : Hid (E.heap.size = vb + 2) := zE
  have HE1 : Hid (w.alloc (.cells #[.int .i64 base, .int .i64 pgs, .slice ka kn kc, .slice ra rn rc, .slice sa sn sc, .slice ba bn bc] 27) = E1) := hE1
  have HE : Hid (E1.alloc (.cells #[.int .i64 0, .int .i64 0, .slice none 0 0, .slice none 0 0, .slice none 0 0, .slice none 0 0] 27) = E) := hE
  have BE : Hid (Bl w E) := Bl.trans bE1 bE
  have RE : Hid (E.heap[vb]? = some (.cells #[.int .i64 base, .int .i64 pgs, .slice ka kn kc, .slice ra rn rc, .slice sa sn sc, .slice ba bn bc] 27 (0, 0))) := bE.row rE1
  have R0 : Hid (E.heap[vb + 1]? = some (.cells zV 27 (0, 0))) := by show _ = _; rw [← zE1, ← hE]; exact Go.heap_alloc_new E1 _
  have RV : Hid (Rv E V (⟨ka, ra, sa, ba, kn, rn, sn, bn, kc, rc, sc, bc⟩ : Va)) := by show Rv _ _ _; rw [hV]; exact h.keep BE.out
  have HH : Hid (Hold V 7) := by show Hold _ _; rw [hV]; exact hH
  obtain ⟨P, f⟩ := HH.out.slf
  have SF : Hid (SlF V P) := f
  have HK : Hid (∀ k ∈ V.ks, k.l.length ≤ 17592186044416) := by show ∀ k ∈ V.ks, _; rw [hV]; exact hk
  have HTS : Hid (∀ t ∈ V.ts, t.l.length ≤ 17592186044416) := by show ∀ t ∈ V.ts, _; rw [hV]; exact ht
  have LN : Hid (V.ks.length = kn ∧ V.rs.length = rn ∧ V.bs.length = bn ∧ V.ts.length = sn) := by show _; rw [hV]; exact ⟨h.kl, h.rl, h.bl, h.sl⟩
  have rz : rn ≤ 300 := by have := h.rz; have := h.rl; simp only at *; omega
  have sz : sn ≤ 64 := by have := h.tz; have := h.sl; simp only at *; omega
  have HBS : Hid (V.bs.length ≤ 16384) := by show _; rw [hV]; exact h.bz
  have EV : Hid (V.base = base ∧ V.pgs = pgs) := by show _; rw [hV]; exact ⟨rfl, rfl⟩
  obtain ⟨MV, hMV⟩ : ∃ MV, moV V = MV := ⟨_, rfl⟩
  have HMV : Hid (moV V = MV) := hMV
  have MOK : Hid (∀ v ∈ MV, v.Ok) := by show ∀ v ∈ MV, _; rw [← hMV]; exact f.ok
  have MDN : Hid (∀ v ∈ MV, v.Dn V.bs.length) := by show ∀ v ∈ MV, _; rw [← hMV]; exact f.dn
  have MFW : Hid (MV.length ≤ 7232) := by show _; rw [← hMV]; exact f.few (by rw [LN.out.2.2.2]; exact sz)
  have FEQ : Hid (slidV V = slidV (⟨base, pgs, ks, rs, ts, bs⟩ : Vw)) := congrArg slidV hV
  have STD : Hid (stdB (P : Int) V.ts = true) := f.st
  obtain ⟨c0, c1, c2, c3, c4, c5⟩ := six RE.out
  clear h hH hk ht bE1 rE1 hE1 hE bE zE1 zE hvb f hMV hV
  go_enter Tryd.func19, Tryd.ntmps19
  go_wp2_with fail
  rw [HE1.out, HE.out, HVB.out]
  refine (rplan_any P sa sn sc V.ts E RV.out.ts LN.out.2.2.2 (by omega) STD.out).mono ?_
  rintro e w2 ⟨a1, n1, cc1, a2, n2, cc2, rfl, hn1, hn2, told, vs, b2⟩
  have TL : Hid (Told w2 E.heap.size (.slice a1 n1 cc1) (spV V)) := told
  have N1 : Hid ((spV V).length = n1) := hn1
  have vs : Vs w2 E.heap.size a2 MV cc2 := by rw [← HMV.out]; exact vs
  have hn2 : MV.length = n2 := by rw [← HMV.out]; exact hn2
  have N2 : Hid (MV.length = n2) := hn2
  have n2z : n2 ≤ 7232 := by rw [← hn2]; exact MFW.out
  have VS : Hid (Vs w2 E.heap.size a2 MV cc2) := vs
  have B2 : Hid (Bl E w2) := b2
  have m0 : w2.cell? ⟨vb, 0, none⟩ = some (.int .i64 base) := bcell b2 c0
  have m1 : w2.cell? ⟨vb, 1, none⟩ = some (.int .i64 pgs) := bcell b2 c1
  have m2 : w2.cell? ⟨vb, 2, none⟩ = some (.slice ka kn kc) := bcell b2 c2
  have m3 : w2.cell? ⟨vb, 3, none⟩ = some (.slice ra rn rc) := bcell b2 c3
  have m4 : w2.cell? ⟨vb, 4, none⟩ = some (.slice sa sn sc) := bcell b2 c4
  have m5 : w2.cell? ⟨vb, 5, none⟩ = some (.slice ba bn bc) := bcell b2 c5
  clear told vs hn1 hn2 b2 c0 c1 c2 c3 c4 c5
  go_wp2_with fail
  have CPY : Hid (Calls Tryd.prog 10 #[.agg #[.int .i64 base, .int .i64 pgs, .slice ka kn kc, .slice ra rn rc, .slice sa sn sc, .slice ba bn bc]] w2 fun e w' => ∃ A' gr gb, e = .returned (.agg #[.int .i64 base, .int .i64 pgs, .slice A'.ka A'.kn A'.kc, .slice A'.ra A'.rn A'.rc, .slice A'.sa A'.sn A'.sc, .slice A'.ba A'.bn A'.bc]) ∧ Cpy w' w2.heap.size V A' gr gb ∧ Below w2.heap.size w2 w') := by
    have q := acopy_any V (⟨ka, ra, sa, ba, kn, rn, sn, bn, kc, rc, sc, bc⟩ : Va) w2 (RV.out.keep B2.out) HK.out HTS.out
    rw [EV.out.1, EV.out.2] at q
    exact q
  refine CPY.out.mono ?_
  rintro e w3 ⟨A', gr, gb, rfl, cp, b3⟩
  obtain ⟨ka1, ra1, sa1, ba1, kn1, rn1, sn1, bn1, kc1, rc1, sc1, bc1⟩ := A'
  obtain rfl : ba1 = some ⟨gb, 0, none⟩ := cp.ba
  obtain rfl : ra1 = some ⟨gr, 0, none⟩ := cp.ra
  have BN1 : Hid (V.bs.length = bn1) := cp.bn
  have RN1 : Hid (V.rs.length = rn1) := cp.rn
  simp only
  obtain ⟨X, hX⟩ : ∃ X, w3.alloc (.cells #[.int .i64 base, .int .i64 pgs, .slice ka1 kn1 kc1, .slice (some ⟨gr, 0, none⟩) rn1 rc1, .slice sa1 sn1 sc1, .slice (some ⟨gb, 0, none⟩) bn1 bc1] 27) = X := ⟨_, rfl⟩
  have bX : Bl w3 X := by rw [← hX]; exact (Bl.refl w3).alloc _
  have rX : X.heap[w3.heap.size]? = some (.cells #[.int .i64 base, .int .i64 pgs, .slice ka1 kn1 kc1, .slice (some ⟨gr, 0, none⟩) rn1 rc1, .slice sa1 sn1 sc1, .slice (some ⟨gb, 0, none⟩) bn1 bc1] 27 (0, 0)) := by rw [← hX]; exact Go.heap_alloc_new w3 _
  obtain ⟨v5, hv5⟩ : ∃ v5, w3.heap.size = v5 := ⟨_, rfl⟩
  have bEX : Bl E X := Bl.trans (Bl.trans B2.out b3) bX
  have b2X : Bl w2 X := Bl.trans b3 bX
  have V5 : Hid (E.heap.size ≤ v5) := by show _; rw [← hv5]; exact Nat.le_trans (Below.size B2.out) (Below.size b3)
  rw [hv5] at rX
  have cpE : Cpy X E.heap.size V ⟨ka1, some ⟨gr, 0, none⟩, sa1, some ⟨gb, 0, none⟩, kn1, rn1, sn1, bn1, kc1, rc1, sc1, bc1⟩ gr gb := by
    have q := cp.keep bX
    have zz : E.heap.size ≤ w2.heap.size := Below.size B2.out
    refine ⟨q.ra, q.ba, q.rn, q.sn, q.bn, q.kn, q.rows.mono zz, q.spans.monoD zz, q.bytes.mono zz, ?_⟩
    obtain ⟨xs, k1, ⟨k2, k3 | ⟨g, cc, cu, k3, k4, k5⟩⟩, k6⟩ := q.kinds
    · exact ⟨xs, k1, ⟨k2, .inl k3⟩, fun x hx => (k6 x hx).mono zz⟩
    · exact ⟨xs, k1, ⟨k2, .inr ⟨g, cc, cu, k3, by omega, k5⟩⟩, fun x hx => (k6 x hx).mono zz⟩
  have MW : Hid (Sld E X (vb + 1) v5 V ⟨ka1, some ⟨gr, 0, none⟩, sa1, some ⟨gb, 0, none⟩, kn1, rn1, sn1, bn1, kc1, rc1, sc1, bc1⟩ gr gb MV a2 cc2) := ⟨by rw [EV.out.1, EV.out.2]; exact rX, bEX.row R0.out, cpE, VS.out.keep b2X, bEX⟩
  have TX : Hid (Told X E.heap.size (.slice a1 n1 cc1) (spV V)) := TL.out.keep b2X
  clear cp b3 bX rX bEX m0 m1 m2 m3 m4 m5 b2X cpE CPY
  go_wp2_with fail
  go_loopw [23] (fun iv wz => ∃ k : Nat, k ≤ n2 ∧ iv = .int .i64 (k : Nat) ∧ Sld E wz (vb + 1) v5 ⟨V.base, V.pgs, V.ks, V.rs, V.ts, mvAll (MV.take k) V.bs⟩ ⟨ka1, some ⟨gr, 0, none⟩, sa1, some ⟨gb, 0, none⟩, kn1, rn1, sn1, bn1, kc1, rc1, sc1, bc1⟩ gr gb MV a2 cc2 ∧ Told wz E.heap.size (.slice a1 n1 cc1) (spV V)) (fun iv _ => n2 - lenW iv)
  case atStart => exact ⟨0, Nat.zero_le _, rfl, MW.out, TX.out⟩
  case round =>
    obtain ⟨k, hk, rfl, sl, tl⟩ := hrel
    rename World => wz
    have SZ : Hid (Sld E wz (vb + 1) v5 ⟨V.base, V.pgs, V.ks, V.rs, V.ts, mvAll (MV.take k) V.bs⟩ ⟨ka1, some ⟨gr, 0, none⟩, sa1, some ⟨gb, 0, none⟩, kn1, rn1, sn1, bn1, kc1, rc1, sc1, bc1⟩ gr gb MV a2 cc2) := sl
    have TZ : Hid (Told wz E.heap.size (.slice a1 n1 cc1) (spV V)) := tl
    clear sl tl
    by_cases hkn : k < n2
    · have hkl : k < MV.length := by rw [N2.out]; exact hkn
      obtain ⟨mg, mo, rfl, _, d0, d1, d2⟩ := SZ.out.mv.rd k hkl
      have dn := MDN.out _ (List.getElem_mem hkl)
      have LCUR : Hid ((mvAll (MV.take k) V.bs).length = V.bs.length) := mvAll_len _ _ (fun v hv => MDN.out v (List.mem_of_mem_take hv))
      have NXB : Hid (mvAll (MV.take (k + 1)) V.bs = mvBs MV[k] (mvAll (MV.take k) V.bs)) := mvAll_take MV V.bs k hkl
      obtain ⟨cur, hcur⟩ : ∃ cur, mvAll (MV.take k) V.bs = cur := ⟨_, rfl⟩
      have AC : Hid (AllB cur) := by show AllB cur; rw [← hcur]; exact mvAll_all _ _ RV.out.bs.1
      rw [hcur] at LCUR NXB SZ
      obtain ⟨v, hv⟩ : ∃ v, MV[k] = v := ⟨_, rfl⟩
      rw [hv] at d0 d1 d2 dn NXB
      obtain ⟨fr, tt, ln⟩ := v
      unfold Mv.Dn at dn
      simp only at d0 d1 d2 dn
      obtain ⟨F, rfl⟩ : ∃ F : Nat, fr = (F : Int) := ⟨fr.toNat, by omega⟩
      obtain ⟨T, rfl⟩ : ∃ T : Nat, tt = (T : Int) := ⟨tt.toNat, by omega⟩
      obtain ⟨L, rfl⟩ : ∃ L : Nat, ln = (L : Int) := ⟨ln.toNat, by omega⟩
      obtain ⟨dn1, dn2, dn3, dn4⟩ := dn
      obtain ⟨U1, hU1⟩ : ∃ U1 : Nat, F + L = U1 := ⟨_, rfl⟩
      obtain ⟨U2, hU2⟩ : ∃ U2 : Nat, T + L = U2 := ⟨_, rfl⟩
      have b16 := HBS.out
      have bnl := BN1.out
      have bcl : bn1 ≤ bc1 ∧ bc1 ≤ 9223372036854775807 := by
        have q := ownsB_isL SZ.out.cp.bytes
        have e : (⟨V.base, V.pgs, V.ks, V.rs, V.ts, cur⟩ : Vw).bs.length = V.bs.length := LCUR.out
        unfold maxLen at q
        simp only at q e
        omega
      obtain ⟨D, hD⟩ : ∃ D, wz.alloc (.cells #[.int .i64 (F : Int), .int .i64 (T : Int), .int .i64 (L : Int)] 92) = D := ⟨_, rfl⟩
      have bD : Bl wz D := by rw [← hD]; exact (Bl.refl wz).alloc _
      have rD : D.heap[wz.heap.size]? = some (.cells #[.int .i64 (F : Int), .int .i64 (T : Int), .int .i64 (L : Int)] 92 (0, 0)) := by rw [← hD]; exact Go.heap_alloc_new wz _
      obtain ⟨ng, hng⟩ : ∃ ng, wz.heap.size = ng := ⟨_, rfl⟩
      rw [hng] at rD
      have RD : Hid (D.heap[ng]? = some (.cells #[.int .i64 (F : Int), .int .i64 (T : Int), .int .i64 (L : Int)] 92 (0, 0))) := rD
      have SD : Hid (Sld E D (vb + 1) v5 ⟨V.base, V.pgs, V.ks, V.rs, V.ts, cur⟩ ⟨ka1, some ⟨gr, 0, none⟩, sa1, some ⟨gb, 0, none⟩, kn1, rn1, sn1, bn1, kc1, rc1, sc1, bc1⟩ gr gb MV (some ⟨mg, mo, none⟩) cc2) := SZ.out.keep bD
      have TD : Hid (Told D E.heap.size (.slice a1 n1 cc1) (spV V)) := TZ.out.keep bD
      have SSS : Hid (∀ w' : World, Bl D w' → (w'.cell? ⟨v5, 5, none⟩ = some (.slice (some ⟨gb, 0, none⟩) bn1 bc1) ∧ w'.cell? ⟨ng, 0, none⟩ = some (.int .i64 (F : Int)) ∧ w'.cell? ⟨ng, 1, none⟩ = some (.int .i64 (T : Int)) ∧ w'.cell? ⟨ng, 2, none⟩ = some (.int .i64 (L : Int)))) := fun w' b => by
        have q := (six (b.row SD.out.rg)).2.2.2.2.2
        have r := b.row RD.out
        exact ⟨q, cell_of_row _ _ 0 _ _ _ r, cell_of_row _ _ 1 _ _ _ r, cell_of_row _ _ 2 _ _ _ r⟩
      obtain ⟨s5, t0, t1, t2⟩ := SSS.out D (Bl.refl _)
      obtain ⟨S, hS⟩ : ∃ S, (cur.drop F).take L = S := ⟨_, rfl⟩
      have SL : Hid (S.length = L) := by show _ = _; rw [← hS, List.length_take, List.length_drop, LCUR.out]; omega
      have CPS : Hid (∀ W : World, Bl D W → Calls Tryd.prog 23 #[.slice (some ⟨gb, F, none⟩) (U1 - F) (bc1 - F)] W fun e w' => ∃ g c', e = .returned (.slice (some ⟨g, 0, none⟩) L c') ∧ IsB w' (some ⟨g, 0, none⟩) S ∧ Below W.heap.size W w') := fun W b => by
        have q := (SD.out.cp.keep b).bytes
        have ab : AllB cur := AC.out
        have qi : IsB W (some ⟨gb, F, none⟩) S := by rw [← hS]; exact q.bk.part ab F L (by show F + L ≤ cur.length; rw [LCUR.out]; omega)
        refine (copy_any (some ⟨gb, F, none⟩) (bc1 - F) (U1 - F) S W (by rw [SL.out]; omega) qi (by rw [SL.out]; omega)).mono ?_
        rintro e w' ⟨g, c', rfl, o', b'⟩
        exact ⟨g, c', by rw [SL.out], ownsB_isB qi.1 o', b'⟩
      have STEP : Hid (∀ (w4 : World) (g c' : Nat), IsB w4 (some ⟨g, 0, none⟩) S → Bl D w4 → ∃ w5, (∀ ty, (Builtin.copy_ #[25, 25] ty #[.slice (some ⟨gb, T, none⟩) L (bc1 - T), .slice (some ⟨g, 0, none⟩) L c']).run Tryd.prog w4 = .ok (goInt L) w5) ∧ Sld E w5 (vb + 1) v5 ⟨V.base, V.pgs, V.ks, V.rs, V.ts, mvAll (MV.take (k + 1)) V.bs⟩ ⟨ka1, some ⟨gr, 0, none⟩, sa1, some ⟨gb, 0, none⟩, kn1, rn1, sn1, bn1, kc1, rc1, sc1, bc1⟩ gr gb MV (some ⟨mg, mo, none⟩) cc2 ∧ Told w5 E.heap.size (.slice a1 n1 cc1) (spV V) ∧ (w5.cell? ⟨v5, 5, none⟩ = some (.slice (some ⟨gb, 0, none⟩) bn1 bc1) ∧ w5.cell? ⟨ng, 0, none⟩ = some (.int .i64 (F : Int)) ∧ w5.cell? ⟨ng, 1, none⟩ = some (.int .i64 (T : Int)) ∧ w5.cell? ⟨ng, 2, none⟩ = some (.int .i64 (L : Int)))) := fun w4 g c' hb b => by
        have s4 := SD.out.keep b
        have t4 := TD.out.keep b
        obtain ⟨w5, hr, o5, on⟩ := copy_own w4 E.heap.size gb T L (bc1 - T) bc1 cur S ⟨g, 0, none⟩ c' s4.cp.bytes hb SL.out (by rw [LCUR.out]; omega) (by omega)
        have eN : mvAll (MV.take (k + 1)) V.bs = overR cur T S := by
          rw [NXB.out]; unfold mvBs; simp only [Int.toNat_natCast]; rw [hS]
        have l5 : (overR cur T S).length = cur.length := over_len (by rw [SL.out, LCUR.out]; omega)
        obtain ⟨_, cc, hcc⟩ := s4.cp.bytes.kind gb rfl
        have s5 := s4.lay (Tg.ofOnly on) o5 l5
        have rn4 := b.row RD.out
        have rn5 : w5.heap[ng]? = some (.cells #[.int .i64 (F : Int), .int .i64 (T : Int), .int .i64 (L : Int)] 92 (0, 0)) := by rw [on.block ng (kind_ne rn4 hcc (by decide))]; exact rn4
        refine ⟨w5, hr, by rw [eN]; exact s5, ?_, (six s5.rg).2.2.2.2.2, cell_of_row _ _ 0 _ _ _ rn5, cell_of_row _ _ 1 _ _ _ rn5, cell_of_row _ _ 2 _ _ _ rn5⟩
        exact t4.same (fun q cu t hq ht => by rw [on.block q (kind_ne hq hcc (by rcases ht with rfl | rfl <;> decide))]; exact hq)
      have v1 : IntKind.i64.wrap ((F : Int) + (L : Int)) = (U1 : Int) := by rw [IntKind.wrap_i64]; omega
      have v2 : IntKind.i64.wrap ((T : Int) + (L : Int)) = (U2 : Int) := by rw [IntKind.wrap_i64]; omega
      have v3 : (U1 : Int) ≤ (bc1 : Int) := by omega
      have v4 : (U2 : Int) ≤ (bc1 : Int) := by omega
      have v6 : ¬ ((U1 : Int) < (F : Int)) := by omega
      have v7 : ¬ ((U2 : Int) < (T : Int)) := by omega
      have v8 : ¬ bc1 = F := by omega
      have v9 : ¬ bc1 = T := by omega
      have v10 : U2 - T = L := by omega
      have k0 : (k : Int) < (n2 : Int) := by omega
      have L9 : Hid (Bl D D.drew) := (Bl.refl _).drew
      have V10 : Hid (U2 - T = L) := v10
      clear hS hcur hv dn1 dn2 dn3 dn4 b16 bnl bcl hU1 hU2 bD rD NXB v10
      go_wp2_with fail
      (try rw [hng])
      clear hng
      go_region_held3 (fun w' => w'.cell? ⟨v5, 5, none⟩ = some (.slice (some ⟨gb, 0, none⟩) bn1 bc1) ∧ w'.cell? ⟨ng, 0, none⟩ = some (.int .i64 (F : Int)) ∧ w'.cell? ⟨ng, 1, none⟩ = some (.int .i64 (T : Int)) ∧ w'.cell? ⟨ng, 2, none⟩ = some (.int .i64 (L : Int))) (with_reducible first | exact NS.out | exact SSS.out _ L4.out | exact SSS.out _ L9.out | exact SSS.out _ (Bl.refl _))
        ((first
        | (go_at_call 23; refine (CPS.out _ L9.out).mono ?_; rintro e w4 ⟨g4, c4, rfl, i4, b4⟩; have L4 : Hid (Bl D w4) := L9.out.trans b4; obtain ⟨w5, hcq, hnx, htx, hsx⟩ := STEP.out w4 g4 c4 i4 L4.out; have NX : Hid _ := hnx; have NT : Hid _ := htx; have NS : Hid _ := hsx; clear i4 b4 hnx htx hsx)
        | (have hcr := hcq; refine step_copy rfl _ _ 25 rfl (.slice (some ⟨gb, T, none⟩) L (bc1 - T)) (.slice (some ⟨g4, 0, none⟩) L c4) (by simp [Act.eval, V10.out]) (by simp [Act.eval]) (.int .i64 (L : Nat)) w5 (hcq _) ?_)))
      all_goals
        go_wp2
        go_roundw
        case rel => exact ⟨k + 1, by omega, by congr 1, NX.out, NT.out⟩
        case measure => simp [lenW]; omega
    · obtain rfl : k = n2 := by omega
      obtain ⟨BM, hBM⟩ : ∃ BM, mvAll MV V.bs = BM := ⟨_, rfl⟩
      have eT : mvAll (MV.take k) V.bs = BM := by rw [List.take_of_length_le (Nat.le_of_eq N2.out)]; exact hBM
      have HBM : Hid (mvAll (moV V) V.bs = BM) := by show _ = _; rw [HMV.out]; exact hBM
      have LBM : Hid (BM.length = V.bs.length) := by show _ = _; rw [← hBM]; exact mvAll_len _ _ MDN.out
      rw [eT] at SZ
      obtain ⟨X2, hX2⟩ : ∃ X2, wz.setCell ⟨v5, 4, none⟩ (.slice a1 n1 cc1) = X2 := ⟨_, rfl⟩
      have s2 := SZ.out.spans V5.out (by have := V5.out; have := ZE.out; omega) TZ.out N1.out
      rw [hX2] at s2
      have S2 : Hid (Sld E X2 (vb + 1) v5 ⟨V.base, V.pgs, V.ks, rowsK V 0, spV V, slL V (phV V) (fldP V 0) BM⟩ ⟨ka1, some ⟨gr, 0, none⟩, a1, some ⟨gb, 0, none⟩, kn1, rn1, n1, bn1, kc1, rc1, cc1, bc1⟩ gr gb MV a2 cc2) := by show Sld _ _ _ _ _ _ _ _ _ _ _; rw [rowsK_zero]; exact s2
      have z4 : wz.cell? ⟨v5, 4, none⟩ = some (.slice sa1 sn1 sc1) := (six SZ.out.rg).2.2.2.2.1
      have z4f : wz.frozen? ⟨v5, 4, none⟩ = false := (sixF SZ.out.rg).2.2.2.2.1
      have m3 : X2.cell? ⟨vb, 3, none⟩ = some (.slice ra rn rc) := (six (S2.out.bw.row RE.out)).2.2.2.1
      have FDS : Hid (∀ a ∈ fldP V V.rs.length, FdP V (phV V) BM.length a) := by show ∀ a ∈ _, _; rw [← HBM.out]; exact SF.out.fds HH.out
      clear eT hBM s2 SZ TZ TX MW TL
      go_wp2_with fail
      go_loopw [55] (fun iv wz => ∃ k : Nat, k ≤ rn ∧ iv = .int .i64 (k : Nat) ∧ Sld E wz (vb + 1) v5 ⟨V.base, V.pgs, V.ks, rowsK V k, spV V, slL V (phV V) (fldP V k) BM⟩ ⟨ka1, some ⟨gr, 0, none⟩, a1, some ⟨gb, 0, none⟩, kn1, rn1, n1, bn1, kc1, rc1, cc1, bc1⟩ gr gb MV a2 cc2) (fun iv _ => rn - lenW iv)
      case atStart => exact ⟨0, Nat.zero_le _, rfl, S2.out⟩
      case round =>
        obtain ⟨i, hi, rfl, sl⟩ := hrel
        rename World => wy
        have SY : Hid (Sld E wy (vb + 1) v5 ⟨V.base, V.pgs, V.ks, rowsK V i, spV V, slL V (phV V) (fldP V i) BM⟩ ⟨ka1, some ⟨gr, 0, none⟩, a1, some ⟨gb, 0, none⟩, kn1, rn1, n1, bn1, kc1, rc1, cc1, bc1⟩ gr gb MV a2 cc2) := sl
        clear sl
        by_cases hin : i < rn
        · have HIL : Hid (i < V.rs.length) := by show _ < _; rw [LN.out.2.1]; exact hin
          obtain ⟨b, off, ea, q0, q1, q2, q3⟩ := (RV.out.rs.keep SY.out.bw).at i HIL.out
          simp only at ea
          subst ea
          obtain ⟨R, hR⟩ : ∃ R, rwD V.rs i = R := ⟨_, rfl⟩
          have HR : Hid (rwD V.rs i = R) := hR
          rw [hR] at q0 q1 q2 q3
          obtain ⟨gen, lv, kd, pl⟩ := R
          simp only at q0 q1 q2 q3
          obtain ⟨D, hD⟩ : ∃ D, wy.alloc (.cells #[.int .i64 gen, .bool lv, .int .i64 kd, .int .i64 pl] 50) = D := ⟨_, rfl⟩
          have bD : Bl wy D := by rw [← hD]; exact (Bl.refl wy).alloc _
          have rD : D.heap[wy.heap.size]? = some (.cells #[.int .i64 gen, .bool lv, .int .i64 kd, .int .i64 pl] 50 (0, 0)) := by rw [← hD]; exact Go.heap_alloc_new wy _
          have SD : Hid (Sld E D (vb + 1) v5 ⟨V.base, V.pgs, V.ks, rowsK V i, spV V, slL V (phV V) (fldP V i) BM⟩ ⟨ka1, some ⟨gr, 0, none⟩, a1, some ⟨gb, 0, none⟩, kn1, rn1, n1, bn1, kc1, rc1, cc1, bc1⟩ gr gb MV a2 cc2) := SY.out.keep bD
          obtain ⟨ng, hng⟩ : ∃ ng, wy.heap.size = ng := ⟨_, rfl⟩
          have hgr : gr < ng := by
            obtain ⟨cu, hcu⟩ := SY.out.cp.rows.kind gr rfl
            rw [← hng]; exact hlt hcu
          rw [hng] at rD
          have RD : Hid (D.heap[ng]? = some (.cells #[.int .i64 gen, .bool lv, .int .i64 kd, .int .i64 pl] 50 (0, 0))) := rD
          have e1 : D.cell? ⟨ng, 1, none⟩ = some (.bool lv) := cell_of_row _ _ 1 _ _ _ rD
          have e2 : D.cell? ⟨ng, 2, none⟩ = some (.int .i64 kd) := cell_of_row _ _ 2 _ _ _ rD
          have k0 : (i : Int) < (rn : Int) := by omega
          clear hR bD rD m3 z4 z4f hX2
          cases lv with
          | false =>
            have LD : (rwD V.rs i).live = false := by rw [HR.out]
            have NX : Hid (Sld E D (vb + 1) v5 ⟨V.base, V.pgs, V.ks, rowsK V (i + 1), spV V, slL V (phV V) (fldP V (i + 1)) BM⟩ ⟨ka1, some ⟨gr, 0, none⟩, a1, some ⟨gb, 0, none⟩, kn1, rn1, n1, bn1, kc1, rc1, cc1, bc1⟩ gr gb MV a2 cc2) := by show Sld _ _ _ _ _ _ _ _ _ _ _; rw [rowsK_dead HIL.out LD, fldP_dead LD]; exact SD.out
            clear LD
            go_wp2
            go_roundw
            case rel => exact ⟨i + 1, by omega, by congr 1, NX.out⟩
            case measure => simp [lenW]; omega
          | true =>
            have LV : Hid ((rwD V.rs i).live = true) := by show _ = _; rw [HR.out]
            have OBJ : Hid (ObjF V i) := HH.out.obj (by decide) i HIL.out LV.out
            have NWF : Hid (NwF V i) := SF.out.new HH.out HIL.out LV.out
            obtain ⟨kj, rfl⟩ : ∃ kj : Nat, kd = (kj : Int) := ⟨kd.toNat, by have : 0 ≤ (rwD V.rs i).kind := OBJ.out.kd.1; rw [HR.out] at this; simp only at this; omega⟩
            obtain ⟨xn, rfl⟩ : ∃ xn : Nat, pl = (xn : Int) := ⟨pl.toNat, by have : 0 ≤ (rwD V.rs i).pl := OBJ.out.pl; rw [HR.out] at this; simp only at this; omega⟩
            obtain ⟨yn, hyn⟩ : ∃ yn : Nat, phV V (xn : Int) = (yn : Int) := ⟨(phV V (xn : Int)).toNat, by have := NWF.out.x0; rw [HR.out] at this; simp only at this; omega⟩
            have HYN : Hid (phV V (xn : Int) = (yn : Int)) := hyn
            have WH : Hid (whereI (xn : Int) MV = (yn : Int)) := by show _ = _; rw [← HMV.out]; exact hyn
            have FIT : Hid (xn + zOf V i ≤ V.bs.length ∧ yn + zOf V i ≤ V.bs.length ∧ V.bs.length ≤ 16384) := by
              have f1 := OBJ.out.fit
              have f2 := NWF.out.fit
              have f3 := HBS.out
              rw [HR.out] at f1 f2
              simp only [Int.toNat_natCast] at f1 f2
              rw [HYN.out] at f2
              exact ⟨by omega, by omega, f3⟩
            have hkj : kj < V.ks.length := by have : (rwD V.rs i).kind < V.ks.length := OBJ.out.kd.2; rw [HR.out] at this; simp only at this; omega
            have kk0 : (kj : Int) < (kn : Int) := by have := LN.out.1; omega
            have ik0 : (i : Int) < (rn1 : Int) := by have := LN.out.2.1; have := RN1.out; omega
            have SSS : Hid (∀ w' : World, Bl D w' → (w'.cell? ⟨v5, 3, none⟩ = some (.slice (some ⟨gr, 0, none⟩) rn1 rc1) ∧ w'.cell? ⟨ng, 3, none⟩ = some (.int .i64 (xn : Int)))) := fun w' b =>
              ⟨(six (b.row SD.out.rg)).2.2.2.1, cell_of_row _ _ 3 _ _ _ (b.row RD.out)⟩
            have STO : Hid (∀ u : World, Bl D u → u.cell? ⟨gr, i * 4 + 3, none⟩ = some (.int .i64 (xn : Int)) ∧ u.frozen? ⟨gr, i * 4 + 3, none⟩ = false ∧ Sld E (u.setCell ⟨gr, i * 4 + 3, none⟩ (.int .i64 (yn : Int))) (vb + 1) v5 ⟨V.base, V.pgs, V.ks, rowsK V (i + 1), spV V, slL V (phV V) (fldP V i) BM⟩ ⟨ka1, some ⟨gr, 0, none⟩, a1, some ⟨gb, 0, none⟩, kn1, rn1, n1, bn1, kc1, rc1, cc1, bc1⟩ gr gb MV a2 cc2 ∧ (u.setCell ⟨gr, i * 4 + 3, none⟩ (.int .i64 (yn : Int))).heap[ng]? = some (.cells #[.int .i64 gen, .bool true, .int .i64 (kj : Int), .int .i64 (xn : Int)] 50 (0, 0)) ∧ ((u.setCell ⟨gr, i * 4 + 3, none⟩ (.int .i64 (yn : Int))).cell? ⟨v5, 3, none⟩ = some (.slice (some ⟨gr, 0, none⟩) rn1 rc1) ∧ (u.setCell ⟨gr, i * 4 + 3, none⟩ (.int .i64 (yn : Int))).cell? ⟨ng, 3, none⟩ = some (.int .i64 (xn : Int)))) := fun u b => by
              have su := SD.out.keep b
              have ru := b.row RD.out
              have hl : i < (rowsK V i).length := by rw [rowsK_len]; exact HIL.out
              obtain ⟨g', eg, _, _, _, _, _, c3⟩ := su.cp.rows.cells i hl
              cases eg
              obtain ⟨cu, hcu⟩ := su.cp.rows.kind gr rfl
              have e3 : (rowsK V i)[i] = rwD V.rs i := by rw [← rowsK_at HIL.out, rwD_at hl]
              have c3 : u.cell? ⟨gr, i * 4 + 3, none⟩ = some (.int .i64 ((rowsK V i)[i]).pl) := c3
              rw [e3, HR.out] at c3
              have on := Only.set gr (i * 4 + 3) (.int .i64 (yn : Int)) u
              have ro := su.cp.rows.set3 i hl (yn : Int)
              have er : (rowsK V i).set i { rwD (rowsK V i) i with pl := (yn : Int) } = rowsK V (i + 1) := by
                rw [← rowsK_live HIL.out LV.out, HR.out, HYN.out]
              have er' : (⟨V.base, V.pgs, V.ks, rowsK V i, spV V, slL V (phV V) (fldP V i) BM⟩ : Vw).rs = rowsK V i := rfl
              rw [er', er] at ro
              have sn := su.row on ro (by show (rowsK V (i + 1)).length = (rowsK V i).length; rw [rowsK_len, rowsK_len])
              have rn' : (u.setCell ⟨gr, i * 4 + 3, none⟩ (.int .i64 (yn : Int))).heap[ng]? = some (.cells #[.int .i64 gen, .bool true, .int .i64 (kj : Int), .int .i64 (xn : Int)] 50 (0, 0)) := by rw [on.block ng (by omega)]; exact ru
              exact ⟨c3, frozen_of_row u gr _ _ _ hcu, sn, rn', (six sn.rg).2.2.2.1, cell_of_row _ _ 3 _ _ _ rn'⟩
            obtain ⟨s3, n3⟩ := SSS.out D (Bl.refl _)
            have L9 : Hid (Bl D D.drew) := (Bl.refl _).drew
            have WHC : Hid (∀ W : World, Bl D W → Calls Tryd.prog 44 #[.int .i64 (xn : Int), .slice a2 k cc2] W fun e w' => e = .returned (.int .i64 (yn : Int)) ∧ Below W.heap.size W w') := fun W b =>
              rwhere_any a2 k cc2 MV (xn : Int) W (SD.out.keep b).mv.rd N2.out (by omega) MOK.out (by omega) (by have := FIT.out; omega) (yn : Int) WH.out
            clear hyn
            go_wp2_with fail
            (try rw [hng])
            clear hng
            go_region_held3 (fun w' => w'.cell? ⟨v5, 3, none⟩ = some (.slice (some ⟨gr, 0, none⟩) rn1 rc1) ∧ w'.cell? ⟨ng, 3, none⟩ = some (.int .i64 (xn : Int))) (with_reducible first | exact NS.out | exact SSS.out _ L4.out | exact SSS.out _ L9.out | exact SSS.out _ (Bl.refl _))
              ((go_at_call 44; refine (WHC.out _ L9.out).mono ?_; rintro e w4 ⟨rfl, b4⟩; have L4 : Hid (Bl D w4) := L9.out.trans b4; obtain ⟨f1, f2, f3, f4, f5⟩ := STO.out w4 L4.out; have NX : Hid _ := f3; have NR : Hid _ := f4; have NS : Hid _ := f5; clear b4 f3 f4 f5))
            obtain ⟨Y, hY⟩ : ∃ Y, w4.setCell ⟨gr, i * 4 + 3, none⟩ (.int .i64 (yn : Int)) = Y := ⟨_, rfl⟩
            rw [hY] at NX NR
            have SY1 : Hid (Sld E Y (vb + 1) v5 ⟨V.base, V.pgs, V.ks, rowsK V (i + 1), spV V, slL V (phV V) (fldP V i) BM⟩ ⟨ka1, some ⟨gr, 0, none⟩, a1, some ⟨gb, 0, none⟩, kn1, rn1, n1, bn1, kc1, rc1, cc1, bc1⟩ gr gb MV a2 cc2) := NX.out
            have RY1 : Hid (Y.heap[ng]? = some (.cells #[.int .i64 gen, .bool true, .int .i64 (kj : Int), .int .i64 (xn : Int)] 50 (0, 0))) := NR.out
            obtain ⟨l, hl⟩ : ∃ l, psOf V i = l := ⟨_, rfl⟩
            have HL : Hid (psOf V i = l) := hl
            have hKl : (V.ks[kj]'hkj).l = l := by
              rw [← knD_at hkj, ← hl]; unfold psOf; simp only [HR.out, Int.toNat_natCast]
            obtain ⟨ll, hll⟩ : ∃ ll, l.length = ll := ⟨_, rfl⟩
            have HLL : Hid (l.length = ll) := hll
            have l9 : ll ≤ 16 := by rw [← hll, ← hl]; exact OBJ.out.pn
            obtain ⟨gk, ok, la, lc, ea2, f6, f7, hIl, hx8, hx9⟩ := RV.out.ks kj hkj
            simp only at ea2
            rw [hKl] at f7 hIl
            rw [hll] at f7
            subst ea2
            have HILL : Hid (IsI E la l) := hIl
            have Q5 := bcell SY1.out.bw f7
            have y2c : Y.cell? ⟨vb, 2, none⟩ = some (.slice (some ⟨gk, ok, none⟩) kn kc) := (six (SY1.out.bw.row RE.out)).2.2.1
            have n2c : Y.cell? ⟨ng, 2, none⟩ = some (.int .i64 (kj : Int)) := cell_of_row _ _ 2 _ _ _ RY1.out
            obtain ⟨_, hb0 | ⟨bbk, boff, eba, _, _⟩⟩ := RV.out.bs
            · have := FIT.out; have z0 := OBJ.out.z0; rw [hb0] at this; simp at this; omega
            simp only at eba
            subst eba
            have BKC : Hid (bn ≤ bc ∧ bc ≤ 9223372036854775807) := RV.out.bk
            rw [hY]
            clear hx8 hx9 hkj hl hKl hll f6 f7 hIl f1 f2 hY NX NR NS L9 L4 e1 e2 s3 n3 q0 q1 q2 q3 STO SSS WHC hgr
            go_wp2_with fail
            go_loopw [80] (fun iv wv => ∃ m : Nat, m ≤ ll ∧ iv = .int .i64 (m : Nat) ∧ Sld E wv (vb + 1) v5 ⟨V.base, V.pgs, V.ks, rowsK V (i + 1), spV V, slL V (phV V) (fldP V i ++ (fldQ V i).take m) BM⟩ ⟨ka1, some ⟨gr, 0, none⟩, a1, some ⟨gb, 0, none⟩, kn1, rn1, n1, bn1, kc1, rc1, cc1, bc1⟩ gr gb MV a2 cc2 ∧ wv.heap[ng]? = some (.cells #[.int .i64 gen, .bool true, .int .i64 (kj : Int), .int .i64 (xn : Int)] 50 (0, 0))) (fun iv _ => ll - lenW iv)
            case atStart => exact ⟨0, Nat.zero_le _, rfl, by simpa using SY1.out, RY1.out⟩
            case round =>
              obtain ⟨m, hm, rfl, sl, rg⟩ := hrel
              rename World => wv
              have ALL : Hid (∀ a ∈ fldP V i ++ (fldQ V i).take m, FdP V (phV V) BM.length a) := fun a ha => by
                rcases List.mem_append.1 ha with q | q
                · obtain ⟨i', p, hi', li, hp, rfl⟩ := fldP_mem q
                  exact FDS.out _ (fldP_in li hp (Nat.lt_trans hi' HIL.out))
                · obtain ⟨p, hp, rfl⟩ := List.mem_map.1 (List.mem_of_mem_take q)
                  exact FDS.out _ (fldP_in LV.out hp HIL.out)
              have CL : Hid ((slL V (phV V) (fldP V i ++ (fldQ V i).take m) BM).length = V.bs.length) := by show _ = _; rw [slL_len _ _ ALL.out, LBM.out]
              obtain ⟨cur, hcur⟩ : ∃ cur, slL V (phV V) (fldP V i ++ (fldQ V i).take m) BM = cur := ⟨_, rfl⟩
              have HCUR : Hid (slL V (phV V) (fldP V i ++ (fldQ V i).take m) BM = cur) := hcur
              rw [hcur] at sl CL
              have SV : Hid (Sld E wv (vb + 1) v5 ⟨V.base, V.pgs, V.ks, rowsK V (i + 1), spV V, cur⟩ ⟨ka1, some ⟨gr, 0, none⟩, a1, some ⟨gb, 0, none⟩, kn1, rn1, n1, bn1, kc1, rc1, cc1, bc1⟩ gr gb MV a2 cc2) := sl
              have RG : Hid (wv.heap[ng]? = some (.cells #[.int .i64 gen, .bool true, .int .i64 (kj : Int), .int .i64 (xn : Int)] 50 (0, 0))) := rg
              clear sl rg hcur
              by_cases hmn : m < ll
              · have hml : m < l.length := by rw [HLL.out]; exact hmn
                obtain ⟨gl, ol, rfl, cl⟩ := (HILL.out.keep SV.out.bw).get m hml
                have hpm : l.getD m 0 ∈ psOf V i := by rw [HL.out]; simp [List.getD, hml]
                obtain ⟨p0, p1⟩ := OBJ.out.ps _ hpm
                have ET := fldQ_take (V := V) (k := i) (m := m) (by rw [HL.out]; exact hml)
                rw [HL.out, HR.out] at ET
                simp only [HYN.out] at ET
                obtain ⟨y, hy⟩ : ∃ y, l.getD m 0 = y := ⟨_, rfl⟩
                rw [hy] at cl hpm p0 p1 ET
                obtain ⟨p, rfl⟩ : ∃ p : Nat, y = (p : Int) := ⟨y.toNat, by omega⟩
                have ft := FIT.out
                obtain ⟨o, ho⟩ : ∃ o : Nat, xn + p = o := ⟨_, rfl⟩
                obtain ⟨no, hno⟩ : ∃ no : Nat, yn + p = no := ⟨_, rfl⟩
                have eo : (xn : Int) + (p : Int) = (o : Int) := by omega
                have eno : (yn : Int) + (p : Int) = (no : Int) := by omega
                have HNO : Hid ((yn : Int) + (p : Int) = (no : Int)) := eno
                rw [eo, eno] at ET
                have NXT : Hid (slL V (phV V) (fldP V i ++ (fldQ V i).take (m + 1)) BM = slS V (phV V) cur ((o : Int), (no : Int))) := by
                  show _ = _
                  rw [ET, ← List.append_assoc, slL_snoc, HCUR.out]
                have HO : Hid (o + 8 ≤ V.bs.length ∧ no + 8 ≤ V.bs.length) := ⟨by omega, by omega⟩
                obtain ⟨v, hv⟩ : ∃ v, wordV V.bs (o : Int) = v := ⟨_, rfl⟩
                have HV : Hid (wordV V.bs (o : Int) = v) := hv
                have win := SF.out.lead HH.out HIL.out LV.out hpm
                rw [HR.out] at win
                simp only at win
                rw [eo, hv] at win
                have WIN : Hid (v = 0 ∨ (V.base ≤ v ∧ v - V.base < V.bs.length ∧ 0 ≤ phV V (v - V.base) ∧ phV V (v - V.base) ≤ V.bs.length)) := win
                have HGV : Hid (getL (((V.bs.drop o).take 8).take 8) = v) := by
                  show _ = _
                  rw [← hv, wordV, Int.toNat_natCast, List.take_take]
                  rfl
                have gd := (HH.out.r1 (by decide)).2.2.1
                unfold goodR at gd
                rw [EV.out.1] at gd
                have GD : Hid (256 ≤ base ∧ base ≤ 1099511627776) := ⟨gd.1, gd.2.1⟩
                have IP : Hid (IsB wv (some ⟨bbk, boff + o, none⟩) ((V.bs.drop o).take 8)) := (RV.out.bs.keep SV.out.bw).part o 8
                have HL8 : Hid (8 = ((V.bs.drop o).take 8).length) := by show _ = _; simp; omega
                obtain ⟨o8, ho8⟩ : ∃ o8 : Nat, o + 8 = o8 := ⟨_, rfl⟩
                have HO8 : Hid (o8 - o = 8) := by show _ = _; omega
                have blk := BKC.out
                have bnl := LN.out.2.2.1
                have a1 : IntKind.i64.wrap ((xn : Int) + (p : Int)) = (o : Int) := by rw [IntKind.wrap_i64]; omega
                have a2' : IntKind.i64.wrap ((o : Int) + 8) = (o8 : Int) := by rw [IntKind.wrap_i64]; omega
                have s1 : ¬ ((o8 : Int) < (o : Int)) := by omega
                have s2 : (o8 : Int) ≤ (bc : Int) := by omega
                have s3 : ¬ bc = o := by omega
                obtain ⟨c0, c1, c2', c3, c4, c5⟩ := six (SV.out.bw.row RE.out)
                have d3 : wv.cell? ⟨ng, 3, none⟩ = some (.int .i64 (xn : Int)) := cell_of_row _ _ 3 _ _ _ RG.out
                have m0 : (m : Int) < (ll : Int) := by omega
                clear hy p0 p1 hpm ft ho hno eo eno ET hv win gd hml ho8 blk bnl
                go_wp2_with fail
                refine (rget_of (some ⟨bbk, boff + o, none⟩) _ _ ((V.bs.drop o).take 8) v _ (by have := HL8.out; have := HO8.out; omega) HGV.out IP.out (by have := HL8.out; unfold maxLen; omega)).mono ?_
                rintro e w2 ⟨rfl, rfl⟩
                clear c0 c1 c2' c3 c4 c5 d3 cl a1 a2' s1 s2 s3
                by_cases v0 : v = 0
                · have q0 : (v != 0) = false := by rw [v0]; rfl
                  have NX2 : Hid (slS V (phV V) cur ((o : Int), (no : Int)) = cur) := by show _ = _; unfold slS; rw [if_pos (by show wordV V.bs (o : Int) = 0; rw [HV.out]; exact v0)]
                  clear v0
                  go_wp2
                  go_roundw
                  case rel => exact ⟨m + 1, by omega, by congr 1, by rw [NXT.out, NX2.out]; exact SV.out, RG.out⟩
                  case measure => simp [lenW]; omega
                · have q0 : (v != 0) = true := by rw [bne_iff_ne]; exact v0
                  obtain ⟨v1, v2, v3, v4⟩ : V.base ≤ v ∧ v - V.base < V.bs.length ∧ 0 ≤ phV V (v - V.base) ∧ phV V (v - V.base) ≤ V.bs.length := by rcases WIN.out with q | q; exact absurd q v0; exact q
                  rw [EV.out.1] at v1 v2 v3 v4
                  have b16 := HBS.out
                  have gd := GD.out
                  obtain ⟨y1, hy1⟩ : ∃ y1, v - base = y1 := ⟨_, rfl⟩
                  obtain ⟨z2, hz2⟩ : ∃ z2, phV V y1 = z2 := ⟨_, rfl⟩
                  rw [hy1] at v2 v3 v4
                  rw [hz2] at v3 v4
                  obtain ⟨y2, hy2⟩ : ∃ y2, base + z2 = y2 := ⟨_, rfl⟩
                  have WH2 : Hid (whereI y1 MV = z2) := by show _ = _; rw [← HMV.out]; exact hz2
                  have Y1 : Hid (0 ≤ y1 ∧ y1 ≤ 1099511627776) := ⟨by omega, by omega⟩
                  have Y2 : Hid (0 ≤ y2 ∧ y2 ≤ 18446744073709551615) := ⟨by omega, by omega⟩
                  have g1 : IntKind.i64.wrap v = v := by rw [IntKind.wrap_i64]; omega
                  have g2 : IntKind.i64.wrap (v - base) = y1 := by rw [IntKind.wrap_i64]; omega
                  have g3 : IntKind.i64.wrap (base + z2) = y2 := by rw [IntKind.wrap_i64]; omega
                  have g4 : IntKind.u64.wrap y2 = y2 := by rw [IntKind.wrap_u64]; omega
                  have g5 : IntKind.i64.wrap ((yn : Int) + (p : Int)) = (no : Int) := by have q := HO.out; rw [HNO.out, IntKind.wrap_i64]; omega
                  have NX2 : Hid (slS V (phV V) cur ((o : Int), (no : Int)) = overR cur no (putL 8 y2)) := by
                    show _ = _
                    unfold slS
                    simp only
                    rw [if_neg (by rw [HV.out]; exact v0), HV.out, Int.toNat_natCast, EV.out.1, hy1, hz2, hy2]
                  have L2 : Hid (bn1 = cur.length ∧ no + 8 ≤ bn1 ∧ bn1 ≤ 1000000000) := by
                    have := BN1.out; have := CL.out; have := HO.out
                    exact ⟨by omega, by omega, by omega⟩
                  have SSS : Hid (∀ w' : World, Bl wv w' → (w'.cell? ⟨v5, 5, none⟩ = some (.slice (some ⟨gb, 0, none⟩) bn1 bc1) ∧ w'.cell? ⟨v5, 3, none⟩ = some (.slice (some ⟨gr, 0, none⟩) rn1 rc1) ∧ w'.cell? ⟨gr, i * 4 + 3, none⟩ = some (.int .i64 (yn : Int)) ∧ w'.cell? ⟨vb, 0, none⟩ = some (.int .i64 base))) := fun w' b => by
                    have su := SV.out.keep b
                    have hl : i < (rowsK V (i + 1)).length := by rw [rowsK_len]; exact HIL.out
                    obtain ⟨g', eg, _, _, _, _, _, c3⟩ := su.cp.rows.cells i hl
                    cases eg
                    have e3 : ((rowsK V (i + 1))[i]).pl = (yn : Int) := by
                      have q := rowsK_live HIL.out LV.out
                      have hl' : i < (rowsK V i).length := by rw [rowsK_len]; exact HIL.out
                      have e := congrArg (fun l : List HRw => l[i]?) q
                      simp only [List.getElem?_set_self hl'] at e
                      rw [List.getElem?_eq_getElem hl] at e
                      have e := Option.some.inj e
                      rw [← e, HR.out, HYN.out]
                    have c3 : w'.cell? ⟨gr, i * 4 + 3, none⟩ = some (.int .i64 ((rowsK V (i + 1))[i]).pl) := c3
                    rw [e3] at c3
                    obtain ⟨_, _, _, x3, _, x5⟩ := six su.rg
                    exact ⟨x5, x3, c3, (six (su.bw.row RE.out)).1⟩
                  have WHC : Hid (∀ W : World, Bl wv W → Calls Tryd.prog 44 #[.int .i64 y1, .slice a2 k cc2] W fun e w' => e = .returned (.int .i64 z2) ∧ Below W.heap.size W w') := fun W b =>
                    rwhere_any a2 k cc2 MV y1 W (SV.out.keep b).mv.rd N2.out (by omega) MOK.out Y1.out.1 Y1.out.2 z2 WH2.out
                  have LAY : Hid (∀ W : World, Bl wv W → Calls Tryd.prog 20 #[.slice (some ⟨gb, 0, none⟩) bn1 bc1, .int .i64 (no : Int), .int .u64 y2] W fun e w' => e = .returned (.tuple #[]) ∧ Sld E w' (vb + 1) v5 ⟨V.base, V.pgs, V.ks, rowsK V (i + 1), spV V, overR cur no (putL 8 y2)⟩ ⟨ka1, some ⟨gr, 0, none⟩, a1, some ⟨gb, 0, none⟩, kn1, rn1, n1, bn1, kc1, rc1, cc1, bc1⟩ gr gb MV a2 cc2 ∧ w'.heap[ng]? = some (.cells #[.int .i64 gen, .bool true, .int .i64 (kj : Int), .int .i64 (xn : Int)] 50 (0, 0)) ∧ (w'.cell? ⟨v5, 5, none⟩ = some (.slice (some ⟨gb, 0, none⟩) bn1 bc1) ∧ w'.cell? ⟨v5, 3, none⟩ = some (.slice (some ⟨gr, 0, none⟩) rn1 rc1) ∧ w'.cell? ⟨gr, i * 4 + 3, none⟩ = some (.int .i64 (yn : Int)) ∧ w'.cell? ⟨vb, 0, none⟩ = some (.int .i64 base))) := fun W b => by
                    have su := SV.out.keep b
                    have ru := b.row RG.out
                    refine (lay_own E.heap.size bc1 gb bc1 bn1 no cur y2 W su.cp.bytes L2.out.1 L2.out.2.1 L2.out.2.2 Y2.out.1 Y2.out.2).mono ?_
                    rintro e w' ⟨rfl, o4, t4⟩
                    obtain ⟨_, cc, hcc⟩ := su.cp.bytes.kind gb rfl
                    obtain ⟨cu, hcu⟩ := su.cp.rows.kind gr rfl
                    have sn := su.lay t4 o4 (by show (overR cur no (putL 8 y2)).length = cur.length; exact over_len (by rw [putL_len]; have := L2.out; omega))
                    obtain ⟨x1, x2, x3, x4⟩ := SSS.out W b
                    refine ⟨rfl, sn, by rw [t4.block ng (hlt ru) (kind_ne ru hcc (by decide))]; exact ru, (six sn.rg).2.2.2.2.2, (six sn.rg).2.2.2.1, t4.cell x3 (kind_ne hcu hcc (by decide)), (six (sn.bw.row RE.out)).1⟩
                  obtain ⟨x5, x3, x4, x0⟩ := SSS.out wv (Bl.refl _)
                  have L9 : Hid (Bl wv wv.drew) := (Bl.refl _).drew
                  clear v0 v1 v2 v3 v4 b16 gd hy1 hz2 hy2
                  go_wp2_with fail
                  go_region_held3 (fun w' => w'.cell? ⟨v5, 5, none⟩ = some (.slice (some ⟨gb, 0, none⟩) bn1 bc1) ∧ w'.cell? ⟨v5, 3, none⟩ = some (.slice (some ⟨gr, 0, none⟩) rn1 rc1) ∧ w'.cell? ⟨gr, i * 4 + 3, none⟩ = some (.int .i64 (yn : Int)) ∧ w'.cell? ⟨vb, 0, none⟩ = some (.int .i64 base)) (with_reducible first | exact NS.out | exact SSS.out _ L4.out | exact SSS.out _ L9.out | exact SSS.out _ (Bl.refl _))
                    ((first
                    | (have hz := L4; go_at_call 20; refine (LAY.out _ L4.out).mono ?_; rintro e w5 ⟨rfl, f1, f2, f3⟩; have NXS : Hid _ := f1; have NXR : Hid _ := f2; have NS : Hid _ := f3; clear hz f1 f2 f3)
                    | (go_at_call 44; refine (WHC.out _ L9.out).mono ?_; rintro e w4 ⟨rfl, b4⟩; have L4 : Hid (Bl wv w4) := L9.out.trans b4; clear b4)))
                  all_goals
                    go_wp2
                    go_roundw
                    case rel => exact ⟨m + 1, by omega, by congr 1, by rw [NXT.out, NX2.out]; exact NXS.out, NXR.out⟩
                    case measure => simp [lenW]; omega
              · obtain rfl : m = ll := by omega
                have NXL : Hid (Sld E wv (vb + 1) v5 ⟨V.base, V.pgs, V.ks, rowsK V (i + 1), spV V, slL V (phV V) (fldP V (i + 1)) BM⟩ ⟨ka1, some ⟨gr, 0, none⟩, a1, some ⟨gb, 0, none⟩, kn1, rn1, n1, bn1, kc1, rc1, cc1, bc1⟩ gr gb MV a2 cc2) := by
                  show Sld _ _ _ _ _ _ _ _ _ _ _
                  have e : (fldQ V i).take m = fldQ V i := List.take_of_length_le (by unfold fldQ; rw [List.length_map, HL.out, HLL.out]; exact Nat.le_refl _)
                  rw [fldP_live LV.out, ← e, HCUR.out]
                  exact SV.out
                go_wp2
                go_roundw
                case rel => exact ⟨i + 1, by omega, by congr 1, NXL.out⟩
                case measure => simp [lenW]; omega
        · obtain rfl : i = rn := by omega
          have SE : Hid (Sld E wy (vb + 1) v5 (slidV V) ⟨ka1, some ⟨gr, 0, none⟩, a1, some ⟨gb, 0, none⟩, kn1, rn1, n1, bn1, kc1, rc1, cc1, bc1⟩ gr gb MV a2 cc2) := by
            show Sld _ _ _ _ _ _ _ _ _ _ _
            unfold slidV
            rw [← rowsK_full V (Nat.le_of_eq LN.out.2.1), HBM.out, LN.out.2.1]
            exact SY.out
          obtain ⟨c0, c1, c2, c3, c4, c5⟩ := six SE.out.rg
          have eb : (slidV V).base = base := EV.out.1
          have ep : (slidV V).pgs = pgs := EV.out.2
          rw [eb] at c0
          rw [ep] at c1
          obtain ⟨y0, y1, y2, y3, y4, y5⟩ := six SE.out.r0
          obtain ⟨f0, f1, f2, f3, f4, f5⟩ := sixF SE.out.r0
          have rq := layV_row (a := .int .i64 base) (b := .int .i64 pgs) (c := .slice ka1 kn1 kc1) (d := .slice (some ⟨gr, 0, none⟩) rn1 rc1) (e := .slice a1 n1 cc1) (f := .slice (some ⟨gb, 0, none⟩) bn1 bc1) SE.out.r0
          have on := layV_only wy (vb + 1) (.int .i64 base) (.int .i64 pgs) (.slice ka1 kn1 kc1) (.slice (some ⟨gr, 0, none⟩) rn1 rc1) (.slice a1 n1 cc1) (.slice (some ⟨gb, 0, none⟩) bn1 bc1)
          have FC : Hid (Cpy (layV wy (vb + 1) (.int .i64 base) (.int .i64 pgs) (.slice ka1 kn1 kc1) (.slice (some ⟨gr, 0, none⟩) rn1 rc1) (.slice a1 n1 cc1) (.slice (some ⟨gb, 0, none⟩) bn1 bc1)) w.heap.size (slidV (⟨base, pgs, ks, rs, ts, bs⟩ : Vw)) ⟨ka1, some ⟨gr, 0, none⟩, a1, some ⟨gb, 0, none⟩, kn1, rn1, n1, bn1, kc1, rc1, cc1, bc1⟩ gr gb) := by
            show Cpy _ _ _ _ _ _
            rw [← FEQ.out]
            have q := SE.out.cp.boxed (fun g c t hg ht => by rw [on.block g (kind_ne hg SE.out.r0 ht)]; exact hg)
            have zz : w.heap.size ≤ E.heap.size := Below.size BE.out
            refine ⟨q.ra, q.ba, q.rn, q.sn, q.bn, q.kn, q.rows.mono zz, q.spans.monoD zz, q.bytes.mono zz, ?_⟩
            obtain ⟨xs, k1, ⟨k2, k3 | ⟨g, cc, cu, k3, k4, k5⟩⟩, k6⟩ := q.kinds
            · exact ⟨xs, k1, ⟨k2, .inl k3⟩, fun x hx => (k6 x hx).mono zz⟩
            · exact ⟨xs, k1, ⟨k2, .inr ⟨g, cc, cu, k3, by omega, k5⟩⟩, fun x hx => (k6 x hx).mono zz⟩
          have FB : Hid (Below w.heap.size w (layV wy (vb + 1) (.int .i64 base) (.int .i64 pgs) (.slice ka1 kn1 kc1) (.slice (some ⟨gr, 0, none⟩) rn1 rc1) (.slice a1 n1 cc1) (.slice (some ⟨gb, 0, none⟩) bn1 bc1))) := Below.trans (BE.out.trans SE.out.bw) (on.below (by have := HVB.out; omega))
          obtain ⟨e0, e1', e2, e3, e4, e5⟩ := six rq
          have LVV : Hid (layV wy (vb + 1) (.int .i64 base) (.int .i64 pgs) (.slice ka1 kn1 kc1) (.slice (some ⟨gr, 0, none⟩) rn1 rc1) (.slice a1 n1 cc1) (.slice (some ⟨gb, 0, none⟩) bn1 bc1) = (((((wy.setCell ⟨vb + 1, 0, none⟩ (.int .i64 base)).setCell ⟨vb + 1, 1, none⟩ (.int .i64 pgs)).setCell ⟨vb + 1, 2, none⟩ (.slice ka1 kn1 kc1)).setCell ⟨vb + 1, 3, none⟩ (.slice (some ⟨gr, 0, none⟩) rn1 rc1)).setCell ⟨vb + 1, 4, none⟩ (.slice a1 n1 cc1)).setCell ⟨vb + 1, 5, none⟩ (.slice (some ⟨gb, 0, none⟩) bn1 bc1)) := rfl
          obtain ⟨LW, hLW⟩ : ∃ LW, layV wy (vb + 1) (.int .i64 base) (.int .i64 pgs) (.slice ka1 kn1 kc1) (.slice (some ⟨gr, 0, none⟩) rn1 rc1) (.slice a1 n1 cc1) (.slice (some ⟨gb, 0, none⟩) bn1 bc1) = LW := ⟨_, rfl⟩
          rw [hLW] at e0 e1' e2 e3 e4 e5 FC FB LVV
          clear rq on hLW eb ep m3 z4 z4f hX2
          go_wp2_with fail
          rw [← LVV.out]
          refine bodyPost_ret (v := .agg #[.int .i64 base, .int .i64 pgs, .slice ka1 kn1 kc1, .slice (some ⟨gr, 0, none⟩) rn1 rc1, .slice a1 n1 cc1, .slice (some ⟨gb, 0, none⟩) bn1 bc1]) (by simp [results, Tryd.results19, go_sem, e0, e1', e2, e3, e4, e5]) rfl ⟨⟨ka1, some ⟨gr, 0, none⟩, a1, some ⟨gb, 0, none⟩, kn1, rn1, n1, bn1, kc1, rc1, cc1, bc1⟩, rfl, ⟨gr, gb, FC.out⟩, FB.out⟩
end Go.Proofs.YtebmegghojiegaaDoor
