/- The document's Check of a view. -/
import Derived.Test.YtbfamjnnlcopiaaGreatDoorAxD
import Derived.Test.YtbfamjnnlcopiaaGreatDoorBcC
import Derived.Test.YtbfamjnnlcopiaaGreatDoorAwH
import Derived.BigQuiet
namespace Go.Proofs.YtbfamjnnlcopiaaGreatDoor
open Go.RowKit
set_option linter.unusedVariables false
set_option maxRecDepth 4000
set_option linter.unusedSimpArgs false

/-- What Check answers. -/
def ChkP (w : World) (V : Vw) (e : Ending) (w' : World) : Prop := ∃ r x, e = .returned (.tuple #[.int .i64 r, .int .i64 x]) ∧ ChkR V r x ∧ Below w.heap.size w w'
theorem ChkP.at {w w' : World} {V : Vw} {j : Nat} {i : Nat} (hj : j < 7) (hi : i < ruN V j) (hf : ruF V j i = false) (hk : ∀ k, k < i → ruF V j k = true) (hh : Hold V j) {x : Int} (hx : x = (j : Int) + 1) (b : Below w.heap.size w w') : ChkP w V (.returned (.tuple #[.int .i64 x, .int .i64 (i : Int)])) w' :=
  ⟨x, (i : Int), rfl, .inr ⟨j, i, hj, hi, hx, rfl, hf, hk, hh⟩, b⟩
theorem rof_e (p c s : Int) (a : Option Addr) (n cap : Nat) (l : List Int) (w : World) (hl : l.length = n) (hI : IsI w a l) (hm : l.length ≤ maxLen) :
    Calls Tryz.prog 19 #[.agg #[.int .i64 p, .int .i64 c, .int .i64 s, .slice a n cap]] w fun e w' => ∃ v er, e = .returned (.tuple #[.pointer v, .int .i64 er]) ∧ (er = 0 ↔ (newE p c s = 0 ∧ okL (slN c) (-1) l = true)) ∧ (er = 0 → ∃ mb mg, v = some ⟨mb, 0, none⟩ ∧ Ref w' mb mg p c s (slN c) (fOf l)) ∧ Below w.heap.size w w' := by
  by_cases h0 : newE p c s = 0
  · subst hl
    cases ho : okL (slN c) (-1) l with
    | false =>
      refine (rof_any p c s a cap l (slN c) false w hI hm h0 rfl ho).mono ?_
      rintro e w' ⟨b, ⟨_, rfl⟩ | ⟨h, _⟩⟩
      · exact ⟨none, 4, rfl, by simp, by simp, b⟩
      · cases h
    | true =>
      refine (rof_any p c s a cap l (slN c) true w hI hm h0 rfl ho).mono ?_
      rintro e w' ⟨b, ⟨h, _⟩ | ⟨_, mb, mg, rfl, hr, _, _⟩⟩
      · cases h
      · exact ⟨some ⟨mb, 0, none⟩, 0, rfl, by simp [h0], fun _ => ⟨mb, mg, rfl, hr⟩, b⟩
  · refine (rof_bad p c s a n cap _ w rfl h0).mono ?_
    rintro e w' ⟨rfl, b⟩
    exact ⟨none, _, rfl, ⟨fun h => absurd h h0, fun h => h.1⟩, fun h => absurd h h0, b⟩
set_option maxRecDepth 20000 in
set_option maxHeartbeats 16000000 in
theorem racheck_any (V : Vw) (A : Va) (w : World) (h : Rv w V A) :
    Calls Tryz.prog 9 #[.agg #[.int .i64 V.base, .int .i64 V.pgs, .slice A.ka A.kn A.kc, .slice A.ra A.rn A.rc, .slice A.sa A.sn A.sc, .slice A.ba A.bn A.bc]] w (ChkP w V) := by
  obtain ⟨base, pgs, ks, rs, ts, bs⟩ := V
  obtain ⟨ka, ra, sa, ba, kn, rn, sn, bn, kc, rc, sc, bc⟩ := A
  obtain ⟨E, hE, bE, rE⟩ := vbox w (⟨base, pgs, ks, rs, ts, bs⟩ : Vw) (⟨ka, ra, sa, ba, kn, rn, sn, bn, kc, rc, sc, bc⟩ : Va)
  simp only at hE rE
  have HE : Hid (w.alloc (.cells #[.int .i64 base, .int .i64 pgs, .slice ka kn kc, .slice ra rn rc, .slice sa sn sc, .slice ba bn bc] 27) = E) := hE
  have BE : Hid (Bl w E) := bE
  obtain ⟨vb, hvb⟩ : ∃ vb, w.heap.size = vb := ⟨_, rfl⟩
  have HVB : Hid (w.heap.size = vb) := hvb
  rw [hvb] at rE
  have RE : Hid (E.heap[vb]? = some (.cells #[.int .i64 base, .int .i64 pgs, .slice ka kn kc, .slice ra rn rc, .slice sa sn sc, .slice ba bn bc] 27 (0, 0))) := rE
  have RV : Hid (Rv E (⟨base, pgs, ks, rs, ts, bs⟩ : Vw) (⟨ka, ra, sa, ba, kn, rn, sn, bn, kc, rc, sc, bc⟩ : Va)) := h.keep bE
  have LN : Hid (ks.length = kn ∧ rs.length = rn ∧ ts.length = sn ∧ bs.length = bn) := ⟨h.kl, h.rl, h.sl, h.bl⟩
  have z1 : kn ≤ 64 := by have := h.kz; have := h.kl; simp only at *; omega
  have z2 : rn ≤ 300 := by have := h.rz; have := h.rl; simp only at *; omega
  have z3 : sn ≤ 64 := by have := h.tz; have := h.sl; simp only at *; omega
  have z4 : bn ≤ 16384 := by have := h.bz; have := h.bl; simp only at *; omega
  have FIN : Hid (∀ w', Bl E w' → Below w.heap.size w w') := fun w' b => BE.out.trans b
  have pi : i64 pgs := h.pi
  obtain ⟨c0, c1, c2, c3, c4, c5⟩ := six rE
  clear h bE rE hE hvb
  go_enter Tryz.func9, Tryz.ntmps9
  by_cases r1 : rule1 (⟨base, pgs, ks, rs, ts, bs⟩ : Vw) = true
  · have q1 := of_decide_eq_true r1
    simp only at q1
    obtain ⟨p1, p2, p3, p4, p5, p6⟩ := q1
    have H1 : Hid (Hold (⟨base, pgs, ks, rs, ts, bs⟩ : Vw) 1) := fun k hk i hi => by
      obtain rfl : k = 0 := by omega
      exact r1
    have a1 : ¬ (pgs < 1) := by omega
    have a2 : ¬ (4096 < pgs) := by omega
    have a3 : decide (pgs < 1) = false := by simp; omega
    have a4 : IntKind.i64.wrap (256 * pgs) = 256 * pgs := by rw [IntKind.wrap_i64]; omega
    have a5 : ((bn : Int) != 256 * pgs) = false := by rw [bne_eq_false_iff_eq]; have := LN.out.2.2.2; omega
    have a6 : ¬ ((64 : Int) < (kn : Int)) := by omega
    have a7 : ¬ ((4096 : Int) < (rn : Int)) := by omega
    go_wp2_with (go_at_call 30; refine (rgood_of base true _ (by simp [p3])).mono ?_; rintro e w' ⟨rfl, rfl⟩)
    (try rw [HE.out])
    (try rw [HVB.out])
    clear a1 a2 a3 a4 a5 a6 a7 p1 p2 p3 p4 p5 p6 c0 c1 c2 c3 c4 c5
    go_loopw [62] (fun iv wz => ∃ k : Nat, k ≤ kn ∧ iv = .int .i64 (k : Nat) ∧ (∀ m, m < k → rule2 (⟨base, pgs, ks, rs, ts, bs⟩ : Vw) m = true) ∧ Bl E wz) (fun iv _ => kn - lenW iv)
    case atStart => exact ⟨0, Nat.zero_le _, rfl, fun m hm => by omega, by first | exact Bl.refl _ | (rw [← HE.out]; exact Bl.refl _)⟩
    case round =>
      obtain ⟨k, hk, rfl, hno, hb⟩ := hrel
      rename World => wz
      have NO : Hid (∀ m, m < k → rule2 (⟨base, pgs, ks, rs, ts, bs⟩ : Vw) m = true) := hno
      have BZ : Hid (Bl E wz) := hb
      clear hno hb
      by_cases hkn : k < kn
      · have hkl : k < ks.length := by rw [LN.out.1]; exact hkn
        obtain ⟨g, o, la, lc, ea, e0, e1, hI, hnil, hm⟩ := (RV.out.ks.keep BZ.out) k hkl
        simp only at ea e0 e1 hI hnil hm
        subst ea
        obtain ⟨x, hx⟩ : ∃ x, ks[k] = x := ⟨_, rfl⟩
        have HX : Hid (knD ks k = x ∧ k < ks.length) := ⟨by rw [knD_at hkl, hx], hkl⟩
        rw [hx] at e0 e1 hI hm
        obtain ⟨s, l⟩ := x
        simp only at e0 e1 hI hm
        obtain ⟨ln, hln⟩ : ∃ ln, l.length = ln := ⟨_, rfl⟩
        rw [hln] at e1
        obtain ⟨D, hD⟩ : ∃ D, wz.alloc (.cells #[.int .i64 s, .slice la ln lc] 66) = D := ⟨_, rfl⟩
        have HD : Hid (wz.alloc (.cells #[.int .i64 s, .slice la ln lc] 66) = D) := hD
        have bD : Bl wz D := by rw [← hD]; exact (Bl.refl wz).alloc _
        have rD : D.heap[wz.heap.size]? = some (.cells #[.int .i64 s, .slice la ln lc] 66 (0, 0)) := by rw [← hD]; exact Go.heap_alloc_new wz _
        have BD : Hid (Bl E D) := BZ.out.trans bD
        obtain ⟨r, hr⟩ : ∃ r, checkK s l = r := ⟨_, rfl⟩
        have CC : Hid (Calls Tryz.prog 31 #[.agg #[.int .i64 s, .slice la ln lc]] D fun e w' => e = .returned (.int .i64 r) ∧ Below D.heap.size D w') := rcheck_is s la lc ln l r D hln.symm hr (hI.keep bD) hm
        obtain ⟨ng, hng⟩ : ∃ ng, wz.heap.size = ng := ⟨_, rfl⟩
        rw [hng] at rD
        have d0 : D.cell? ⟨ng, 0, none⟩ = some (.int .i64 s) := cell_of_row _ _ 0 _ _ _ rD
        have d1 : D.cell? ⟨ng, 1, none⟩ = some (.slice la ln lc) := cell_of_row _ _ 1 _ _ _ rD
        have k0 : (k : Int) < (kn : Int) := by omega
        have RU : Hid (rule2 (⟨base, pgs, ks, rs, ts, bs⟩ : Vw) k = decide (r = 0)) := by show _ = _; unfold rule2; simp only [HX.out.1]; rw [hr]
        clear hI hnil hm hx hln hD bD rD hr hkl
        go_wp2_with fail
        (try rw [HD.out])
        refine CC.out.mono ?_
        rintro e w2 ⟨rfl, b2⟩
        have B2 : Hid (Bl E w2) := BD.out.trans b2
        clear b2 CC d0 d1 e0 e1
        by_cases r0 : r = 0
        · have q0 : (r != 0) = false := by rw [r0]; rfl
          have NX : Hid (∀ m, m < k + 1 → rule2 (⟨base, pgs, ks, rs, ts, bs⟩ : Vw) m = true) := fun m hm => by
            rcases Nat.lt_or_eq_of_le (Nat.le_of_lt_succ hm) with e | rfl
            · exact NO.out m e
            · rw [RU.out, decide_eq_true r0]
          clear r0
          go_wp2
          go_roundw
          case rel => exact ⟨k + 1, by omega, by congr 1, NX.out, B2.out⟩
          case measure => simp [lenW]; omega
        · have q0 : (r != 0) = true := by rw [bne_iff_ne]; exact r0
          have F : Hid (ChkP w (⟨base, pgs, ks, rs, ts, bs⟩ : Vw) (.returned (.tuple #[.int .i64 2, .int .i64 (k : Int)])) w2) := ChkP.at (j := 1) (by decide) HX.out.2 (by show rule2 _ k = false; rw [RU.out, decide_eq_false r0]) NO.out H1.out (by decide) (FIN.out _ B2.out)
          clear r0
          go_wp2
          go_ret2
          exact F.out
      · obtain rfl : k = kn := by omega
        have H2 : Hid (Hold (⟨base, pgs, ks, rs, ts, bs⟩ : Vw) 2) := H1.out.next (fun m hm => NO.out m (by have : m < ks.length := hm; rw [LN.out.1] at this; exact this))
        obtain ⟨c0, c1, c2, c3, c4, c5⟩ := six (BZ.out.row RE.out)
        clear hk hkn
        go_wp2_with fail
        clear c0 c1 c2 c3 c4 c5
        go_loopw [6, 75] (fun ev iv wz => ∃ k : Nat, k ≤ sn ∧ iv = .int .i64 (k : Nat) ∧ ev = .int .i64 (endT ts k) ∧ (∀ m, m < k → rule3 (⟨base, pgs, ks, rs, ts, bs⟩ : Vw) m = true) ∧ Bl E wz) (fun _ iv _ => sn - lenW iv)
        case atStart => exact ⟨0, Nat.zero_le _, rfl, rfl, fun m hm => by omega, BZ.out⟩
        case round =>
          obtain ⟨k2, hk2, rfl, rfl, hno, hb⟩ := hrel
          rename World => wy
          have NO2 : Hid (∀ m, m < k2 → rule3 (⟨base, pgs, ks, rs, ts, bs⟩ : Vw) m = true) := hno
          have BY : Hid (Bl E wy) := hb
          clear hno hb
          by_cases hkn : k2 < sn
          · have hkl : k2 < ts.length := by rw [LN.out.2.2.1]; exact hkn
            obtain ⟨g, off, la, lk, ea, q0, q1, q2, q3, hI, hlm⟩ := (RV.out.ts.keep BY.out) k2 hkl
            simp only at ea q0 q1 q2 q3 hI hlm
            subst ea
            rw [← tdD_at hkl] at q0 q1 q2 q3 hI hlm
            obtain ⟨t, ht⟩ : ∃ t, tdD ts k2 = t := ⟨_, rfl⟩
            have HTD : Hid (tdD ts k2 = t ∧ k2 < ts.length) := ⟨ht, hkl⟩
            rw [ht] at q0 q1 q2 q3 hI hlm
            obtain ⟨p, c, s, l⟩ := t
            simp only at q0 q1 q2 q3 hI hlm
            obtain ⟨ll, hll⟩ : ∃ ll, l.length = ll := ⟨_, rfl⟩
            rw [hll] at q3
            obtain ⟨D, hD⟩ : ∃ D, wy.alloc (.cells #[.int .i64 p, .int .i64 c, .int .i64 s, .slice la ll lk] 33) = D := ⟨_, rfl⟩
            have HD : Hid (wy.alloc (.cells #[.int .i64 p, .int .i64 c, .int .i64 s, .slice la ll lk] 33) = D) := hD
            have bD : Bl wy D := by rw [← hD]; exact (Bl.refl wy).alloc _
            have rD : D.heap[wy.heap.size]? = some (.cells #[.int .i64 p, .int .i64 c, .int .i64 s, .slice la ll lk] 33 (0, 0)) := by rw [← hD]; exact Go.heap_alloc_new wy _
            have BD : Hid (Bl E D) := BY.out.trans bD
            have CO := rof_e p c s la ll lk l D hll (hI.keep bD) hlm
            obtain ⟨ng, hng⟩ : ∃ ng, wy.heap.size = ng := ⟨_, rfl⟩
            rw [hng] at rD
            have RD : Hid _ := rD
            obtain ⟨d0, d1, d2, d3⟩ := (⟨cell_of_row _ _ 0 _ _ _ rD, cell_of_row _ _ 1 _ _ _ rD, cell_of_row _ _ 2 _ _ _ rD, cell_of_row _ _ 3 _ _ _ rD⟩ : D.cell? ⟨ng, 0, none⟩ = some (.int .i64 p) ∧ D.cell? ⟨ng, 1, none⟩ = some (.int .i64 c) ∧ D.cell? ⟨ng, 2, none⟩ = some (.int .i64 s) ∧ D.cell? ⟨ng, 3, none⟩ = some (.slice la ll lk))
            have k0 : (k2 : Int) < (sn : Int) := by omega
            have COH : Hid (Calls Tryz.prog 19 #[.agg #[.int .i64 p, .int .i64 c, .int .i64 s, .slice la ll lk]] D fun e w' => ∃ v er, e = .returned (.tuple #[.pointer v, .int .i64 er]) ∧ (er = 0 ↔ (newE p c s = 0 ∧ okL (slN c) (-1) l = true)) ∧ (er = 0 → ∃ mb mg, v = some ⟨mb, 0, none⟩ ∧ Ref w' mb mg p c s (slN c) (fOf l)) ∧ Below D.heap.size D w') := CO
            have RU : Hid (rule3 (⟨base, pgs, ks, rs, ts, bs⟩ : Vw) k2 = decide (newE p c s = 0 ∧ okL (slN c) (-1) l = true ∧ endT ts k2 ≤ p ∧ p + (pgsN c s : Int) ≤ pgs)) := by show _ = _; unfold rule3 okT; simp only [HTD.out.1]
            have EN : Hid (endT ts (k2 + 1) = p + (pgsN c s : Int)) := by show _ = _; rw [show endT ts (k2 + 1) = (tdD ts k2).p + (pgsN (tdD ts k2).c (tdD ts k2).s : Int) from rfl, HTD.out.1]
            clear hI hlm ht hll hD bD rD CO hkl
            go_wp2_with fail
            (try rw [HD.out])
            refine COH.out.mono ?_
            rintro e w2 ⟨v, er, rfl, her, _, b2⟩
            have B2 : Hid (Bl E w2) := BD.out.trans b2
            have RD2 := bblock b2 RD.out
            obtain ⟨d0, d1, d2, d3⟩ := (⟨cell_of_row _ _ 0 _ _ _ RD2, cell_of_row _ _ 1 _ _ _ RD2, cell_of_row _ _ 2 _ _ _ RD2, cell_of_row _ _ 3 _ _ _ RD2⟩ : w2.cell? ⟨ng, 0, none⟩ = some (.int .i64 p) ∧ w2.cell? ⟨ng, 1, none⟩ = some (.int .i64 c) ∧ w2.cell? ⟨ng, 2, none⟩ = some (.int .i64 s) ∧ w2.cell? ⟨ng, 3, none⟩ = some (.slice la ll lk))
            have HER : Hid (er = 0 ↔ (newE p c s = 0 ∧ okL (slN c) (-1) l = true)) := her
            have c1 : w2.cell? ⟨vb, 1, none⟩ = some (.int .i64 pgs) := (six (B2.out.row RE.out)).2.1
            have F3 : Hid (rule3 (⟨base, pgs, ks, rs, ts, bs⟩ : Vw) k2 = false → ∀ w', Bl E w' → ChkP w (⟨base, pgs, ks, rs, ts, bs⟩ : Vw) (.returned (.tuple #[.int .i64 3, .int .i64 (k2 : Int)])) w') := fun hf w' b => ChkP.at (j := 2) (by decide) HTD.out.2 hf NO2.out H2.out (by decide) (FIN.out _ b)
            obtain ⟨en, hen⟩ : ∃ en, endT ts k2 = en := ⟨_, rfl⟩
            have HEN : Hid (endT ts k2 = en) := hen
            obtain ⟨gp, hgp⟩ : ∃ gp, pgsN c s = gp := ⟨_, rfl⟩
            have HGP : Hid (pgsN c s = gp) := hgp
            rw [hen, hgp] at RU
            rw [hgp] at EN
            have CP : Hid (∀ m, Calls Tryz.prog 32 #[.int .i64 c, .int .i64 s] (w2.drewN m) fun e w' => e = .returned (.int .i64 (gp : Nat)) ∧ ∃ n, w' = w2.drewN n) := fun m => (rpages_any c s (w2.drewN m) gp hgp).mono (by rintro e w' ⟨rfl, rfl⟩; exact ⟨rfl, m, rfl⟩)
            clear her b2 RD2 COH q0 q1 q2 q3 hen hgp
            (try rw [HEN.out])
            by_cases r0 : er = 0
            · have q0 : (er != 0) = false := by rw [r0]; rfl
              obtain ⟨hn0, hok⟩ := HER.out.1 r0
              have rt := newE_rt hn0
              have pp := rt.p0
              have p9 : p ≤ 4096 ∧ (gp : Int) ≤ 4096 := by have := rt.p1; rw [HGP.out] at this; omega
              have wp : IntKind.i64.wrap (p + (gp : Int)) = p + (gp : Int) := by rw [IntKind.wrap_i64]; omega
              by_cases hend : p < en
              · have q1 : decide (p < en) = true := decide_eq_true hend
                have F := F3.out (by rw [RU.out]; exact decide_eq_false (fun h => by omega))
                have F' : Hid (∀ w', Bl E w' → ChkP w (⟨base, pgs, ks, rs, ts, bs⟩ : Vw) (.returned (.tuple #[.int .i64 3, .int .i64 (k2 : Int)])) w') := F
                clear rt pp hn0 hok r0 F
                go_wp2_with fail
                go_quiet (fail)
                go_wp2
                go_ret2
                exact F'.out _ (by first | exact B2.out | exact below_drewN B2.out _)
              · have q1 : decide (p < en) = false := decide_eq_false hend
                by_cases hpg : pgs < p + (gp : Int)
                · have q2 : decide (pgs < p + (gp : Int)) = true := decide_eq_true hpg
                  have F' : Hid (∀ w', Bl E w' → ChkP w (⟨base, pgs, ks, rs, ts, bs⟩ : Vw) (.returned (.tuple #[.int .i64 3, .int .i64 (k2 : Int)])) w') := F3.out (by rw [RU.out]; exact decide_eq_false (fun h => by omega))
                  clear rt pp hn0 hok r0
                  go_wp2_with fail
                  go_quiet ((go_at_call 32; exact CP.out _))
                  go_wp2
                  go_ret2
                  exact F'.out _ (by first | exact B2.out | exact below_drewN B2.out _)
                · have q2 : decide (pgs < p + (gp : Int)) = false := decide_eq_false hpg
                  have NX : Hid (∀ m, m < k2 + 1 → rule3 (⟨base, pgs, ks, rs, ts, bs⟩ : Vw) m = true) := fun m hm => by
                    rcases Nat.lt_or_eq_of_le (Nat.le_of_lt_succ hm) with e | rfl
                    · exact NO2.out m e
                    · rw [RU.out]; exact decide_eq_true ⟨hn0, hok, by omega, by omega⟩
                  have NE2 : Hid (p + (gp : Int) = endT ts (k2 + 1)) := EN.out.symm
                  clear rt pp hn0 hok r0
                  go_wp2_with fail
                  go_quiet ((go_at_call 32; exact CP.out _))
                  go_wp2_with fail
                  go_quiet ((go_at_call 32; exact (rpages_any c s _ gp HGP.out).mono (by rintro e w' ⟨rfl, rfl⟩; exact ⟨rfl, _, rfl⟩)))
                  go_wp2
                  go_roundw
                  case rel => exact ⟨k2 + 1, by omega, by congr 1, by rw [NE2.out], NX.out, below_drewN B2.out _⟩
                  case measure => simp [lenW]; omega
            · have q0 : (er != 0) = true := by rw [bne_iff_ne]; exact r0
              have F' : Hid (∀ w', Bl E w' → ChkP w (⟨base, pgs, ks, rs, ts, bs⟩ : Vw) (.returned (.tuple #[.int .i64 3, .int .i64 (k2 : Int)])) w') := F3.out (by rw [RU.out]; exact decide_eq_false (fun h => r0 (HER.out.2 ⟨h.1, h.2.1⟩)))
              clear r0
              go_wp2_with fail
              go_quiet (fail)
              go_wp2
              go_ret2
              exact F'.out _ (by first | exact B2.out | exact below_drewN B2.out _)
          · obtain rfl : k2 = sn := by omega
            have H3 : Hid (Hold (⟨base, pgs, ks, rs, ts, bs⟩ : Vw) 3) := H2.out.next (fun m hm => NO2.out m (by have : m < ts.length := hm; rw [LN.out.2.2.1] at this; exact this))
            obtain ⟨c0, c1, c2, c3, c4, c5⟩ := six (BY.out.row RE.out)
            clear hk2 hkn
            go_wp2_with fail
            clear c0 c1 c2 c3 c4 c5
            go_loopw [119] (fun iv wz => ∃ k : Nat, k ≤ rn ∧ iv = .int .i64 (k : Nat) ∧ (∀ m, m < k → rule4 (⟨base, pgs, ks, rs, ts, bs⟩ : Vw) m = true) ∧ Bl E wz) (fun iv _ => rn - lenW iv)
            case atStart => exact ⟨0, Nat.zero_le _, rfl, fun m hm => by omega, BY.out⟩
            case round =>
              obtain ⟨k3, hk3, rfl, hno, hb⟩ := hrel
              rename World => wx
              have NO3 : Hid (∀ m, m < k3 → rule4 (⟨base, pgs, ks, rs, ts, bs⟩ : Vw) m = true) := hno
              have BX : Hid (Bl E wx) := hb
              obtain ⟨c0, c1, c2, c3, c4, c5⟩ := six (BX.out.row RE.out)
              clear hno hb
              by_cases hkn : k3 < rn
              · have HK3 : Hid (k3 < rs.length) := by show _ < _; rw [LN.out.2.1]; exact hkn
                obtain ⟨r, hr⟩ : ∃ r, rule4 (⟨base, pgs, ks, rs, ts, bs⟩ : Vw) k3 = r := ⟨_, rfl⟩
                have HR : Hid (rule4 (⟨base, pgs, ks, rs, ts, bs⟩ : Vw) k3 = r) := hr
                have k0 : (k3 : Int) < (rn : Int) := by omega
                clear hr
                go_wp2_with fail
                refine (rrow_any (⟨base, pgs, ks, rs, ts, bs⟩ : Vw) _ k3 wx (RV.out.keep BX.out) HK3.out H3.out r HR.out).mono ?_
                rintro e w2 ⟨rfl, b2⟩
                have B2 : Hid (Bl E w2) := BX.out.trans b2
                clear b2 c0 c1 c2 c3 c4 c5
                cases r with
                | true =>
                  have NX : Hid (∀ m, m < k3 + 1 → rule4 (⟨base, pgs, ks, rs, ts, bs⟩ : Vw) m = true) := fun m hm => by
                    rcases Nat.lt_or_eq_of_le (Nat.le_of_lt_succ hm) with e | rfl
                    · exact NO3.out m e
                    · exact HR.out
                  go_wp2
                  go_roundw
                  case rel => exact ⟨k3 + 1, by omega, by congr 1, NX.out, B2.out⟩
                  case measure => simp [lenW]; omega
                | false =>
                  have F : Hid (ChkP w (⟨base, pgs, ks, rs, ts, bs⟩ : Vw) (.returned (.tuple #[.int .i64 4, .int .i64 (k3 : Int)])) w2) := ChkP.at (j := 3) (by decide) HK3.out HR.out NO3.out H3.out (by decide) (FIN.out _ B2.out)
                  go_wp2
                  go_ret2
                  exact F.out
              · obtain rfl : k3 = rn := by omega
                have H4 : Hid (Hold (⟨base, pgs, ks, rs, ts, bs⟩ : Vw) 4) := H3.out.next (fun m hm => NO3.out m (by have : m < rs.length := hm; rw [LN.out.2.1] at this; exact this))
                clear hk3 hkn
                go_wp2_with fail
                clear c0 c1 c2 c3 c4 c5
                go_loopw [131] (fun iv wz => ∃ k : Nat, k ≤ k3 ∧ iv = .int .i64 (k : Nat) ∧ (∀ m, m < k → rule5 (⟨base, pgs, ks, rs, ts, bs⟩ : Vw) m = true) ∧ Bl E wz) (fun iv _ => k3 - lenW iv)
                case atStart => exact ⟨0, Nat.zero_le _, rfl, fun m hm => by omega, BX.out⟩
                case round =>
                  obtain ⟨k4, hk4, rfl, hno, hb⟩ := hrel
                  rename World => wt
                  have NO4 : Hid (∀ m, m < k4 → rule5 (⟨base, pgs, ks, rs, ts, bs⟩ : Vw) m = true) := hno
                  have BT : Hid (Bl E wt) := hb
                  clear hno hb
                  by_cases hkn : k4 < k3
                  · have HK4 : Hid (k4 < rs.length) := by show _ < _; rw [LN.out.2.1]; exact hkn
                    obtain ⟨b, off, ea, q0, q1, q2, q3⟩ := (RV.out.rs.keep BT.out).at k4 HK4.out
                    simp only at ea q0 q1 q2 q3
                    subst ea
                    obtain ⟨R, hR⟩ : ∃ R, rwD rs k4 = R := ⟨_, rfl⟩
                    have HRR : Hid (rwD rs k4 = R) := hR
                    rw [hR] at q0 q1 q2 q3
                    obtain ⟨gen, lv, kd, pl⟩ := R
                    simp only at q0 q1 q2 q3
                    obtain ⟨D, hD⟩ : ∃ D, wt.alloc (.cells #[.int .i64 gen, .bool lv, .int .i64 kd, .int .i64 pl] 73) = D := ⟨_, rfl⟩
                    have HD : Hid (wt.alloc (.cells #[.int .i64 gen, .bool lv, .int .i64 kd, .int .i64 pl] 73) = D) := hD
                    have bD : Bl wt D := by rw [← hD]; exact (Bl.refl wt).alloc _
                    have rD : D.heap[wt.heap.size]? = some (.cells #[.int .i64 gen, .bool lv, .int .i64 kd, .int .i64 pl] 73 (0, 0)) := by rw [← hD]; exact Go.heap_alloc_new wt _
                    have BD : Hid (Bl E D) := BT.out.trans bD
                    obtain ⟨ng, hng⟩ : ∃ ng, wt.heap.size = ng := ⟨_, rfl⟩
                    rw [hng] at rD
                    have e1 : D.cell? ⟨ng, 1, none⟩ = some (.bool lv) := cell_of_row _ _ 1 _ _ _ rD
                    have e3 : D.cell? ⟨ng, 3, none⟩ = some (.int .i64 pl) := cell_of_row _ _ 3 _ _ _ rD
                    obtain ⟨c0, c1, c2, c3, c4, c5⟩ := six (BD.out.row RE.out)
                    have k0 : (k4 : Int) < (k3 : Int) := by omega
                    have NX : Hid (rule5 (⟨base, pgs, ks, rs, ts, bs⟩ : Vw) k4 = true → ∀ m, m < k4 + 1 → rule5 (⟨base, pgs, ks, rs, ts, bs⟩ : Vw) m = true) := fun ht m hm => by
                      rcases Nat.lt_or_eq_of_le (Nat.le_of_lt_succ hm) with e | rfl
                      · exact NO4.out m e
                      · exact ht
                    clear hR bD rD
                    cases lv with
                    | false =>
                      have N2 := NX.out (by unfold rule5; simp only [HRR.out]; rfl)
                      go_wp2
                      go_roundw
                      case rel => exact ⟨k4 + 1, by omega, by congr 1, N2, BD.out⟩
                      case measure => simp [lenW]; omega
                    | true =>
                      obtain ⟨z, hz⟩ : ∃ z, ownZ rs pl = z := ⟨_, rfl⟩
                      have HZ : Hid (ownZ rs pl = z) := hz
                      have RU : Hid (rule5 (⟨base, pgs, ks, rs, ts, bs⟩ : Vw) k4 = decide (z = (k4 : Int))) := by
                        show _ = _
                        unfold rule5
                        simp only [HRR.out, Bool.not_true, Bool.false_or]
                        rw [← hz]
                        unfold ownZ
                        cases ho : ownI rs pl with
                        | none => simp
                        | some a => simp; omega
                      clear hz
                      go_wp2_with fail
                      refine (owner_any (⟨base, pgs, ks, rs, ts, bs⟩ : Vw) _ pl D (RV.out.keep BD.out) z HZ.out).mono ?_
                      rintro e w2 ⟨rfl, b2⟩
                      have B2 : Hid (Bl E w2) := BD.out.trans b2
                      clear b2 c0 c1 c2 c3 c4 c5 e1 e3 q0 q1 q2 q3
                      by_cases hzk : z = (k4 : Int)
                      · have q0 : (z != (k4 : Int)) = false := by rw [bne_eq_false_iff_eq]; exact hzk
                        have N2 := NX.out (by rw [RU.out]; exact decide_eq_true hzk)
                        clear hzk
                        go_wp2
                        go_roundw
                        case rel => exact ⟨k4 + 1, by omega, by congr 1, N2, B2.out⟩
                        case measure => simp [lenW]; omega
                      · have q0 : (z != (k4 : Int)) = true := by rw [bne_iff_ne]; exact hzk
                        have F : Hid (ChkP w (⟨base, pgs, ks, rs, ts, bs⟩ : Vw) (.returned (.tuple #[.int .i64 5, .int .i64 (k4 : Int)])) w2) := ChkP.at (j := 4) (by decide) HK4.out (by show rule5 _ k4 = false; rw [RU.out]; exact decide_eq_false hzk) NO4.out H4.out (by decide) (FIN.out _ B2.out)
                        clear hzk
                        go_wp2
                        go_ret2
                        exact F.out
                  · obtain rfl : k4 = k3 := by omega
                    have H5 : Hid (Hold (⟨base, pgs, ks, rs, ts, bs⟩ : Vw) 5) := H4.out.next (fun m hm => NO4.out m (by have : m < rs.length := hm; rw [LN.out.2.1] at this; exact this))
                    obtain ⟨c0, c1, c2, c3, c4, c5⟩ := six (BT.out.row RE.out)
                    clear hk4 hkn
                    go_wp2_with fail
                    clear c0 c1 c2 c3 c4 c5
                    go_loopw [151] (fun iv wz => ∃ k : Nat, k ≤ k2 ∧ iv = .int .i64 (k : Nat) ∧ (∀ m, m < k → rule6 (⟨base, pgs, ks, rs, ts, bs⟩ : Vw) m = true) ∧ Bl E wz) (fun iv _ => k2 - lenW iv)
                    case atStart => exact ⟨0, Nat.zero_le _, rfl, fun m hm => by omega, BT.out⟩
                    case round =>
                      obtain ⟨k5, hk5, rfl, hno, hb⟩ := hrel
                      rename World => wu
                      have NO5 : Hid (∀ m, m < k5 → rule6 (⟨base, pgs, ks, rs, ts, bs⟩ : Vw) m = true) := hno
                      have BU : Hid (Bl E wu) := hb
                      clear hno hb
                      by_cases hkn : k5 < k2
                      · have hkl : k5 < ts.length := by rw [LN.out.2.2.1]; exact hkn
                        obtain ⟨g, off, la, lk, ea, q0, q1, q2, q3, hI, hlm⟩ := (RV.out.ts.keep BU.out) k5 hkl
                        simp only at ea q0 q1 q2 q3 hI hlm
                        subst ea
                        rw [← tdD_at hkl] at q0 q1 q2 q3 hI hlm
                        have hrt := (H5.out.right (by decide) k5 hkl).1
                        have hat := fun i hi => right_at hrt (k := i) hi
                        obtain ⟨t, ht⟩ : ∃ t, tdD ts k5 = t := ⟨_, rfl⟩
                        have HTD : Hid (tdD ts k5 = t ∧ k5 < ts.length) := ⟨ht, hkl⟩
                        simp only at hrt hat
                        rw [ht] at q0 q1 q2 q3 hI hlm hrt hat
                        obtain ⟨p, c, s, l⟩ := t
                        simp only at q0 q1 q2 q3 hI hlm hat
                        have HAT : Hid (∀ i, i ∈ l → 0 ≤ i ∧ i < slN c) := fun i hi => ⟨(hat i hi).1, (hat i hi).2.1⟩
                        have HRT : Hid (Rt p c s) := newE_rt hrt.1
                        have HOK : Hid (newE p c s = 0 ∧ okL (slN c) (-1) l = true) := hrt
                        obtain ⟨ll, hll⟩ : ∃ ll, l.length = ll := ⟨_, rfl⟩
                        have HLL : Hid (l.length = ll) := hll
                        have l9 : ll ≤ 9223372036854775807 := by unfold maxLen at hlm; omega
                        rw [hll] at q3
                        obtain ⟨D, hD⟩ : ∃ D, wu.alloc (.cells #[.int .i64 p, .int .i64 c, .int .i64 s, .slice la ll lk] 33) = D := ⟨_, rfl⟩
                        have HD : Hid (wu.alloc (.cells #[.int .i64 p, .int .i64 c, .int .i64 s, .slice la ll lk] 33) = D) := hD
                        have bD : Bl wu D := by rw [← hD]; exact (Bl.refl wu).alloc _
                        have rD : D.heap[wu.heap.size]? = some (.cells #[.int .i64 p, .int .i64 c, .int .i64 s, .slice la ll lk] 33 (0, 0)) := by rw [← hD]; exact Go.heap_alloc_new wu _
                        have BD : Hid (Bl E D) := BU.out.trans bD
                        have ID : Hid (IsI D la l) := hI.keep bD
                        have COH : Hid (Calls Tryz.prog 19 #[.agg #[.int .i64 p, .int .i64 c, .int .i64 s, .slice la ll lk]] D fun e w' => ∃ v er, e = .returned (.tuple #[.pointer v, .int .i64 er]) ∧ (er = 0 ↔ (newE p c s = 0 ∧ okL (slN c) (-1) l = true)) ∧ (er = 0 → ∃ mb mg, v = some ⟨mb, 0, none⟩ ∧ Ref w' mb mg p c s (slN c) (fOf l)) ∧ Below D.heap.size D w') := rof_e p c s la ll lk l D hll (hI.keep bD) hlm
                        obtain ⟨ng, hng⟩ : ∃ ng, wu.heap.size = ng := ⟨_, rfl⟩
                        rw [hng] at rD
                        have RD : Hid _ := rD
                        obtain ⟨d0, d1, d2, d3⟩ := (⟨cell_of_row _ _ 0 _ _ _ rD, cell_of_row _ _ 1 _ _ _ rD, cell_of_row _ _ 2 _ _ _ rD, cell_of_row _ _ 3 _ _ _ rD⟩ : D.cell? ⟨ng, 0, none⟩ = some (.int .i64 p) ∧ D.cell? ⟨ng, 1, none⟩ = some (.int .i64 c) ∧ D.cell? ⟨ng, 2, none⟩ = some (.int .i64 s) ∧ D.cell? ⟨ng, 3, none⟩ = some (.slice la ll lk))
                        have k0 : (k5 : Int) < (k2 : Int) := by omega
                        clear hI hlm ht hll hD bD rD hkl hrt hat
                        go_wp2_with fail
                        (try rw [HD.out])
                        refine COH.out.mono ?_
                        rintro e w2 ⟨v, er, rfl, her, href, b2⟩
                        obtain rfl : er = 0 := her.2 HOK.out
                        obtain ⟨mb, mg, rfl, hrf⟩ := href rfl
                        have RF : Hid (Ref w2 mb mg p c s (slN c) (fOf l)) := hrf
                        have B2 : Hid (Bl E w2) := BD.out.trans b2
                        have I2 : Hid (IsI w2 la l) := ID.out.keep b2
                        have RD2 := bblock b2 RD.out
                        have d3 : w2.cell? ⟨ng, 3, none⟩ = some (.slice la ll lk) := cell_of_row _ _ 3 _ _ _ RD2
                        clear her href hrf b2 RD2 COH q0 q1 q2 q3
                        go_wp2_with fail
                        go_loopw [164] (fun iv wz => ∃ m : Nat, m ≤ ll ∧ iv = .int .i64 (m : Nat) ∧ (∀ a, a < m → (ownI rs (atS ⟨p, c, s, l⟩ (l.getD a 0))).isSome = true) ∧ Bl w2 wz) (fun iv _ => ll - lenW iv)
                        case atStart => exact ⟨0, Nat.zero_le _, rfl, fun m hm => by omega, Bl.refl _⟩
                        case round =>
                          obtain ⟨m, hm, rfl, hno, hb⟩ := hrel
                          rename World => wv
                          have NO6 : Hid (∀ a, a < m → (ownI rs (atS ⟨p, c, s, l⟩ (l.getD a 0))).isSome = true) := hno
                          have BV : Hid (Bl w2 wv) := hb
                          have BV2 : Hid (Bl E wv) := B2.out.trans hb
                          clear hno hb
                          by_cases hmn : m < ll
                          · have hml : m < l.length := by rw [HLL.out]; exact hmn
                            obtain ⟨gl, ol, rfl, cl⟩ := (I2.out.keep BV.out).get m hml
                            obtain ⟨x0, x1⟩ := HAT.out (l.getD m 0) (by simp [List.getD, hml])
                            obtain ⟨y, hy⟩ : ∃ y, l.getD m 0 = y := ⟨_, rfl⟩
                            have HY : Hid (l.getD m 0 = y) := hy
                            rw [hy] at cl x0 x1
                            obtain ⟨i, rfl⟩ : ∃ i : Nat, y = (i : Int) := ⟨y.toNat, by omega⟩
                            have hi9 : i < slN c := by omega
                            have CA := rat_in mb mg (slN c) p c s (fOf l) i wv (RF.out.keep BV.out) HRT.out rfl hi9
                            obtain ⟨ax, hax⟩ : ∃ ax, 256 * p + (i : Int) * szI c s = ax := ⟨_, rfl⟩
                            rw [hax] at CA
                            have CAH : Hid (Calls Tryz.prog 22 #[.pointer (some ⟨mb, 0, none⟩), .int .i64 (i : Nat)] wv fun e w' => e = .returned (.tuple #[.int .i64 ax, .bool true]) ∧ ∃ m, w' = wv.drewN m) := CA
                            have AX : Hid (atS ⟨p, c, s, l⟩ (l.getD m 0) = ax) := by show _ = _; rw [hy]; exact hax
                            obtain ⟨z, hz⟩ : ∃ z, ownZ rs ax = z := ⟨_, rfl⟩
                            have HZ : Hid (ownZ rs ax = z) := hz
                            have m0 : (m : Int) < (ll : Int) := by omega
                            clear hy x0 x1 hi9 CA hax hz hml
                            go_wp2_with fail
                            refine CAH.out.mono ?_
                            rintro e w3 ⟨rfl, q3, hq3⟩
                            have B3 : Hid (Bl wv w3) := by show Bl _ _; rw [hq3]; exact below_drewN (Below.refl _ _) _
                            have B3E : Hid (Bl E w3) := BV2.out.trans B3.out
                            obtain ⟨c0, c1, c2, c3, c4, c5⟩ := six (B3E.out.row RE.out)
                            clear hq3 CAH cl
                            go_wp2_with fail
                            refine (owner_any (⟨base, pgs, ks, rs, ts, bs⟩ : Vw) _ ax w3 (RV.out.keep B3E.out) z HZ.out).mono ?_
                            rintro e w4 ⟨rfl, b4⟩
                            have B4 : Hid (Bl w2 w4) := (BV.out.trans B3.out).trans b4
                            have B4E : Hid (Bl E w4) := B3E.out.trans b4
                            clear b4 c0 c1 c2 c3 c4 c5
                            have neg := ownZ_neg (rs := rs) (x := ax)
                            rw [HZ.out] at neg
                            by_cases hz0 : z < 0
                            · have hno := neg.1 hz0
                              have F : Hid (ChkP w (⟨base, pgs, ks, rs, ts, bs⟩ : Vw) (.returned (.tuple #[.int .i64 6, .int .i64 (k5 : Int)])) w4) := ChkP.at (j := 5) (by decide) HTD.out.2 (by
                                show rule6 _ k5 = false
                                unfold rule6
                                simp only [HTD.out.1]
                                rw [List.all_eq_false]
                                refine ⟨l.getD m 0, ?_, by rw [AX.out, hno]; simp⟩
                                have : m < l.length := by rw [HLL.out]; exact hmn
                                simp [List.getD, this]) NO5.out H5.out (by decide) (FIN.out _ B4E.out)
                              clear neg hno
                              go_wp2
                              go_ret2
                              exact F.out
                            · have NX : Hid (∀ a, a < m + 1 → (ownI rs (atS ⟨p, c, s, l⟩ (l.getD a 0))).isSome = true) := fun a ha => by
                                rcases Nat.lt_or_eq_of_le (Nat.le_of_lt_succ ha) with e | rfl
                                · exact NO6.out a e
                                · rw [AX.out]
                                  cases ho : ownI rs ax with
                                  | none => exact absurd (neg.2 ho) hz0
                                  | some _ => rfl
                              clear neg
                              go_wp2
                              go_roundw
                              case rel => exact ⟨m + 1, by omega, by congr 1, NX.out, B4.out⟩
                              case measure => simp [lenW]; omega
                          · obtain rfl : m = ll := by omega
                            have NX : Hid (∀ a, a < k5 + 1 → rule6 (⟨base, pgs, ks, rs, ts, bs⟩ : Vw) a = true) := fun a ha => by
                              rcases Nat.lt_or_eq_of_le (Nat.le_of_lt_succ ha) with e | rfl
                              · exact NO5.out a e
                              · unfold rule6
                                simp only [HTD.out.1]
                                rw [List.all_eq_true]
                                intro x hx
                                obtain ⟨j, hj, rfl⟩ := List.getElem_of_mem hx
                                have := NO6.out j (by rw [← HLL.out]; exact hj)
                                simpa [List.getD, hj] using this
                            go_wp2
                            go_roundw
                            case rel => exact ⟨k5 + 1, by omega, by congr 1, NX.out, BV2.out⟩
                            case measure => simp [lenW]; omega
                      · obtain rfl : k5 = k2 := by omega
                        have H6 : Hid (Hold (⟨base, pgs, ks, rs, ts, bs⟩ : Vw) 6) := H5.out.next (fun m hm => NO5.out m (by have : m < ts.length := hm; rw [LN.out.2.2.1] at this; exact this))
                        obtain ⟨c0, c1, c2, c3, c4, c5⟩ := six (BU.out.row RE.out)
                        clear hk5 hkn
                        go_wp2_with fail
                        clear c0 c1 c2 c3 c4 c5
                        go_loopw [184] (fun iv wz => ∃ k : Nat, k ≤ k4 ∧ iv = .int .i64 (k : Nat) ∧ (∀ m, m < k → rule7 (⟨base, pgs, ks, rs, ts, bs⟩ : Vw) m = true) ∧ Bl E wz) (fun iv _ => k4 - lenW iv)
                        case atStart => exact ⟨0, Nat.zero_le _, rfl, fun m hm => by omega, BU.out⟩
                        case round =>
                          obtain ⟨k7, hk7, rfl, hno, hb⟩ := hrel
                          rename World => wt
                          have NO7 : Hid (∀ m, m < k7 → rule7 (⟨base, pgs, ks, rs, ts, bs⟩ : Vw) m = true) := hno
                          have BT : Hid (Bl E wt) := hb
                          clear hno hb
                          by_cases hkn : k7 < k4
                          · have HK7 : Hid (k7 < rs.length) := by show _ < _; rw [LN.out.2.1]; exact hkn
                            obtain ⟨b, off, ea, q0, q1, q2, q3⟩ := (RV.out.rs.keep BT.out).at k7 HK7.out
                            simp only at ea q0 q1 q2 q3
                            subst ea
                            obtain ⟨R, hR⟩ : ∃ R, rwD rs k7 = R := ⟨_, rfl⟩
                            have HRR : Hid (rwD rs k7 = R) := hR
                            rw [hR] at q0 q1 q2 q3
                            obtain ⟨gen, lv, kd, pl⟩ := R
                            simp only at q0 q1 q2 q3
                            obtain ⟨D, hD⟩ : ∃ D, wt.alloc (.cells #[.int .i64 gen, .bool lv, .int .i64 kd, .int .i64 pl] 73) = D := ⟨_, rfl⟩
                            have bD : Bl wt D := by rw [← hD]; exact (Bl.refl wt).alloc _
                            have rD : D.heap[wt.heap.size]? = some (.cells #[.int .i64 gen, .bool lv, .int .i64 kd, .int .i64 pl] 73 (0, 0)) := by rw [← hD]; exact Go.heap_alloc_new wt _
                            have BD : Hid (Bl E D) := BT.out.trans bD
                            obtain ⟨ng, hng⟩ : ∃ ng, wt.heap.size = ng := ⟨_, rfl⟩
                            rw [hng] at rD
                            have e1 : D.cell? ⟨ng, 1, none⟩ = some (.bool lv) := cell_of_row _ _ 1 _ _ _ rD
                            obtain ⟨c0, c1, c2, c3, c4, c5⟩ := six (BD.out.row RE.out)
                            have k0 : (k7 : Int) < (k4 : Int) := by omega
                            have NX : Hid (rule7 (⟨base, pgs, ks, rs, ts, bs⟩ : Vw) k7 = true → ∀ m, m < k7 + 1 → rule7 (⟨base, pgs, ks, rs, ts, bs⟩ : Vw) m = true) := fun ht m hm => by
                              rcases Nat.lt_or_eq_of_le (Nat.le_of_lt_succ hm) with e | rfl
                              · exact NO7.out m e
                              · exact ht
                            clear hR bD rD
                            cases lv with
                            | false =>
                              have N2 := NX.out (by unfold rule7; simp only [HRR.out]; rfl)
                              go_wp2
                              go_roundw
                              case rel => exact ⟨k7 + 1, by omega, by congr 1, N2, BD.out⟩
                              case measure => simp [lenW]; omega
                            | true =>
                              obtain ⟨r, hr⟩ : ∃ r, rule7 (⟨base, pgs, ks, rs, ts, bs⟩ : Vw) k7 = r := ⟨_, rfl⟩
                              have HR7 : Hid (rule7 (⟨base, pgs, ks, rs, ts, bs⟩ : Vw) k7 = r) := hr
                              clear hr
                              go_wp2_with fail
                              refine (rfields_any (⟨base, pgs, ks, rs, ts, bs⟩ : Vw) _ k7 D (RV.out.keep BD.out) HK7.out (by show (rwD rs k7).live = true; rw [HRR.out]) (H6.out.mono (by decide)) r HR7.out).mono ?_
                              rintro e w2 ⟨rfl, b2⟩
                              have B2 : Hid (Bl E w2) := BD.out.trans b2
                              clear b2 c0 c1 c2 c3 c4 c5 e1 q0 q1 q2 q3
                              cases r with
                              | true =>
                                have N2 := NX.out HR7.out
                                go_wp2
                                go_roundw
                                case rel => exact ⟨k7 + 1, by omega, by congr 1, N2, B2.out⟩
                                case measure => simp [lenW]; omega
                              | false =>
                                have F : Hid (ChkP w (⟨base, pgs, ks, rs, ts, bs⟩ : Vw) (.returned (.tuple #[.int .i64 7, .int .i64 (k7 : Int)])) w2) := ChkP.at (j := 6) (by decide) HK7.out HR7.out NO7.out H6.out (by decide) (FIN.out _ B2.out)
                                go_wp2
                                go_ret2
                                exact F.out
                          · obtain rfl : k7 = k4 := by omega
                            have H7 : Hid (Hold (⟨base, pgs, ks, rs, ts, bs⟩ : Vw) 7) := H6.out.next (fun m hm => NO7.out m (by have : m < rs.length := hm; rw [LN.out.2.1] at this; exact this))
                            have F : Hid (ChkP w (⟨base, pgs, ks, rs, ts, bs⟩ : Vw) (.returned (.tuple #[.int .i64 0, .int .i64 0])) wt) := ⟨0, 0, rfl, .inl ⟨rfl, rfl, H7.out⟩, FIN.out _ BT.out⟩
                            go_wp2
                            go_ret2
                            exact F.out
  · have F : Hid (∀ w', Bl E w' → ChkP w (⟨base, pgs, ks, rs, ts, bs⟩ : Vw) (.returned (.tuple #[.int .i64 1, .int .i64 0])) w') := fun w' b => by
      have := ChkP.at (w := w) (w' := w') (V := (⟨base, pgs, ks, rs, ts, bs⟩ : Vw)) (j := 0) (i := 0) (x := 1) (by decide) (by show 0 < 1; decide) (by show rule1 _ = false; simpa using r1) (fun k hk => by omega) (fun k hk => by omega) (by decide) (FIN.out _ b)
      exact this
    have hd : ¬ (1 ≤ pgs ∧ pgs ≤ 4096 ∧ goodR base ∧ (bs.length : Int) = pgs * 256 ∧ ks.length ≤ 64 ∧ rs.length ≤ 4096) := fun h => r1 (decide_eq_true h)
    have ln1 := LN.out
    have ENDS : Hid (Bl E E) := Bl.refl E
    by_cases a1 : pgs < 1
    · have q1 : decide (pgs < 1) = true := decide_eq_true a1
      go_wp2
      go_ret2
      exact F.out _ (by first | exact Bl.refl _ | (rw [← HE.out]; exact Bl.refl _))
    · by_cases a2 : 4096 < pgs
      · go_wp2
        go_ret2
        exact F.out _ (by first | exact Bl.refl _ | (rw [← HE.out]; exact Bl.refl _))
      · by_cases a3 : goodR base
        · have a4 : IntKind.i64.wrap (256 * pgs) = 256 * pgs := by rw [IntKind.wrap_i64]; omega
          have a5 : ((bn : Int) != 256 * pgs) = true := by
            rw [bne_iff_ne]
            intro e
            exact hd ⟨by omega, by omega, a3, by omega, by omega, by omega⟩
          clear hd ln1
          go_wp2_with (go_at_call 30; refine (rgood_of base true _ (by simp [a3])).mono ?_; rintro e w' ⟨rfl, rfl⟩)
          go_ret2
          exact F.out _ (by first | exact Bl.refl _ | (rw [← HE.out]; exact Bl.refl _))
        · clear hd ln1
          go_wp2_with (go_at_call 30; refine (rgood_of base false _ (by simp [a3])).mono ?_; rintro e w' ⟨rfl, rfl⟩)
          go_ret2
          exact F.out _ (by first | exact Bl.refl _ | (rw [← HE.out]; exact Bl.refl _))
end Go.Proofs.YtbfamjnnlcopiaaGreatDoor
