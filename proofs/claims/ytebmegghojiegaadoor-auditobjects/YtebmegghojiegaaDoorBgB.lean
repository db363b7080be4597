/- The walk of the law AuditObjects. -/
import Derived.Test.YtebmegghojiegaaDoorBiB
import Derived.Test.YtebmegghojiegaaDoorBgA
import Derived.Test.YtebmegghojiegaaDoorBdB
import Derived.Test.YtebmegghojiegaaDoorBcD
import Derived.Test.YtebmegghojiegaaDoorGsN
namespace Go.Proofs.YtebmegghojiegaaDoor
open Go.RowKit
set_option linter.unusedVariables false
set_option linter.unusedSimpArgs false

set_option maxRecDepth 20000 in
set_option maxHeartbeats 8000000 in
theorem auditObjects_any (V : Vw) (A : Va) (w : World) (h : Rv0 w V A) (hk : ∀ k ∈ V.ks, k.l.length ≤ 17592186044416) (ht : ∀ t ∈ V.ts, t.l.length ≤ 17592186044416) (hT : TabC w) :
    Calls Tryd.prog 4 #[.agg #[.int .i64 V.base, .int .i64 V.pgs, .slice A.ka A.kn A.kc, .slice A.ra A.rn A.rc, .slice A.sa A.sn A.sc, .slice A.ba A.bn A.bc]] w fun e w' => e = .returned (.bool true) ∧ Below w.heap.size w w' := by
  obtain ⟨base, pgs, ks, rs, ts, bs⟩ := V
  obtain ⟨ka, ra, sa, ba, kn, rn, sn, bn, kc, rc, sc, bc⟩ := A
  obtain ⟨E, hE, bE, rE⟩ := vbox w (⟨base, pgs, ks, rs, ts, bs⟩ : Vw) (⟨ka, ra, sa, ba, kn, rn, sn, bn, kc, rc, sc, bc⟩ : Va)
  simp only at hE rE hk ht
  have HE : Hid (w.alloc (.cells #[.int .i64 base, .int .i64 pgs, .slice ka kn kc, .slice ra rn rc, .slice sa sn sc, .slice ba bn bc] 27) = E) := hE
  have BE : Hid (Bl w E) := bE
  have RE : Hid (E.heap[w.heap.size]? = some (.cells #[.int .i64 base, .int .i64 pgs, .slice ka kn kc, .slice ra rn rc, .slice sa sn sc, .slice ba bn bc] 27 (0, 0))) := rE
  have H0 : Hid (Rv0 E (⟨base, pgs, ks, rs, ts, bs⟩ : Vw) (⟨ka, ra, sa, ba, kn, rn, sn, bn, kc, rc, sc, bc⟩ : Va)) := h.keep bE
  have HK : Hid (∀ k ∈ ks, k.l.length ≤ 17592186044416) := hk
  have HTS : Hid (∀ t ∈ ts, t.l.length ≤ 17592186044416) := ht
  have HT : Hid (TabC E) := hT.keep bE
  obtain ⟨vb, hvb⟩ : ∃ vb, w.heap.size = vb := ⟨_, rfl⟩
  have HVB : Hid (w.heap.size = vb) := hvb
  rw [hvb] at RE
  have FIN : Hid (∀ w', Bl E w' → Below w.heap.size w w') := fun w' b => BE.out.trans b
  clear h hk ht hT bE rE hE hvb
  go_enter Tryd.func4, Tryd.ntmps4
  go_wp2_with fail
  rw [HE.out, HVB.out]
  refine (alive14 E HT.out).mono ?_
  rintro e w1 ⟨rfl, b1⟩
  have B1 : Hid (Bl E w1) := b1
  obtain ⟨c0, c1, c2, c3, c4, c5⟩ := six (B1.out.row RE.out)
  clear b1
  go_wp2_with fail
  refine (great_any (⟨base, pgs, ks, rs, ts, bs⟩ : Vw) (⟨ka, ra, sa, ba, kn, rn, sn, bn, kc, rc, sc, bc⟩ : Va) w1 (H0.out.keep B1.out)).mono ?_
  rintro e w2 ⟨r2, rfl, hs, b2⟩
  have B2 : Hid (Bl E w2) := B1.out.trans b2
  clear c0 c1 c2 c3 c4 c5 b2
  cases r2 with
  | true =>
    go_wp2
    go_ret
    exact ⟨rfl, (by first | exact FIN.out _ B2.out | (have := FIN.out _ B2.out; rw [HVB.out] at this; exact this))⟩
  | false =>
    have SM : Hid (SmallV (⟨base, pgs, ks, rs, ts, bs⟩ : Vw)) := hs rfl
    clear hs
    have RVE : Hid (Rv E (⟨base, pgs, ks, rs, ts, bs⟩ : Vw) (⟨ka, ra, sa, ba, kn, rn, sn, bn, kc, rc, sc, bc⟩ : Va)) := H0.out.small SM.out
    have NM : Hid (Nums (⟨base, pgs, ks, rs, ts, bs⟩ : Vw)) := RVE.out.nums
    obtain ⟨c0, c1, c2, c3, c4, c5⟩ := six (B2.out.row RE.out)
    go_wp2_with fail
    refine (acopy_any (⟨base, pgs, ks, rs, ts, bs⟩ : Vw) (⟨ka, ra, sa, ba, kn, rn, sn, bn, kc, rc, sc, bc⟩ : Va) w2 (RVE.out.keep B2.out) HK.out HTS.out).mono ?_
    rintro e w4 ⟨A', gr, gb, rfl, cp, b4⟩
    obtain ⟨ka1, ra1, sa1, ba1, kn1, rn1, sn1, bn1, kc1, rc1, sc1, bc1⟩ := A'
    simp only
    obtain ⟨X5, hX5⟩ : ∃ X5, w4.alloc (.cells #[.int .i64 base, .int .i64 pgs, .slice ka1 kn1 kc1, .slice ra1 rn1 rc1, .slice sa1 sn1 sc1, .slice ba1 bn1 bc1] 27) = X5 := ⟨_, rfl⟩
    have b5 : Bl w4 X5 := by rw [← hX5]; exact (Bl.refl w4).alloc _
    have r5 : X5.heap[w4.heap.size]? = some (.cells #[.int .i64 base, .int .i64 pgs, .slice ka1 kn1 kc1, .slice ra1 rn1 rc1, .slice sa1 sn1 sc1, .slice ba1 bn1 bc1] 27 (0, 0)) := by rw [← hX5]; exact Go.heap_alloc_new w4 _
    have R5 : Hid (Rv X5 (⟨base, pgs, ks, rs, ts, bs⟩ : Vw) ⟨ka1, ra1, sa1, ba1, kn1, rn1, sn1, bn1, kc1, rc1, sc1, bc1⟩) := (cp.keep b5).rv NM.out
    have B5 : Hid (Bl E X5) := (B2.out.trans b4).trans b5
    obtain ⟨v5, hv5⟩ : ∃ v5, w4.heap.size = v5 := ⟨_, rfl⟩
    rw [hv5] at r5
    have RX : Hid _ := r5
    obtain ⟨k0, k1, k2, k3, k4, k5⟩ := six r5
    clear cp b4 b5 r5 c0 c1 c2 c3 c4 c5
    go_wp2_with fail
    refine (objects_any (⟨base, pgs, ks, rs, ts, bs⟩ : Vw) ⟨ka1, ra1, sa1, ba1, kn1, rn1, sn1, bn1, kc1, rc1, sc1, bc1⟩ X5 R5.out (HT.out.keep B5.out)).mono ?_
    rintro e w6 ⟨r6, x6, hc6, h6, b6⟩
    obtain ⟨os, a1, n1, c1, rfl, hn1, tb, hos⟩ : ∃ os a n c, e = .returned (.slice a n c) ∧ os.length = n ∧ Tob w6 X5.heap.size 44 (.slice a n c) os ∧ ((r6 = 0 ∧ os = objsV (⟨base, pgs, ks, rs, ts, bs⟩ : Vw)) ∨ (r6 ≠ 0 ∧ os = [])) := by
      rcases h6 with ⟨h, a, n, c, rfl, hn, ht⟩ | ⟨h, rfl⟩
      · exact ⟨_, a, n, c, rfl, hn, ht, .inl ⟨h, rfl⟩⟩
      · exact ⟨[], none, 0, 0, rfl, rfl, Tob.nil _ _ _, .inr ⟨h, rfl⟩⟩
    have TB : Hid (Tob w6 X5.heap.size 44 (.slice a1 n1 c1) os) := tb
    have HN1 : Hid (os.length = n1) := hn1
    have OLN : Hid (os.length ≤ 300) := by
      show _ ≤ _
      rcases hos with ⟨_, rfl⟩ | ⟨_, rfl⟩
      · have := objsU_len (⟨base, pgs, ks, rs, ts, bs⟩ : Vw) rs.length
        have := RVE.out.rz
        unfold objsV
        simp only at *
        omega
      · simp
    have B56 : Hid (Bl X5 w6) := b6
    have B6 : Hid (Bl E w6) := B5.out.trans b6
    have CO2 : Hid (∀ W : World, Bl w6 W → Calls Tryd.prog 17 #[.agg #[.int .i64 base, .int .i64 pgs, .slice ka kn kc, .slice ra rn rc, .slice sa sn sc, .slice ba bn bc]] W fun e w' => ∃ a n c, e = .returned (.slice a n c) ∧ os.length = n ∧ RdO w' a os ∧ Below W.heap.size W w') := fun W b =>
      (raobjects_any (⟨base, pgs, ks, rs, ts, bs⟩ : Vw) (⟨ka, ra, sa, ba, kn, rn, sn, bn, kc, rc, sc, bc⟩ : Va) W (RVE.out.keep (B6.out.trans b))).mono (by
        rintro e w' ⟨r, x, hc, h, b'⟩
        obtain ⟨rfl, _⟩ := hc6.one hc
        rcases hos with ⟨h0, rfl⟩ | ⟨h0, rfl⟩
        · rcases h with ⟨_, a, n, c, rfl, hn, ht⟩ | ⟨h, _⟩
          · exact ⟨a, n, c, rfl, hn, ht.rd, b'⟩
          · exact absurd h0 h
        · rcases h with ⟨h, _⟩ | ⟨_, rfl⟩
          · exact absurd h h0
          · exact ⟨none, 0, 0, rfl, rfl, (Tob.nil w' 0 44).rd, b'⟩)
    have HS : Hid (∀ w' : World, Bl w6 w' → (w'.cell? ⟨vb, 0, none⟩ = some (.int .i64 base) ∧ w'.cell? ⟨vb, 1, none⟩ = some (.int .i64 pgs) ∧ w'.cell? ⟨vb, 2, none⟩ = some (.slice ka kn kc) ∧ w'.cell? ⟨vb, 3, none⟩ = some (.slice ra rn rc) ∧ w'.cell? ⟨vb, 4, none⟩ = some (.slice sa sn sc) ∧ w'.cell? ⟨vb, 5, none⟩ = some (.slice ba bn bc))) := fun w' b => six ((B6.out.trans b).row RE.out)
    obtain ⟨c0, c1', c2, c3, c4, c5⟩ := HS.out w6 (Bl.refl _)
    have L9 : Hid (Bl w6 w6.drew) := (Bl.refl _).drew
    clear hc6 h6 b6 tb hn1 hos k0 k1 k2 k3 k4 k5
    go_wp2_with fail
    go_region_held3 (fun w' => w'.cell? ⟨vb, 0, none⟩ = some (.int .i64 base) ∧ w'.cell? ⟨vb, 1, none⟩ = some (.int .i64 pgs) ∧ w'.cell? ⟨vb, 2, none⟩ = some (.slice ka kn kc) ∧ w'.cell? ⟨vb, 3, none⟩ = some (.slice ra rn rc) ∧ w'.cell? ⟨vb, 4, none⟩ = some (.slice sa sn sc) ∧ w'.cell? ⟨vb, 5, none⟩ = some (.slice ba bn bc)) (with_reducible first | exact HS.out _ L3.out | exact HS.out _ L2.out | exact HS.out _ L1.out | exact HS.out _ L9.out | exact HS.out _ (Bl.refl _))
      (first
      | (have hz := N2; go_at_call 15; refine (asame_true a2 a3 n1 c2' n3 c3' os _ N12.out N2.out HN1.out E3.out (by have := OLN.out; omega)).mono ?_; rintro e u3 ⟨rfl, b3⟩; have L3 : Hid (Bl w6 u3) := L2.out.trans b3; clear hz b3)
      | (have hz := N1; go_at_call 17; refine (CO2.out _ L1.out).mono ?_; rintro e u2 ⟨a3, n3, c3', rfl, e3, n3', b2⟩; have N2 : Hid (RdO u2 a3 os) := n3'; have E3 : Hid (os.length = n3) := e3; have N12 : Hid (RdO u2 a2 os) := N1.out.keep b2; have L2 : Hid (Bl w6 u2) := L1.out.trans b2; clear hz n3' e3 b2)
      | (go_at_call 16; refine (own_any a1 n1 c1 os _ (TB.out.rd.keep L9.out) HN1.out (by have := OLN.out; have := HN1.out; omega)).mono ?_; rintro e u1 ⟨a2, c2', rfl, n2, b1⟩; have N1 : Hid (RdO u1 a2 os) := n2; have L1 : Hid (Bl w6 u1) := L9.out.trans b1; clear n2 b1))
    have MU : Hid (Mut u3 X5.heap.size (.slice a1 n1 c1) n1 os) := (TB.out.keep L3.out).mut HN1.out
    have B5u : Hid (Bl X5 u3) := B56.out.trans L3.out
    clear c0 c1' c2 c3 c4 c5
    go_wp2_with fail
    go_loopw [23] (fun iv wz => ∃ i : Nat, i ≤ n1 ∧ iv = .int .i64 (i : Nat) ∧ Mut wz X5.heap.size (.slice a1 n1 c1) n1 os ∧ Bl X5 wz) (fun iv _ => n1 - lenW iv)
    case atStart => exact ⟨0, Nat.zero_le _, rfl, MU.out, B5u.out⟩
    case round =>
      obtain ⟨i, hi, rfl, mu, hb⟩ := hrel
      rename World => wz
      have MZ : Hid (Mut wz X5.heap.size (.slice a1 n1 c1) n1 os) := mu
      have BZ : Hid (Bl X5 wz) := hb
      by_cases hin : i < n1
      · obtain ⟨g, bg, ln, bk, ea, hx2, _, _, _, lnm, hr⟩ := mu.at HN1.out i hin
        unfold maxLen at lnm
        subst ea
        have i0 : (i : Int) < (n1 : Int) := by omega
        have n9 : n1 ≤ 300 := by have := OLN.out; have := HN1.out; omega
        clear mu hb hr
        go_wp2_with fail
        go_loopw [32] (fun iv wy => ∃ k : Nat, k ≤ ln ∧ iv = .int .i64 (k : Nat) ∧ Mut wy X5.heap.size (.slice (some ⟨g, 0, none⟩) n1 c1) n1 os ∧ Bl X5 wy ∧ wy.cell? ⟨g, i * 4 + 2, none⟩ = some (.slice (some ⟨bg, 0, none⟩) ln bk)) (fun iv _ => ln - lenW iv)
        case atStart => exact ⟨0, Nat.zero_le _, rfl, MZ.out, BZ.out, hx2⟩
        case round =>
          obtain ⟨k, hk, rfl, mu, hb, hc⟩ := hrel
          rename World => wy
          have MY : Hid (Mut wy X5.heap.size (.slice (some ⟨g, 0, none⟩) n1 c1) n1 os) := mu
          have BY : Hid (Bl X5 wy) := hb
          by_cases hkn : k < ln
          · obtain ⟨g', bg', ln', bk', ea', hx2', ⟨cu, hcu⟩, hne, hge, _, hr⟩ := mu.at HN1.out i hin
            cases ea'
            rw [hc] at hx2'
            cases hx2'
            obtain ⟨x, hx, hfz, x0, x1⟩ := hr k hkn
            have k0 : (k : Int) < (ln : Int) := by omega
            obtain ⟨y, hy⟩ : ∃ y, IntKind.u8.wrap (x + 1) = y := ⟨_, rfl⟩
            have yb : 0 ≤ y ∧ y ≤ 255 := by rw [← hy, IntKind.wrap_u8]; omega
            have S1 : Hid (Mut (wy.setCell ⟨bg, k, none⟩ (.int .u8 y)) X5.heap.size (.slice (some ⟨g, 0, none⟩) n1 c1) n1 os) := MY.out.set hcu k y yb.1 yb.2
            have S2 : Hid (Bl X5 (wy.setCell ⟨bg, k, none⟩ (.int .u8 y))) := Below.trans BY.out ((Only.set _ _ _ _).below hge)
            have u2 : (wy.setCell ⟨bg, k, none⟩ (.int .u8 y)).cell? ⟨g, i * 4 + 2, none⟩ = some (.slice (some ⟨bg, 0, none⟩) ln bk) := by rw [(Only.set bg k (.int .u8 y) wy).cell (p := ⟨g, i * 4 + 2, none⟩) hne]; exact hc
            have U2 : Hid _ := u2
            have D2 : wy.drew.cell? ⟨g, i * 4 + 2, none⟩ = some (.slice (some ⟨bg, 0, none⟩) ln bk) := hc
            have u3 : (wy.setCell ⟨bg, k, none⟩ (.int .u8 y)).drew.cell? ⟨g, i * 4 + 2, none⟩ = some (.slice (some ⟨bg, 0, none⟩) ln bk) := u2
            have i0 : (i : Int) < (n1 : Int) := by omega
            clear mu hb hr hcu hge
            go_wp2_with fail
            go_region
            all_goals
              go_wp2
              go_roundw
              case rel => exact ⟨k + 1, by omega, by congr 1, (by first | exact S1.out | exact S1.out), (by first | exact S2.out | exact S2.out.drew), (by first | exact U2.out | exact U2.out)⟩
              case measure => simp [lenW]; omega
          · obtain rfl : k = ln := by omega
            clear mu hb
            go_wp2
            go_roundw
            case rel => exact ⟨i + 1, by omega, by congr 1, MY.out, BY.out⟩
            case measure => simp [lenW]; omega
      · obtain rfl : i = n1 := by omega
        obtain ⟨c0, c1', c2, c3, c4, c5⟩ := six ((B5.out.trans BZ.out).row RE.out)
        obtain ⟨k0, k1, k2, k3, k4, k5⟩ := six (BZ.out.row RX.out)
        clear mu hb
        go_wp2_with fail
        refine (equal_true (⟨base, pgs, ks, rs, ts, bs⟩ : Vw) ⟨ka1, ra1, sa1, ba1, kn1, rn1, sn1, bn1, kc1, rc1, sc1, bc1⟩ (⟨ka, ra, sa, ba, kn, rn, sn, bn, kc, rc, sc, bc⟩ : Va) wz (R5.out.keep BZ.out) (RVE.out.keep (B5.out.trans BZ.out))).mono ?_
        rintro e w8 ⟨rfl, b8⟩
        have B8 : Hid (Bl E w8) := (B5.out.trans BZ.out).trans b8
        clear b8 c0 c1' c2 c3 c4 c5 k0 k1 k2 k3 k4 k5
        go_wp2
        go_ret
        exact ⟨rfl, (by first | exact FIN.out _ B8.out | (have := FIN.out _ B8.out; rw [HVB.out] at this; exact this))⟩
end Go.Proofs.YtebmegghojiegaaDoor
