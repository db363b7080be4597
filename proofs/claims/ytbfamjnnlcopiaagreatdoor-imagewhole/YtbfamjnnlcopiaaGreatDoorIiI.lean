/- Layer 17: Clean of the document: a view whose bytes outside of live slots are noughts. -/
import Derived.Test.YtbfamjnnlcopiaaGreatDoorGzBA
import Derived.Test.YtbfamjnnlcopiaaGreatDoorBcD
import Derived.Laws.OwnMore
namespace Go.Proofs.YtbfamjnnlcopiaaGreatDoor
open Go.RowKit
set_option linter.unusedVariables false
set_option maxRecDepth 4000

theorem ownsB_set {w : World} {B g c : Nat} {L : List Int} (o : OwnsB w B (some ⟨g, 0, none⟩) L c) (j : Nat) (y : Int) : OwnsB (w.setCell ⟨g, j, none⟩ (.int .u8 y)) B (some ⟨g, 0, none⟩) (L.set j y) c := by
  have := (World.ownsRow.stored o j (.int .u8 y)).1
  unfold OwnsB
  rw [List.length_set, List.map_set]
  exact this
theorem ownsB_atc {w : World} {B g c : Nat} {L : List Int} (o : OwnsB w B (some ⟨g, 0, none⟩) L c) (j : Nat) (hj : j < L.length) : ∃ x, w.cell? ⟨g, j, none⟩ = some (.int .u8 x) ∧ w.frozen? ⟨g, j, none⟩ = false := by
  have e := World.ownsRow.cellAt o j (by omega)
  refine ⟨L[j], ?_, World.ownsRow.frozenAt o j⟩
  rw [e]
  simp [hj]
theorem cln_byte {f : Nat → Bool} {b : List Int} (hb : AllB b) (i : Nat) : AllB (clnI f b i) := by
  intro x hx
  obtain ⟨k, hk, rfl⟩ := List.mem_map.1 hx
  have hk := List.mem_range.1 hk
  show 0 ≤ (if k < i ∧ f k = false then 0 else b.getD k 0) ∧ (if k < i ∧ f k = false then 0 else b.getD k 0) ≤ 255
  by_cases q : k < i ∧ f k = false
  · rw [if_pos q]; omega
  · rw [if_neg q, show b.getD k 0 = b[k] by simp [List.getD, hk]]
    exact hb _ (List.getElem_mem hk)

set_option maxRecDepth 20000 in
set_option maxHeartbeats 8000000 in
theorem dclean_any (V : Vw) (A : Va) (w : World) (h : Rv w V A) (hH : Hold V 7) (hk : ∀ k ∈ V.ks, k.l.length ≤ 17592186044416) (ht : ∀ t ∈ V.ts, t.l.length ≤ 17592186044416) :
    Calls Tryz.prog 14 #[.agg #[.int .i64 V.base, .int .i64 V.pgs, .slice A.ka A.kn A.kc, .slice A.ra A.rn A.rc, .slice A.sa A.sn A.sc, .slice A.ba A.bn A.bc]] w fun e w' => ∃ A' : Va, e = .returned (.agg #[.int .i64 V.base, .int .i64 V.pgs, .slice A'.ka A'.kn A'.kc, .slice A'.ra A'.rn A'.rc, .slice A'.sa A'.sn A'.sc, .slice A'.ba V.bs.length A'.bc]) ∧ IsB w' A'.ba (mskL (lvT V V.ts.length) V.bs) ∧ Below w.heap.size w w' := by
  obtain ⟨ka, ra, sa, ba, kn, rn, sn, bn, kc, rc, sc, bc⟩ := A
  obtain ⟨D1, hD1, bD1, rD1⟩ := vbox w V ⟨ka, ra, sa, ba, kn, rn, sn, bn, kc, rc, sc, bc⟩
  simp only at hD1 rD1
  have zD1 : D1.heap.size = w.heap.size + 1 := by rw [← hD1]; simp
  obtain ⟨E, hE⟩ : ∃ E, D1.alloc (.cells #[.int .i64 0, .int .i64 0, .slice none 0 0, .slice none 0 0, .slice none 0 0, .slice none 0 0] 27) = E := ⟨_, rfl⟩
  have bE : Bl D1 E := by rw [← hE]; exact (Bl.refl D1).alloc _
  have rE : E.heap[w.heap.size + 1]? = some (.cells zV 27 (0, 0)) := by rw [← hE, ← zD1]; exact Go.heap_alloc_new D1 _
  have HD1 : Hid (w.alloc (.cells #[.int .i64 V.base, .int .i64 V.pgs, .slice ka kn kc, .slice ra rn rc, .slice sa sn sc, .slice ba bn bc] 27) = D1) := hD1
  have HE : Hid (D1.alloc (.cells #[.int .i64 0, .int .i64 0, .slice none 0 0, .slice none 0 0, .slice none 0 0, .slice none 0 0] 27) = E) := hE
  have BE : Hid (Bl w E) := Bl.trans bD1 bE
  have ZE : Hid (E.heap.size = w.heap.size + 2) := by show _ = _; rw [← hE]; simp [zD1]
  have RR : Hid (E.heap[w.heap.size + 1]? = some (.cells zV 27 (0, 0))) := rE
  have RV1 : Hid (E.heap[w.heap.size]? = some (.cells #[.int .i64 V.base, .int .i64 V.pgs, .slice ka kn kc, .slice ra rn rc, .slice sa sn sc, .slice ba bn bc] 27 (0, 0))) := bE.row rD1
  have HRV : Hid (Rv E V ⟨ka, ra, sa, ba, kn, rn, sn, bn, kc, rc, sc, bc⟩) := h.keep BE.out
  have BZ : V.bs.length ≤ 16384 := h.bz
  have AB : Hid (AllB V.bs) := h.bs.1
  have HH : Hid (Hold V 7) := hH
  have HK : Hid (∀ k ∈ V.ks, k.l.length ≤ 17592186044416) := hk
  have HT : Hid (∀ t ∈ V.ts, t.l.length ≤ 17592186044416) := ht
  obtain ⟨c0, c1, c2, c3, c4, c5⟩ := six RV1.out
  clear h hH hk ht hD1 bD1 rD1 zD1 hE bE rE
  go_enter Tryz.func14, Tryz.ntmps14
  go_upto_region 1 with (fail)
  rw [HD1.out, HE.out]
  go_wp2_with fail
  refine (acopy_any V ⟨ka, ra, sa, ba, kn, rn, sn, bn, kc, rc, sc, bc⟩ E HRV.out HK.out HT.out).mono ?_
  rintro e w2 ⟨A', gr, gb, rfl, cp, b2⟩
  obtain ⟨ka1, ra1, sa1, ba1, kn1, rn1, sn1, bn1, kc1, rc1, sc1, bc1⟩ := A'
  simp only
  have eba : ba1 = some ⟨gb, 0, none⟩ := cp.ba
  have ebn : V.bs.length = bn1 := cp.bn
  subst eba
  obtain ⟨X2, hX2⟩ : ∃ X2, w2.alloc (.cells #[.int .i64 V.base, .int .i64 V.pgs, .slice ka1 kn1 kc1, .slice ra1 rn1 rc1, .slice sa1 sn1 sc1, .slice (some ⟨gb, 0, none⟩) bn1 bc1] 27) = X2 := ⟨_, rfl⟩
  have HX2 : Hid (w2.alloc (.cells #[.int .i64 V.base, .int .i64 V.pgs, .slice ka1 kn1 kc1, .slice ra1 rn1 rc1, .slice sa1 sn1 sc1, .slice (some ⟨gb, 0, none⟩) bn1 bc1] 27) = X2) := hX2
  have bX : Bl w2 X2 := by rw [← hX2]; exact (Bl.refl w2).alloc _
  obtain ⟨M, hM⟩ : ∃ M, w2.heap.size = M := ⟨_, rfl⟩
  have HM : Hid (w2.heap.size = M) := hM
  have RM : Hid (X2.heap[M]? = some (.cells #[.int .i64 V.base, .int .i64 V.pgs, .slice ka1 kn1 kc1, .slice ra1 rn1 rc1, .slice sa1 sn1 sc1, .slice (some ⟨gb, 0, none⟩) bn1 bc1] 27 (0, 0))) := by show _ = _; rw [← hM, ← hX2]; exact Go.heap_alloc_new w2 _
  have BEX : Hid (Bl E X2) := Bl.trans b2 bX
  have OB : Hid (OwnsB X2 E.heap.size (some ⟨gb, 0, none⟩) V.bs bc1) := cp.bytes.keep bX
  have GB : Hid (E.heap.size ≤ gb ∧ gb < M) := by
    have := ownB_blk cp.bytes gb rfl
    show _ ∧ _
    omega
  obtain ⟨d0, d1, d2, d3, d4, d5⟩ := six (BEX.out.row RV1.out)
  clear cp b2 bX hX2 hM c0 c1 c2 c3 c4 c5
  go_upto_region 2 with (fail)
  rw [HX2.out]
  try rw [HM.out]
  go_wp2_with fail
  refine (dlive_any V ⟨ka, ra, sa, ba, kn, rn, sn, bn, kc, rc, sc, bc⟩ X2 (HRV.out.keep BEX.out) HH.out).mono ?_
  rintro e w3 ⟨g, rfl, rt, gg, b3⟩
  obtain ⟨N, hN⟩ : ∃ N, V.bs.length = N := ⟨_, rfl⟩
  have HN : Hid (V.bs.length = N) := hN
  rw [hN] at rt BZ
  rw [hN]
  obtain rfl : bn1 = N := by rw [← ebn, hN]
  have RT : Hid (RowT w3 g (lvT V V.ts.length) bn1) := rt
  have NG : Hid (g ≠ gb) := by
    show _ ≠ _
    have := GB.out.2
    have := row_lt RM.out
    omega
  have BW3 : Hid (Bl w w3) := (BE.out.trans BEX.out).trans b3
  have BE3 : Hid (Bl E w3) := BEX.out.trans b3
  have RM3 : Hid (w3.heap[M]? = some (.cells #[.int .i64 V.base, .int .i64 V.pgs, .slice ka1 kn1 kc1, .slice ra1 rn1 rc1, .slice sa1 sn1 sc1, .slice (some ⟨gb, 0, none⟩) bn1 bc1] 27 (0, 0))) := Bl.row b3 RM.out
  have O0 : Hid (OwnsB w3 E.heap.size (some ⟨gb, 0, none⟩) (clnI (lvT V V.ts.length) V.bs 0) bc1) := by show OwnsB _ _ _ _ _; rw [cln_zero]; exact OB.out.keep b3
  have NM : Hid (M ≠ gb) := by show _ ≠ _; have := GB.out.2; omega
  clear rt gg b3 d0 d1 d2 d3 d4 d5 hN ebn
  go_wp2_with fail
  go_loopw [11] (fun iv wz => ∃ i : Nat, i ≤ bn1 ∧ iv = .int .i64 (i : Nat) ∧ OwnsB wz E.heap.size (some ⟨gb, 0, none⟩) (clnI (lvT V V.ts.length) V.bs i) bc1 ∧ Tg gb w3 wz) (fun iv _ => bn1 - lenW iv)
  case atStart => exact ⟨0, Nat.zero_le _, rfl, O0.out, Tg.refl _ _⟩
  case round =>
    clear O0
    obtain ⟨i, hi, rfl, hO, hTg⟩ := hrel
    rename World => wz
    have OZ : Hid (OwnsB wz E.heap.size (some ⟨gb, 0, none⟩) (clnI (lvT V V.ts.length) V.bs i) bc1) := hO
    have TZ : Hid (Tg gb w3 wz) := hTg
    clear hO hTg
    have RZ : RowT wz g (lvT V V.ts.length) bn1 := by unfold RowT; rw [TZ.out.block g RT.out.lt NG.out]; exact RT.out
    have MZ : wz.heap[M]? = some (.cells #[.int .i64 V.base, .int .i64 V.pgs, .slice ka1 kn1 kc1, .slice ra1 rn1 rc1, .slice sa1 sn1 sc1, .slice (some ⟨gb, 0, none⟩) bn1 bc1] 27 (0, 0)) := by rw [TZ.out.block M (row_lt RM3.out) NM.out]; exact RM3.out
    by_cases hlt : i < bn1
    · have i0 : (i : Int) < (bn1 : Int) := by omega
      have cc := RZ.at i hlt
      cases hf : lvT V V.ts.length i
      · rw [hf] at cc
        have NO : Hid (OwnsB (wz.setCell ⟨gb, i, none⟩ (.int .u8 0)) E.heap.size (some ⟨gb, 0, none⟩) (clnI (lvT V V.ts.length) V.bs (i + 1)) bc1) := by show OwnsB _ _ _ _ _; rw [cln_no hf]; exact ownsB_set OZ.out i 0
        have NT : Hid (Tg gb w3 (wz.setCell ⟨gb, i, none⟩ (.int .u8 0))) := TZ.out.trans (Tg.ofOnly (Only.set gb i _ wz))
        obtain ⟨x, hx, hfz⟩ := ownsB_atc OZ.out i (by rw [cln_len, HN.out]; exact hlt)
        obtain ⟨m0, m1, m2, m3, m4, m5⟩ := six MZ
        clear RZ MZ hf
        go_wp2
        go_roundw
        case rel => exact ⟨i + 1, by omega, by first | rfl | (congr 1), NO.out, NT.out⟩
        case measure => simp [lenW]; omega
      · rw [hf] at cc
        have NO : Hid (OwnsB wz E.heap.size (some ⟨gb, 0, none⟩) (clnI (lvT V V.ts.length) V.bs (i + 1)) bc1) := by show OwnsB _ _ _ _ _; rw [cln_yes hf]; exact OZ.out
        clear RZ MZ hf
        go_wp2
        go_roundw
        case rel => exact ⟨i + 1, by omega, by first | rfl | (congr 1), NO.out, TZ.out⟩
        case measure => simp [lenW]; omega
    · have i0 : ¬ (i : Int) < (bn1 : Int) := by omega
      have ei : i = V.bs.length := by have := HN.out; omega
      have OF : Hid (OwnsB wz E.heap.size (some ⟨gb, 0, none⟩) (mskL (lvT V V.ts.length) V.bs) bc1) := by show OwnsB _ _ _ _ _; rw [← cln_end, ← ei]; exact OZ.out
      have AF : Hid (AllB (mskL (lvT V V.ts.length) V.bs)) := by show AllB _; rw [← cln_end]; exact cln_byte AB.out _
      have r0' : wz.heap[w.heap.size + 1]? = some (.cells zV 27 (0, 0)) := by
        have q := BE3.out.row RR.out
        rw [TZ.out.block _ (row_lt q) (by have := GB.out.1; have := ZE.out; omega)]
        exact q
      obtain ⟨m0, m1, m2, m3, m4, m5⟩ := six MZ
      obtain ⟨y0, y1, y2, y3, y4, y5⟩ := six r0'
      obtain ⟨f0, f1, f2, f3, f4, f5⟩ := sixF r0'
      have rq := layV_row (a := .int .i64 V.base) (b := .int .i64 V.pgs) (c := .slice ka1 kn1 kc1) (d := .slice ra1 rn1 rc1) (e := .slice sa1 sn1 sc1) (f := .slice (some ⟨gb, 0, none⟩) bn1 bc1) r0'
      have on := layV_only wz (w.heap.size + 1) (.int .i64 V.base) (.int .i64 V.pgs) (.slice ka1 kn1 kc1) (.slice ra1 rn1 rc1) (.slice sa1 sn1 sc1) (.slice (some ⟨gb, 0, none⟩) bn1 bc1)
      have LV : Hid (layV wz (w.heap.size + 1) (.int .i64 V.base) (.int .i64 V.pgs) (.slice ka1 kn1 kc1) (.slice ra1 rn1 rc1) (.slice sa1 sn1 sc1) (.slice (some ⟨gb, 0, none⟩) bn1 bc1) = ((((((wz.setCell ⟨w.heap.size + 1, 0, none⟩ (.int .i64 V.base)).setCell ⟨w.heap.size + 1, 1, none⟩ (.int .i64 V.pgs)).setCell ⟨w.heap.size + 1, 2, none⟩ (.slice ka1 kn1 kc1)).setCell ⟨w.heap.size + 1, 3, none⟩ (.slice ra1 rn1 rc1)).setCell ⟨w.heap.size + 1, 4, none⟩ (.slice sa1 sn1 sc1)).setCell ⟨w.heap.size + 1, 5, none⟩ (.slice (some ⟨gb, 0, none⟩) bn1 bc1))) := rfl
      obtain ⟨LW, hLW⟩ : ∃ LW, layV wz (w.heap.size + 1) (.int .i64 V.base) (.int .i64 V.pgs) (.slice ka1 kn1 kc1) (.slice ra1 rn1 rc1) (.slice sa1 sn1 sc1) (.slice (some ⟨gb, 0, none⟩) bn1 bc1) = LW := ⟨_, rfl⟩
      rw [hLW] at rq on LV
      obtain ⟨u0, u1, u2, u3, u4, u5⟩ := six rq
      have BF : Hid (Below w.heap.size w LW) := Below.trans (Below.trans (show Below w.heap.size w w3 from BW3.out) (TZ.out.below (show w.heap.size ≤ gb by have := GB.out.1; have := ZE.out; omega) (Below.size (show Below w.heap.size w w3 from BW3.out)))) (on.below (show w.heap.size ≤ w.heap.size + 1 by omega))
      have IF : Hid (IsB LW (some ⟨gb, 0, none⟩) (mskL (lvT V V.ts.length) V.bs)) := ownsB_isB AF.out (ownsB_onlyM OF.out on (by have := ZE.out; omega))
      clear RZ MZ ei r0' rq on hLW
      go_wp2
      rw [← LV.out]
      refine bodyPost_ret (v := .agg #[.int .i64 V.base, .int .i64 V.pgs, .slice ka1 kn1 kc1, .slice ra1 rn1 rc1, .slice sa1 sn1 sc1, .slice (some ⟨gb, 0, none⟩) bn1 bc1]) (by simp [results, Tryz.results14, go_sem, u0, u1, u2, u3, u4, u5]) rfl ⟨⟨ka1, ra1, sa1, some ⟨gb, 0, none⟩, kn1, rn1, sn1, bn1, kc1, rc1, sc1, bc1⟩, by rw [HN.out], IF.out, BF.out⟩
end Go.Proofs.YtbfamjnnlcopiaaGreatDoor
