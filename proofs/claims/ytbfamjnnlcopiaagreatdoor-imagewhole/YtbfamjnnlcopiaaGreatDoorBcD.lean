/- The document's Copy of a view: what it answers. -/
import Derived.Test.YtbfamjnnlcopiaaGreatDoorBcC
namespace Go.Proofs.YtbfamjnnlcopiaaGreatDoor
open Go.RowKit
set_option linter.unusedVariables false
set_option maxRecDepth 4000
set_option linter.unusedSimpArgs false

theorem Told.monoD {w : World} {B B' : Nat} {v : Value} {ts : List Td} (h : Told w B v ts) (hb : B' ≤ B) : Told w B' v ts := by
  obtain ⟨rs, e1, ⟨k0, k1 | ⟨g, c, cur, k1, k2, k3⟩⟩, e3⟩ := h
  · exact ⟨rs, e1, ⟨k0, .inl k1⟩, fun r hr => (e3 r hr).mono hb⟩
  · exact ⟨rs, e1, ⟨k0, .inr ⟨g, c, cur, k1, by omega, k3⟩⟩, fun r hr => (e3 r hr).mono hb⟩
set_option maxRecDepth 20000 in
set_option maxHeartbeats 8000000 in
theorem acopy_any (V : Vw) (A : Va) (w : World) (h : Rv w V A) (hk : ∀ k ∈ V.ks, k.l.length ≤ 17592186044416) (ht : ∀ t ∈ V.ts, t.l.length ≤ 17592186044416) :
    Calls Tryz.prog 7 #[.agg #[.int .i64 V.base, .int .i64 V.pgs, .slice A.ka A.kn A.kc, .slice A.ra A.rn A.rc, .slice A.sa A.sn A.sc, .slice A.ba A.bn A.bc]] w fun e w' => ∃ A' gr gb, e = .returned (.agg #[.int .i64 V.base, .int .i64 V.pgs, .slice A'.ka A'.kn A'.kc, .slice A'.ra A'.rn A'.rc, .slice A'.sa A'.sn A'.sc, .slice A'.ba A'.bn A'.bc]) ∧ Cpy w' w.heap.size V A' gr gb ∧ Below w.heap.size w w' := by
  have N : Hid (Nums V) := h.nums
  have HK : Hid (∀ k ∈ V.ks, k.l.length ≤ 17592186044416) := hk
  have HT : Hid (∀ t ∈ V.ts, t.l.length ≤ 17592186044416) := ht
  obtain ⟨base, pgs, ks, rs, ts, bs⟩ := V
  obtain ⟨ka, ra, sa, ba, kn, rn, sn, bn, kc, rc, sc, bc⟩ := A
  simp only at hk ht
  obtain ⟨E, hE, bE, rE⟩ := vbox w ⟨base, pgs, ks, rs, ts, bs⟩ ⟨ka, ra, sa, ba, kn, rn, sn, bn, kc, rc, sc, bc⟩
  simp only at hE rE
  obtain ⟨D, hD⟩ : ∃ D, E.alloc (.cells #[.int .i64 0, .int .i64 0, .slice none 0 0, .slice none 0 0, .slice none 0 0, .slice none 0 0] 27) = D := ⟨_, rfl⟩
  have bD : Bl E D := by rw [← hD]; exact (Bl.refl E).alloc _
  have zE : E.heap.size = w.heap.size + 1 := by rw [← hE]; simp
  have zD : D.heap.size = w.heap.size + 2 := by rw [← hD]; simp [zE]
  have rD0 : D.heap[w.heap.size + 1]? = some (.cells zV 27 (0, 0)) := by rw [← hD, ← zE]; exact Go.heap_alloc_new E _
  have rD1 := bD.row rE
  have BD : Hid (Bl w D) := Bl.trans bE bD
  have RV : Hid (Rv D ⟨base, pgs, ks, rs, ts, bs⟩ ⟨ka, ra, sa, ba, kn, rn, sn, bn, kc, rc, sc, bc⟩) := h.keep BD.out
  have RW : Hid (Rv w ⟨base, pgs, ks, rs, ts, bs⟩ ⟨ka, ra, sa, ba, kn, rn, sn, bn, kc, rc, sc, bc⟩) := h
  have HD : Hid (E.alloc (.cells #[.int .i64 0, .int .i64 0, .slice none 0 0, .slice none 0 0, .slice none 0 0, .slice none 0 0] 27) = D) := hD
  have ZD : Hid (D.heap.size = w.heap.size + 2) := zD
  have R0 : Hid (D.heap[w.heap.size + 1]? = some (.cells zV 27 (0, 0))) := rD0
  have HE : Hid (w.alloc (.cells #[.int .i64 base, .int .i64 pgs, .slice ka kn kc, .slice ra rn rc, .slice sa sn sc, .slice ba bn bc] 27) = E) := hE
  obtain ⟨vb, hvb⟩ : ∃ vb, w.heap.size = vb := ⟨_, rfl⟩
  have HVB : Hid (w.heap.size = vb) := hvb
  rw [hvb] at rD1
  obtain ⟨d0, d1, d2, d3, d4, d5⟩ := six rD1
  have ZE : Hid (E.heap.size = vb + 1) := by show _ = _; omega
  have rl : Hid (rs.length = rn ∧ ts.length = sn ∧ bs.length = bn ∧ ks.length = kn) := ⟨h.rl, h.sl, h.bl, h.kl⟩
  obtain ⟨pa, pb, pc⟩ := rows_put D ra rs rn rc h.rl RV.out.rs h.rz
  have PA : Hid _ := pa
  have PB : Hid _ := pb
  have PC : Hid _ := pc
  clear h hk ht bE rE bD zE zD rD0 rD1 pa pb pc hD hE hvb
  go_enter Tryz.func7, Tryz.ntmps7
  go_upto_region 1 with (fail)
  rw [HE.out, HD.out, HVB.out]
  rename_i Q1 K1 hK1
  have REST : Hid (∀ (G g0 gr gb rc1 sc1 bc1 : Nat) (sa1 : Option Addr) (wz : World), Cvw w wz G ⟨base, pgs, ks, rs, ts, bs⟩ ⟨none, some ⟨gr, 0, none⟩, sa1, some ⟨gb, 0, none⟩, 0, rn, sn, bn, 0, rc1, sc1, bc1⟩ gr gb 0 → Bl D wz → Exit.then K1 Q1 Exit.normal { tmps := #[.agg #[.int .i64 base, .int .i64 pgs, .slice ka kn kc, .slice ra rn rc, .slice sa sn sc, .slice ba bn bc], .pointer (some ⟨vb, 0, none⟩), .pointer (some ⟨vb + 1, 0, none⟩), .pointer (some ⟨G, 0, none⟩), undef, undef, .pointer (some ⟨vb, 0, none⟩), .int .i64 base, .pointer (some ⟨vb, 1, none⟩), .int .i64 pgs, .slice (some ⟨g0, 0, none⟩) 0 0, .pointer (some ⟨vb, 3, none⟩), .slice ra rn rc, .slice (some ⟨gr, 0, none⟩) rn rc1, .pointer (some ⟨vb, 4, none⟩), .slice sa sn sc, .slice sa1 sn sc1, .pointer (some ⟨vb, 5, none⟩), .slice ba bn bc, .slice (some ⟨gb, 0, none⟩) bn bc1, .agg #[.int .i64 base, .int .i64 pgs, .slice none 0 0, .slice (some ⟨gr, 0, none⟩) rn rc1, .slice sa1 sn sc1, .slice (some ⟨gb, 0, none⟩) bn bc1], undef, undef, undef, undef, undef, undef, undef, undef, undef, undef, undef, undef, undef, undef, undef, undef], defers := [] } wz) := by
    intro G g0 gr gb rc1 sc1 bc1 sa1 wz ow bz
    refine hK1 _ _ ?_
    have CW : Hid (Cvw w wz G ⟨base, pgs, ks, rs, ts, bs⟩ ⟨none, some ⟨gr, 0, none⟩, sa1, some ⟨gb, 0, none⟩, 0, rn, sn, bn, 0, rc1, sc1, bc1⟩ gr gb 0) := ow
    have m2 := bcell bz d2
    clear ow bz d0 d1 d2 d3 d4 d5 hK1
    go_wp2_with fail
    go_loopw [24] (fun iv wy => ∃ (k : Nat) (ka1 : Option Addr) (kc1 : Nat), k ≤ kn ∧ iv = .int .i64 (k : Nat) ∧ Cvw w wy G ⟨base, pgs, ks, rs, ts, bs⟩ ⟨ka1, some ⟨gr, 0, none⟩, sa1, some ⟨gb, 0, none⟩, k, rn, sn, bn, kc1, rc1, sc1, bc1⟩ gr gb k) (fun iv _ => kn - lenW iv)
    case atStart => exact ⟨0, none, 0, Nat.zero_le _, rfl, CW.out⟩
    case round =>
      obtain ⟨k, ka1, kc1, hk, rfl, cw⟩ := hrel
      rename World => wy
      have CY : Hid (Cvw w wy G ⟨base, pgs, ks, rs, ts, bs⟩ ⟨ka1, some ⟨gr, 0, none⟩, sa1, some ⟨gb, 0, none⟩, k, rn, sn, bn, kc1, rc1, sc1, bc1⟩ gr gb k) := cw
      by_cases hkn : k < kn
      · have hkl : k < ks.length := by rw [rl.out.2.2.2]; exact hkn
        obtain ⟨g, o, la, lc, rfl, c0, c1, hI, hnil, hm⟩ := (RW.out.ks.keep cw.bw) k hkl
        simp only at c0 c1 hI hnil hm
        have hk1 := HK.out ks[k] (List.getElem_mem hkl)
        have ET : ks.take (k + 1) = ks.take k ++ [ks[k]] := List.take_succ_eq_append_getElem hkl
        have KL : (ks.take k).length = k := by rw [List.length_take]; omega
        obtain ⟨x, hx⟩ : ∃ x, ks[k] = x := ⟨_, rfl⟩
        rw [hx] at c0 c1 hI hnil hm hk1 ET
        obtain ⟨s, l⟩ := x
        simp only at c0 c1 hI hnil hm hk1
        obtain ⟨ln, hln⟩ : ∃ ln, l.length = ln := ⟨_, rfl⟩
        rw [hln] at c1
        obtain ⟨KB, hKB⟩ : ∃ KB, wy.alloc (.cells #[.int .i64 s, .slice la ln lc] 66) = KB := ⟨_, rfl⟩
        have bK : Bl wy KB := by rw [← hKB]; exact (Bl.refl wy).alloc _
        have rK : KB.heap[wy.heap.size]? = some (.cells #[.int .i64 s, .slice la ln lc] 66 (0, 0)) := by rw [← hKB]; exact Go.heap_alloc_new wy _
        have HKB : Hid (wy.alloc (.cells #[.int .i64 s, .slice la ln lc] 66) = KB) := hKB
        obtain ⟨nk, hnk⟩ : ∃ nk, wy.heap.size = nk := ⟨_, rfl⟩
        rw [hnk] at rK
        have q0 : KB.cell? ⟨nk, 0, none⟩ = some (.int .i64 s) := cell_of_row _ _ 0 _ _ _ rK
        have q1 : KB.cell? ⟨nk, 1, none⟩ = some (.slice la ln lc) := cell_of_row _ _ 1 _ _ _ rK
        have CK : Hid (Cvw w KB G ⟨base, pgs, ks, rs, ts, bs⟩ ⟨ka1, some ⟨gr, 0, none⟩, sa1, some ⟨gb, 0, none⟩, k, rn, sn, bn, kc1, rc1, sc1, bc1⟩ gr gb k) := cw.keep bK
        have g2 : KB.cell? ⟨G, 2, none⟩ = some (.slice ka1 k kc1) := (six CK.out.rg).2.2.1
        have IK : Hid (IsI KB.drew la l) := (hI.keep bK.drew)
        have HN : Hid (la = none → l = [] ∧ lc = 0) := hnil
        have HL1 : Hid (l.length ≤ 17592186044416) := hk1
        have HLN : Hid (l.length = ln) := hln
        have HET : Hid (ks.take (k + 1) = ks.take k ++ [⟨s, l⟩]) := ET
        have HKL : Hid ((ks.take k).length = k) := KL
        have k0 : (k : Int) < (kn : Int) := by omega
        have k9 : k ≤ 64 := by have := RW.out.kz; simp only at this; have := rl.out.2.2.2; omega
        clear cw hI hnil hm hk1 ET KL hx hln bK rK hKB hkl
        go_upto_region 5 with (fail)
        rw [HKB.out]
        try rw [hnk]
        go_region_law (first
          | (refine step_call rfl 27 _ _ rfl [.agg #[.int .i64 s, .slice la ln lc]] (by simp [Act.eval, Act.put]) _ (kcopy_any s la lc ln l KB.drew HLN.out.symm IK.out HN.out HL1.out) ent_kCopy ?_; rintro e w5 ⟨a2, c2, rfl, o5, b5⟩; refine ⟨_, rfl, ?_⟩; rw [HLN.out]; have B5 : Hid (Bl KB w5) := (by have q : Bl KB.drew w5 := b5; exact (Bl.refl KB).drew.trans q); have C5 : Hid (Cvw w w5 G ⟨base, pgs, ks, rs, ts, bs⟩ ⟨ka1, some ⟨gr, 0, none⟩, sa1, some ⟨gb, 0, none⟩, k, rn, sn, bn, kc1, rc1, sc1, bc1⟩ gr gb k) := CK.out.keep B5.out; have q5 : w5.cell? ⟨G, 2, none⟩ = some (.slice ka1 k kc1) := (six C5.out.rg).2.2.1; have q6 : (w5.alloc (.cells #[.int .i64 s, .slice a2 ln c2] 66)).cell? ⟨G, 2, none⟩ = some (.slice ka1 k kc1) := Lib.cell?_alloc_some _ q5; obtain ⟨ka2, kc2, w6, run6, k6, st6, b6⟩ := Kow.more C5.out.bw.size C5.out.cp.kinds HKL.out s l a2 ln c2 HLN.out (OwnsI.mono o5 (Nat.le_trans CK.out.bw.size (Nat.le_refl _))) (by omega); have C8 : Hid (Cvw w (w6.setCell ⟨G, 2, none⟩ (.slice ka2 (k + 1) kc2)) G ⟨base, pgs, ks, rs, ts, bs⟩ ⟨ka2, some ⟨gr, 0, none⟩, sa1, some ⟨gb, 0, none⟩, k + 1, rn, sn, bn, kc2, rc1, sc1, bc1⟩ gr gb (k + 1)) := C5.out.more HET.out k6 (fun g cu t hg h1 _ => st6 g cu t hg h1) (fun g cu hg => st6 g cu 3 hg (by decide)) (C5.out.bw.trans b6); have rg6 := st6 G _ _ C5.out.rg (by decide); have q7 : w6.cell? ⟨G, 2, none⟩ = some (.slice ka1 k kc1) := (six rg6).2.2.1; have f7 : w6.frozen? ⟨G, 2, none⟩ = false := (sixF rg6).2.2.1; clear o5 b5 k6 st6 b6 rg6)
          | (refine step_app rfl (.tmp 29) (.tmp 32) 22 rfl (.slice ka1 k kc1) (.slice (some ⟨w5.heap.size, 0, none⟩) 1 1) (by simp [Act.eval, Act.put]) (by simp [Act.eval, Act.put]) (.slice ka2 (k + 1) kc2) w6 run6 ?_))
        all_goals
          obtain ⟨W8, hW8⟩ : ∃ W8, w6.setCell ⟨G, 2, none⟩ (.slice ka2 (k + 1) kc2) = W8 := ⟨_, rfl⟩
          rw [hW8]
          have C9 : Hid (Cvw w W8 G ⟨base, pgs, ks, rs, ts, bs⟩ ⟨ka2, some ⟨gr, 0, none⟩, sa1, some ⟨gb, 0, none⟩, k + 1, rn, sn, bn, kc2, rc1, sc1, bc1⟩ gr gb (k + 1)) := by show Cvw _ _ _ _ _ _ _ _; rw [← hW8]; exact C8.out
          clear hW8 C8 C5 q5 q6 q7 f7 run6
          go_wp2
          go_roundw
          case rel => exact ⟨k + 1, ka2, kc2, by omega, by congr 1, C9.out⟩
          case measure => simp [lenW]; omega
      · obtain rfl : k = kn := by omega
        have EK : ks.take k = ks := List.take_of_length_le (Nat.le_of_eq rl.out.2.2.2)
        have e1 := cw.cp
        simp only [EK] at e1
        obtain ⟨c0, c1, c2, c3, c4, c5⟩ := six cw.rg
        have r0' := cw.r0
        rw [HVB.out] at r0'
        obtain ⟨y0, y1, y2, y3, y4, y5⟩ := six r0'
        obtain ⟨f0, f1, f2, f3, f4, f5⟩ := sixF r0'
        have rq := layV_row (a := .int .i64 base) (b := .int .i64 pgs) (c := .slice ka1 k kc1) (d := .slice (some ⟨gr, 0, none⟩) rn rc1) (e := .slice sa1 sn sc1) (f := .slice (some ⟨gb, 0, none⟩) bn bc1) r0'
        have on := layV_only wy (vb + 1) (.int .i64 base) (.int .i64 pgs) (.slice ka1 k kc1) (.slice (some ⟨gr, 0, none⟩) rn rc1) (.slice sa1 sn sc1) (.slice (some ⟨gb, 0, none⟩) bn bc1)
        have F1 : Hid (Cpy (layV wy (vb + 1) (.int .i64 base) (.int .i64 pgs) (.slice ka1 k kc1) (.slice (some ⟨gr, 0, none⟩) rn rc1) (.slice sa1 sn sc1) (.slice (some ⟨gb, 0, none⟩) bn bc1)) w.heap.size ⟨base, pgs, ks, rs, ts, bs⟩ ⟨ka1, some ⟨gr, 0, none⟩, sa1, some ⟨gb, 0, none⟩, k, rn, sn, bn, kc1, rc1, sc1, bc1⟩ gr gb) := e1.boxed (fun g c t hg ht => by rw [on.block g (kind_ne hg r0' ht)]; exact hg)
        have F2 : Hid (Below w.heap.size w (layV wy (vb + 1) (.int .i64 base) (.int .i64 pgs) (.slice ka1 k kc1) (.slice (some ⟨gr, 0, none⟩) rn rc1) (.slice sa1 sn sc1) (.slice (some ⟨gb, 0, none⟩) bn bc1))) := cw.bw.trans (on.below (by have := HVB.out; omega))
        obtain ⟨e0, e1', e2, e3, e4, e5⟩ := six rq
        have LV : Hid (layV wy (vb + 1) (.int .i64 base) (.int .i64 pgs) (.slice ka1 k kc1) (.slice (some ⟨gr, 0, none⟩) rn rc1) (.slice sa1 sn sc1) (.slice (some ⟨gb, 0, none⟩) bn bc1) = (((((wy.setCell ⟨vb + 1, 0, none⟩ (.int .i64 base)).setCell ⟨vb + 1, 1, none⟩ (.int .i64 pgs)).setCell ⟨vb + 1, 2, none⟩ (.slice ka1 k kc1)).setCell ⟨vb + 1, 3, none⟩ (.slice (some ⟨gr, 0, none⟩) rn rc1)).setCell ⟨vb + 1, 4, none⟩ (.slice sa1 sn sc1)).setCell ⟨vb + 1, 5, none⟩ (.slice (some ⟨gb, 0, none⟩) bn bc1)) := rfl
        obtain ⟨LW, hLW⟩ : ∃ LW, layV wy (vb + 1) (.int .i64 base) (.int .i64 pgs) (.slice ka1 k kc1) (.slice (some ⟨gr, 0, none⟩) rn rc1) (.slice sa1 sn sc1) (.slice (some ⟨gb, 0, none⟩) bn bc1) = LW := ⟨_, rfl⟩
        rw [hLW] at e0 e1' e2 e3 e4 e5 F1 F2 LV
        clear cw CY r0' rq on e1 EK hLW
        go_wp2_with fail
        rw [← LV.out]
        refine bodyPost_ret (v := .agg #[.int .i64 base, .int .i64 pgs, .slice ka1 k kc1, .slice (some ⟨gr, 0, none⟩) rn rc1, .slice sa1 sn sc1, .slice (some ⟨gb, 0, none⟩) bn bc1]) (by simp [results, Tryz.results7, go_sem, e0, e1', e2, e3, e4, e5]) rfl ⟨⟨ka1, some ⟨gr, 0, none⟩, sa1, some ⟨gb, 0, none⟩, k, rn, sn, bn, kc1, rc1, sc1, bc1⟩, rfl, ⟨gr, gb, F1.out⟩, F2.out⟩
  have D0 : D.drew.cell? ⟨vb, 0, none⟩ = some (.int .i64 base) := d0
  have D1 : D.drew.cell? ⟨vb, 1, none⟩ = some (.int .i64 pgs) := d1
  have D3 : D.drew.cell? ⟨vb, 3, none⟩ = some (.slice ra rn rc) := d3
  have D4 : D.drew.cell? ⟨vb, 4, none⟩ = some (.slice sa sn sc) := d4
  have D5 : D.drew.cell? ⟨vb, 5, none⟩ = some (.slice ba bn bc) := d5
  have SN : Hid (sn ≤ 100000 ∧ bs.length ≤ 140737488355328) := by
    have := RV.out.tz; have := RV.out.bz; have := rl.out.2.1
    simp only at *
    exact ⟨by omega, by omega⟩
  go_region_held3 (fun w' => w'.cell? ⟨vb, 0, none⟩ = some (.int .i64 base) ∧ w'.cell? ⟨vb, 1, none⟩ = some (.int .i64 pgs) ∧ w'.cell? ⟨vb, 3, none⟩ = some (.slice ra rn rc) ∧ w'.cell? ⟨vb, 4, none⟩ = some (.slice sa sn sc) ∧ w'.cell? ⟨vb, 5, none⟩ = some (.slice ba bn bc))
    (first | (with_reducible first | exact ⟨u0, u1, u3, u4, u5⟩ | exact ⟨t0, t1, t3, t4, t5⟩ | exact ⟨s0, s1, s3, s4, s5⟩ | exact ⟨r0, r1, r3, r4, r5⟩ | exact ⟨D0, D1, D3, D4, D5⟩ | exact ⟨Lib.cell?_alloc_some _ t0, Lib.cell?_alloc_some _ t1, Lib.cell?_alloc_some _ t3, Lib.cell?_alloc_some _ t4, Lib.cell?_alloc_some _ t5⟩ | exact ⟨Lib.cell?_alloc_some _ s0, Lib.cell?_alloc_some _ s1, Lib.cell?_alloc_some _ s3, Lib.cell?_alloc_some _ s4, Lib.cell?_alloc_some _ s5⟩ | exact ⟨Lib.cell?_alloc_some _ r0, Lib.cell?_alloc_some _ r1, Lib.cell?_alloc_some _ r3, Lib.cell?_alloc_some _ r4, Lib.cell?_alloc_some _ r5⟩ | exact ⟨Lib.cell?_alloc_some _ D0, Lib.cell?_alloc_some _ D1, Lib.cell?_alloc_some _ D3, Lib.cell?_alloc_some _ D4, Lib.cell?_alloc_some _ D5⟩) | go_keep)
    (first
    | (obtain ⟨gr, rc1, w1, run1, o1, b1⟩ := PA.out; refine step_app rfl (.tmp 10) (.tmp 12) 23 rfl (.slice (some ⟨D.heap.size, 0, none⟩) 0 0) (.slice ra rn rc) (by simp [Act.eval, Act.put]) (by simp [Act.eval, Act.put]) (.slice (some ⟨gr, 0, none⟩) rn rc1) w1 run1 ?_; have O1 : Hid (Ow w1 D.heap.size (some ⟨gr, 0, none⟩) rs rc1) := o1; have B1 : Hid (Bl D w1) := b1; have r0 := bcell b1 d0; have r1 := bcell b1 d1; have r3 := bcell b1 d3; have r4 := bcell b1 d4; have r5 := bcell b1 d5; clear run1 o1 b1)
    | (obtain ⟨gr, rc1, w1, run1, o1, b1, z1⟩ := PB.out; refine step_app rfl (.tmp 10) (.tmp 12) 23 rfl (.slice (some ⟨D.heap.size, 0, none⟩) 0 0) (.slice ra rn rc) (by simp [Act.eval, Act.put]) (by simp [Act.eval, Act.put]) (.slice (some ⟨gr, 0, none⟩) rn rc1) w1 run1 ?_; have ZB : Hid (w1.heap[D.heap.size + 1]? = some (.cells zV 27 (0, 0))) := z1; have O1 : Hid (Ow w1 D.heap.size (some ⟨gr, 0, none⟩) rs rc1) := o1; have B1 : Hid (Bl D w1) := b1; have r0 := bcell b1 d0; have r1 := bcell b1 d1; have r3 := bcell b1 d3; have r4 := bcell b1 d4; have r5 := bcell b1 d5; clear run1 o1 b1 z1)
    | (obtain ⟨gr, rc1, w1, run1, o1, b1, z1⟩ := PC.out; refine step_app rfl (.tmp 10) (.tmp 12) 23 rfl (.slice (some ⟨D.heap.size + 1, 0, none⟩) 0 0) (.slice ra rn rc) (by simp [Act.eval, Act.put]) (by simp [Act.eval, Act.put]) (.slice (some ⟨gr, 0, none⟩) rn rc1) w1 run1 ?_; have ZC : Hid (w1.heap[D.heap.size]? = some (.cells zV 27 (0, 0))) := z1; have O1 : Hid (Ow w1 D.heap.size (some ⟨gr, 0, none⟩) rs rc1) := o1; have B1 : Hid (Bl D w1) := b1; have r0 := bcell b1 d0; have r1 := bcell b1 d1; have r3 := bcell b1 d3; have r4 := bcell b1 d4; have r5 := bcell b1 d5; clear run1 o1 b1 z1)
    | (go_at_call 25; refine (rcopy_any sa sn sc ts _ (RV.out.ts.keep (show Bl D _ by with_reducible first | exact B1.out | exact B1.out.alloc _)) rl.out.2.1 SN.out.1 HT.out).mono ?_; rintro e w2 ⟨sa1, sc1, rfl, t2, b2⟩; have B2 : Hid (Bl D w2) := (by show Bl _ _; first | exact B1.out.trans b2 | exact (B1.out.alloc _).trans b2); have T2 : Hid (Told w2 D.heap.size (.slice sa1 sn sc1) ts) := t2.monoD (by first | exact Below.size B1.out | exact Below.size (B1.out.alloc _)); have O2 : Hid (Ow w2 D.heap.size (some ⟨gr, 0, none⟩) rs rc1) := (by first | exact O1.out.keep b2 | exact (O1.out.keep ((Bl.refl w1).alloc _)).keep b2); (first | (have ZB2 : Hid (w2.heap[D.heap.size + 1]? = some (.cells zV 27 (0, 0))) := bblock b2 ZB.out) | (have ZC2 : Hid (w2.heap[D.heap.size]? = some (.cells zV 27 (0, 0))) := bblock b2 ZC.out) | (have ZD2 : Hid (w2.heap[w1.heap.size]? = some (.cells zV 27 (0, 0))) := bblock b2 (Go.heap_alloc_new w1 (.cells zV 27))) | skip); have s0 := bcell B2.out d0; have s1 := bcell B2.out d1; have s3 := bcell B2.out d3; have s4 := bcell B2.out d4; have s5 := bcell B2.out d5; clear t2 b2)
    | (go_at_call 26; refine (copy_any ba bc bn bs _ rl.out.2.2.1.symm (RV.out.bs.keep (show Bl D _ by with_reducible first | exact B2.out | exact B2.out.alloc _)) SN.out.2).mono ?_; rintro e w3 ⟨gb, bc1, rfl, o3, b3⟩; (first | (have GG : ∃ G, G = D.heap.size + 1 ∧ D.heap.size ≤ G ∧ w3.heap[G]? = some (.cells zV 27 (0, 0)) := ⟨_, rfl, Nat.le_succ _, bblock b3 ZB2.out⟩) | (have GG : ∃ G, G = D.heap.size ∧ D.heap.size ≤ G ∧ w3.heap[G]? = some (.cells zV 27 (0, 0)) := ⟨_, rfl, Nat.le_refl _, bblock b3 ZC2.out⟩) | (have GG : ∃ G, G = w1.heap.size ∧ D.heap.size ≤ G ∧ w3.heap[G]? = some (.cells zV 27 (0, 0)) := ⟨_, rfl, Below.size B1.out, bblock b3 ZD2.out⟩) | (have GG : ∃ G, G = w2.heap.size ∧ D.heap.size ≤ G ∧ w3.heap[G]? = some (.cells zV 27 (0, 0)) := ⟨_, rfl, Below.size B2.out, bblock b3 (Go.heap_alloc_new w2 (.cells zV 27))⟩) | skip); have B3 : Hid (Bl D w3) := (by show Bl _ _; first | exact B2.out.trans b3 | exact (B2.out.alloc _).trans b3); have O3 : Hid (OwnsB w3 D.heap.size (some ⟨gb, 0, none⟩) bs bc1) := o3.mono (by first | exact Below.size B2.out | exact Below.size (B2.out.alloc _)); have T3 : Hid (Told w3 D.heap.size (.slice sa1 sn sc1) ts) := (by first | exact T2.out.keep b3 | exact (T2.out.keep ((Bl.refl w2).alloc _)).keep b3); have Q3 : Hid (Ow w3 D.heap.size (some ⟨gr, 0, none⟩) rs rc1) := (by first | exact O2.out.keep b3 | exact (O2.out.keep ((Bl.refl w2).alloc _)).keep b3); have t0 := bcell B3.out d0; have t1 := bcell B3.out d1; have t3 := bcell B3.out d3; have t4 := bcell B3.out d4; have t5 := bcell B3.out d5; rw [rl.out.2.2.1]; clear b3 o3; (try (obtain ⟨G, hG, leG, zG⟩ := GG; (try rw [← hG]); obtain ⟨y0, y1, y2, y3, y4, y5⟩ := six zG; obtain ⟨f0, f1, f2, f3, f4, f5⟩ := sixF zG; have ZG : Hid (w3.heap[G]? = some (.cells zV 27 (0, 0))) := zG; have LG : Hid (D.heap.size ≤ G) := leG; have NG : vb ≠ G := (by have := ZD.out; have := HVB.out; omega); have u0 := layV_else (a := .int .i64 base) (b := .int .i64 pgs) (c := .slice none 0 0) (d := .slice (some ⟨gr, 0, none⟩) rn rc1) (e := .slice sa1 sn sc1) (f := .slice (some ⟨gb, 0, none⟩) bn bc1) NG t0; have u1 := layV_else (a := .int .i64 base) (b := .int .i64 pgs) (c := .slice none 0 0) (d := .slice (some ⟨gr, 0, none⟩) rn rc1) (e := .slice sa1 sn sc1) (f := .slice (some ⟨gb, 0, none⟩) bn bc1) NG t1; have u3 := layV_else (a := .int .i64 base) (b := .int .i64 pgs) (c := .slice none 0 0) (d := .slice (some ⟨gr, 0, none⟩) rn rc1) (e := .slice sa1 sn sc1) (f := .slice (some ⟨gb, 0, none⟩) bn bc1) NG t3; have u4 := layV_else (a := .int .i64 base) (b := .int .i64 pgs) (c := .slice none 0 0) (d := .slice (some ⟨gr, 0, none⟩) rn rc1) (e := .slice sa1 sn sc1) (f := .slice (some ⟨gb, 0, none⟩) bn bc1) NG t4; have u5 := layV_else (a := .int .i64 base) (b := .int .i64 pgs) (c := .slice none 0 0) (d := .slice (some ⟨gr, 0, none⟩) rn rc1) (e := .slice sa1 sn sc1) (f := .slice (some ⟨gb, 0, none⟩) bn bc1) NG t5; unfold layV at u0 u1 u3 u4 u5; clear zG hG leG NG))))
  · exact REST.out _ _ gr gb rc1 sc1 bc1 sa1 _ (cvw_new (by have := ZD.out; have := Below.size B3.out; omega) (fun g c t hg _ => ((Bl.refl w3).alloc _).row hg) (Go.heap_alloc_new w3 _) ((B3.out.alloc _).row R0.out) (BD.out.trans (B3.out.alloc _)) rl.out.1 rl.out.2.1 rl.out.2.2.1 (Q3.out.mono (Below.size BD.out)) (T3.out.monoD (Below.size BD.out)) (O3.out.mono (Below.size BD.out))) (B3.out.alloc _)
  all_goals exact REST.out G _ gr gb rc1 sc1 bc1 sa1 (layV w3 G (.int .i64 base) (.int .i64 pgs) (.slice none 0 0) (.slice (some ⟨gr, 0, none⟩) rn rc1) (.slice sa1 sn sc1) (.slice (some ⟨gb, 0, none⟩) bn bc1)) (cvw_new (by have := ZD.out; have := LG.out; omega) (fun g c t hg ht => by rw [(layV_only _ _ _ _ _ _ _ _).block g (kind_ne hg ZG.out ht)]; exact hg) (layV_row ZG.out) (by rw [(layV_only _ _ _ _ _ _ _ _).block _ (by have := ZD.out; have := LG.out; omega)]; exact B3.out.row R0.out) (Below.trans (BD.out.trans B3.out) ((layV_only _ _ _ _ _ _ _ _).below (by have := ZD.out; have := LG.out; omega))) rl.out.1 rl.out.2.1 rl.out.2.2.1 (Q3.out.mono (Below.size BD.out)) (T3.out.monoD (Below.size BD.out)) (O3.out.mono (Below.size BD.out))) (Below.trans B3.out ((layV_only _ _ _ _ _ _ _ _).below LG.out))
end Go.Proofs.YtbfamjnnlcopiaaGreatDoor
