/- The walk of ImageMakes. -/
import Derived.Test.YtbfamjnnlcopiaaGreatDoorIiF
import Derived.Test.YtbfamjnnlcopiaaGreatDoorGzAZ
import Derived.Test.YtbfamjnnlcopiaaGreatDoorGzBA
import Derived.Test.YtbfamjnnlcopiaaGreatDoorBfA
import Derived.Test.YtbfamjnnlcopiaaGreatDoorBcD
import Derived.Test.YtbfamjnnlcopiaaGreatDoorGzBC
import Derived.Laws.OwnMore
namespace Go.Proofs.YtbfamjnnlcopiaaGreatDoor
open Go.RowKit
set_option linter.unusedVariables false
set_option maxRecDepth 4000

/-- Under way: the bytes of the image are turned, one by one. -/
structure Pg (W wr : World) (B g n bc N : Nat) : Prop where
  own : ∃ L : List Int, L.length = n ∧ OwnsB wr B (some ⟨g, 0, none⟩) L bc
  c6 : wr.cell? ⟨N, 6, none⟩ = some (.slice (some ⟨g, 0, none⟩) n bc)
  tg : Tg g W wr
theorem Pg.at {W wr : World} {B g n bc N : Nat} (h : Pg W wr B g n bc N) (j : Nat) (hj : j < n) : ∃ x, wr.cell? ⟨g, j, none⟩ = some (.int .u8 x) ∧ wr.frozen? ⟨g, j, none⟩ = false := by
  obtain ⟨L, hL, o⟩ := h.own
  have e := World.ownsRow.cellAt o j (by rw [hL]; omega)
  refine ⟨L[j]'(by omega), ?_, World.ownsRow.frozenAt o j⟩
  rw [e]
  simp [hL, hj]
theorem Pg.drew {W wr : World} {B g n bc N : Nat} (h : Pg W wr B g n bc N) : Pg W wr.drew B g n bc N := ⟨h.own, h.c6, h.tg.drew⟩
theorem Pg.set {W wr : World} {B g n bc N : Nat} (h : Pg W wr B g n bc N) (j : Nat) (y : Int) (hN : N ≠ g) : Pg W (wr.setCell ⟨g, j, none⟩ (.int .u8 y)) B g n bc N := by
  obtain ⟨L, hL, o⟩ := h.own
  have t : Tg g wr (wr.setCell ⟨g, j, none⟩ (.int .u8 y)) := Tg.ofOnly (Only.set g j _ _)
  refine ⟨⟨L.set j y, by rw [List.length_set]; exact hL, ?_⟩, by rw [(Only.set g j (.int .u8 y) wr).cell (p := ⟨N, 6, none⟩) hN]; exact h.c6, h.tg.trans t⟩
  have := (World.ownsRow.stored o j (.int .u8 y)).1
  unfold OwnsB
  rw [List.length_set, List.map_set]
  exact this

theorem make_len {V : Vw} (h : Hold V 7) {j : Nat} (hj : j < V.ts.length) : (makeG V j).live.length ≤ maxLen ∧ (makeG V j).offs.length ≤ maxLen ∧ (makeG V j).bytes.length ≤ 65536 := by
  obtain ⟨hr, _⟩ := h.right (by decide) j hj
  have q1 : lvN V j ≤ slN (tdD V.ts j).c := live_le hr.2
  have q2 : slN (tdD V.ts j).c ≤ 16 := (newE_rt hr.1).facts.2.1
  have hl : lvN V j ≤ 16 := by omega
  have hs : (szT V j).toNat ≤ 4096 := by
    have rt := newE_rt hr.1
    obtain ⟨f1, f2, f3, f4, f5, f6, f7, f8, f9, f10, f11⟩ := rt.facts
    unfold szT
    omega
  refine ⟨?_, ?_, ?_⟩
  · show lvN V j ≤ maxLen
    unfold maxLen
    omega
  · show (mkO V j (lvN V j)).length ≤ maxLen
    have := (mkO_placed h hj _ (Nat.le_refl _)).2
    unfold maxLen
    omega
  · show (mkB V j (lvN V j)).length ≤ 65536
    rw [mkB_len h hj _ (Nat.le_refl _)]
    calc lvN V j * (szT V j).toNat ≤ 16 * 4096 := Nat.mul_le_mul hl hs
      _ = 65536 := by decide
set_option maxRecDepth 20000 in
set_option maxHeartbeats 16000000 in
theorem imageMakes_any (V : Vw) (A : Va) (i : Int) (w : World) (h : Rv0 w V A) (hk : ∀ k ∈ V.ks, k.l.length ≤ 17592186044416) (ht : ∀ t ∈ V.ts, t.l.length ≤ 17592186044416) (hT : Tabs w) :
    Calls Tryz.prog 3 #[.agg #[.int .i64 V.base, .int .i64 V.pgs, .slice A.ka A.kn A.kc, .slice A.ra A.rn A.rc, .slice A.sa A.sn A.sc, .slice A.ba A.bn A.bc], .int .i64 i] w fun e w' => e = .returned (.bool true) ∧ Below w.heap.size w w' := by
  obtain ⟨ka, ra, sa, ba, kn, rn, sn, bn, kc, rc, sc, bc⟩ := A
  obtain ⟨E, hE, bE, rE⟩ := vbox w V ⟨ka, ra, sa, ba, kn, rn, sn, bn, kc, rc, sc, bc⟩
  simp only at hE rE
  have HE : Hid (w.alloc (.cells #[.int .i64 V.base, .int .i64 V.pgs, .slice ka kn kc, .slice ra rn rc, .slice sa sn sc, .slice ba bn bc] 27) = E) := hE
  have BE : Hid (Bl w E) := bE
  have RE : Hid (E.heap[w.heap.size]? = some (.cells #[.int .i64 V.base, .int .i64 V.pgs, .slice ka kn kc, .slice ra rn rc, .slice sa sn sc, .slice ba bn bc] 27 (0, 0))) := rE
  have H0 : Hid (Rv0 E V ⟨ka, ra, sa, ba, kn, rn, sn, bn, kc, rc, sc, bc⟩) := h.keep bE
  have HK : Hid (∀ k ∈ V.ks, k.l.length ≤ 17592186044416) := hk
  have HTS : Hid (∀ t ∈ V.ts, t.l.length ≤ 17592186044416) := ht
  have HT : Hid (Tabs E) := hT.keep bE
  have FIN : Hid (∀ w', Bl E w' → Below w.heap.size w w') := fun w' b => BE.out.trans b
  clear h hk ht hT bE rE hE
  go_enter Tryz.func3, Tryz.ntmps3
  go_upto_region 1 with (fail)
  rw [HE.out]
  go_wp2_with fail
  refine (alive_any17 E HT.out).mono ?_
  rintro e w1 ⟨rfl, b1⟩
  have B1 : Hid (Bl E w1) := b1
  obtain ⟨c0, c1, c2, c3, c4, c5⟩ := six (B1.out.row RE.out)
  clear b1
  go_wp2_with fail
  refine (great_any V ⟨ka, ra, sa, ba, kn, rn, sn, bn, kc, rc, sc, bc⟩ w1 (H0.out.keep B1.out)).mono ?_
  rintro e w2 ⟨r2, rfl, hs, b2⟩
  have B2 : Hid (Bl E w2) := B1.out.trans b2
  clear c0 c1 c2 c3 c4 c5 b2
  cases r2 with
  | true =>
    go_wp2
    go_ret
    exact ⟨rfl, FIN.out _ B2.out⟩
  | false =>
    have SM : Hid (SmallV V) := hs rfl
    clear hs
    have RVE : Hid (Rv E V ⟨ka, ra, sa, ba, kn, rn, sn, bn, kc, rc, sc, bc⟩) := H0.out.small SM.out
    have NM : Hid (Nums V) := RVE.out.nums
    obtain ⟨c0, c1, c2, c3, c4, c5⟩ := six (B2.out.row RE.out)
    go_wp2_with fail
    refine (acopy_any V ⟨ka, ra, sa, ba, kn, rn, sn, bn, kc, rc, sc, bc⟩ w2 (RVE.out.keep B2.out) HK.out HTS.out).mono ?_
    rintro e w4 ⟨A', gr, gb, rfl, cp, b4⟩
    obtain ⟨ka1, ra1, sa1, ba1, kn1, rn1, sn1, bn1, kc1, rc1, sc1, bc1⟩ := A'
    simp only
    obtain ⟨X5, hX5⟩ : ∃ X5, w4.alloc (.cells #[.int .i64 V.base, .int .i64 V.pgs, .slice ka1 kn1 kc1, .slice ra1 rn1 rc1, .slice sa1 sn1 sc1, .slice ba1 bn1 bc1] 27) = X5 := ⟨_, rfl⟩
    have HX5 : Hid (w4.alloc (.cells #[.int .i64 V.base, .int .i64 V.pgs, .slice ka1 kn1 kc1, .slice ra1 rn1 rc1, .slice sa1 sn1 sc1, .slice ba1 bn1 bc1] 27) = X5) := hX5
    have b5 : Bl w4 X5 := by rw [← hX5]; exact (Bl.refl w4).alloc _
    have r5 : X5.heap[w4.heap.size]? = some (.cells #[.int .i64 V.base, .int .i64 V.pgs, .slice ka1 kn1 kc1, .slice ra1 rn1 rc1, .slice sa1 sn1 sc1, .slice ba1 bn1 bc1] 27 (0, 0)) := by rw [← hX5]; exact Go.heap_alloc_new w4 _
    have R5 : Hid (Rv X5 V ⟨ka1, ra1, sa1, ba1, kn1, rn1, sn1, bn1, kc1, rc1, sc1, bc1⟩) := (cp.keep b5).rv NM.out
    have B5 : Hid (Bl E X5) := (B2.out.trans b4).trans b5
    obtain ⟨v5, hv5⟩ : ∃ v5, w4.heap.size = v5 := ⟨_, rfl⟩
    rw [hv5] at r5
    have HV5 : Hid (w4.heap.size = v5) := hv5
    have RX : Hid (X5.heap[v5]? = some (.cells #[.int .i64 V.base, .int .i64 V.pgs, .slice ka1 kn1 kc1, .slice ra1 rn1 rc1, .slice sa1 sn1 sc1, .slice ba1 bn1 bc1] 27 (0, 0))) := r5
    clear cp b4 b5 r5 hX5 hv5
    go_upto_region 6 with (fail)
    rw [HX5.out]
    try rw [HV5.out]
    clear c0 c1 c2 c3 c4 c5
    obtain ⟨k0, k1, k2, k3, k4, k5⟩ := six RX.out
    have SNL : Hid (V.ts.length = sn) := RVE.out.sl
    go_wp2_with fail
    by_cases hH : Hold V 7
    · by_cases hi : 0 ≤ i ∧ i < (V.ts.length : Int)
      · obtain ⟨j, rfl⟩ : ∃ j : Nat, i = (j : Int) := ⟨i.toNat, by omega⟩
        have HJ : Hid (j < V.ts.length) := by show _ < _; omega
        have HH : Hid (Hold V 7) := hH
        have j1 : ¬ (j : Int) < 0 := by omega
        have j2 : (j : Int) < (sn : Int) := by have := SNL.out; omega
        clear hi hH
        refine (imake_ok V ⟨ka1, ra1, sa1, ba1, kn1, rn1, sn1, bn1, kc1, rc1, sc1, bc1⟩ (j : Int) X5 R5.out (HT.out.keep B5.out) HH.out j HJ.out rfl).mono ?_
        rintro e w6 ⟨la3, lc3, oa3, oc3, ba3, bc3, rfl, iL, iO, iB, b6⟩
        obtain ⟨m, hm⟩ : ∃ m, makeG V j = m := ⟨_, rfl⟩
        have HMM : Hid (makeG V j = m) := hm
        rw [hm] at iL iO iB
        rw [hm]
        have IL6 : Hid (IsI w6 la3 m.live) := iL
        have IO6 : Hid (IsI w6 oa3 m.offs) := iO
        have IB6 : Hid (OwnsB w6 X5.heap.size ba3 m.bytes bc3) := iB
        have AY : Hid (AllB m.bytes) := by show AllB _; rw [← hm]; exact mkB_all RVE.out.bs.1 j _
        have MLL : Hid (m.live.length ≤ maxLen ∧ m.offs.length ≤ maxLen ∧ m.bytes.length ≤ 65536) := by show _ ∧ _ ∧ _; rw [← hm]; exact make_len HH.out HJ.out
        clear iL iO iB hm
        obtain ⟨X6, hX6, zX6, rX6, bX6⟩ := ibox 35 w6 m.p m.c m.s la3 m.live.length lc3 m.base oa3 m.offs.length oc3 ba3 m.bytes.length bc3
        have HX6 : Hid (w6.alloc (.cells #[.int .i64 m.p, .int .i64 m.c, .int .i64 m.s, .slice la3 m.live.length lc3, .int .i64 m.base, .slice oa3 m.offs.length oc3, .slice ba3 m.bytes.length bc3] 35) = X6) := hX6
        obtain ⟨N6, hN6⟩ : ∃ N, w6.heap.size = N := ⟨_, rfl⟩
        rw [hN6] at rX6
        have HN6 : Hid (w6.heap.size = N6) := hN6
        have CX6 : Hid (Ic X6 N6 m.p m.c m.s la3 m.live.length lc3 m.base oa3 m.offs.length oc3 ba3 m.bytes.length bc3) := icell rX6
        have B56 : Hid (Bl X5 X6) := Bl.trans b6 bX6
        have B6 : Hid (Bl E X6) := B5.out.trans B56.out
        have B66 : Hid (Bl w6 X6) := bX6
        obtain ⟨c0, c1, c2, c3, c4, c5⟩ := six (B6.out.row RE.out)
        clear hX6 zX6 rX6 bX6 hN6 b6 k0 k1 k2 k3 k4 k5
        go_upto_region 7 with (fail)
        rw [HX6.out]
        try rw [HN6.out]
        go_wp2_with fail
        refine (racheck_any V ⟨ka, ra, sa, ba, kn, rn, sn, bn, kc, rc, sc, bc⟩ X6 (RVE.out.keep B6.out)).mono ?_
        rintro e w7 ⟨r7, x7, rfl, hc7, b7⟩
        have B67 : Hid (Bl X6 w7) := b7
        have B7 : Hid (Bl E w7) := B6.out.trans b7
        clear b7 c0 c1 c2 c3 c4 c5
        obtain ⟨rfl, rfl⟩ := chk_good hc7 HH.out
        clear hc7
        obtain ⟨c0, c1, c2, c3, c4, c5⟩ := six (B7.out.row RE.out)
        have NK : Hid (∀ wz, Below w7.heap.size w7 wz → (wz.cell? ⟨N6, 0, none⟩ = some (.int .i64 m.p) ∧ wz.cell? ⟨N6, 1, none⟩ = some (.int .i64 m.c) ∧ wz.cell? ⟨N6, 2, none⟩ = some (.int .i64 m.s) ∧ wz.cell? ⟨N6, 3, none⟩ = some (.slice la3 m.live.length lc3) ∧ wz.cell? ⟨N6, 4, none⟩ = some (.int .i64 m.base) ∧ wz.cell? ⟨N6, 5, none⟩ = some (.slice oa3 m.offs.length oc3) ∧ wz.cell? ⟨N6, 6, none⟩ = some (.slice ba3 m.bytes.length bc3)) ∧ (wz.cell? ⟨w.heap.size, 0, none⟩ = some (.int .i64 V.base) ∧ wz.cell? ⟨w.heap.size, 1, none⟩ = some (.int .i64 V.pgs) ∧ wz.cell? ⟨w.heap.size, 2, none⟩ = some (.slice ka kn kc) ∧ wz.cell? ⟨w.heap.size, 3, none⟩ = some (.slice ra rn rc) ∧ wz.cell? ⟨w.heap.size, 4, none⟩ = some (.slice sa sn sc) ∧ wz.cell? ⟨w.heap.size, 5, none⟩ = some (.slice ba bn bc))) := fun wz b => by
          obtain ⟨j0, j1, j2, j3, j4, j5, j6⟩ := (CX6.out.keep B67.out).keep b
          exact ⟨⟨j0, j1, j2, j3, j4, j5, j6⟩, six ((B7.out.trans b).row RE.out)⟩
        go_wp2_with fail
        go_region_held3 (fun wz => (wz.cell? ⟨N6, 0, none⟩ = some (.int .i64 m.p) ∧ wz.cell? ⟨N6, 1, none⟩ = some (.int .i64 m.c) ∧ wz.cell? ⟨N6, 2, none⟩ = some (.int .i64 m.s) ∧ wz.cell? ⟨N6, 3, none⟩ = some (.slice la3 m.live.length lc3) ∧ wz.cell? ⟨N6, 4, none⟩ = some (.int .i64 m.base) ∧ wz.cell? ⟨N6, 5, none⟩ = some (.slice oa3 m.offs.length oc3) ∧ wz.cell? ⟨N6, 6, none⟩ = some (.slice ba3 m.bytes.length bc3)) ∧ (wz.cell? ⟨w.heap.size, 0, none⟩ = some (.int .i64 V.base) ∧ wz.cell? ⟨w.heap.size, 1, none⟩ = some (.int .i64 V.pgs) ∧ wz.cell? ⟨w.heap.size, 2, none⟩ = some (.slice ka kn kc) ∧ wz.cell? ⟨w.heap.size, 3, none⟩ = some (.slice ra rn rc) ∧ wz.cell? ⟨w.heap.size, 4, none⟩ = some (.slice sa sn sc) ∧ wz.cell? ⟨w.heap.size, 5, none⟩ = some (.slice ba bn bc)))
          (with_reducible first | exact NK.out _ B10.out | exact NK.out _ B9.out | exact NK.out _ B8.out | exact NK.out _ (Below.toDrew (Below.refl _ w7)) | fail)
          (first
          | (go_at_call 10; have z9 := B9.out; refine (dsame_true m.p m.c m.s m.base la3 oa3 ba3 la9 oa9 ba9 lc3 oc3 bc3 lc9 oc9 bc9 m.live m.offs m.bytes _ ((IL6.out.keep (B66.out.trans B67.out)).keep B9.out) IL9.out ((IO6.out.keep (B66.out.trans B67.out)).keep B9.out) IO9.out ((ownsB_isB AY.out (IB6.out.keep (B66.out.trans B67.out))).keep B9.out) IB9.out MLL.out.1 MLL.out.2.1).mono ?_; rintro e w10 ⟨rfl, b10⟩; have B10 : Hid (Below w7.heap.size w7 w10) := B9.out.trans (b10.mono B9.out.size); clear b10)
          | (go_at_call 12; have z8 := B8.out; refine (dmake_any V ⟨ka, ra, sa, ba, kn, rn, sn, bn, kc, rc, sc, bc⟩ j _ (RVE.out.keep (B7.out.trans B8.out)) HH.out HJ.out).mono ?_; unfold ImgP; rw [HMM.out]; rintro e w9 ⟨la9, lc9, oa9, oc9, ba9, bc9, rfl, iL, iO, iB, _, _, b9⟩; have B9 : Hid (Below w7.heap.size w7 w9) := B8.out.trans (b9.mono B8.out.size); have IL9 : Hid (IsI w9 la9 m.live) := iL; have IO9 : Hid (IsI w9 oa9 m.offs) := iO; have IB9 : Hid (IsB w9 ba9 m.bytes) := ownsB_isB AY.out iB; clear iL iO iB b9)
          | (go_at_call 11; refine (own_any17 m.p m.c m.s m.base la3 oa3 ba3 _ lc3 _ oc3 _ bc3 _).mono ?_; rintro e w8 ⟨rfl, b8⟩; have B8 : Hid (Below w7.heap.size w7 w8) := Below.ofDrew b8; clear b8))
        clear c0 c1 c2 c3 c4 c5
        have BE10 : Hid (Bl E w10) := B7.out.trans B10.out
        have B5X : Hid (Bl X5 w10) := (B56.out.trans B67.out).trans B10.out
        have O10 : Hid (OwnsB w10 X5.heap.size ba3 m.bytes bc3) := (IB6.out.keep (B66.out.trans B67.out)).keep B10.out
        have j6 := (NK.out _ B10.out).1.2.2.2.2.2.2
        have GB6 : Hid (∀ g, ba3 = some ⟨g, 0, none⟩ → X5.heap.size ≤ g ∧ g < N6) := fun g e => by
          have q := ownB_blk IB6.out g (by rw [e]; rfl)
          have := HN6.out
          omega
        obtain ⟨n, hn⟩ : ∃ n, m.bytes.length = n := ⟨_, rfl⟩
        have n6 : n ≤ 65536 := by rw [← hn]; exact MLL.out.2.2
        have EQ : Hid (∀ wr, (∀ g, ba3 = some ⟨g, 0, none⟩ → Tg g w10 wr) → (ba3 = none → wr = w10 ∨ Bl w10 wr) → True) := fun _ _ _ => trivial
        rcases hba : ba3 with _ | ad
        · have hb0 : m.bytes = [] := by
            have q := O10.out
            rw [hba] at q
            obtain ⟨_, ⟨q2, q3⟩ | ⟨g', c', cur, r1, _⟩⟩ := q
            · exact List.eq_nil_of_length_eq_zero q3
            · cases r1
          have n0 : n = 0 := by rw [← hn, hb0]; rfl
          subst n0
          rw [hn, hba] at j6
          rw [hn]
          clear hb0 hn n6
          obtain ⟨c0, c1, c2, c3, c4, c5⟩ := six (BE10.out.row RE.out)
          obtain ⟨k0, k1, k2, k3, k4, k5⟩ := six (B5X.out.row RX.out)
          subst hba
          go_wp2
          refine wp_loop_rounds 1 ?_
          rw [rounds_succ]
          go_wp2_with (go_at_call 13; refine (equal_true V ⟨ka1, ra1, sa1, ba1, kn1, rn1, sn1, bn1, kc1, rc1, sc1, bc1⟩ ⟨ka, ra, sa, ba, kn, rn, sn, bn, kc, rc, sc, bc⟩ w10 (R5.out.keep B5X.out) (RVE.out.keep BE10.out)).mono ?_; rintro e w12 ⟨rfl, b12⟩; have B12 : Hid (Bl E w12) := BE10.out.trans b12; clear b12)
          go_ret
          exact ⟨rfl, FIN.out _ B12.out⟩
        · obtain ⟨g, rfl⟩ : ∃ g, ad = ⟨g, 0, none⟩ := by
            have q := O10.out
            rw [hba] at q
            obtain ⟨_, ⟨q2, q3⟩ | ⟨g', c', cur, r1, _⟩⟩ := q
            · cases q2
            · cases r1; exact ⟨_, rfl⟩
          subst hba
          obtain ⟨g1, g2⟩ := GB6.out g rfl
          have HG1 : Hid (X5.heap.size ≤ g) := g1
          have NE : Hid (N6 ≠ g) := by show _ ≠ _; omega
          have P0 : Hid (Pg w10 w10 X5.heap.size g n bc3 N6) := ⟨⟨m.bytes, hn, O10.out⟩, by rw [← hn]; exact j6, Tg.refl _ _⟩
          have TE : Hid (∀ wr, Tg g w10 wr → Bl X5 wr) := fun wr t => Below.trans B5X.out (t.below HG1.out B5X.out.size)
          rw [hn] at j6
          rw [hn]
          clear g1 g2 GB6 EQ
          go_wp2
          go_loopw [71] (fun iv wr => ∃ i : Nat, i ≤ n ∧ iv = .int .i64 (i : Nat) ∧ Pg w10 wr X5.heap.size g n bc3 N6) (fun iv _ => n - lenW iv)
          case atStart => exact ⟨0, Nat.zero_le _, rfl, P0.out⟩
          case round =>
            clear j6 P0
            obtain ⟨i, hi, rfl, ph⟩ := hrel
            rename World => wr
            have PH : Hid (Pg w10 wr X5.heap.size g n bc3 N6) := ph
            have q6 := ph.c6
            by_cases hlt : i < n
            · obtain ⟨x, hx, hfz⟩ := ph.at i hlt
              have i0 : (i : Int) < (n : Int) := by omega
              obtain ⟨y, hy⟩ : ∃ y, IntKind.u8.wrap (x + 1) = y := ⟨_, rfl⟩
              have PN : Hid (Pg w10 (wr.setCell ⟨g, i, none⟩ (.int .u8 y)) X5.heap.size g n bc3 N6) := ph.set i y NE.out
              have u6 : (wr.setCell ⟨g, i, none⟩ (.int .u8 y)).cell? ⟨N6, 6, none⟩ = some (.slice (some ⟨g, 0, none⟩) n bc3) := PN.out.c6
              have U6 : (wr.setCell ⟨g, i, none⟩ (.int .u8 y)).drew.cell? ⟨N6, 6, none⟩ = some (.slice (some ⟨g, 0, none⟩) n bc3) := u6
              have V6 : wr.drew.cell? ⟨N6, 6, none⟩ = some (.slice (some ⟨g, 0, none⟩) n bc3) := q6
              clear ph
              go_wp2_with fail
              go_region
              all_goals
                go_wp2
                go_roundw
                case rel => exact ⟨i + 1, by omega, by congr 1, (by first | exact PN.out | exact PN.out.drew)⟩
                case measure => simp [lenW]; omega
            · have i0 : ¬ (i : Int) < (n : Int) := by omega
              have BX : Hid (Bl X5 wr) := TE.out wr ph.tg
              have BEW : Hid (Bl E wr) := B5.out.trans BX.out
              obtain ⟨c0, c1, c2, c3, c4, c5⟩ := six (BEW.out.row RE.out)
              obtain ⟨k0, k1, k2, k3, k4, k5⟩ := six (BX.out.row RX.out)
              clear ph q6
              go_wp2_with (go_at_call 13; refine (equal_true V ⟨ka1, ra1, sa1, ba1, kn1, rn1, sn1, bn1, kc1, rc1, sc1, bc1⟩ ⟨ka, ra, sa, ba, kn, rn, sn, bn, kc, rc, sc, bc⟩ wr (R5.out.keep BX.out) (RVE.out.keep BEW.out)).mono ?_; rintro e w12 ⟨rfl, b12⟩; have B12 : Hid (Bl E w12) := BEW.out.trans b12; clear b12)
              go_ret
              exact ⟨rfl, FIN.out _ B12.out⟩
      · have HH : Hid (Hold V 7) := hH
        have HI : ¬ (0 ≤ i ∧ i < (sn : Int)) := by have := SNL.out; omega
        refine (imake_arg V ⟨ka1, ra1, sa1, ba1, kn1, rn1, sn1, bn1, kc1, rc1, sc1, bc1⟩ i X5 R5.out (HT.out.keep B5.out) hH hi).mono ?_
        rintro e w6 ⟨rfl, b6⟩
        clear hH hi
        obtain ⟨X6, hX6, zX6, rX6, bX6⟩ := ibox 35 w6 0 0 0 none 0 0 0 none 0 0 none 0 0
        have HX6 : Hid (w6.alloc (.cells #[.int .i64 0, .int .i64 0, .int .i64 0, .slice none 0 0, .int .i64 0, .slice none 0 0, .slice none 0 0] 35) = X6) := hX6
        obtain ⟨N6, hN6⟩ : ∃ N, w6.heap.size = N := ⟨_, rfl⟩
        rw [hN6] at rX6
        have HN6 : Hid (w6.heap.size = N6) := hN6
        have CX6 : Hid (Ic X6 N6 0 0 0 none 0 0 0 none 0 0 none 0 0) := icell rX6
        have B56 : Hid (Bl X5 X6) := Bl.trans b6 bX6
        have B6 : Hid (Bl E X6) := B5.out.trans B56.out
        have B66 : Hid (Bl w6 X6) := bX6
        obtain ⟨c0, c1, c2, c3, c4, c5⟩ := six (B6.out.row RE.out)
        clear hX6 zX6 rX6 bX6 hN6 b6 k0 k1 k2 k3 k4 k5
        go_upto_region 7 with (fail)
        rw [HX6.out]
        try rw [HN6.out]
        go_wp2_with fail
        refine (racheck_any V ⟨ka, ra, sa, ba, kn, rn, sn, bn, kc, rc, sc, bc⟩ X6 (RVE.out.keep B6.out)).mono ?_
        rintro e w7 ⟨r7, x7, rfl, hc7, b7⟩
        have B67 : Hid (Bl X6 w7) := b7
        have B7 : Hid (Bl E w7) := B6.out.trans b7
        clear b7 c0 c1 c2 c3 c4 c5
        obtain ⟨rfl, rfl⟩ := chk_good hc7 HH.out
        clear hc7
        obtain ⟨c0, c1, c2, c3, c4, c5⟩ := six (B7.out.row RE.out)
        by_cases i0 : i < 0
        · clear HI
          obtain ⟨d0, d1, d2, d3, d4, d5, d6⟩ := CX6.out.keep B67.out
          go_wp2_with (first
            | (go_at_call 10; refine (dsame_true 0 0 0 0 none none none none none none 0 0 0 0 0 0 [] [] [] _ (IsI.nil _ _) (IsI.nil _ _) (IsI.nil _ _) (IsI.nil _ _) (IsB.nil _ _) (IsB.nil _ _) (by simp) (by simp)).mono ?_; rintro e w9 ⟨rfl, b9⟩; have B9 : Hid (Bl E w9) := B8.out.trans b9; clear b9)
            | (go_at_call 11; refine (own_any17 0 0 0 0 none none none 0 0 0 0 0 0 _).mono ?_; rintro e w8 ⟨rfl, b8⟩; have B8 : Hid (Bl E w8) := B7.out.trans b8; clear b8))
          go_ret
          exact ⟨rfl, FIN.out _ B9.out⟩
        · have i1 : (sn : Int) ≤ i := by omega
          clear HI
          obtain ⟨d0, d1, d2, d3, d4, d5, d6⟩ := CX6.out.keep B67.out
          go_wp2_with (first
            | (go_at_call 10; refine (dsame_true 0 0 0 0 none none none none none none 0 0 0 0 0 0 [] [] [] _ (IsI.nil _ _) (IsI.nil _ _) (IsI.nil _ _) (IsI.nil _ _) (IsB.nil _ _) (IsB.nil _ _) (by simp) (by simp)).mono ?_; rintro e w9 ⟨rfl, b9⟩; have B9 : Hid (Bl E w9) := B8.out.trans b9; clear b9)
            | (go_at_call 11; refine (own_any17 0 0 0 0 none none none 0 0 0 0 0 0 _).mono ?_; rintro e w8 ⟨rfl, b8⟩; have B8 : Hid (Bl E w8) := B7.out.trans b8; clear b8))
          go_ret
          exact ⟨rfl, FIN.out _ B9.out⟩
    · refine (imake_form V ⟨ka1, ra1, sa1, ba1, kn1, rn1, sn1, bn1, kc1, rc1, sc1, bc1⟩ i X5 R5.out (HT.out.keep B5.out) hH).mono ?_
      rintro e w6 ⟨rfl, b6⟩
      have HNH : Hid (¬ Hold V 7) := hH
      clear hH
      obtain ⟨X6, hX6, zX6, rX6, bX6⟩ := ibox 35 w6 0 0 0 none 0 0 0 none 0 0 none 0 0
      have HX6 : Hid (w6.alloc (.cells #[.int .i64 0, .int .i64 0, .int .i64 0, .slice none 0 0, .int .i64 0, .slice none 0 0, .slice none 0 0] 35) = X6) := hX6
      obtain ⟨N6, hN6⟩ : ∃ N, w6.heap.size = N := ⟨_, rfl⟩
      rw [hN6] at rX6
      have HN6 : Hid (w6.heap.size = N6) := hN6
      have CX6 : Hid (Ic X6 N6 0 0 0 none 0 0 0 none 0 0 none 0 0) := icell rX6
      have B56 : Hid (Bl X5 X6) := Bl.trans b6 bX6
      have B6 : Hid (Bl E X6) := B5.out.trans B56.out
      have B66 : Hid (Bl w6 X6) := bX6
      obtain ⟨c0, c1, c2, c3, c4, c5⟩ := six (B6.out.row RE.out)
      clear hX6 zX6 rX6 bX6 hN6 b6 k0 k1 k2 k3 k4 k5
      go_upto_region 7 with (fail)
      rw [HX6.out]
      try rw [HN6.out]
      go_wp2_with fail
      refine (racheck_any V ⟨ka, ra, sa, ba, kn, rn, sn, bn, kc, rc, sc, bc⟩ X6 (RVE.out.keep B6.out)).mono ?_
      rintro e w7 ⟨r7, x7, rfl, hc7, b7⟩
      have B67 : Hid (Bl X6 w7) := b7
      have B7 : Hid (Bl E w7) := B6.out.trans b7
      clear b7 c0 c1 c2 c3 c4 c5
      have r0 : 0 < r7 := chk_bad hc7 HNH.out
      have hr : (r7 != 0) = true := bne_iff_ne.2 (by omega)
      clear hc7
      obtain ⟨d0, d1, d2, d3, d4, d5, d6⟩ := CX6.out.keep B67.out
      go_wp2_with (first
        | (go_at_call 10; refine (dsame_true 0 0 0 0 none none none none none none 0 0 0 0 0 0 [] [] [] _ (IsI.nil _ _) (IsI.nil _ _) (IsI.nil _ _) (IsI.nil _ _) (IsB.nil _ _) (IsB.nil _ _) (by simp) (by simp)).mono ?_; rintro e w9 ⟨rfl, b9⟩; have B9 : Hid (Bl E w9) := B8.out.trans b9; clear b9)
        | (go_at_call 11; refine (own_any17 0 0 0 0 none none none 0 0 0 0 0 0 _).mono ?_; rintro e w8 ⟨rfl, b8⟩; have B8 : Hid (Bl E w8) := B7.out.trans b8; clear b8))
      go_ret
      exact ⟨rfl, FIN.out _ B9.out⟩
end Go.Proofs.YtbfamjnnlcopiaaGreatDoor
