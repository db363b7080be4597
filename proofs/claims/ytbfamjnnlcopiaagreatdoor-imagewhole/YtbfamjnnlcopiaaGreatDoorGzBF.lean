/- The document's Lay into bytes of one's own. -/
import Derived.Test.YtbfamjnnlcopiaaGreatDoorGzBA
import Derived.Test.YtbfamjnnlcopiaaGreatDoorGzAQ
import Derived.Test.YtbfamjnnlcopiaaGreatDoorBcD
namespace Go.Proofs.YtbfamjnnlcopiaaGreatDoor
open Go.RowKit
set_option linter.unusedVariables false
set_option maxRecDepth 4000

set_option maxRecDepth 20000 in
set_option maxHeartbeats 4000000 in
/-- The document's Lay into bytes of one's own. -/
theorem lay_own (B kap g c n o : Nat) (l : List Int) (W : Int) (w : World) (h : OwnsB w B (some ⟨g, 0, none⟩) l kap) (hn : n = l.length) (ho : o + 8 ≤ n) (hm : n ≤ 1000000000) (h0 : 0 ≤ W) (h1 : W ≤ 18446744073709551615) :
    Calls Tryz.prog 43 #[.slice (some ⟨g, 0, none⟩) n c, .int .i64 (o : Nat), .int .u64 W] w fun e w' => e = .returned (.tuple #[]) ∧ OwnsB w' B (some ⟨g, 0, none⟩) (overR l o (putL 8 W)) kap ∧ Tg g w w' := by
  obtain ⟨P, hP⟩ : ∃ P, putL 8 W = P := ⟨_, rfl⟩
  have pl : P.length = 8 := by rw [← hP]; exact putL_len 8 W
  have PUT : Hid (∀ w : World, Calls Tryz.prog 73 #[.int .u64 W, .int .i64 8] w fun e w' => ∃ a cap, e = .returned (.slice a 8 cap) ∧ IsB w' a P ∧ (∀ ad, a = some ad → w.heap.size ≤ ad.block) ∧ Below w.heap.size w w') := fun w => by
    rw [← hP]; exact rput_is W 8 8 (by decide) (by omega) h0 h1 w
  have HR0 : Hid (OwnsB w B (some ⟨g, 0, none⟩) l kap) := h
  have HN : Hid (n = l.length) := hn
  have PL : Hid (P.length = 8) := pl
  have FIN : Hid (∀ wr, OwnsB wr B (some ⟨g, 0, none⟩) (midR l o P 8) kap → OwnsB wr B (some ⟨g, 0, none⟩) (overR l o P) kap) := fun wr hr => by rw [← pl, midR_full] at hr; exact hr
  have ML : Hid (∀ i, i ≤ 8 → (midR l o P i).length = n) := fun i hi => by show _ = _; rw [midR_len (by omega) (by omega), hn]
  have NX : Hid (∀ wr i, i < 8 → OwnsB wr B (some ⟨g, 0, none⟩) (midR l o P i) kap → OwnsB (wr.setCell ⟨g, o + i, none⟩ (.int .u8 (P.getD i 0))) B (some ⟨g, 0, none⟩) (midR l o P (i + 1)) kap) := fun wr i hi hr => by
    have hr1 := hr.set (o + i) (P.getD i 0) (by rw [ML.out i (by omega)]; omega)
    rw [midR_set (by omega) (by omega)] at hr1
    exact hr1
  rw [hP]
  clear h hn pl hP
  go_enter Tryz.func43, Tryz.ntmps43
  go_wp2_with (go_at_call 73; refine (PUT.out _).mono ?_; rintro e w1 ⟨a, cap, rfl, ib, ab, bw⟩)
  have IB1 : Hid (IsB w1 a P) := ib
  have AB1 : Hid (∀ ad, a = some ad → ad.block ≠ g) := fun ad e => by have := ab ad e; have := HR0.out.bk.lt; omega
  have BW1 : Hid (Below w.heap.size w w1) := bw
  clear ib ab bw
  go_loopw [11] (fun iv wr => ∃ i : Nat, i ≤ 8 ∧ iv = .int .i64 (i : Nat) ∧ OwnsB wr B (some ⟨g, 0, none⟩) (midR l o P i) kap ∧ Tg g w1 wr) (fun iv _ => 8 - (intOf iv).toNat)
  case atStart => exact ⟨0, Nat.zero_le _, rfl, by rw [midR_zero]; exact HR0.out.keep BW1.out, Tg.refl g w1⟩
  case round =>
    obtain ⟨i, hi, rfl, hr, ht⟩ := hrel
    rename World => wr
    have HR : Hid (OwnsB wr B (some ⟨g, 0, none⟩) (midR l o P i) kap) := hr
    have HT : Hid (Tg g w1 wr) := ht
    by_cases hlt : i < 8
    · have IB := ht.isB IB1.out AB1.out
      obtain ⟨hall, h0 | ⟨ba, off, rfl, hba, hc⟩⟩ := IB
      · have := PL.out; rw [h0] at this; simp at this
      · have cb := hc i (by have := PL.out; omega)
        have cg := hr.bk.cell (o + i) (by rw [ML.out i hi]; omega)
        have zg := hr.bk.thawed (o + i)
        obtain ⟨Bv, hBv⟩ : ∃ Bv, P.getD i 0 = Bv := ⟨_, rfl⟩
        have NX2 : Hid (OwnsB (wr.setCell ⟨g, o + i, none⟩ (.int .u8 Bv)) B (some ⟨g, 0, none⟩) (midR l o P (i + 1)) kap) := by show OwnsB _ _ _ _ _; rw [← hBv]; exact NX.out wr i hlt hr
        rw [hBv] at cb
        have hlt' : (i : Int) < 8 := by omega
        have g2 : IntKind.i64.wrap ((o : Int) + (i : Int)) = (o : Int) + (i : Int) := by rw [IntKind.wrap_i64]; omega
        have g3 : (o : Int) + (i : Int) < (n : Int) := by omega
        have g4 : ((o : Int) + (i : Int)).toNat = o + i := by omega
        have g5 : (0 : Int) ≤ (o : Int) + (i : Int) := by omega
        clear hr ht hall hc hBv
        go_wp2
        all_goals go_roundw
        case rel => exact ⟨i + 1, by omega, by go_num, NX2.out, HT.out.trans (Tg.ofOnly (Only.set _ _ _ _))⟩
        case measure => simp [intOf]; omega
    · obtain rfl : i = 8 := by omega
      go_wp2
      go_end0
      exact ⟨rfl, FIN.out _ HR.out, (Tg.ofBelow BW1.out).trans HT.out⟩
end Go.Proofs.YtbfamjnnlcopiaaGreatDoor

/- The document's Moved: a view at another base. -/
namespace Go.Proofs.YtbfamjnnlcopiaaGreatDoor
open Go.RowKit
set_option linter.unusedVariables false
set_option maxRecDepth 4000
set_option linter.unusedSimpArgs false

/-- A view on its way to another base. -/
structure Mvw (E wz : World) (vr v5 : Nat) (V : Vw) (B : Int) (A : Va) (gr gb : Nat) (cur : List Int) : Prop where
  rg : wz.heap[v5]? = some (.cells #[.int .i64 B, .int .i64 V.pgs, .slice A.ka A.kn A.kc, .slice A.ra A.rn A.rc, .slice A.sa A.sn A.sc, .slice A.ba A.bn A.bc] 27 (0, 0))
  r0 : wz.heap[vr]? = some (.cells zV 27 (0, 0))
  cp : Cpy wz E.heap.size ⟨V.base, V.pgs, V.ks, V.rs, V.ts, cur⟩ A gr gb
  bw : Bl E wz
theorem Mvw.keep {E wz wy : World} {vr v5 : Nat} {V : Vw} {B : Int} {A : Va} {gr gb : Nat} {cur : List Int} (h : Mvw E wz vr v5 V B A gr gb cur) (b : Bl wz wy) : Mvw E wy vr v5 V B A gr gb cur :=
  ⟨b.row h.rg, b.row h.r0, h.cp.keep b, h.bw.trans b⟩
theorem Mvw.lay {E wz wy : World} {vr v5 : Nat} {V : Vw} {B : Int} {A : Va} {gr gb : Nat} {cur cur' : List Int} (h : Mvw E wz vr v5 V B A gr gb cur) (t : Tg gb wz wy) (o : OwnsB wy E.heap.size (some ⟨gb, 0, none⟩) cur' A.bc) (hl : cur'.length = cur.length) : Mvw E wy vr v5 V B A gr gb cur' := by
  obtain ⟨hg, c, hc⟩ := h.cp.bytes.kind gb rfl
  exact ⟨by rw [t.block v5 (hlt h.rg) (kind_ne h.rg hc (by decide))]; exact h.rg, by rw [t.block vr (hlt h.r0) (kind_ne h.r0 hc (by decide))]; exact h.r0, h.cp.byted t o hl, Below.trans h.bw (t.below hg (Below.size h.bw))⟩
set_option maxRecDepth 20000 in
set_option maxHeartbeats 8000000 in
theorem amoved_any (V : Vw) (A : Va) (B : Int) (w : World) (h : Rv w V A) (hH : Hold V 7) (h0 : 0 ≤ B) (h1 : B ≤ 1099511627776) (hk : ∀ k ∈ V.ks, k.l.length ≤ 17592186044416) (ht : ∀ t ∈ V.ts, t.l.length ≤ 17592186044416) :
    Calls Tryz.prog 15 #[.agg #[.int .i64 V.base, .int .i64 V.pgs, .slice A.ka A.kn A.kc, .slice A.ra A.rn A.rc, .slice A.sa A.sn A.sc, .slice A.ba A.bn A.bc], .int .i64 B] w fun e w' => ∃ A' gr gb, e = .returned (.agg #[.int .i64 B, .int .i64 V.pgs, .slice A'.ka A'.kn A'.kc, .slice A'.ra A'.rn A'.rc, .slice A'.sa A'.sn A'.sc, .slice A'.ba A'.bn A'.bc]) ∧ Cpy w' w.heap.size (movV V B) A' gr gb ∧ Below w.heap.size w w' := by
  obtain ⟨base, pgs, ks, rs, ts, bs⟩ := V
  obtain ⟨ka, ra, sa, ba, kn, rn, sn, bn, kc, rc, sc, bc⟩ := A
  obtain ⟨E1, hE1, bE1, rE1⟩ := vbox w (⟨base, pgs, ks, rs, ts, bs⟩ : Vw) (⟨ka, ra, sa, ba, kn, rn, sn, bn, kc, rc, sc, bc⟩ : Va)
  simp only at hE1 rE1 hk ht
  obtain ⟨E, hE⟩ : ∃ E, E1.alloc (.cells #[.int .i64 0, .int .i64 0, .slice none 0 0, .slice none 0 0, .slice none 0 0, .slice none 0 0] 27) = E := ⟨_, rfl⟩
  have bE : Bl E1 E := by rw [← hE]; exact (Bl.refl E1).alloc _
  have zE1 : E1.heap.size = w.heap.size + 1 := by rw [← hE1]; simp
  obtain ⟨vb, hvb⟩ : ∃ vb, w.heap.size = vb := ⟨_, rfl⟩
  have HVB : Hid (w.heap.size = vb) := hvb
  rw [hvb] at rE1 zE1
  have HE1 : Hid (w.alloc (.cells #[.int .i64 base, .int .i64 pgs, .slice ka kn kc, .slice ra rn rc, .slice sa sn sc, .slice ba bn bc] 27) = E1) := hE1
  have HE : Hid (E1.alloc (.cells #[.int .i64 0, .int .i64 0, .slice none 0 0, .slice none 0 0, .slice none 0 0, .slice none 0 0] 27) = E) := hE
  have BE : Hid (Bl w E) := Bl.trans bE1 bE
  have RE : Hid (E.heap[vb]? = some (.cells #[.int .i64 base, .int .i64 pgs, .slice ka kn kc, .slice ra rn rc, .slice sa sn sc, .slice ba bn bc] 27 (0, 0))) := bE.row rE1
  have R0 : Hid (E.heap[vb + 1]? = some (.cells zV 27 (0, 0))) := by show _ = _; rw [← zE1, ← hE]; exact Go.heap_alloc_new E1 _
  have RV : Hid (Rv E (⟨base, pgs, ks, rs, ts, bs⟩ : Vw) (⟨ka, ra, sa, ba, kn, rn, sn, bn, kc, rc, sc, bc⟩ : Va)) := h.keep BE.out
  have HH : Hid (Hold (⟨base, pgs, ks, rs, ts, bs⟩ : Vw) 7) := hH
  have HK : Hid (∀ k ∈ ks, k.l.length ≤ 17592186044416) := hk
  have HTS : Hid (∀ t ∈ ts, t.l.length ≤ 17592186044416) := ht
  have LN : Hid (ks.length = kn ∧ rs.length = rn ∧ bs.length = bn) := ⟨h.kl, h.rl, h.bl⟩
  have rz : rn ≤ 300 := by have := h.rz; have := h.rl; simp only at *; omega
  have HBS : Hid (bs.length ≤ 16384) := h.bz
  have FDS : Hid (∀ x ∈ fldU (⟨base, pgs, ks, rs, ts, bs⟩ : Vw) rs.length, FdO (⟨base, pgs, ks, rs, ts, bs⟩ : Vw) B bs.length x) := hH.fds h0 h1
  obtain ⟨c0, c1, c2, c3, c4, c5⟩ := six RE.out
  clear h hH hk ht bE1 rE1 hE1 hE bE zE1 hvb
  go_enter Tryz.func15, Tryz.ntmps15
  go_wp2_with fail
  rw [HE1.out, HE.out, HVB.out]
  refine (acopy_any (⟨base, pgs, ks, rs, ts, bs⟩ : Vw) (⟨ka, ra, sa, ba, kn, rn, sn, bn, kc, rc, sc, bc⟩ : Va) E RV.out HK.out HTS.out).mono ?_
  rintro e w3 ⟨A', gr, gb, rfl, cp, b3⟩
  obtain ⟨ka1, ra1, sa1, ba1, kn1, rn1, sn1, bn1, kc1, rc1, sc1, bc1⟩ := A'
  obtain rfl : ba1 = some ⟨gb, 0, none⟩ := cp.ba
  have BN1 : Hid (bs.length = bn1) := cp.bn
  simp only
  obtain ⟨X, hX⟩ : ∃ X, w3.alloc (.cells #[.int .i64 B, .int .i64 pgs, .slice ka1 kn1 kc1, .slice ra1 rn1 rc1, .slice sa1 sn1 sc1, .slice (some ⟨gb, 0, none⟩) bn1 bc1] 27) = X := ⟨_, rfl⟩
  have bX : Bl w3 X := by rw [← hX]; exact (Bl.refl w3).alloc _
  have rX : X.heap[w3.heap.size]? = some (.cells #[.int .i64 B, .int .i64 pgs, .slice ka1 kn1 kc1, .slice ra1 rn1 rc1, .slice sa1 sn1 sc1, .slice (some ⟨gb, 0, none⟩) bn1 bc1] 27 (0, 0)) := by rw [← hX]; exact Go.heap_alloc_new w3 _
  obtain ⟨v5, hv5⟩ : ∃ v5, w3.heap.size = v5 := ⟨_, rfl⟩
  have bEX : Bl E X := Bl.trans b3 bX
  rw [hv5] at rX
  have MW : Hid (Mvw E X (vb + 1) v5 (⟨base, pgs, ks, rs, ts, bs⟩ : Vw) B ⟨ka1, ra1, sa1, some ⟨gb, 0, none⟩, kn1, rn1, sn1, bn1, kc1, rc1, sc1, bc1⟩ gr gb bs) := ⟨rX, bEX.row R0.out, cp.keep bX, bEX⟩
  have m3 : X.cell? ⟨vb, 3, none⟩ = some (.slice ra rn rc) := bcell bEX c3
  clear cp b3 bX rX bEX c0 c1 c2 c3 c4 c5
  go_wp2_with fail
  go_loopw [18] (fun iv wz => ∃ k : Nat, k ≤ rn ∧ iv = .int .i64 (k : Nat) ∧ Mvw E wz (vb + 1) v5 (⟨base, pgs, ks, rs, ts, bs⟩ : Vw) B ⟨ka1, ra1, sa1, some ⟨gb, 0, none⟩, kn1, rn1, sn1, bn1, kc1, rc1, sc1, bc1⟩ gr gb (mvL (⟨base, pgs, ks, rs, ts, bs⟩ : Vw) B (fldU (⟨base, pgs, ks, rs, ts, bs⟩ : Vw) k) bs)) (fun iv _ => rn - lenW iv)
  case atStart => exact ⟨0, Nat.zero_le _, rfl, MW.out⟩
  case round =>
    obtain ⟨k, hk, rfl, mw⟩ := hrel
    rename World => wz
    have MZ : Hid (Mvw E wz (vb + 1) v5 (⟨base, pgs, ks, rs, ts, bs⟩ : Vw) B ⟨ka1, ra1, sa1, some ⟨gb, 0, none⟩, kn1, rn1, sn1, bn1, kc1, rc1, sc1, bc1⟩ gr gb (mvL (⟨base, pgs, ks, rs, ts, bs⟩ : Vw) B (fldU (⟨base, pgs, ks, rs, ts, bs⟩ : Vw) k) bs)) := mw
    clear mw
    by_cases hkn : k < rn
    · have HKL : Hid (k < rs.length) := by show _ < _; rw [LN.out.2.1]; exact hkn
      obtain ⟨b, off, ea, q0, q1, q2, q3⟩ := (RV.out.rs.keep MZ.out.bw).at k HKL.out
      simp only at ea q0 q1 q2 q3
      subst ea
      obtain ⟨R, hR⟩ : ∃ R, rwD rs k = R := ⟨_, rfl⟩
      have HR : Hid (rwD rs k = R) := hR
      rw [hR] at q0 q1 q2 q3
      obtain ⟨gen, lv, kd, pl⟩ := R
      simp only at q0 q1 q2 q3
      obtain ⟨D, hD⟩ : ∃ D, wz.alloc (.cells #[.int .i64 gen, .bool lv, .int .i64 kd, .int .i64 pl] 73) = D := ⟨_, rfl⟩
      have bD : Bl wz D := by rw [← hD]; exact (Bl.refl wz).alloc _
      have rD : D.heap[wz.heap.size]? = some (.cells #[.int .i64 gen, .bool lv, .int .i64 kd, .int .i64 pl] 73 (0, 0)) := by rw [← hD]; exact Go.heap_alloc_new wz _
      have MD : Hid (Mvw E D (vb + 1) v5 (⟨base, pgs, ks, rs, ts, bs⟩ : Vw) B ⟨ka1, ra1, sa1, some ⟨gb, 0, none⟩, kn1, rn1, sn1, bn1, kc1, rc1, sc1, bc1⟩ gr gb (mvL (⟨base, pgs, ks, rs, ts, bs⟩ : Vw) B (fldU (⟨base, pgs, ks, rs, ts, bs⟩ : Vw) k) bs)) := MZ.out.keep bD
      obtain ⟨ng, hng⟩ : ∃ ng, wz.heap.size = ng := ⟨_, rfl⟩
      rw [hng] at rD
      have RD : Hid (D.heap[ng]? = some (.cells #[.int .i64 gen, .bool lv, .int .i64 kd, .int .i64 pl] 73 (0, 0))) := rD
      have e1 : D.cell? ⟨ng, 1, none⟩ = some (.bool lv) := cell_of_row _ _ 1 _ _ _ rD
      have e2 : D.cell? ⟨ng, 2, none⟩ = some (.int .i64 kd) := cell_of_row _ _ 2 _ _ _ rD
      have k0 : (k : Int) < (rn : Int) := by omega
      clear hR bD rD
      cases lv with
      | false =>
        have NX : Hid (fldU (⟨base, pgs, ks, rs, ts, bs⟩ : Vw) (k + 1) = fldU (⟨base, pgs, ks, rs, ts, bs⟩ : Vw) k) := by show fldU (⟨base, pgs, ks, rs, ts, bs⟩ : Vw) k ++ _ = _; rw [if_neg (by show ¬ (rwD rs k).live = true; rw [HR.out]; exact Bool.false_ne_true), List.append_nil]
        go_wp2
        go_roundw
        case rel => exact ⟨k + 1, by omega, by congr 1, by rw [NX.out]; exact MD.out⟩
        case measure => simp [lenW]; omega
      | true =>
        have NX : Hid (fldU (⟨base, pgs, ks, rs, ts, bs⟩ : Vw) (k + 1) = fldU (⟨base, pgs, ks, rs, ts, bs⟩ : Vw) k ++ fldR (⟨base, pgs, ks, rs, ts, bs⟩ : Vw) k) := by show fldU (⟨base, pgs, ks, rs, ts, bs⟩ : Vw) k ++ _ = _; rw [if_pos (by show (rwD rs k).live = true; rw [HR.out])]
        have OBJ : Hid (ObjF (⟨base, pgs, ks, rs, ts, bs⟩ : Vw) k) := HH.out.obj (by decide) k HKL.out (by show (rwD rs k).live = true; rw [HR.out])
        obtain ⟨kj, rfl⟩ : ∃ kj : Nat, kd = (kj : Int) := ⟨kd.toNat, by have : 0 ≤ (rwD rs k).kind := OBJ.out.kd.1; rw [HR.out] at this; simp only at this; omega⟩
        obtain ⟨xn, rfl⟩ : ∃ xn : Nat, pl = (xn : Int) := ⟨pl.toNat, by have : 0 ≤ (rwD rs k).pl := OBJ.out.pl; rw [HR.out] at this; simp only at this; omega⟩
        have hkj : kj < ks.length := by have : (rwD rs k).kind < ks.length := OBJ.out.kd.2; rw [HR.out] at this; simp only at this; omega
        have kk0 : (kj : Int) < (kn : Int) := by have := LN.out.1; omega
        obtain ⟨l, hl⟩ : ∃ l, psOf (⟨base, pgs, ks, rs, ts, bs⟩ : Vw) k = l := ⟨_, rfl⟩
        have HL : Hid (psOf (⟨base, pgs, ks, rs, ts, bs⟩ : Vw) k = l) := hl
        have hKl : (ks[kj]'hkj).l = l := by
          rw [← knD_at hkj, ← hl]; unfold psOf; simp only [HR.out, Int.toNat_natCast]
        obtain ⟨ll, hll⟩ : ∃ ll, l.length = ll := ⟨_, rfl⟩
        have HLL : Hid (l.length = ll) := hll
        have l9 : ll ≤ 16 := by rw [← hll, ← hl]; exact OBJ.out.pn
        obtain ⟨gk, ok, la, lc, ea2, f0, f1, hIl, hx8, hx9⟩ := RV.out.ks kj hkj
        simp only at ea2 f1 hIl
        rw [hKl] at f1 hIl
        rw [hll] at f1
        subst ea2
        have HIL : Hid (IsI E la l) := hIl
        have Q5 := bcell MD.out.bw f1
        have c2 : D.cell? ⟨vb, 2, none⟩ = some (.slice (some ⟨gk, ok, none⟩) kn kc) := (six (MD.out.bw.row RE.out)).2.2.1
        have FR : Hid (fldR (⟨base, pgs, ks, rs, ts, bs⟩ : Vw) k = l.map (fun p => (xn : Int) + p)) := by show (psOf (⟨base, pgs, ks, rs, ts, bs⟩ : Vw) k).map _ = _; rw [hl]; simp only [HR.out]
        clear hx8 hx9 hkj hl hKl hll f0 f1 hIl
        go_wp2_with fail
        go_loopw [33] (fun iv wy => ∃ m : Nat, m ≤ ll ∧ iv = .int .i64 (m : Nat) ∧ Mvw E wy (vb + 1) v5 (⟨base, pgs, ks, rs, ts, bs⟩ : Vw) B ⟨ka1, ra1, sa1, some ⟨gb, 0, none⟩, kn1, rn1, sn1, bn1, kc1, rc1, sc1, bc1⟩ gr gb (mvL (⟨base, pgs, ks, rs, ts, bs⟩ : Vw) B (fldU (⟨base, pgs, ks, rs, ts, bs⟩ : Vw) k ++ (l.take m).map (fun p => (xn : Int) + p)) bs) ∧ wy.heap[ng]? = some (.cells #[.int .i64 gen, .bool true, .int .i64 (kj : Int), .int .i64 (xn : Int)] 73 (0, 0))) (fun iv _ => ll - lenW iv)
        case atStart => exact ⟨0, Nat.zero_le _, rfl, by simpa using MD.out, RD.out⟩
        case round =>
          obtain ⟨m, hm, rfl, mw, rg⟩ := hrel
          rename World => wy
          have LV : Hid ((rwD rs k).live = true) := by show _ = _; rw [HR.out]
          have ALL : Hid (∀ x ∈ fldU (⟨base, pgs, ks, rs, ts, bs⟩ : Vw) k ++ (l.take m).map (fun p => (xn : Int) + p), FdO (⟨base, pgs, ks, rs, ts, bs⟩ : Vw) B bs.length x) := fun x hx => by
            rcases List.mem_append.1 hx with q | q
            · obtain ⟨i, p, hi, li, hp, rfl⟩ := fldU_mem q
              exact FDS.out _ (fldU_in li hp (Nat.lt_trans hi HKL.out))
            · obtain ⟨p, hp, rfl⟩ := List.mem_map.1 q
              have := fldU_in (V := (⟨base, pgs, ks, rs, ts, bs⟩ : Vw)) (i := k) (p := p) LV.out (by rw [HL.out]; exact List.mem_of_mem_take hp) HKL.out
              have e : (rwD (⟨base, pgs, ks, rs, ts, bs⟩ : Vw).rs k).pl + p = (xn : Int) + p := by show (rwD rs k).pl + p = _; rw [HR.out]
              rw [e] at this
              exact FDS.out _ this
          have CL : Hid ((mvL (⟨base, pgs, ks, rs, ts, bs⟩ : Vw) B (fldU (⟨base, pgs, ks, rs, ts, bs⟩ : Vw) k ++ (l.take m).map (fun p => (xn : Int) + p)) bs).length = bs.length) := mvL_len _ _ ALL.out
          obtain ⟨cur, hcur⟩ : ∃ cur, mvL (⟨base, pgs, ks, rs, ts, bs⟩ : Vw) B (fldU (⟨base, pgs, ks, rs, ts, bs⟩ : Vw) k ++ (l.take m).map (fun p => (xn : Int) + p)) bs = cur := ⟨_, rfl⟩
          have HCUR : Hid (mvL (⟨base, pgs, ks, rs, ts, bs⟩ : Vw) B (fldU (⟨base, pgs, ks, rs, ts, bs⟩ : Vw) k ++ (l.take m).map (fun p => (xn : Int) + p)) bs = cur) := hcur
          rw [hcur] at mw CL
          have MY : Hid (Mvw E wy (vb + 1) v5 (⟨base, pgs, ks, rs, ts, bs⟩ : Vw) B ⟨ka1, ra1, sa1, some ⟨gb, 0, none⟩, kn1, rn1, sn1, bn1, kc1, rc1, sc1, bc1⟩ gr gb cur) := mw
          have RG : Hid (wy.heap[ng]? = some (.cells #[.int .i64 gen, .bool true, .int .i64 (kj : Int), .int .i64 (xn : Int)] 73 (0, 0))) := rg
          clear mw rg hcur
          by_cases hmn : m < ll
          · have hml : m < l.length := by rw [HLL.out]; exact hmn
            obtain ⟨gl, ol, rfl, cl⟩ := (HIL.out.keep MY.out.bw).get m hml
            have hpm : l.getD m 0 ∈ psOf (⟨base, pgs, ks, rs, ts, bs⟩ : Vw) k := by rw [HL.out]; simp [List.getD, hml]
            obtain ⟨p0, p1⟩ := OBJ.out.ps _ hpm
            have ET : (l.take (m + 1)).map (fun p => (xn : Int) + p) = (l.take m).map (fun p => (xn : Int) + p) ++ [(xn : Int) + l.getD m 0] := by
              rw [List.take_succ_eq_append_getElem hml, List.map_append]; simp [List.getD, hml]
            obtain ⟨y, hy⟩ : ∃ y, l.getD m 0 = y := ⟨_, rfl⟩
            rw [hy] at cl hpm p0 p1 ET
            obtain ⟨p, rfl⟩ : ∃ p : Nat, y = (p : Int) := ⟨y.toNat, by omega⟩
            have ft : (rwD rs k).pl.toNat + zOf (⟨base, pgs, ks, rs, ts, bs⟩ : Vw) k ≤ bs.length := OBJ.out.fit
            rw [HR.out] at ft
            simp only [Int.toNat_natCast] at ft
            obtain ⟨o, ho⟩ : ∃ o : Nat, xn + p = o := ⟨_, rfl⟩
            have eo : (xn : Int) + (p : Int) = (o : Int) := by omega
            rw [eo] at ET
            have NXT : Hid (mvL (⟨base, pgs, ks, rs, ts, bs⟩ : Vw) B (fldU (⟨base, pgs, ks, rs, ts, bs⟩ : Vw) k ++ (l.take (m + 1)).map (fun p => (xn : Int) + p)) bs = mvS (⟨base, pgs, ks, rs, ts, bs⟩ : Vw) B cur (o : Int)) := by
              show _ = _
              rw [ET, ← List.append_assoc, mvL_snoc, HCUR.out]
            have HO : Hid (o + 8 ≤ bs.length) := by show _ ≤ _; omega
            obtain ⟨v, hv⟩ : ∃ v, wordV bs (o : Int) = v := ⟨_, rfl⟩
            have HV : Hid (wordV bs (o : Int) = v) := hv
            have win := HH.out.word_in HKL.out LV.out hpm
            have e9 : (rwD (⟨base, pgs, ks, rs, ts, bs⟩ : Vw).rs k).pl + (p : Int) = (o : Int) := by show (rwD rs k).pl + (p : Int) = _; rw [HR.out]; exact eo
            rw [e9, show wordV (⟨base, pgs, ks, rs, ts, bs⟩ : Vw).bs (o : Int) = v from hv] at win
            have gd := (HH.out.r1 (by decide)).2.2.1
            unfold goodR at gd
            simp only at win gd
            have b16 := HBS.out
            have a1 : IntKind.i64.wrap ((xn : Int) + (p : Int)) = (o : Int) := by rw [IntKind.wrap_i64]; omega
            have WIN : Hid (v = 0 ∨ (base ≤ v ∧ v - base < bs.length)) := win
            have a2 : IntKind.u64.wrap base = base := by rw [IntKind.wrap_u64]; omega
            have a3 : IntKind.u64.wrap B = B := by rw [IntKind.wrap_u64]; omega
            have GD : Hid (256 ≤ base ∧ base ≤ 1099511627776) := ⟨gd.1, gd.2.1⟩
            obtain ⟨c0, c1, c2', c3, c4, c5⟩ := six (MY.out.bw.row RE.out)
            have d3 : wy.cell? ⟨ng, 3, none⟩ = some (.int .i64 (xn : Int)) := cell_of_row _ _ 3 _ _ _ RG.out
            have m0 : (m : Int) < (ll : Int) := by omega
            clear hy p0 p1 hpm ft ho eo ET hv win e9 gd b16 hml
            go_wp2_with fail
            refine (word_any (⟨base, pgs, ks, rs, ts, bs⟩ : Vw) _ o wy (RV.out.keep MY.out.bw) HO.out v HV.out).mono ?_
            rintro e w2 ⟨rfl, b2⟩
            have M2 : Hid (Mvw E w2 (vb + 1) v5 (⟨base, pgs, ks, rs, ts, bs⟩ : Vw) B ⟨ka1, ra1, sa1, some ⟨gb, 0, none⟩, kn1, rn1, sn1, bn1, kc1, rc1, sc1, bc1⟩ gr gb cur) := MY.out.keep b2
            have RG2 : Hid (w2.heap[ng]? = some (.cells #[.int .i64 gen, .bool true, .int .i64 (kj : Int), .int .i64 (xn : Int)] 73 (0, 0))) := bblock b2 RG.out
            clear b2 c0 c1 c2' c3 c4 c5 d3 cl
            by_cases v0 : v = 0
            · have q0 : (v != 0) = false := by rw [v0]; rfl
              have NX2 : Hid (mvS (⟨base, pgs, ks, rs, ts, bs⟩ : Vw) B cur (o : Int) = cur) := by show _ = _; unfold mvS; rw [if_pos (by show wordV bs (o : Int) = 0; rw [HV.out]; exact v0)]
              clear v0
              go_wp2
              go_roundw
              case rel => exact ⟨m + 1, by omega, by congr 1, by rw [NXT.out, NX2.out]; exact M2.out, RG2.out⟩
              case measure => simp [lenW]; omega
            · have q0 : (v != 0) = true := by rw [bne_iff_ne]; exact v0
              obtain ⟨v1, v2⟩ : base ≤ v ∧ v - base < bs.length := by rcases WIN.out with q | q; exact absurd q v0; exact q
              have b16 := HBS.out
              have gd := GD.out
              obtain ⟨y1, hy1⟩ : ∃ y1, v - base = y1 := ⟨_, rfl⟩
              obtain ⟨y2, hy2⟩ : ∃ y2, y1 + B = y2 := ⟨_, rfl⟩
              have a4 : IntKind.u64.wrap (v - base) = y1 := by rw [IntKind.wrap_u64]; omega
              have a5 : IntKind.u64.wrap (y1 + B) = y2 := by rw [IntKind.wrap_u64]; omega
              have Y2 : Hid (0 ≤ y2 ∧ y2 ≤ 18446744073709551615) := ⟨by omega, by omega⟩
              have NX2 : Hid (mvS (⟨base, pgs, ks, rs, ts, bs⟩ : Vw) B cur (o : Int) = overR cur o (putL 8 y2)) := by
                show _ = _
                unfold mvS
                rw [if_neg (by show ¬ wordV bs (o : Int) = 0; rw [HV.out]; exact v0), show wordV (⟨base, pgs, ks, rs, ts, bs⟩ : Vw).bs (o : Int) = v from HV.out, Int.toNat_natCast]
                congr 2
                show v - base + B = y2
                omega
              have c0 : w2.cell? ⟨vb, 0, none⟩ = some (.int .i64 base) := (six (M2.out.bw.row RE.out)).1
              have g5 : w2.cell? ⟨v5, 5, none⟩ = some (.slice (some ⟨gb, 0, none⟩) bn1 bc1) := (six M2.out.rg).2.2.2.2.2
              have d3 : w2.cell? ⟨ng, 3, none⟩ = some (.int .i64 (xn : Int)) := cell_of_row _ _ 3 _ _ _ RG2.out
              have L2 : Hid (bn1 = cur.length ∧ o + 8 ≤ bn1 ∧ bn1 ≤ 1000000000) := by
                have := BN1.out; have := CL.out; have := HO.out
                exact ⟨by omega, by omega, by omega⟩
              clear v0 v1 v2 b16 gd hy1 hy2
              go_wp2_with fail
              refine (lay_own E.heap.size bc1 gb bc1 bn1 o cur y2 w2 M2.out.cp.bytes L2.out.1 L2.out.2.1 L2.out.2.2 Y2.out.1 Y2.out.2).mono ?_
              rintro e w4 ⟨rfl, o4, t4⟩
              have M4 : Hid (Mvw E w4 (vb + 1) v5 (⟨base, pgs, ks, rs, ts, bs⟩ : Vw) B ⟨ka1, ra1, sa1, some ⟨gb, 0, none⟩, kn1, rn1, sn1, bn1, kc1, rc1, sc1, bc1⟩ gr gb (overR cur o (putL 8 y2))) := M2.out.lay t4 o4 (over_len (by rw [putL_len]; have := L2.out; omega))
              have RG4 : Hid (w4.heap[ng]? = some (.cells #[.int .i64 gen, .bool true, .int .i64 (kj : Int), .int .i64 (xn : Int)] 73 (0, 0))) := by
                obtain ⟨_, cc, hcc⟩ := M2.out.cp.bytes.kind gb rfl
                show _ = _
                rw [t4.block ng (hlt RG2.out) (kind_ne RG2.out hcc (by decide))]
                exact RG2.out
              clear o4 t4 c0 g5 d3
              go_wp2
              go_roundw
              case rel => exact ⟨m + 1, by omega, by congr 1, by rw [NXT.out, NX2.out]; exact M4.out, RG4.out⟩
              case measure => simp [lenW]; omega
          · obtain rfl : m = ll := by omega
            have NX2 : Hid (fldU (⟨base, pgs, ks, rs, ts, bs⟩ : Vw) (k + 1) = fldU (⟨base, pgs, ks, rs, ts, bs⟩ : Vw) k ++ (l.take m).map (fun p => (xn : Int) + p)) := by
              show _ = _
              rw [NX.out, FR.out, List.take_of_length_le (Nat.le_of_eq HLL.out)]
            go_wp2
            go_roundw
            case rel => exact ⟨k + 1, by omega, by congr 1, by rw [NX2.out, HCUR.out]; exact MY.out⟩
            case measure => simp [lenW]; omega
    · obtain rfl : k = rn := by omega
      have EM : (⟨base, pgs, ks, rs, ts, mvL (⟨base, pgs, ks, rs, ts, bs⟩ : Vw) B (fldU (⟨base, pgs, ks, rs, ts, bs⟩ : Vw) k) bs⟩ : Vw).bs = (movV (⟨base, pgs, ks, rs, ts, bs⟩ : Vw) B).bs := by
        show mvL (⟨base, pgs, ks, rs, ts, bs⟩ : Vw) B (fldU (⟨base, pgs, ks, rs, ts, bs⟩ : Vw) k) bs = mvL (⟨base, pgs, ks, rs, ts, bs⟩ : Vw) B (fldU (⟨base, pgs, ks, rs, ts, bs⟩ : Vw) rs.length) bs
        rw [LN.out.2.1]
      obtain ⟨c0, c1, c2, c3, c4, c5⟩ := six MZ.out.rg
      obtain ⟨y0, y1, y2, y3, y4, y5⟩ := six MZ.out.r0
      obtain ⟨f0, f1, f2, f3, f4, f5⟩ := sixF MZ.out.r0
      have rq := layV_row (a := .int .i64 B) (b := .int .i64 pgs) (c := .slice ka1 kn1 kc1) (d := .slice ra1 rn1 rc1) (e := .slice sa1 sn1 sc1) (f := .slice (some ⟨gb, 0, none⟩) bn1 bc1) MZ.out.r0
      have on := layV_only wz (vb + 1) (.int .i64 B) (.int .i64 pgs) (.slice ka1 kn1 kc1) (.slice ra1 rn1 rc1) (.slice sa1 sn1 sc1) (.slice (some ⟨gb, 0, none⟩) bn1 bc1)
      have FC : Hid (Cpy (layV wz (vb + 1) (.int .i64 B) (.int .i64 pgs) (.slice ka1 kn1 kc1) (.slice ra1 rn1 rc1) (.slice sa1 sn1 sc1) (.slice (some ⟨gb, 0, none⟩) bn1 bc1)) w.heap.size (movV (⟨base, pgs, ks, rs, ts, bs⟩ : Vw) B) ⟨ka1, ra1, sa1, some ⟨gb, 0, none⟩, kn1, rn1, sn1, bn1, kc1, rc1, sc1, bc1⟩ gr gb) := by
        have q := MZ.out.cp.boxed (fun g c t hg ht => by rw [on.block g (kind_ne hg MZ.out.r0 ht)]; exact hg)
        have zz : w.heap.size ≤ E.heap.size := Below.size BE.out
        refine ⟨q.ra, q.ba, q.rn, q.sn, ?_, q.kn, q.rows.mono zz, q.spans.monoD zz, ?_, ?_⟩
        · rw [← EM]; exact q.bn
        · rw [← EM]; exact q.bytes.mono zz
        · obtain ⟨xs, k1, ⟨k2, k3 | ⟨g, cc, cu, k3, k4, k5⟩⟩, k6⟩ := q.kinds
          · exact ⟨xs, k1, ⟨k2, .inl k3⟩, fun x hx => (k6 x hx).mono zz⟩
          · exact ⟨xs, k1, ⟨k2, .inr ⟨g, cc, cu, k3, by omega, k5⟩⟩, fun x hx => (k6 x hx).mono zz⟩
      have FB : Hid (Below w.heap.size w (layV wz (vb + 1) (.int .i64 B) (.int .i64 pgs) (.slice ka1 kn1 kc1) (.slice ra1 rn1 rc1) (.slice sa1 sn1 sc1) (.slice (some ⟨gb, 0, none⟩) bn1 bc1))) := Below.trans (BE.out.trans MZ.out.bw) (on.below (by have := HVB.out; omega))
      obtain ⟨e0, e1', e2, e3, e4, e5⟩ := six rq
      have LV : Hid (layV wz (vb + 1) (.int .i64 B) (.int .i64 pgs) (.slice ka1 kn1 kc1) (.slice ra1 rn1 rc1) (.slice sa1 sn1 sc1) (.slice (some ⟨gb, 0, none⟩) bn1 bc1) = (((((wz.setCell ⟨vb + 1, 0, none⟩ (.int .i64 B)).setCell ⟨vb + 1, 1, none⟩ (.int .i64 pgs)).setCell ⟨vb + 1, 2, none⟩ (.slice ka1 kn1 kc1)).setCell ⟨vb + 1, 3, none⟩ (.slice ra1 rn1 rc1)).setCell ⟨vb + 1, 4, none⟩ (.slice sa1 sn1 sc1)).setCell ⟨vb + 1, 5, none⟩ (.slice (some ⟨gb, 0, none⟩) bn1 bc1)) := rfl
      obtain ⟨LW, hLW⟩ : ∃ LW, layV wz (vb + 1) (.int .i64 B) (.int .i64 pgs) (.slice ka1 kn1 kc1) (.slice ra1 rn1 rc1) (.slice sa1 sn1 sc1) (.slice (some ⟨gb, 0, none⟩) bn1 bc1) = LW := ⟨_, rfl⟩
      rw [hLW] at e0 e1' e2 e3 e4 e5 FC FB LV
      clear rq on EM hLW
      go_wp2_with fail
      rw [← LV.out]
      refine bodyPost_ret (v := .agg #[.int .i64 B, .int .i64 pgs, .slice ka1 kn1 kc1, .slice ra1 rn1 rc1, .slice sa1 sn1 sc1, .slice (some ⟨gb, 0, none⟩) bn1 bc1]) (by simp [results, Tryz.results15, go_sem, e0, e1', e2, e3, e4, e5]) rfl ⟨⟨ka1, ra1, sa1, some ⟨gb, 0, none⟩, kn1, rn1, sn1, bn1, kc1, rc1, sc1, bc1⟩, rfl, ⟨gr, gb, FC.out⟩, FB.out⟩
end Go.Proofs.YtbfamjnnlcopiaaGreatDoor
