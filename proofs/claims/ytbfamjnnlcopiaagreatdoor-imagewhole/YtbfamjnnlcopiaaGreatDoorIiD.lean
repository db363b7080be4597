/- Layer 17: the image of one of a sound view's spans, as the code makes it. -/
import Derived.Test.YtbfamjnnlcopiaaGreatDoorGzAY
import Derived.Test.YtbfamjnnlcopiaaGreatDoorGzAR
namespace Go.Proofs.YtbfamjnnlcopiaaGreatDoor
open Go.RowKit
set_option linter.unusedVariables false
set_option maxRecDepth 4000

/-- What is left behind: an image in new memory. -/
def ImgP (w : World) (m : Im) (e : Ending) (w' : World) : Prop :=
  ∃ la lc oa oc ba bc, e = .returned (.agg #[.int .i64 m.p, .int .i64 m.c, .int .i64 m.s, .slice la m.live.length lc, .int .i64 m.base, .slice oa m.offs.length oc, .slice ba m.bytes.length bc]) ∧ IsI w' la m.live ∧ IsI w' oa m.offs ∧ OwnsB w' w.heap.size ba m.bytes bc ∧ (∀ ad, la = some ad → w.heap.size ≤ ad.block) ∧ (∀ ad, oa = some ad → w.heap.size ≤ ad.block) ∧ Below w.heap.size w w'
theorem MkS.drewN {T : TypeId} {E wr : World} {M : Nat} {p c s : Int} {la2 : Option Addr} {L lc2 : Nat} {Bs : Int} {oa : Option Addr} {oc : Nat} {ba : Option Addr} {bc : Nat} {O B : List Int} (h : MkS T E wr M p c s la2 L lc2 Bs oa oc ba bc O B) (m : Nat) : MkS T E (wr.drewN m) M p c s la2 L lc2 Bs oa oc ba bc O B :=
  ⟨h.row, h.oo, h.ob, h.tg.drewN m, h.hM⟩
theorem mkO_int {V : Vw} (h : Hold V 7) {j : Nat} (hj : j < V.ts.length) (n : Nat) (hn : n ≤ lvN V j) : ∀ x ∈ mkO V j n, -9223372036854775808 ≤ x ∧ x ≤ 9223372036854775807 := by
  intro x hx
  have q := (mkO_placed h hj n hn).1
  have := rplaced_all _ _ 0 (Int.le_refl _) q x hx
  have hz : (n * (szT V j).toNat : Nat) ≤ 65536 := by
    have hl : n ≤ 16 := by
      obtain ⟨hr, _⟩ := h.right (by decide) j hj
      have := live_le hr.2
      have := (newE_rt hr.1).facts.2.1
      unfold lvN at hn
      omega
    have hs : (szT V j).toNat ≤ 4096 := by
      obtain ⟨hr, _⟩ := h.right (by decide) j hj
      have rt := newE_rt hr.1
      obtain ⟨f1, f2, f3, f4, f5, f6, f7, f8, f9, f10, f11⟩ := rt.facts
      unfold szT
      omega
    calc n * (szT V j).toNat ≤ 16 * 4096 := Nat.mul_le_mul hl hs
      _ = 65536 := by decide
  omega
theorem ownsI_isI_cell {w : World} {B g c : Nat} {l : List Int} (h : OwnsI w B (some ⟨g, 0, none⟩) l c) (i : Nat) (hi : i < l.length) : w.cell? ⟨g, i, none⟩ = some (.int .i64 (l.getD i 0)) := by
  have := World.ownsRow.cellAt h i (by simpa using hi)
  rw [this]
  simp [List.getD, hi]
theorem slb_isB {V : Vw} {A : Va} {w : World} (h : Rv w V A) (hH : Hold V 7) {j n : Nat} (hj : j < V.ts.length) (hn : n < lvN V j) {gb ob : Nat} (he : (some ⟨gb, ob, none⟩ : Option Addr) = A.ba.map (fun a => a.add (plV V j n).toNat)) : IsB w (some ⟨gb, ob, none⟩) (slbV V j (plV V j n)) := by
  obtain ⟨p0, p1, z0, z1⟩ := plV_in hH hj hn
  have hib := h.bs
  rcases hq : A.ba with _ | ⟨g, o, x⟩
  · rw [hq] at he; cases he
  · obtain ⟨_, hh | ⟨g', o', e, _⟩⟩ := hib
    · rw [hh] at p1; simp at p1; omega
    · rw [hq] at e he
      cases e
      have hib := h.bs
      rw [hq] at hib
      simp only [Option.map_some, addr_add, Option.some.injEq, Addr.mk.injEq, and_true] at he
      obtain ⟨rfl, rfl⟩ := he
      exact hib.cut (plV V j n).toNat (szT V j).toNat (by omega)
/-- A field of a slot's object. -/
theorem ps_field {V : Vw} (h : Hold V 7) {j n q : Nat} (hj : j < V.ts.length) (hn : n < lvN V j) (hq : q < (psAt V (plV V j n)).length) : ∃ y : Nat, (psAt V (plV V j n)).getD q 0 = (y : Int) ∧ (y : Int) + 8 ≤ szT V j := by
  obtain ⟨a, _⟩ := psAt_in h hj hn
  have := (placed_all _ _ a).1 _ (show (psAt V (plV V j n)).getD q 0 ∈ _ by rw [show (psAt V (plV V j n)).getD q 0 = (psAt V (plV V j n))[q] by simp [List.getD, hq]]; exact List.getElem_mem hq)
  exact ⟨((psAt V (plV V j n)).getD q 0).toNat, by omega, by omega⟩
theorem slb_word {V : Vw} (h : Hold V 7) {j n : Nat} (hj : j < V.ts.length) (hn : n < lvN V j) {y : Nat} (hy : (y : Int) + 8 ≤ szT V j) : getL ((((slbV V j (plV V j n)).drop y).take 8).take 8) = wordV V.bs (plV V j n + (y : Int)) := by
  obtain ⟨p0, p1, z0, _⟩ := plV_in h hj hn
  unfold slbV wordV
  rw [List.take_take, Nat.min_self, List.drop_take, List.take_take, List.drop_drop, Nat.min_eq_left (by omega)]
  congr 3
  omega

set_option maxRecDepth 20000 in
set_option maxHeartbeats 8000000 in
theorem imageOf_any (V : Vw) (A : Va) (j : Nat) (la : Option Addr) (lc : Nat) (p c s : Int) (l : List Int) (w : World) (h : Rv w V A) (hH : Hold V 7) (hj : j < V.ts.length) (hT : Tabs w) (htd : tdD V.ts j = ⟨p, c, s, l⟩) (hI : IsI w la l) :
    Calls Tryz.prog 29 #[.agg #[.int .i64 V.base, .int .i64 V.pgs, .slice A.ka A.kn A.kc, .slice A.ra A.rn A.rc, .slice A.sa A.sn A.sc, .slice A.ba A.bn A.bc], .agg #[.int .i64 p, .int .i64 c, .int .i64 s, .slice la l.length lc]] w (ImgP w (makeG V j)) := by
  obtain ⟨hr, _⟩ := hH.right (by decide) j hj
  rw [htd] at hr
  have hl16 : l.length ≤ 16 := by
    have q1 : l.length ≤ slN c := live_le hr.2
    have q2 : slN c ≤ 16 := (newE_rt hr.1).facts.2.1
    omega
  have SOK : Hid (spOk p c s l = true) := spOk_iff.2 hr
  have LOF : Hid (lsL (fOf l) (slN c) = l) := ls_of hr.2
  have RT : Hid (Rt p c s) := newE_rt hr.1
  have HLM : Hid (l.length ≤ maxLen) := by show _ ≤ _; unfold maxLen; omega
  have HVL : Hid (∀ x ∈ l, -9223372036854775808 ≤ x ∧ x ≤ 9223372036854775807) := hI.1
  obtain ⟨ka, ra, sa, ba, kn, rn, sn, bn, kc, rc, sc, bc⟩ := A
  obtain ⟨D1, hD1, bD1, rD1⟩ := vbox w V ⟨ka, ra, sa, ba, kn, rn, sn, bn, kc, rc, sc, bc⟩
  simp only at hD1 rD1
  have zD1 : D1.heap.size = w.heap.size + 1 := by rw [← hD1]; simp
  obtain ⟨D2, hD2, zD2, rD2, bD2⟩ := dbox D1 p c s la l.length lc
  obtain ⟨E0, hE0, zE0, rE0, bE0⟩ := ibox 35 D2 0 0 0 none 0 0 0 none 0 0 none 0 0
  rw [zD1] at rD2 zD2
  rw [zD2] at rE0 zE0
  have HD1 : Hid (w.alloc (.cells #[.int .i64 V.base, .int .i64 V.pgs, .slice ka kn kc, .slice ra rn rc, .slice sa sn sc, .slice ba bn bc] 27) = D1) := hD1
  have HD2 : Hid (D1.alloc (.cells #[.int .i64 p, .int .i64 c, .int .i64 s, .slice la l.length lc] 33) = D2) := hD2
  have HE0 : Hid (D2.alloc (.cells #[.int .i64 0, .int .i64 0, .int .i64 0, .slice none 0 0, .int .i64 0, .slice none 0 0, .slice none 0 0] 35) = E0) := hE0
  have B2 : Hid (Below w.heap.size w D2) := bD1.trans (bD2.mono (by omega))
  have BE : Hid (Below w.heap.size w E0) := B2.out.trans (bE0.mono (by omega))
  have ZE : Hid (E0.heap.size = w.heap.size + 3) := by show _ = _; omega
  have b1E : Below D1.heap.size D1 E0 := bD2.trans (bE0.mono (by omega))
  have CV : Hid (∀ wz, Below E0.heap.size E0 wz → wz.cell? ⟨w.heap.size, 0, none⟩ = some (.int .i64 V.base) ∧ wz.cell? ⟨w.heap.size, 2, none⟩ = some (.slice ka kn kc) ∧ wz.cell? ⟨w.heap.size, 3, none⟩ = some (.slice ra rn rc) ∧ wz.cell? ⟨w.heap.size, 5, none⟩ = some (.slice ba bn bc) ∧ wz.cell? ⟨w.heap.size + 1, 3, none⟩ = some (.slice la l.length lc)) := fun wz b => by
    refine ⟨bcell b (bcell b1E (cell_of_row _ _ 0 _ _ _ rD1)), bcell b (bcell b1E (cell_of_row _ _ 2 _ _ _ rD1)), bcell b (bcell b1E (cell_of_row _ _ 3 _ _ _ rD1)), bcell b (bcell b1E (cell_of_row _ _ 5 _ _ _ rD1)), bcell b (bcell bE0 (dcell3 rD2))⟩
  have RR : Hid (E0.heap[w.heap.size + 2]? = some (.cells (icells 0 0 0 none 0 0 0 none 0 0 none 0 0) 35 (0, 0))) := rE0
  have c0 := bcell bE0 (dcell0 rD2)
  have c1 := bcell bE0 (dcell1 rD2)
  have c2 := bcell bE0 (dcell2 rD2)
  have c3 := bcell bE0 (dcell3 rD2)
  have HRV : Hid (Rv E0 V ⟨ka, ra, sa, ba, kn, rn, sn, bn, kc, rc, sc, bc⟩) := h.keep BE.out
  have HT : Hid (Tabs E0) := hT.keep BE.out
  have HIE : Hid (IsI E0 la l) := hI.keep BE.out
  have HH : Hid (Hold V 7) := hH
  have HJ : Hid (j < V.ts.length) := hj
  have HTD : Hid (tdD V.ts j = ⟨p, c, s, l⟩) := htd
  have KZ := h.kz
  have KL : V.ks.length = kn := h.kl
  clear hD1 bD1 rD1 zD1 hD2 zD2 rD2 bD2 hE0 zE0 rE0 bE0 b1E h hH hj hT htd hI hr
  go_enter Tryz.func29, Tryz.ntmps29
  go_upto_region 1 with (fail)
  rw [HD1.out, HD2.out, HE0.out]
  go_wp2_with fail
  refine (iof_yes p c s la l.length lc l E0 rfl HT.out HIE.out HLM.out SOK.out).mono ?_
  rintro e w1 ⟨sb, b, g, rfl, s1⟩
  have S1 : Hid (Spn E0 w1 sb b g p c s (fOf l)) := s1
  clear s1 c0 c1 c2 c3
  go_wp2_with fail
  refine (data_any sb b g p c s (fOf l) w1 S1.out.at' (HT.out.keep S1.out.low).2 l LOF.out).mono ?_
  rintro e w2 ⟨la2, lc2, rfl, o2, b2⟩
  have I2 : Hid (IsI w2 la2 l) := ownsI_isI HVL.out o2
  have LG2 : Hid (∀ ad, la2 = some ad → E0.heap.size ≤ ad.block) := fun ad e => Nat.le_trans S1.out.low.size (ownsI_ge o2 ad e)
  have BE2 : Hid (Below E0.heap.size E0 w2) := S1.out.low.trans (b2.mono S1.out.low.size)
  have SA2 : Hid (SpanAt w2 sb b g p c s (fOf l)) := S1.out.at'.keep b2
  obtain ⟨X2, hX2, zX2, rX2, bX2⟩ := ibox 35 w2 p c s la2 l.length lc2 0 none 0 0 none 0 0
  have HX2 : Hid (w2.alloc (.cells #[.int .i64 p, .int .i64 c, .int .i64 s, .slice la2 l.length lc2, .int .i64 0, .slice none 0 0, .slice none 0 0] 35) = X2) := hX2
  obtain ⟨M, hM⟩ : ∃ M, w2.heap.size = M := ⟨_, rfl⟩
  rw [hM] at rX2
  have HM : Hid (w2.heap.size = M) := hM
  have RX : Hid (X2.heap[M]? = some (.cells (icells p c s la2 l.length lc2 0 none 0 0 none 0 0) 35 (0, 0))) := rX2
  have BX2 : Hid (Below w2.heap.size w2 X2) := bX2
  have ZX2 : Hid (X2.heap.size = w2.heap.size + 1) := zX2
  clear o2 b2 hX2 zX2 rX2 bX2 hM
  go_upto_region 3 with (fail)
  rw [HX2.out]
  try rw [HM.out]
  have BEX : Hid (Below E0.heap.size E0 X2) := BE2.out.trans (BX2.out.mono BE2.out.size)
  obtain ⟨v0, v2, v3, v5, d3⟩ := CV.out _ BEX.out
  go_wp2_with fail
  have KC := kindsIn_any V ⟨ka, ra, sa, ba, kn, rn, sn, bn, kc, rc, sc, bc⟩ j sb b g X2 (HRV.out.keep BEX.out) HH.out HJ.out (by rw [HTD.out]; exact SA2.out.keep BX2.out) (HT.out.keep BEX.out)
  refine KC.mono ?_
  rintro e E ⟨K, rfl, hK, oK, bK⟩
  have HK : Hid (KinP V j V.rs.length K) := hK
  have OK : Hid (OwnsI E X2.heap.size (some ⟨X2.heap.size, 0, none⟩) K K.length) := oK
  have B2E : Hid (Below w2.heap.size w2 E) := BX2.out.trans (bK.mono BX2.out.size)
  have S0 : Hid (MkS 35 E E M p c s la2 l.length lc2 0 none 0 none 0 (mkO V j 0) (mkB V j 0)) := ⟨by rw [bK.block M (row_lt RX.out)]; exact RX.out, ownsI_none _ _, World.ownsRow_nil _ _ _ _, Tg.refl _ _, Nat.lt_of_lt_of_le (row_lt RX.out) bK.size⟩
  have FR : Hid (∀ wz, Tg M E wz → Below w2.heap.size w2 wz) := fun wz t => B2E.out.trans (t.below (by rw [HM.out]; exact Nat.le_refl _) B2E.out.size)
  have FE : Hid (∀ wz, Tg M E wz → Below E0.heap.size E0 wz) := fun wz t => BE2.out.trans ((FR.out wz t).mono BE2.out.size)
  have FK : Hid (∀ wz, Tg M E wz → OwnsI wz X2.heap.size (some ⟨X2.heap.size, 0, none⟩) K K.length) := fun wz t => OwnsI.tg OK.out t (by have := ZX2.out; have := HM.out; omega)
  obtain ⟨v0', v2', v3', v5', d3'⟩ := CV.out _ (FE.out E (Tg.refl _ _))
  clear KC hK oK bK v0 v2 v3 v5 d3
  obtain ⟨KB, hKB⟩ : ∃ KB, X2.heap.size = KB := ⟨_, rfl⟩
  rw [hKB] at FK
  rw [hKB]
  clear hKB OK
  have LVN : Hid (lvN V j = l.length) := by show (tdD V.ts j).l.length = _; rw [HTD.out]
  go_wp2_with fail
  go_loopw [29] (fun iv wz => ∃ (n : Nat) (oa : Option Addr) (oc : Nat) (ya : Option Addr) (yc : Nat), n ≤ l.length ∧ iv = .int .i64 (n : Nat) ∧ MkS 35 E wz M p c s la2 l.length lc2 0 oa oc ya yc (mkO V j n) (mkB V j n)) (fun iv _ => l.length - lenW iv)
  case atStart => exact ⟨0, none, 0, none, 0, Nat.zero_le _, rfl, S0.out⟩
  case round =>
    clear S0 v0' v2' v3' v5' d3'
    obtain ⟨n, oa, oc, ya, yc, hn, rfl, hS⟩ := hrel
    rename World => wz
    have HS : Hid (MkS 35 E wz M p c s la2 l.length lc2 0 oa oc ya yc (mkO V j n) (mkB V j n)) := hS
    obtain ⟨v0, v2, v3, v5, d3⟩ := CV.out _ (FE.out wz hS.tg)
    clear hS
    by_cases hlt : n < l.length
    · have hnv : n < lvN V j := by rw [LVN.out]; exact hlt
      have HNV : Hid (n < lvN V j) := hnv
      have PI := plV_in HH.out HJ.out hnv
      obtain ⟨y, hy, yl⟩ := lv_slot HH.out HJ.out hnv
      have EN := HK.out.ended HH.out HJ.out hnv
      rw [hy, Int.toNat_natCast] at EN
      obtain ⟨_, e1, e2, e3, e4⟩ := EN
      have HY : Hid ((tdD V.ts j).l.getD n 0 = (y : Int)) := hy
      have HYL : Hid (l.getD n 0 = (y : Int)) := by have := hy; rw [HTD.out] at this; exact this
      obtain ⟨kd, hkd⟩ : ∃ kd : Nat, K.getD y 0 = (kd : Int) := ⟨(K.getD y 0).toNat, by omega⟩
      rw [hkd, Int.toNat_natCast] at e4
      rw [hkd] at e2 e3
      have kdl : kd < V.ks.length := by omega
      obtain ⟨gk, ok, pa, pc, eka, kc0, kc1, pI, pn, pm⟩ := HRV.out.ks kd kdl
      have eka : ka = some ⟨gk, ok, none⟩ := eka
      obtain ⟨ps, hps⟩ : ∃ ps, psAt V (plV V j n) = ps := ⟨_, rfl⟩
      have HPS : Hid (psAt V (plV V j n) = ps) := hps
      rw [hps] at e4
      rw [show V.ks[kd] = knD V.ks kd from (knD_at kdl).symm, e4] at kc1 pI
      have PII : Hid (IsI E0 pa ps) := pI
      have kc2 := bcell (FE.out wz HS.out.tg) kc1
      have yK : y < K.length := by omega
      have yK1 : (y : Int) < (K.length : Int) := by omega
      have ky : wz.cell? ⟨KB, y, none⟩ = some (.int .i64 (kd : Int)) := by
        have q := (ownsI_isI_cell (FK.out wz HS.out.tg) y yK)
        rw [hkd] at q
        exact q
      have kn1 : (kd : Int) < (kn : Int) := by omega
      obtain ⟨z, hz⟩ : ∃ z : Nat, (szT V j).toNat = z := ⟨_, rfl⟩
      have HZ : Hid ((szT V j).toNat = z) := hz
      have sz : szT V j = (z : Int) := by omega
      have SZ : Hid (szT V j = (z : Int)) := sz
      have PL : Hid (ps.length ≤ 16) := by show _ ≤ _; rw [← hps]; exact (psAt_in HH.out HJ.out hnv).2
      have ps16 : ps.length ≤ 16 := PL.out
      obtain ⟨_, h0 | ⟨lb, lo, rfl, hlb, hlc⟩⟩ := HIE.out.keep (FE.out wz HS.out.tg)
      · rw [h0] at hlt; simp at hlt
      have hcell := hlc n hlt
      rw [HYL.out] at hcell
      have CUT : Hid (Calls Tryz.prog 68 #[.slice ba bn bc, .pointer (some ⟨sb, 0, none⟩), .int .i64 (y : Int)] wz fun e w' => ∃ gb ob, e = .returned (.slice (some ⟨gb, ob, none⟩) z z) ∧ IsB wz (some ⟨gb, ob, none⟩) (slbV V j (plV V j n)) ∧ (some ⟨gb, ob, none⟩ : Option Addr) = ba.map (fun a => a.add (plV V j n).toNat) ∧ wz = w') := cut_any V ⟨ka, ra, sa, ba, kn, rn, sn, bn, kc, rc, sc, bc⟩ j n sb b g z (y : Int) wz (HRV.out.keep (FE.out wz HS.out.tg)) HH.out HJ.out hnv (by rw [HTD.out]; exact SA2.out.keep (FR.out wz HS.out.tg)) (HT.out.keep (FE.out wz HS.out.tg)) hz hy
      have BLEN : Hid ((mkB V j n).length = n * z) := by show _ = _; rw [mkB_len HH.out HJ.out n (by omega), hz]
      have SLL : Hid ((slbV V j (plV V j n)).length = z) := by show _ = _; rw [slb_len HH.out HJ.out hnv, hz]
      have OLEN : Hid ((mkO V j n).length ≤ 256) := by show _ ≤ _; have := (mkO_placed HH.out HJ.out n (by omega)).2; omega
      have z4 : z ≤ 4096 := by have := PI.2.2.2; omega
      have NZ : n * z ≤ 65536 := by
        calc n * z ≤ 16 * 4096 := Nat.mul_le_mul (by omega) z4
          _ = 65536 := by decide
      clear hy hlb hlc hz sz hps e1 e2 e3 e4 hkd yl pI pn pm kc0 kc1 kdl PI
      subst eka
      go_wp2_with (go_at_call 68; refine CUT.out.mono ?_; rintro e w' ⟨gb, ob, rfl, iB, eB, rfl⟩; have EBA : Hid ((some ⟨gb, ob, none⟩ : Option Addr) = ba.map (fun a => a.add (plV V j n).toNat)) := eB; clear iB eB)
      go_quiet (fail)
      go_wp2_with fail
      clear hcell ky kc2 yK yK1 kn1 v0 v2 v3 v5 d3
      go_loopw [48] (fun iv wy => ∃ (q : Nat) (oa' : Option Addr) (oc' : Nat), q ≤ ps.length ∧ iv = .int .i64 (q : Nat) ∧ MkS 35 E wy M p c s la2 l.length lc2 0 oa' oc' ya yc (mkO V j n ++ ofAt V (plV V j n) ((mkB V j n).length : Int) (ps.take q)) (mkB V j n)) (fun iv _ => ps.length - lenW iv)
      case atStart => exact ⟨0, oa, oc, Nat.zero_le _, rfl, by rw [List.take_zero, ofAt_none, List.append_nil]; exact HS.out.drewN _⟩
      case round =>
        obtain ⟨q, oa', oc', hq, rfl, hS'⟩ := hrel
        rename World => wy
        have HS' : Hid (MkS 35 E wy M p c s la2 l.length lc2 0 oa' oc' ya yc (mkO V j n ++ ofAt V (plV V j n) ((mkB V j n).length : Int) (ps.take q)) (mkB V j n)) := hS'
        clear hS'
        by_cases hql : q < ps.length
        · have PF := ps_field HH.out HJ.out HNV.out (q := q) (by rw [HPS.out]; exact hql)
          rw [HPS.out, SZ.out] at PF
          obtain ⟨f, hf, fz⟩ := PF
          have HF : Hid (ps.getD q 0 = (f : Int)) := hf
          obtain ⟨_, h0 | ⟨pb, po, rfl, hpb, hpc⟩⟩ := PII.out.keep (FE.out wy HS'.out.tg)
          · rw [h0] at hql; simp at hql
          have pcell := hpc q hql
          rw [hf] at pcell
          have f1 : f + 8 ≤ z := by omega
          obtain ⟨en, hen⟩ : ∃ en : Nat, f + 8 = en := ⟨_, rfl⟩
          have wz' : IntKind.i64.wrap ((f : Int) + 8) = (en : Int) := by rw [IntKind.wrap_i64]; omega
          have SLR : ∀ w : World, (Instr.slice 25 (.slice (some ⟨gb, ob, none⟩) z z) (some (.int .i64 (f : Int))) (some (.int .i64 (en : Int))) none).run Tryz.prog w = .ok (.slice (some ⟨gb, ob + f, none⟩) 8 (z - f)) w := fun w => by
            rw [sliceB_run w gb ob z z f en (by omega) (by omega) (by omega), show en - f = 8 by omega]
          have IBY : IsB wy (some ⟨gb, ob, none⟩) (slbV V j (plV V j n)) := slb_isB (HRV.out.keep (FE.out wy HS'.out.tg)) HH.out HJ.out HNV.out EBA.out
          have IBP : Hid (IsB wy (some ⟨gb, ob + f, none⟩) (((slbV V j (plV V j n)).drop f).take 8)) := IBY.cut f 8 (by rw [SLL.out]; exact f1)
          have LB8 : Hid (8 = (((slbV V j (plV V j n)).drop f).take 8).length) := by show _ = _; rw [List.length_take, List.length_drop, SLL.out]; omega
          have GV := slb_word HH.out HJ.out HNV.out (y := f) (by rw [SZ.out]; exact fz)
          have YES : Hid (wordV V.bs (plV V j n + (f : Int)) ≠ 0 → ofAt V (plV V j n) ((mkB V j n).length : Int) (ps.take (q + 1)) = ofAt V (plV V j n) ((mkB V j n).length : Int) (ps.take q) ++ [((mkB V j n).length : Int) + (f : Int)]) := fun hne => by
            rw [← HF.out] at hne ⊢
            exact ofAt_yes hql hne
          have NO : Hid (wordV V.bs (plV V j n + (f : Int)) = 0 → ofAt V (plV V j n) ((mkB V j n).length : Int) (ps.take (q + 1)) = ofAt V (plV V j n) ((mkB V j n).length : Int) (ps.take q)) := fun hne => by
            rw [← HF.out] at hne
            exact ofAt_no hql hne
          obtain ⟨v, hv⟩ : ∃ v, wordV V.bs (plV V j n + (f : Int)) = v := ⟨_, rfl⟩
          rw [hv] at GV YES NO
          have HGV : Hid (getL ((((slbV V j (plV V j n)).drop f).take 8).take 8) = v) := GV
          have q1 : (q : Int) < (ps.length : Int) := by omega
          clear GV hv IBY hpc hpb hf hen
          by_cases h0 : v = 0
          · subst h0
            have NX : Hid (MkS 35 E wy M p c s la2 l.length lc2 0 oa' oc' ya yc (mkO V j n ++ ofAt V (plV V j n) ((mkB V j n).length : Int) (ps.take (q + 1))) (mkB V j n)) := by show MkS _ _ _ _ _ _ _ _ _ _ _ _ _ _ _ _ _; rw [NO.out rfl]; exact HS'.out
            go_wp2_with (go_at_call 69; refine (get_of _ _ 8 _ 0 _ LB8.out HGV.out IBP.out (by rw [← LB8.out]; unfold maxLen; omega)).mono ?_; rintro e w' ⟨rfl, rfl⟩)
            go_roundw
            case rel => exact ⟨q + 1, oa', oc', by omega, by congr 1, NX.out⟩
            case measure => simp [lenW]; omega
          · have hne : (v != 0) = true := bne_iff_ne.2 h0
            obtain ⟨BL, hBL⟩ : ∃ BL, (mkB V j n).length = BL := ⟨_, rfl⟩
            have YS := YES.out h0
            have BLz := BLEN.out
            rw [hBL] at YS BLz
            have ADD := HS'.out.addO ((BL : Int) + (f : Int)) (by omega) (by
              rw [List.length_append]
              have : (ofAt V (plV V j n) ((mkB V j n).length : Int) (ps.take q)).length ≤ ps.length := by
                unfold ofAt
                rw [List.length_map]
                exact Nat.le_trans (List.length_filter_le _ _) (by rw [List.length_take]; omega)
              have := OLEN.out
              omega)
            have ROW := HS'.out.row
            rw [hBL] at ADD ROW
            rw [List.append_assoc, ← YS] at ADD
            obtain ⟨OL, hOL⟩ : ∃ OL, (mkO V j n ++ ofAt V (plV V j n) (BL : Int) (ps.take q)).length = OL := ⟨_, rfl⟩
            rw [hOL] at ADD ROW
            obtain ⟨a', c', w2, hrun, r2, nx⟩ := ADD
            have RUN : Hid ((Builtin.append_ #[31, 31] 31 #[.slice oa' OL oc', .slice (some ⟨wy.heap.size, 0, none⟩) 1 1]).run Tryz.prog (wy.alloc (.cells #[.int .i64 ((BL : Int) + (f : Int))] 3)) = .ok (.slice a' (OL + 1) c') w2) := hrun
            have NX : Hid (MkS 35 E (w2.setCell ⟨M, 5, none⟩ (.slice a' (OL + 1) c')) M p c s la2 l.length lc2 0 a' c' ya yc (mkO V j n ++ ofAt V (plV V j n) ((mkB V j n).length : Int) (ps.take (q + 1))) (mkB V j n)) := by show MkS _ _ _ _ _ _ _ _ _ _ _ _ _ _ _ _ _; rw [hBL]; exact nx
            have wr : IntKind.i64.wrap ((BL : Int) + (f : Int)) = (BL : Int) + (f : Int) := by rw [IntKind.wrap_i64]; omega
            obtain ⟨m0, m1, m2, m3, m4, m5, m6⟩ := icell ROW
            have fg5 := ithawed r2 5
            have m5' := (icell r2).c5
            clear hrun nx hBL hOL YS BLz ROW r2
            go_wp2_with (first
              | (go_at_call 69; refine (get_of _ _ 8 _ v _ LB8.out HGV.out IBP.out (by rw [← LB8.out]; unfold maxLen; omega)).mono ?_; rintro e w' ⟨rfl, rfl⟩)
              | (at_builtin; refine wpList_runi rfl rfl _ _ rfl (.slice oa' OL oc') (.slice (some ⟨wy.heap.size, 0, none⟩) 1 1) _ _ rfl rfl RUN.out ?_))
            go_roundw
            case rel => exact ⟨q + 1, a', c', by omega, by congr 1, NX.out⟩
            case measure => simp [lenW]; omega
        · have q1 : ¬ (q : Int) < (ps.length : Int) := by omega
          have HF : MkS 35 E wy M p c s la2 l.length lc2 0 oa' oc' ya yc (mkO V j (n + 1)) (mkB V j n) := by
            have := HS'.out
            rw [List.take_of_length_le (by omega), ← HPS.out] at this
            exact this
          have IBY : IsB wy (some ⟨gb, ob, none⟩) (slbV V j (plV V j n)) := slb_isB (HRV.out.keep (FE.out wy HS'.out.tg)) HH.out HJ.out HNV.out EBA.out
          have ADD := HF.addB ⟨gb, ob, none⟩ (slbV V j (plV V j n)) z z SLL.out IBY (by rw [SLL.out, BLEN.out]; omega)
          have ROW := HF.row
          obtain ⟨NL, hNL⟩ : ∃ NL, (mkB V j n ++ slbV V j (plV V j n)).length = NL := ⟨_, rfl⟩
          obtain ⟨BL, hBL⟩ : ∃ BL, (mkB V j n).length = BL := ⟨_, rfl⟩
          rw [hNL, hBL] at ADD
          rw [hBL] at ROW
          obtain ⟨a', c', w2, hrun, r2, nx⟩ := ADD
          have RUN : Hid ((Builtin.append_ #[25, 25] 25 #[.slice ya BL yc, .slice (some ⟨gb, ob, none⟩) z z]).run Tryz.prog wy = .ok (.slice a' NL c') w2) := hrun
          have NX : Hid (MkS 35 E (w2.setCell ⟨M, 6, none⟩ (.slice a' NL c')) M p c s la2 l.length lc2 0 oa' oc' a' c' (mkO V j (n + 1)) (mkB V j (n + 1))) := nx
          obtain ⟨m0, m1, m2, m3, m4, m5, m6⟩ := icell ROW
          have fg6 := ithawed r2 6
          have m6' := (icell r2).c6
          clear hrun nx hBL hNL ROW r2 HF IBY
          go_wp2_with (at_builtin; refine wpList_run rfl 25 rfl _ _ rfl (.slice ya BL yc) (.slice (some ⟨gb, ob, none⟩) z z) _ _ rfl rfl RUN.out ?_)
          go_roundw
          case rel => exact ⟨n + 1, oa', oc', a', c', by omega, by congr 1, NX.out⟩
          case measure => simp [lenW]; omega
    · have en : n = lvN V j := by rw [LVN.out]; omega
      have n1 : ¬ (n : Int) < (l.length : Int) := by omega
      have HF : Hid (MkS 35 E wz M p c s la2 l.length lc2 0 oa oc ya yc (mkO V j (lvN V j)) (mkB V j (lvN V j))) := by show MkS _ _ _ _ _ _ _ _ _ _ _ _ _ _ _ _ _; rw [← en]; exact HS.out
      have IOO : Hid (∀ x ∈ mkO V j (lvN V j), -9223372036854775808 ≤ x ∧ x ≤ 9223372036854775807) := mkO_int HH.out HJ.out _ (Nat.le_refl _)
      obtain ⟨OO, hOO⟩ : ∃ OO, mkO V j (lvN V j) = OO := ⟨_, rfl⟩
      obtain ⟨BB, hBB⟩ : ∃ BB, mkB V j (lvN V j) = BB := ⟨_, rfl⟩
      have MG : Hid (makeG V j = ⟨p, c, s, l, if OO = [] then 0 else V.base, OO, BB⟩) := by show _ = _; unfold makeG; rw [hOO, hBB, HTD.out]
      rw [hOO] at HF IOO
      rw [hBB] at HF
      clear hOO hBB en
      by_cases hO : OO = []
      · have q : ¬ (0 : Int) < (OO.length : Int) := by rw [hO]; simp
        have HO : Hid (OO = []) := hO
        clear hO
        obtain ⟨m0, m1, m2, m3, m4, m5, m6⟩ := icell HF.out.row
        have RW : Hid (wz.heap[w.heap.size + 2]? = some (.cells (icells 0 0 0 none 0 0 0 none 0 0 none 0 0) 35 (0, 0))) := by show _ = _; rw [(FE.out _ HF.out.tg).block _ (row_lt RR.out)]; exact RR.out
        obtain ⟨r0, r1, r2, r3, r4, r5, r6⟩ := icell RW.out
        have fr0 := ithawed RW.out 0
        have fr1 := ithawed RW.out 1
        have fr2 := ithawed RW.out 2
        have fr3 := ithawed RW.out 3
        have fr4 := ithawed RW.out 4
        have fr5 := ithawed RW.out 5
        have fr6 := ithawed RW.out 6
        have on := lay7_only wz (w.heap.size + 2) (.int .i64 p) (.int .i64 c) (.int .i64 s) (.slice la2 l.length lc2) (.int .i64 0) (.slice oa OO.length oc) (.slice ya BB.length yc)
        obtain ⟨LW, hLW⟩ : ∃ LW, lay7 wz (w.heap.size + 2) (.int .i64 p) (.int .i64 c) (.int .i64 s) (.slice la2 l.length lc2) (.int .i64 0) (.slice oa OO.length oc) (.slice ya BB.length yc) = LW := ⟨_, rfl⟩
        have rL : LW.heap[w.heap.size + 2]? = some (.cells (icells p c s la2 l.length lc2 (0) oa OO.length oc ya BB.length yc) 35 (0, 0)) := by rw [← hLW]; exact lay7_row RW.out
        have LV : Hid (LW = (((((((wz.setCell ⟨w.heap.size + 2, 0, none⟩ (.int .i64 p)).setCell ⟨w.heap.size + 2, 1, none⟩ (.int .i64 c)).setCell ⟨w.heap.size + 2, 2, none⟩ (.int .i64 s)).setCell ⟨w.heap.size + 2, 3, none⟩ (.slice la2 l.length lc2)).setCell ⟨w.heap.size + 2, 4, none⟩ (.int .i64 0)).setCell ⟨w.heap.size + 2, 5, none⟩ (.slice oa OO.length oc)).setCell ⟨w.heap.size + 2, 6, none⟩ (.slice ya BB.length yc))) := by show _ = _; rw [← hLW]; rfl
        rw [hLW] at on
        obtain ⟨u0, u1, u2, u3, u4, u5, u6⟩ := icell rL
        have NE : w.heap.size + 2 < E0.heap.size := by have := ZE.out; omega
        have EE : E0.heap.size ≤ E.heap.size := Nat.le_trans BE2.out.size B2E.out.size
        have PO : Hid (ImgP w ⟨p, c, s, l, 0, OO, BB⟩ (.returned (.agg #[.int .i64 p, .int .i64 c, .int .i64 s, .slice la2 l.length lc2, .int .i64 0, .slice oa OO.length oc, .slice ya BB.length yc])) LW) := ⟨la2, lc2, oa, oc, ya, yc, rfl, (I2.out.keep (FR.out _ HF.out.tg)).tgG (Tg.ofOnly on) (fun ad e => by have := LG2.out ad e; omega), ownsI_isI IOO.out (ownsI_onlyM HF.out.oo on (by omega)), OwnsB.mono (ownsB_onlyM HF.out.ob on (by omega)) (by have := BE.out.size; omega), (fun ad e => by have := LG2.out ad e; have := BE.out.size; omega), (fun ad e => by have := ownsI_ge HF.out.oo ad e; have := BE.out.size; omega), (BE.out.trans ((FE.out _ HF.out.tg).mono BE.out.size)).trans (on.below (show w.heap.size ≤ w.heap.size + 2 by omega))⟩
        clear on hLW rL NE EE
        go_wp2
        rw [← LV.out]
        refine bodyPost_ret (v := .agg #[.int .i64 p, .int .i64 c, .int .i64 s, .slice la2 l.length lc2, .int .i64 0, .slice oa OO.length oc, .slice ya BB.length yc]) (by simp [results, Tryz.results29, go_sem, u0, u1, u2, u3, u4, u5, u6]) rfl ?_
        rw [MG.out, if_pos HO.out]
        exact PO.out
      · have q : (0 : Int) < (OO.length : Int) := by have := List.length_pos_iff.2 hO; omega
        have HO : Hid (OO ≠ []) := hO
        clear hO
        obtain ⟨m0, m1, m2, m3, m4, m5, m6⟩ := icell HF.out.row
        have fg4 := ithawed HF.out.row 4
        have HG := HF.out.setBs V.base
        obtain ⟨W4, hW4⟩ : ∃ W4, wz.setCell ⟨M, 4, none⟩ (.int .i64 V.base) = W4 := ⟨_, rfl⟩
        rw [hW4] at HG
        have HG : Hid (MkS 35 E W4 M p c s la2 l.length lc2 V.base oa oc ya yc OO BB) := HG
        have H4 : Hid (W4 = wz.setCell ⟨M, 4, none⟩ (.int .i64 V.base)) := hW4.symm
        clear hW4
        go_upto_region 18 with (fail)
        rw [← H4.out]
        clear m0 m1 m2 m3 m4 m5 m6 fg4
        obtain ⟨m0, m1, m2, m3, m4, m5, m6⟩ := icell HG.out.row
        have RW : Hid (W4.heap[w.heap.size + 2]? = some (.cells (icells 0 0 0 none 0 0 0 none 0 0 none 0 0) 35 (0, 0))) := by show _ = _; rw [(FE.out _ HG.out.tg).block _ (row_lt RR.out)]; exact RR.out
        obtain ⟨r0, r1, r2, r3, r4, r5, r6⟩ := icell RW.out
        have fr0 := ithawed RW.out 0
        have fr1 := ithawed RW.out 1
        have fr2 := ithawed RW.out 2
        have fr3 := ithawed RW.out 3
        have fr4 := ithawed RW.out 4
        have fr5 := ithawed RW.out 5
        have fr6 := ithawed RW.out 6
        have on := lay7_only W4 (w.heap.size + 2) (.int .i64 p) (.int .i64 c) (.int .i64 s) (.slice la2 l.length lc2) (.int .i64 V.base) (.slice oa OO.length oc) (.slice ya BB.length yc)
        obtain ⟨LW, hLW⟩ : ∃ LW, lay7 W4 (w.heap.size + 2) (.int .i64 p) (.int .i64 c) (.int .i64 s) (.slice la2 l.length lc2) (.int .i64 V.base) (.slice oa OO.length oc) (.slice ya BB.length yc) = LW := ⟨_, rfl⟩
        have rL : LW.heap[w.heap.size + 2]? = some (.cells (icells p c s la2 l.length lc2 (V.base) oa OO.length oc ya BB.length yc) 35 (0, 0)) := by rw [← hLW]; exact lay7_row RW.out
        have LV : Hid (LW = (((((((W4.setCell ⟨w.heap.size + 2, 0, none⟩ (.int .i64 p)).setCell ⟨w.heap.size + 2, 1, none⟩ (.int .i64 c)).setCell ⟨w.heap.size + 2, 2, none⟩ (.int .i64 s)).setCell ⟨w.heap.size + 2, 3, none⟩ (.slice la2 l.length lc2)).setCell ⟨w.heap.size + 2, 4, none⟩ (.int .i64 V.base)).setCell ⟨w.heap.size + 2, 5, none⟩ (.slice oa OO.length oc)).setCell ⟨w.heap.size + 2, 6, none⟩ (.slice ya BB.length yc))) := by show _ = _; rw [← hLW]; rfl
        rw [hLW] at on
        obtain ⟨u0, u1, u2, u3, u4, u5, u6⟩ := icell rL
        have NE : w.heap.size + 2 < E0.heap.size := by have := ZE.out; omega
        have EE : E0.heap.size ≤ E.heap.size := Nat.le_trans BE2.out.size B2E.out.size
        have PO : Hid (ImgP w ⟨p, c, s, l, V.base, OO, BB⟩ (.returned (.agg #[.int .i64 p, .int .i64 c, .int .i64 s, .slice la2 l.length lc2, .int .i64 V.base, .slice oa OO.length oc, .slice ya BB.length yc])) LW) := ⟨la2, lc2, oa, oc, ya, yc, rfl, (I2.out.keep (FR.out _ HG.out.tg)).tgG (Tg.ofOnly on) (fun ad e => by have := LG2.out ad e; omega), ownsI_isI IOO.out (ownsI_onlyM HG.out.oo on (by omega)), OwnsB.mono (ownsB_onlyM HG.out.ob on (by omega)) (by have := BE.out.size; omega), (fun ad e => by have := LG2.out ad e; have := BE.out.size; omega), (fun ad e => by have := ownsI_ge HG.out.oo ad e; have := BE.out.size; omega), (BE.out.trans ((FE.out _ HG.out.tg).mono BE.out.size)).trans (on.below (show w.heap.size ≤ w.heap.size + 2 by omega))⟩
        clear on hLW rL NE EE
        go_wp2
        rw [← LV.out]
        refine bodyPost_ret (v := .agg #[.int .i64 p, .int .i64 c, .int .i64 s, .slice la2 l.length lc2, .int .i64 V.base, .slice oa OO.length oc, .slice ya BB.length yc]) (by simp [results, Tryz.results29, go_sem, u0, u1, u2, u3, u4, u5, u6]) rfl ?_
        rw [MG.out, if_neg HO.out]
        exact PO.out
end Go.Proofs.YtbfamjnnlcopiaaGreatDoor
