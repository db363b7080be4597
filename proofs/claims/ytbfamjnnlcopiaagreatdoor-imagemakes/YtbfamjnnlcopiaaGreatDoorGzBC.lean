/- The document's Equal, of two views that read alike. -/
import Derived.Test.YtbfamjnnlcopiaaGreatDoorGzAQ
import Derived.Test.YtbfamjnnlcopiaaGreatDoorGzBB
namespace Go.Proofs.YtbfamjnnlcopiaaGreatDoor
open Go.RowKit
set_option linter.unusedVariables false
set_option maxRecDepth 4000

theorem RdK.isK {w : World} {a : Option Addr} {ks : List Kn} (h : RdK w a ks) : ∃ xs : List Kd, ∃ e : xs.length = ks.length, (∀ j (hj : j < xs.length), xs[j].s = (ks[j]'(by omega)).s ∧ xs[j].l = (ks[j]'(by omega)).l) ∧ IsK w a xs := by
  have h1 : ∀ i : Fin ks.length, ∃ p : Option Addr × Nat, ∃ g o : Nat, a = some ⟨g, o, none⟩ ∧ w.cell? ⟨g, o + i.1 * 2, none⟩ = some (.int .i64 ks[i.1].s) ∧ w.cell? ⟨g, o + i.1 * 2 + 1, none⟩ = some (.slice p.1 ks[i.1].l.length p.2) ∧ IsI w p.1 ks[i.1].l ∧ (p.1 = none → ks[i.1].l = [] ∧ p.2 = 0) ∧ ks[i.1].l.length ≤ maxLen := fun i => by
    obtain ⟨g, o, la, lc, r⟩ := h i.1 i.2
    exact ⟨(la, lc), g, o, r⟩
  obtain ⟨F, hF⟩ : ∃ F : Fin ks.length → Option Addr × Nat, ∀ i, ∃ g o : Nat, a = some ⟨g, o, none⟩ ∧ w.cell? ⟨g, o + i.1 * 2, none⟩ = some (.int .i64 ks[i.1].s) ∧ w.cell? ⟨g, o + i.1 * 2 + 1, none⟩ = some (.slice (F i).1 ks[i.1].l.length (F i).2) ∧ IsI w (F i).1 ks[i.1].l ∧ ((F i).1 = none → ks[i.1].l = [] ∧ (F i).2 = 0) ∧ ks[i.1].l.length ≤ maxLen := ⟨fun i => Classical.choose (h1 i), fun i => Classical.choose_spec (h1 i)⟩
  refine ⟨List.ofFn (fun i : Fin ks.length => (⟨ks[i.1].s, (F i).1, (F i).2, ks[i.1].l⟩ : Kd)), by simp, fun j hj => by simp, ?_, ?_⟩
  · by_cases hk : ks.length = 0
    · refine .inl (List.eq_nil_of_length_eq_zero ?_)
      simp only [List.length_ofFn]
      exact hk
    · obtain ⟨g, o, e, c0, _⟩ := hF ⟨0, by omega⟩
      refine .inr ⟨g, o, e, by simpa using block_lt_of_cell c0, fun i hi => ?_⟩
      obtain ⟨g', o', e', c0', c1', _⟩ := hF ⟨i, by simpa using hi⟩
      rw [e] at e'
      cases e'
      simp only [List.getElem_ofFn]
      exact ⟨c0', c1'⟩
  · intro k hk
    obtain ⟨i, rfl⟩ := (List.mem_ofFn).1 hk
    obtain ⟨g, o, e, c0, c1, hI, hn, hm⟩ := hF i
    exact ⟨hI, hn, hm⟩
theorem kall_rd (a a' : Option Addr) (n n' c c' : Nat) (ks : List Kn) (w : World) (h : RdK w a ks) (h' : RdK w a' ks) (hn : ks.length = n) (hn' : ks.length = n') (hl : ks.length ≤ 64) :
    Calls Tryz.prog 38 #[.slice a n c, .slice a' n' c'] w fun e w' => e = .returned (.bool true) ∧ Below w.heap.size w w' := by
  obtain ⟨xs, e, hx, ix⟩ := h.isK
  obtain ⟨ys, e', hy, iy⟩ := h'.isK
  exact rall_true a a' n n' c c' xs ys w ix iy (by omega) (by omega) (by omega) (fun j h1 h2 => ⟨(hx j h1).1.trans (hy j h2).1.symm, (hx j h1).2.trans (hy j h2).2.symm⟩) (by omega)
set_option maxRecDepth 20000 in
set_option maxHeartbeats 4000000 in
theorem equal_true (V : Vw) (A B : Va) (w : World) (h : Rv w V A) (h' : Rv w V B) :
    Calls Tryz.prog 13 #[.agg #[.int .i64 V.base, .int .i64 V.pgs, .slice A.ka A.kn A.kc, .slice A.ra A.rn A.rc, .slice A.sa A.sn A.sc, .slice A.ba A.bn A.bc], .agg #[.int .i64 V.base, .int .i64 V.pgs, .slice B.ka B.kn B.kc, .slice B.ra B.rn B.rc, .slice B.sa B.sn B.sc, .slice B.ba B.bn B.bc]] w fun e w' => e = .returned (.bool true) ∧ Below w.heap.size w w' := by
  obtain ⟨base, pgs, ks, rs, ts, bs⟩ := V
  obtain ⟨ka, ra, sa, ba, kn, rn, sn, bn, kc, rc, sc, bc⟩ := A
  obtain ⟨ka', ra', sa', ba', kn', rn', sn', bn', kc', rc', sc', bc'⟩ := B
  obtain ⟨E, hE, bE, rE⟩ := vbox w ⟨base, pgs, ks, rs, ts, bs⟩ ⟨ka, ra, sa, ba, kn, rn, sn, bn, kc, rc, sc, bc⟩
  obtain ⟨F, hF, bF, rF⟩ := vbox E ⟨base, pgs, ks, rs, ts, bs⟩ ⟨ka', ra', sa', ba', kn', rn', sn', bn', kc', rc', sc', bc'⟩
  simp only at hE rE hF rF
  have rE' : F.heap[w.heap.size]? = _ := (bF.block _ (hlt rE)).trans rE
  obtain ⟨na, hna⟩ : ∃ na, w.heap.size = na := ⟨_, rfl⟩
  obtain ⟨nb, hnb⟩ : ∃ nb, E.heap.size = nb := ⟨_, rfl⟩
  rw [hna] at rE'
  rw [hnb] at rF
  have bwF : Below w.heap.size w F := bE.trans (bF.mono bE.size)
  have RE : Hid (F.heap[na]? = some (.cells #[.int .i64 base, .int .i64 pgs, .slice ka kn kc, .slice ra rn rc, .slice sa sn sc, .slice ba bn bc] 27 (0, 0))) := rE'
  have RF : Hid (F.heap[nb]? = some (.cells #[.int .i64 base, .int .i64 pgs, .slice ka' kn' kc', .slice ra' rn' rc', .slice sa' sn' sc', .slice ba' bn' bc'] 27 (0, 0))) := rF
  have BW : Hid (Below w.heap.size w F) := bwF
  have HA : Hid (Rv F ⟨base, pgs, ks, rs, ts, bs⟩ ⟨ka, ra, sa, ba, kn, rn, sn, bn, kc, rc, sc, bc⟩) := h.keep bwF
  have HB : Hid (Rv F ⟨base, pgs, ks, rs, ts, bs⟩ ⟨ka', ra', sa', ba', kn', rn', sn', bn', kc', rc', sc', bc'⟩) := h'.keep bwF
  have a0 : F.cell? ⟨na, 0, none⟩ = some (.int .i64 base) := cell_of_row _ _ 0 _ _ _ rE'
  have a1 : F.cell? ⟨na, 1, none⟩ = some (.int .i64 pgs) := cell_of_row _ _ 1 _ _ _ rE'
  have a2 : F.cell? ⟨na, 2, none⟩ = some (.slice ka kn kc) := cell_of_row _ _ 2 _ _ _ rE'
  have b0 : F.cell? ⟨nb, 0, none⟩ = some (.int .i64 base) := cell_of_row _ _ 0 _ _ _ rF
  have b1 : F.cell? ⟨nb, 1, none⟩ = some (.int .i64 pgs) := cell_of_row _ _ 1 _ _ _ rF
  have b2 : F.cell? ⟨nb, 2, none⟩ = some (.slice ka' kn' kc') := cell_of_row _ _ 2 _ _ _ rF
  have K : Hid (Calls Tryz.prog 38 #[.slice ka kn kc, .slice ka' kn' kc'] F fun e w' => e = .returned (.bool true) ∧ Below F.heap.size F w') := kall_rd _ _ _ _ _ _ ks F HA.out.ks HB.out.ks HA.out.kl HB.out.kl HA.out.kz
  have R : Hid (∀ G : World, Below F.heap.size F G → Calls Tryz.prog 39 #[.slice ra rn rc, .slice ra' rn' rc'] G fun e w' => e = .returned (.bool true) ∧ ∃ m, w' = G.drewN m) := fun G b => by
    have e1 : rs.length = rn := HA.out.rl
    have e2 : rs.length = rn' := HB.out.rl
    have e3 : rs.length ≤ 300 := HA.out.rz
    rw [← e1, ← e2]
    exact hsame_true ra ra' rc rc' rs G (HA.out.rs.keep b) (HB.out.rs.keep b) (by omega)
  have T : Hid (∀ G : World, Below F.heap.size F G → Calls Tryz.prog 40 #[.slice sa sn sc, .slice sa' sn' sc'] G fun e w' => e = .returned (.bool true) ∧ Below G.heap.size G w') := fun G b =>
    rall_rd sa sa' sn sc sn' sc' ts G (HA.out.ts.keep b) (HB.out.ts.keep b) HA.out.sl HB.out.sl (by have : ts.length ≤ 64 := HA.out.tz; omega)
  have S : Hid (∀ G : World, Below F.heap.size F G → Calls Tryz.prog 23 #[.slice ba bn bc, .slice ba' bn' bc'] G fun e w' => e = .returned (.bool true) ∧ G = w') := fun G b =>
    (same_any ba ba' bn bn' bc bc' bs bs G (HA.out.bs.keep b) (HB.out.bs.keep b) HA.out.bl.symm HB.out.bl.symm).mono (by rintro e w' ⟨rfl, rfl⟩; exact ⟨by simp, rfl⟩)
  clear h h' rE rF rE' bE bF bwF
  go_enter Tryz.func13, Tryz.ntmps13
  go_wp2_with fail
  refine K.out.mono ?_
  rintro e w1 ⟨rfl, B1⟩
  have B1' : Hid (Below F.heap.size F w1) := B1
  have a3 : w1.cell? ⟨na, 3, none⟩ = some (.slice ra rn rc) := bcell B1 (cell_of_row _ _ 3 _ _ _ RE.out)
  have b3 : w1.cell? ⟨nb, 3, none⟩ = some (.slice ra' rn' rc') := bcell B1 (cell_of_row _ _ 3 _ _ _ RF.out)
  clear B1 a0 a1 a2 b0 b1 b2
  go_wp2_with fail
  refine (R.out _ B1'.out).mono ?_
  rintro e w2 ⟨rfl, m, hw2⟩
  have B2' : Hid (Below F.heap.size F w2) := by show Below _ _ _; rw [hw2]; exact below_drewN B1'.out _
  have a4 : w2.cell? ⟨na, 4, none⟩ = some (.slice sa sn sc) := bcell B2'.out (cell_of_row _ _ 4 _ _ _ RE.out)
  have b4 : w2.cell? ⟨nb, 4, none⟩ = some (.slice sa' sn' sc') := bcell B2'.out (cell_of_row _ _ 4 _ _ _ RF.out)
  clear hw2 a3 b3
  go_wp2_with fail
  refine (T.out _ B2'.out).mono ?_
  rintro e w3 ⟨rfl, B3⟩
  have B3' : Hid (Below F.heap.size F w3) := B2'.out.trans (B3.mono B2'.out.size)
  have a5 : w3.cell? ⟨na, 5, none⟩ = some (.slice ba bn bc) := bcell B3'.out (cell_of_row _ _ 5 _ _ _ RE.out)
  have b5 : w3.cell? ⟨nb, 5, none⟩ = some (.slice ba' bn' bc') := bcell B3'.out (cell_of_row _ _ 5 _ _ _ RF.out)
  clear B3 a4 b4
  go_wp2_with fail
  refine (S.out _ B3'.out).mono ?_
  rintro e w4 ⟨rfl, rfl⟩
  have BB := BW.out.trans (B3'.out.mono BW.out.size)
  go_wp2
  go_ret
  exact ⟨rfl, by first | exact BB | exact hna ▸ BB⟩
end Go.Proofs.YtbfamjnnlcopiaaGreatDoor

/- The document's Great: is a view more than is looked at? -/
namespace Go.Proofs.YtbfamjnnlcopiaaGreatDoor
open Go.RowKit
set_option linter.unusedVariables false
set_option maxRecDepth 4000

/-- A view that can be read, however great it is. -/
structure Rv0 (w : World) (V : Vw) (A : Va) : Prop where
  kl : V.ks.length = A.kn
  rl : V.rs.length = A.rn
  sl : V.ts.length = A.sn
  bl : V.bs.length = A.bn
  ks : RdK w A.ka V.ks
  rs : IsW w A.ra V.rs
  ts : RdT w A.sa V.ts
  bs : IsB w A.ba V.bs
  bi : i64 V.base
  pi : i64 V.pgs
  ti : ∀ t ∈ V.ts, i64 t.p
  ri : ∀ r ∈ V.rs, i64 r.pl ∧ i64 r.kind ∧ i64 r.gen
  sk : A.sn ≤ A.sc ∧ A.sc ≤ 9223372036854775807
  bk : A.bn ≤ A.bc ∧ A.bc ≤ 9223372036854775807
def SmallV (V : Vw) : Prop := V.pgs ≤ 64 ∧ V.ks.length ≤ 64 ∧ V.rs.length ≤ 300 ∧ V.ts.length ≤ 64 ∧ V.bs.length ≤ 16384
theorem Rv0.small {w : World} {V : Vw} {A : Va} (h : Rv0 w V A) (s : SmallV V) : Rv w V A := ⟨h.kl, h.rl, h.sl, h.bl, h.ks, h.rs, h.ts, h.bs, h.bi, h.pi, h.ti, h.ri, s.2.1, s.2.2.1, s.2.2.2.1, s.2.2.2.2, h.sk, h.bk⟩
theorem Rv0.keep {w w' : World} {V : Vw} {A : Va} (h : Rv0 w V A) (hb : Below w.heap.size w w') : Rv0 w' V A :=
  ⟨h.kl, h.rl, h.sl, h.bl, h.ks.keep hb, h.rs.keep hb, h.ts.keep hb, h.bs.keep hb, h.bi, h.pi, h.ti, h.ri, h.sk, h.bk⟩
def GreatP (w : World) (V : Vw) (e : Ending) (w' : World) : Prop := ∃ r, e = .returned (.bool r) ∧ (r = false → SmallV V) ∧ Below w.heap.size w w'
set_option maxRecDepth 20000 in
set_option maxHeartbeats 4000000 in
theorem great_any (V : Vw) (A : Va) (w : World) (h : Rv0 w V A) :
    Calls Tryz.prog 6 #[.agg #[.int .i64 V.base, .int .i64 V.pgs, .slice A.ka A.kn A.kc, .slice A.ra A.rn A.rc, .slice A.sa A.sn A.sc, .slice A.ba A.bn A.bc]] w fun e w' => GreatP w V e w' := by
  obtain ⟨base, pgs, ks, rs, ts, bs⟩ := V
  obtain ⟨ka, ra, sa, ba, kn, rn, sn, bn, kc, rc, sc, bc⟩ := A
  obtain ⟨E, hE, bE, rE⟩ := vbox w ⟨base, pgs, ks, rs, ts, bs⟩ ⟨ka, ra, sa, ba, kn, rn, sn, bn, kc, rc, sc, bc⟩
  simp only at hE rE
  obtain ⟨nb, hnb⟩ : ∃ nb, w.heap.size = nb := ⟨_, rfl⟩
  rw [hnb] at rE
  have d4 : E.cell? ⟨nb, 4, none⟩ = some (.slice sa sn sc) := cell_of_row _ _ 4 _ _ _ rE
  have HBE : Hid (Below w.heap.size w E) := bE
  have RE : Hid (E.heap[nb]? = some (.cells #[.int .i64 base, .int .i64 pgs, .slice ka kn kc, .slice ra rn rc, .slice sa sn sc, .slice ba bn bc] 27 (0, 0))) := rE
  have HTS : Hid (RdT E sa ts) := h.ts.keep bE
  have HLN : Hid (ks.length = kn ∧ rs.length = rn ∧ ts.length = sn ∧ bs.length = bn) := ⟨h.kl, h.rl, h.sl, h.bl⟩
  have sk : sn ≤ sc ∧ sc ≤ 9223372036854775807 := h.sk
  have s9 : sn ≤ 9223372036854775807 := by omega
  clear h rE bE sk
  go_enter Tryz.func6, Tryz.ntmps6
  go_wp2_with fail
  go_loopw [3, 9] (fun nv iv wz => ∃ (k : Nat) (y : Int), k ≤ sn ∧ iv = .int .i64 (k : Nat) ∧ nv = .int .i64 y ∧ Below E.heap.size E wz) (fun _ iv _ => sn - lenW iv)
  case atStart => exact ⟨0, 0, Nat.zero_le _, rfl, rfl, by first | exact Below.refl _ _ | (rw [← hE]; exact Below.refl _ _)⟩
  case round =>
    obtain ⟨k, y, hk, rfl, rfl, hb⟩ := hrel
    rename World => wz
    have BZ : Hid (Below E.heap.size E wz) := hb
    have FB : Hid (∀ w', Below wz.heap.size wz w' → Below E.heap.size E w' ∧ Below w.heap.size w w') := fun w' b' => by
      have b2 := BZ.out.trans (b'.mono BZ.out.size)
      exact ⟨b2, HBE.out.trans (b2.mono HBE.out.size)⟩
    clear hb
    by_cases hkn : k < sn
    · have hkl : k < ts.length := by rw [HLN.out.2.2.1]; exact hkn
      obtain ⟨g, off, la, lk, rfl, q0, q1, q2, q3, _, _⟩ := (HTS.out.keep BZ.out) k hkl
      obtain ⟨t, ht⟩ : ∃ t, ts[k] = t := ⟨_, rfl⟩
      rw [ht] at q0 q1 q2 q3
      obtain ⟨p, c, s, l⟩ := t
      simp only at q0 q1 q2 q3
      obtain ⟨ll, hll⟩ : ∃ ll, l.length = ll := ⟨_, rfl⟩
      rw [hll] at q3
      obtain ⟨D, hD⟩ : ∃ D, wz.alloc (.cells #[.int .i64 p, .int .i64 c, .int .i64 s, .slice la ll lk] 33) = D := ⟨_, rfl⟩
      have bD : Below wz.heap.size wz D := by rw [← hD]; exact (Below.refl _ wz).alloc (Nat.le_refl _) _
      have rD : D.heap[wz.heap.size]? = some (.cells #[.int .i64 p, .int .i64 c, .int .i64 s, .slice la ll lk] 33 (0, 0)) := by rw [← hD]; exact Go.heap_alloc_new wz _
      have BD := FB.out D bD
      have e3 : D.cell? ⟨wz.heap.size, 3, none⟩ = some (.slice la ll lk) := cell_of_row _ _ 3 _ _ _ rD
      have k0 : (k : Int) < (sn : Int) := by omega
      clear bD rD hll ht
      go_wp2
      go_roundw
      case rel => exact ⟨k + 1, _, by omega, by congr 1, rfl, BD.1⟩
      case measure => simp [lenW]; omega
    · obtain rfl : k = sn := by omega
      have vb : wz.heap[nb]? = _ := (BZ.out.block nb (hlt RE.out)).trans RE.out
      have v1 : wz.cell? ⟨nb, 1, none⟩ = some (.int .i64 pgs) := cell_of_row _ _ 1 _ _ _ vb
      have v2 : wz.cell? ⟨nb, 2, none⟩ = some (.slice ka kn kc) := cell_of_row _ _ 2 _ _ _ vb
      have v3 : wz.cell? ⟨nb, 3, none⟩ = some (.slice ra rn rc) := cell_of_row _ _ 3 _ _ _ vb
      have v4 : wz.cell? ⟨nb, 4, none⟩ = some (.slice sa k sc) := cell_of_row _ _ 4 _ _ _ vb
      have v5 : wz.cell? ⟨nb, 5, none⟩ = some (.slice ba bn bc) := cell_of_row _ _ 5 _ _ _ vb
      have BB := (FB.out wz (Below.refl _ _)).2
      clear vb
      have DONE : Hid (¬ (64 < pgs) → ¬ (64 < (kn : Int)) → ¬ (300 < (rn : Int)) → ¬ (64 < (k : Int)) → ¬ (16384 < (bn : Int)) → SmallV ⟨base, pgs, ks, rs, ts, bs⟩) := fun a1 a2 a3 a4 a5 => by
        obtain ⟨h1, h2, h3, h4⟩ := HLN.out
        refine ⟨?_, ?_, ?_, ?_, ?_⟩ <;> simp only <;> omega
      by_cases a1 : 64 < pgs
      · go_wp2
        go_ret
        exact ⟨true, rfl, (fun e => by cases e), by first | exact BB | exact hnb ▸ BB⟩
      · by_cases a2 : 64 < (kn : Int)
        · go_wp2
          go_ret
          exact ⟨true, rfl, (fun e => by cases e), by first | exact BB | exact hnb ▸ BB⟩
        · by_cases a3 : 300 < (rn : Int)
          · go_wp2
            go_ret
            exact ⟨true, rfl, (fun e => by cases e), by first | exact BB | exact hnb ▸ BB⟩
          · by_cases a4 : 64 < (k : Int)
            · go_wp2
              go_ret
              exact ⟨true, rfl, (fun e => by cases e), by first | exact BB | exact hnb ▸ BB⟩
            · by_cases a6 : 600 < y
              · go_wp2
                go_ret
                exact ⟨true, rfl, (fun e => by cases e), by first | exact BB | exact hnb ▸ BB⟩
              · by_cases a5 : 16384 < (bn : Int)
                · go_wp2
                  go_ret
                  exact ⟨true, rfl, (fun e => by cases e), by first | exact BB | exact hnb ▸ BB⟩
                · have DD := DONE.out a1 a2 a3 a4 a5
                  go_wp2
                  go_ret
                  exact ⟨false, rfl, (fun _ => DD), by first | exact BB | exact hnb ▸ BB⟩
end Go.Proofs.YtbfamjnnlcopiaaGreatDoor

/- A view in memory of one's own. -/
namespace Go.Proofs.YtbfamjnnlcopiaaGreatDoor
open Go.RowKit
set_option linter.unusedVariables false
set_option maxRecDepth 4000

theorem cellsW_set (r : HRw) : ∀ (l : List HRw) (i : Nat), i < l.length → ((((cellsW l).set (i * 4) (.int .i64 r.gen)).set (i * 4 + 1) (.bool r.live)).set (i * 4 + 2) (.int .i64 r.kind)).set (i * 4 + 3) (.int .i64 r.pl) = cellsW (l.set i r)
  | q :: l, 0, _ => rfl
  | q :: l, i + 1, h => by
    have := cellsW_set r l i (by simpa using h)
    rw [show (i + 1) * 4 = i * 4 + 4 by omega]
    show .int .i64 q.gen :: .bool q.live :: .int .i64 q.kind :: .int .i64 q.pl :: ((((cellsW l).set (i * 4) (.int .i64 r.gen)).set (i * 4 + 1) (.bool r.live)).set (i * 4 + 2) (.int .i64 r.kind)).set (i * 4 + 3) (.int .i64 r.pl) = _
    rw [this]
    rfl
theorem Ow.put {w w' : World} {B g c : Nat} {l l' : List HRw} (h : Ow w B (some ⟨g, 0, none⟩) l c) (hl : l'.length = l.length) (k : ∀ cur : Array Value, w.heap[g]? = some (.cells cur 73 (0, 0)) → cur.toList.take (l.length * 4) = cellsW l → ∃ cur' : Array Value, w'.heap[g]? = some (.cells cur' 73 (0, 0)) ∧ cur'.size = cur.size ∧ cur'.toList.take (l.length * 4) = cellsW l') : Ow w' B (some ⟨g, 0, none⟩) l' c := by
  obtain ⟨h0, ⟨h1, _⟩ | ⟨g', c', cur, h1, hb, h2, h3, h4, h5, h6⟩⟩ := h
  · cases h1
  · cases h1
    obtain ⟨cur', k1, k2, k3⟩ := k cur h2 h6
    refine ⟨by rw [cellsW_len], .inr ⟨g, c, cur', by rw [hl], hb, k1, by omega, h4, by omega, by rw [hl]; exact k3⟩⟩
/-- A row put in the place of another. -/
def layW (w : World) (g o : Nat) (r : HRw) : World := (((w.setCell ⟨g, o, none⟩ (.int .i64 r.gen)).setCell ⟨g, o + 1, none⟩ (.bool r.live)).setCell ⟨g, o + 2, none⟩ (.int .i64 r.kind)).setCell ⟨g, o + 3, none⟩ (.int .i64 r.pl)
theorem Ow.set {w : World} {B g c : Nat} {l : List HRw} (h : Ow w B (some ⟨g, 0, none⟩) l c) (i : Nat) (hi : i < l.length) (r : HRw) : Ow (layW w g (i * 4) r) B (some ⟨g, 0, none⟩) (l.set i r) c := by
  refine h.put (by simp) (fun cur hc hk => ?_)
  have h1 := heap_setCell_same w g (i * 4) _ _ (.int .i64 r.gen) hc
  have h2 := heap_setCell_same _ g (i * 4 + 1) _ _ (.bool r.live) h1
  have h3 := heap_setCell_same _ g (i * 4 + 2) _ _ (.int .i64 r.kind) h2
  have h4 := heap_setCell_same _ g (i * 4 + 3) _ _ (.int .i64 r.pl) h3
  refine ⟨_, h4, by simp, ?_⟩
  rw [Array.toList_setIfInBounds, List.take_set, Array.toList_setIfInBounds, List.take_set, Array.toList_setIfInBounds, List.take_set, Array.toList_setIfInBounds, List.take_set, hk, cellsW_set r l i hi]
theorem Ow.isW {w : World} {B : Nat} {a : Option Addr} {l : List HRw} {c : Nat} (h : Ow w B a l c) : IsW w a l := by
  by_cases e : l = []
  · exact .inl e
  · obtain ⟨g, ea, hb, hs, _⟩ := h.cells 0 (by rcases l with _ | ⟨x, l⟩; exact absurd rfl e; simp)
    refine .inr ⟨g, 0, ea, hs, fun i hi => ?_⟩
    obtain ⟨g', ea', _, _, hc⟩ := h.cells i hi
    rw [ea] at ea'
    cases ea'
    simpa using hc
theorem Told.same {w w' : World} {B : Nat} {v : Value} {ts : List Td} (h : Told w B v ts) (he : ∀ (g : Nat) (cur : Array Value) (t : TypeId), w.heap[g]? = some (.cells cur t (0, 0)) → (t = 33 ∨ t = 3) → w'.heap[g]? = some (.cells cur t (0, 0))) : Told w' B v ts := by
  obtain ⟨rs, e1, ⟨k0, k1 | ⟨g, c, cur, k1, k2, k3, k4⟩⟩, e3⟩ := h
  · refine ⟨rs, e1, ⟨k0, .inl k1⟩, fun r hr => (e3 r hr).same (fun g o hg ho => ?_)⟩
    obtain ⟨cur, hc⟩ := (e3 r hr).kind g hg
    rw [ho] at hc; cases hc
    exact he g _ _ ho (.inr rfl)
  · refine ⟨rs, e1, ⟨k0, .inr ⟨g, c, cur, k1, k2, he g _ _ k3 (.inl rfl), k4⟩⟩, fun r hr => (e3 r hr).same (fun g o hg ho => ?_)⟩
    obtain ⟨cur, hc⟩ := (e3 r hr).kind g hg
    rw [ho] at hc; cases hc
    exact he g _ _ ho (.inr rfl)
theorem RowK.same {w w' : World} {B : Nat} {a : Option Addr} {xs : List Kd} {c : Nat} (h : RowK w B a xs c) (he : ∀ (g : Nat) (cur : Array Value), w.heap[g]? = some (.cells cur 66 (0, 0)) → w'.heap[g]? = some (.cells cur 66 (0, 0))) : RowK w' B a xs c := by
  obtain ⟨k0, k1 | ⟨g, c, cur, k1, k2, k3, k4⟩⟩ := h
  · exact ⟨k0, .inl k1⟩
  · exact ⟨k0, .inr ⟨g, c, cur, k1, k2, he g _ k3, k4⟩⟩
/-- Kinds of one's own. -/
def Kow (w : World) (B : Nat) (a : Option Addr) (ks : List Kn) (c : Nat) : Prop := ∃ xs : List Kd, xs.map (fun x => (⟨x.s, x.l⟩ : Kn)) = ks ∧ RowK w B a xs c ∧ ∀ x ∈ xs, OwnsI w B x.a x.l x.c
theorem Kow.nil (w : World) (B : Nat) : Kow w B none [] 0 := ⟨[], rfl, World.ownsRow_nil _ _ _ _, fun x h => by cases h⟩
theorem Kow.same {w w' : World} {B : Nat} {a : Option Addr} {ks : List Kn} {c : Nat} (h : Kow w B a ks c) (he : ∀ (g : Nat) (cur : Array Value) (t : TypeId), w.heap[g]? = some (.cells cur t (0, 0)) → (t = 66 ∨ t = 3) → w'.heap[g]? = some (.cells cur t (0, 0))) : Kow w' B a ks c := by
  obtain ⟨xs, e1, e2, e3⟩ := h
  refine ⟨xs, e1, e2.same (fun g cur hc => he g cur _ hc (.inl rfl)), fun x hx => (e3 x hx).same (fun g o hg ho => ?_)⟩
  obtain ⟨cur, hc⟩ := (e3 x hx).kind g hg
  rw [ho] at hc; cases hc
  exact he g _ _ ho (.inr rfl)
theorem Kow.keep {w w' : World} {B : Nat} {a : Option Addr} {ks : List Kn} {c : Nat} (h : Kow w B a ks c) (hb : Below w.heap.size w w') : Kow w' B a ks c := h.same (fun g cur t hc _ => bblock hb hc)
theorem Kow.rd {w : World} {B : Nat} {a : Option Addr} {ks : List Kn} {c : Nat} (h : Kow w B a ks c) (hi : ∀ k ∈ ks, ∀ x ∈ k.l, -9223372036854775808 ≤ x ∧ x ≤ 9223372036854775807) (hm : ∀ k ∈ ks, k.l.length ≤ maxLen) : RdK w a ks := by
  obtain ⟨xs, e1, e2, e3⟩ := h
  intro i hi'
  have hl : xs.length = ks.length := by rw [← e1, List.length_map]
  have hx : i < xs.length := by omega
  have ek : ks[i] = ⟨xs[i].s, xs[i].l⟩ := by subst e1; simp
  obtain ⟨g, ea, hs, c0, c1⟩ := e2.cells i hx
  have ho := e3 xs[i] (List.getElem_mem hx)
  have hin := hi ks[i] (List.getElem_mem hi')
  have hmx := hm ks[i] (List.getElem_mem hi')
  rw [ek] at hin hmx ⊢
  refine ⟨g, 0, xs[i].a, xs[i].c, ea, by rw [Nat.zero_add]; exact c0, by rw [Nat.zero_add]; exact c1, ownsI_isI hin ho, fun e => ?_, hmx⟩
  obtain ⟨_, ⟨h1, h2⟩ | ⟨g', c', cur, h1, _⟩⟩ := ho
  · injection h1 with _ q1 q2
    exact ⟨List.eq_nil_of_length_eq_zero q1, q2⟩
  · rw [e] at h1; cases h1
/-- A view that lies in blocks of one's own, those of its rows and its bytes named. -/
structure Cpy (w : World) (B : Nat) (V : Vw) (A : Va) (gr gb : Nat) : Prop where
  ra : A.ra = some ⟨gr, 0, none⟩
  ba : A.ba = some ⟨gb, 0, none⟩
  rn : V.rs.length = A.rn
  sn : V.ts.length = A.sn
  bn : V.bs.length = A.bn
  kn : V.ks.length = A.kn
  rows : Ow w B (some ⟨gr, 0, none⟩) V.rs A.rc
  spans : Told w B (.slice A.sa A.sn A.sc) V.ts
  bytes : OwnsB w B (some ⟨gb, 0, none⟩) V.bs A.bc
  kinds : Kow w B A.ka V.ks A.kc
theorem Cpy.keep {w w' : World} {B : Nat} {V : Vw} {A : Va} {gr gb : Nat} (h : Cpy w B V A gr gb) (hb : Below w.heap.size w w') : Cpy w' B V A gr gb :=
  ⟨h.ra, h.ba, h.rn, h.sn, h.bn, h.kn, h.rows.keep hb, h.spans.keep hb, h.bytes.keep hb, h.kinds.keep hb⟩
/-- What a view must be, whatever memory it lies in. -/
structure Nums (V : Vw) : Prop where
  ki : ∀ k ∈ V.ks, (∀ x ∈ k.l, -9223372036854775808 ≤ x ∧ x ≤ 9223372036854775807) ∧ k.l.length ≤ maxLen
  si : ∀ t ∈ V.ts, ∀ x ∈ t.l, -9223372036854775808 ≤ x ∧ x ≤ 9223372036854775807
  ab : AllB V.bs
  bi : i64 V.base
  pi : i64 V.pgs
  ti : ∀ t ∈ V.ts, i64 t.p
  ri : ∀ r ∈ V.rs, i64 r.pl ∧ i64 r.kind ∧ i64 r.gen
  kz : V.ks.length ≤ 64
  rz : V.rs.length ≤ 300
  tz : V.ts.length ≤ 64
  bz : V.bs.length ≤ 16384
theorem Rv.nums {w : World} {V : Vw} {A : Va} (h : Rv w V A) : Nums V := by
  refine ⟨fun k hk => ?_, fun t ht => ?_, h.bs.all, h.bi, h.pi, h.ti, h.ri, h.kz, h.rz, h.tz, h.bz⟩
  · obtain ⟨i, hi, rfl⟩ := List.getElem_of_mem hk
    obtain ⟨g, o, la, lc, _, _, _, hI, _, hm⟩ := h.ks i hi
    exact ⟨hI.1, hm⟩
  · obtain ⟨i, hi, rfl⟩ := List.getElem_of_mem ht
    obtain ⟨g, off, la, lk, _, _, _, _, _, hI, _⟩ := h.ts i hi
    exact hI.1
theorem Told.len {w : World} {B : Nat} {a : Option Addr} {n c : Nat} {ts : List Td} (h : Told w B (.slice a n c) ts) : n ≤ c ∧ c ≤ 9223372036854775807 := by
  obtain ⟨rs, _, ⟨_, ⟨k1, k2⟩ | ⟨g, c', cur, k1, _, _, k3, k4, _⟩⟩, _⟩ := h
  · injection k1 with _ q1 q2
    omega
  · cases k1
    unfold maxLen at k4
    omega
theorem Cpy.rv {w : World} {B : Nat} {V : Vw} {A : Va} {gr gb : Nat} (h : Cpy w B V A gr gb) (n : Nums V) : Rv w V A := by
  have hb : A.bn ≤ A.bc ∧ A.bc ≤ 9223372036854775807 := by
    obtain ⟨_, ⟨k1, k2⟩ | ⟨g, c', cur, k1, _, _, k3, k4, _⟩⟩ := h.bytes
    · cases k1
    · cases k1
      unfold maxLen at k4
      have := h.bn
      omega
  refine ⟨h.kn, h.rn, h.sn, h.bn, h.kinds.rd (fun k hk => (n.ki k hk).1) (fun k hk => (n.ki k hk).2), by rw [h.ra]; exact h.rows.isW, h.spans.rd n.si, by rw [h.ba]; exact ownsB_isB n.ab h.bytes, n.bi, n.pi, n.ti, n.ri, n.kz, n.rz, n.tz, n.bz, h.spans.len, hb⟩
end Go.Proofs.YtbfamjnnlcopiaaGreatDoor
