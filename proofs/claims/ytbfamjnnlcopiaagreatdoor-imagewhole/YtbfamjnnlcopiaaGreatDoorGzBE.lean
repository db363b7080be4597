/- Layer 17: the law's example: an image with one live slot is written and read. -/
import Derived.Test.YtbfamjnnlcopiaaGreatDoorGzBD
import Derived.Test.YtbfamjnnlcopiaaGreatDoorIgJ
import Derived.Test.YtbfamjnnlcopiaaGreatDoorGzAZ
namespace Go.Proofs.YtbfamjnnlcopiaaGreatDoor
open Go.RowKit
set_option linter.unusedVariables false
set_option maxRecDepth 4000

def exM : Im := ⟨2, 0, 0, [3], 512, [8], List.replicate 16 0⟩
theorem ex_right : rightG exM = true := by decide +kernel
theorem ex_body : bodyG exM = [2, 0, 0, 8, 0, 2, 1, 1, 0, 0, 0, 0, 0, 0, 0, 0, 0, 0, 0, 0, 0, 0, 0, 0] := by decide +kernel
theorem ex_size : sizeG 2 0 0 [3] = 16 := by decide +kernel
theorem all16 : AllB (List.replicate 16 0) := fun x hx => by have := List.eq_of_mem_replicate hx; omega

theorem readI_ex {w w' : World} {l : List Int} {e : Ending} (h : ReadI w l e w') (hR : readG l = (exM, 0)) : ∃ la lc oa oc ba bc, e = .returned (.tuple #[.agg #[.int .i64 2, .int .i64 0, .int .i64 0, .slice la 1 lc, .int .i64 512, .slice oa 1 oc, .slice ba 16 bc], .int .i64 0]) ∧ IsI w' oa [8] ∧ Below w.heap.size w w' := by
  obtain ⟨m, er, la, lc, oa, oc, ba, bc, hr, rfl, iL, iO, iF, b6, _⟩ := h
  rw [hR] at hr
  simp only [Prod.mk.injEq] at hr
  obtain ⟨rfl, rfl⟩ := hr
  exact ⟨la, lc, oa, oc, ba, bc, rfl, iO, b6⟩

set_option maxRecDepth 20000 in
set_option maxHeartbeats 4000000 in
theorem alive_any17 (w : World) (hT : Tabs w) : Calls Tryz.prog 5 #[] w fun e w' => e = .returned (.bool true) ∧ Below w.heap.size w w' := by
  have MK : ∀ v : World, (Instr.makeSlice 25 (.int .i64 16) (.int .i64 16)).run Tryz.prog v = .ok (.slice (some ⟨v.heap.size, 0, none⟩) 16 16) (v.alloc (.cells (cellsB (List.replicate 16 0)).toArray 5)) := fun v => make_B v 16 (by decide)
  obtain ⟨CB, hCB⟩ : ∃ CB, (cellsB (List.replicate 16 0)).toArray = CB := ⟨_, rfl⟩
  rw [hCB] at MK
  obtain ⟨X1, e1⟩ : ∃ X1, w.alloc (.cells #[.int .i64 3] 3) = X1 := ⟨_, rfl⟩
  obtain ⟨X2, e2⟩ : ∃ X2, X1.alloc (.cells #[.int .i64 8] 3) = X2 := ⟨_, rfl⟩
  obtain ⟨X3, e3⟩ : ∃ X3, X2.alloc (.cells CB 5) = X3 := ⟨_, rfl⟩
  have z1 : X1.heap.size = w.heap.size + 1 := by rw [← e1]; simp
  have z2 : X2.heap.size = w.heap.size + 1 + 1 := by rw [← e2]; simp [z1]
  have z3 : X3.heap.size = w.heap.size + 1 + 1 + 1 := by rw [← e3]; simp [z2]
  obtain ⟨X4, e4, z4, r4, b4⟩ := ibox 35 X3 2 0 0 (some ⟨w.heap.size, 0, none⟩) 1 1 512 (some ⟨w.heap.size + 1, 0, none⟩) 1 1 (some ⟨w.heap.size + 1 + 1, 0, none⟩) 16 16
  have b1 : Below w.heap.size w X1 := by rw [← e1]; exact (Below.refl _ _).alloc (Nat.le_refl _) _
  have b2 : Below X1.heap.size X1 X2 := by rw [← e2]; exact (Below.refl _ _).alloc (Nat.le_refl _) _
  have b3 : Below X2.heap.size X2 X3 := by rw [← e3]; exact (Below.refl _ _).alloc (Nat.le_refl _) _
  have BW : Hid (Below w.heap.size w X4) := ((b1.trans (b2.mono (by omega))).trans (b3.mono (by omega))).trans (b4.mono (by omega))
  have I1 : Hid (IsI X4 (some ⟨w.heap.size, 0, none⟩) [3]) := by
    have q : IsI X1 (some ⟨w.heap.size, 0, none⟩) [3] := by rw [← e1]; exact one_isI w 3 (by omega)
    exact ((q.keep b2).keep b3).keep b4
  have I2 : Hid (IsI X4 (some ⟨w.heap.size + 1, 0, none⟩) [8]) := by
    have q : IsI X2 (some ⟨w.heap.size + 1, 0, none⟩) [8] := by rw [← e2, ← z1]; exact one_isI X1 8 (by omega)
    exact (q.keep b3).keep b4
  have I3 : Hid (IsB X4 (some ⟨w.heap.size + 1 + 1, 0, none⟩) (List.replicate 16 0)) := by
    have q : RowB X3 (w.heap.size + 1 + 1) (List.replicate 16 0) := by rw [← e3, ← z2, ← hCB]; exact Go.heap_alloc_new X2 _
    exact (q.isB all16).keep b4
  have T4 : Hid (Tabs X4) := hT.keep BW.out
  have C4 : Hid (Ic X4 X3.heap.size 2 0 0 (some ⟨w.heap.size, 0, none⟩) 1 1 512 (some ⟨w.heap.size + 1, 0, none⟩) 1 1 (some ⟨w.heap.size + 1 + 1, 0, none⟩) 16 16) := icell r4
  have E1 : Hid (w.alloc (.cells #[.int .i64 3] 3) = X1) := e1
  have E2 : Hid (X1.alloc (.cells #[.int .i64 8] 3) = X2) := e2
  have E3 : Hid (X2.alloc (.cells CB 5) = X3) := e3
  have E4 : Hid (X3.alloc (.cells #[.int .i64 2, .int .i64 0, .int .i64 0, .slice (some ⟨w.heap.size, 0, none⟩) 1 1, .int .i64 512, .slice (some ⟨w.heap.size + 1, 0, none⟩) 1 1, .slice (some ⟨w.heap.size + 1 + 1, 0, none⟩) 16 16] 35) = X4) := e4
  obtain ⟨BY, hBY⟩ : ∃ BY, outG ⟨2, 0, 0, [3], 512, [8], List.replicate 16 0⟩ = BY := ⟨_, rfl⟩
  have EO : Hid (outG ⟨2, 0, 0, [3], 512, [8], List.replicate 16 0⟩ = BY) := hBY
  have EE : Hid (errG ⟨2, 0, 0, [3], 512, [8], List.replicate 16 0⟩ = 0) := (out_ok ex_right).2
  have hb : BY = bodyG exM := by rw [← hBY]; exact (out_ok ex_right).1
  have LB : Hid (BY.length = 24) := by show _ = _; rw [hb, ex_body]; rfl
  have G0 : Hid (BY.getD 0 0 = 2) := by show _ = _; rw [hb, ex_body]; rfl
  have G3 : Hid (BY.getD 3 0 = 8) := by show _ = _; rw [hb, ex_body]; rfl
  have AB : Hid (AllB BY) := by show AllB _; rw [hb]; exact body_byte ex_right all16
  have RB : Hid (readG BY = (exM, 0)) := by show _ = _; rw [hb]; exact read_backG ex_right
  clear hT e1 e2 e3 e4 z1 z2 z4 r4 b1 b2 b3 b4 hCB hBY hb
  go_enter Tryz.func5, Tryz.ntmps5
  go_wp2_with fail
  rw [E1.out, E2.out, E3.out, E4.out]
  refine (ibody_any 2 0 0 512 (some ⟨w.heap.size, 0, none⟩) (some ⟨w.heap.size + 1, 0, none⟩) (some ⟨w.heap.size + 1 + 1, 0, none⟩) 1 1 16 [3] [8] (List.replicate 16 0) X4 T4.out I1.out I2.out I3.out (fun h => by cases h) (by decide) (by decide) (by decide) ⟨by omega, by omega⟩).mono ?_
  rw [EO.out, EE.out, LB.out]
  rintro e w5 ⟨a5, k5, rfl, o5, b5⟩
  have B5 : Hid (Below X4.heap.size X4 w5) := b5
  have I5 : Hid (IsB w5 a5 BY) := ownsB_isB AB.out o5
  have M5 : Hid (a5 = none → BY = []) := fun h => ((rownsB_isL o5).2.2 h).1
  have C5 : Hid (Ic w5 X3.heap.size 2 0 0 (some ⟨w.heap.size, 0, none⟩) 1 1 512 (some ⟨w.heap.size + 1, 0, none⟩) 1 1 (some ⟨w.heap.size + 1 + 1, 0, none⟩) 16 16) := C4.out.keep b5
  have P5 := iread_any a5 k5 BY w5 I5.out (by rw [LB.out]; omega) M5.out (T4.out.keep b5)
  rw [LB.out] at P5
  have Q5 : Hid (Calls Tryz.prog 17 #[.slice a5 24 k5] w5 (ReadI w5 BY)) := P5
  clear o5 b5 P5
  go_wp2_with fail
  refine Calls.mono Q5.out ?_
  intro e w6 h6
  obtain ⟨la, lc, oa, oc, ba, bc, rfl, iO, b6⟩ := readI_ex h6 RB.out
  have C6 : Hid (Ic w6 X3.heap.size 2 0 0 (some ⟨w.heap.size, 0, none⟩) 1 1 512 (some ⟨w.heap.size + 1, 0, none⟩) 1 1 (some ⟨w.heap.size + 1 + 1, 0, none⟩) 16 16) := C5.out.keep b6
  obtain ⟨X7, e7, z7', r7, b7⟩ := ibox 35 w6 2 0 0 la 1 lc 512 oa 1 oc ba 16 bc
  have E7 : Hid (w6.alloc (.cells #[.int .i64 2, .int .i64 0, .int .i64 0, .slice la 1 lc, .int .i64 512, .slice oa 1 oc, .slice ba 16 bc] 35) = X7) := e7
  have B7 : Hid (Below X4.heap.size X4 X7) := (B5.out.trans (b6.mono B5.out.size)).trans (b7.mono (by have := b6.size; have := B5.out.size; omega))
  obtain ⟨x0, x1, x2, x3, x4, x5, x6⟩ := C6.out.keep b7
  obtain ⟨y0, y1, y2, y3, y4, y5, y6⟩ := icell r7
  obtain ⟨_, q | ⟨b, off, rfl, q1, q2⟩⟩ := (I5.out.keep b6).keep b7
  · have := LB.out; rw [q] at this; simp at this
  have k0 := q2 0 (by rw [LB.out]; omega)
  have k3 := q2 3 (by rw [LB.out]; omega)
  rw [G0.out] at k0
  rw [G3.out] at k3
  have k0' : X7.cell? ⟨b, off, none⟩ = some (.int .u8 2) := k0
  obtain ⟨_, q | ⟨b', off', rfl, q3, q4⟩⟩ := iO.keep b7
  · cases q
  have j0 : X7.cell? ⟨b', off' + 0, none⟩ = some (.int .i64 8) := q4 0 (by show 0 < 1; omega)
  have j0' : X7.cell? ⟨b', off', none⟩ = some (.int .i64 8) := j0
  have BF : Hid (Below w.heap.size w X7) := BW.out.trans (B7.out.mono BW.out.size)
  clear h6 iO b6 e7 z7' r7 b7 q1 q2 q3 q4
  rw [z3] at x0 x1 x2 x3 x4 x5 x6
  go_upto_region 4 with (fail)
  rw [E7.out]
  go_wp2_with (go_at_call 24; refine (isize_any 2 0 0 (some ⟨w.heap.size, 0, none⟩) 1 1 [3] 16 _ rfl ex_size (T4.out.keep B7.out) (I1.out.keep B7.out) (by decide) ⟨by omega, by omega⟩).mono ?_; rintro e w8 ⟨rfl, b8⟩; have B8 : Hid (Below w.heap.size w w8) := BF.out.trans (b8.mono BF.out.size); have yy4 := bcell b8 y4; have yy5 := bcell b8 y5; have yy3 := bcell b8 y3; have jj0 := bcell b8 j0; have jj0' := bcell b8 j0'; clear b8)
  go_ret
  exact ⟨rfl, B8.out⟩
end Go.Proofs.YtbfamjnnlcopiaaGreatDoor

/- The document's slot: is a place where a live slot begins? -/
namespace Go.Proofs.YtbfamjnnlcopiaaGreatDoor
open Go.RowKit
set_option linter.unusedVariables false
set_option maxRecDepth 4000

theorem qof_q (n co : Int) (w : World) (h : ofI n = co) :
    Calls Tryz.prog 92 #[.int .i64 n] w fun e w' => e = .returned (.int .i64 co) ∧ w' = w := by
  subst h; exact (qof_any n w).mono (fun e w' h => ⟨h.1, h.2.symm⟩)
theorem any_snoc_no {ts : List Td} {P : Td → Bool} {n : Nat} (hn : ts.length = n) (h : ∀ j, j < n → P (tdD ts j) = false) : ts.any P = false := by
  cases e : ts.any P with
  | false => rfl
  | true =>
    obtain ⟨t, ht, hp⟩ := List.any_eq_true.1 e
    obtain ⟨j, hj, rfl⟩ := List.getElem_of_mem ht
    have := h j (by omega)
    rw [tdD_at hj, hp] at this
    cases this
theorem any_yes {ts : List Td} {P : Td → Bool} {j : Nat} (hj : j < ts.length) (h : P (tdD ts j) = true) : ts.any P = true := by
  rw [List.any_eq_true]
  exact ⟨ts[j], List.getElem_mem hj, by rw [← tdD_at hj]; exact h⟩
theorem any_no {l : List Int} {P : Int → Bool} (h : ∀ m, m < l.length → P (l.getD m 0) = false) : l.any P = false := by
  cases e : l.any P with
  | false => rfl
  | true =>
    obtain ⟨t, ht, hp⟩ := List.any_eq_true.1 e
    obtain ⟨m, hm, rfl⟩ := List.getElem_of_mem ht
    have := h m hm
    simp [List.getD, hm] at this
    rw [hp] at this
    cases this
theorem any_one {l : List Int} {P : Int → Bool} {m : Nat} (hm : m < l.length) (h : P (l.getD m 0) = true) : l.any P = true := by
  rw [List.any_eq_true]
  exact ⟨l[m], List.getElem_mem hm, by simpa [List.getD, hm] using h⟩
set_option maxRecDepth 20000 in
set_option maxHeartbeats 8000000 in
theorem rslot_any (V : Vw) (A : Va) (x z : Int) (w : World) (h : Rv w V A) (hV : Hold V 3) (r : Bool) (hr : slotB V.ts x z = r) :
    Calls Tryz.prog 71 #[.agg #[.int .i64 V.base, .int .i64 V.pgs, .slice A.ka A.kn A.kc, .slice A.ra A.rn A.rc, .slice A.sa A.sn A.sc, .slice A.ba A.bn A.bc], .int .i64 x, .int .i64 z] w fun e w' => e = .returned (.bool r) ∧ Below w.heap.size w w' := by
  have hri : ∀ j, j < V.ts.length → rightT (tdD V.ts j) := fun j hj => (hV.right (Nat.le_refl _) j hj).1
  have hpg : ∀ j, j < V.ts.length → (tdD V.ts j).p ≤ 4096 := fun j hj => by have := (hV.right (Nat.le_refl _) j hj).2; have := hV.r1 (by decide); omega
  obtain ⟨base, pgs, ks, rs, ts, bs⟩ := V
  obtain ⟨ka, ra, sa, ba, kn, rn, sn, bn, kc, rc, sc, bc⟩ := A
  obtain ⟨E, hE, bE, rE⟩ := vbox w ⟨base, pgs, ks, rs, ts, bs⟩ ⟨ka, ra, sa, ba, kn, rn, sn, bn, kc, rc, sc, bc⟩
  simp only at hE rE hr hri hpg
  obtain ⟨nb, hnb⟩ : ∃ nb, w.heap.size = nb := ⟨_, rfl⟩
  rw [hnb] at rE
  have d4 : E.cell? ⟨nb, 4, none⟩ = some (.slice sa sn sc) := cell_of_row _ _ 4 _ _ _ rE
  have HBE : Hid (Below w.heap.size w E) := bE
  have HTS : Hid (RdT E sa ts) := h.ts.keep bE
  have sl : ts.length = sn := h.sl
  have tz : ts.length ≤ 64 := h.tz
  have s64 : sn ≤ 64 := by omega
  have HSL : Hid (ts.length = sn) := sl
  have HRI : Hid (∀ j, j < ts.length → rightT (tdD ts j) ∧ (tdD ts j).p ≤ 4096) := fun j hj => ⟨hri j hj, hpg j hj⟩
  have HR : Hid (slotB ts x z = r) := hr
  clear h hr hV hri hpg sl tz rE bE
  go_enter Tryz.func71, Tryz.ntmps71
  go_wp2_with fail
  go_loopw [18] (fun iv wz => ∃ k : Nat, k ≤ sn ∧ iv = .int .i64 (k : Nat) ∧ (∀ j, j < k → (fitS (tdD ts j) z && (tdD ts j).l.any fun i => decide (atS (tdD ts j) i = x)) = false) ∧ Below E.heap.size E wz) (fun iv _ => sn - lenW iv)
  case atStart => exact ⟨0, Nat.zero_le _, rfl, fun j hj => by omega, by first | exact Below.refl _ _ | (rw [← hE]; exact Below.refl _ _)⟩
  case round =>
    obtain ⟨k, hk, rfl, hno, hb⟩ := hrel
    rename World => wz
    have HNO : Hid (∀ j, j < k → (fitS (tdD ts j) z && (tdD ts j).l.any fun i => decide (atS (tdD ts j) i = x)) = false) := hno
    have BZ : Hid (Below E.heap.size E wz) := hb
    have FB : Hid (∀ w', Below wz.heap.size wz w' → Below E.heap.size E w' ∧ Below w.heap.size w w') := fun w' b' => by
      have b2 := BZ.out.trans (b'.mono BZ.out.size)
      exact ⟨b2, HBE.out.trans (b2.mono HBE.out.size)⟩
    clear hno hb
    by_cases hkn : k < sn
    · have hkl : k < ts.length := by rw [HSL.out]; exact hkn
      obtain ⟨g, off, la, lk, rfl, q0, q1, q2, q3, hI, hlm⟩ := (HTS.out.keep BZ.out) k hkl
      rw [← tdD_at hkl] at q0 q1 q2 q3 hI hlm
      obtain ⟨hrt, hp4⟩ := HRI.out k hkl
      obtain ⟨t, ht⟩ : ∃ t, tdD ts k = t := ⟨_, rfl⟩
      have HTD : Hid (tdD ts k = t ∧ k < ts.length) := ⟨ht, hkl⟩
      rw [ht] at q0 q1 q2 q3 hI hlm hrt hp4
      have hat := fun i hi => right_at hrt (k := i) hi
      obtain ⟨p, c, s, l⟩ := t
      simp only at q0 q1 q2 q3 hI hlm hp4 hat
      obtain ⟨ll, hll⟩ : ∃ ll, l.length = ll := ⟨_, rfl⟩
      have HLL : Hid (l.length = ll) := hll
      have RT := newE_rt hrt.1
      have HRT : Hid (Rt p c s) := RT
      have HRI2 : Hid (newE p c s = 0 ∧ okL (slN c) (-1) l = true) := hrt
      have HAT : Hid (∀ i, i ∈ l → 0 ≤ i ∧ i < slN c ∧ 256 * p ≤ atS ⟨p, c, s, l⟩ i ∧ atS ⟨p, c, s, l⟩ i < 256 * p + 256 ∧ 0 ≤ p) := hat
      have LL : Hid (l.length ≤ maxLen) := hlm
      have l9 : ll ≤ 9223372036854775807 := by unfold maxLen at hlm; omega
      obtain ⟨D, hD⟩ : ∃ D, wz.alloc (.cells #[.int .i64 p, .int .i64 c, .int .i64 s, .slice la ll lk] 33) = D := ⟨_, rfl⟩
      have bD : Below wz.heap.size wz D := by rw [← hD]; exact (Below.refl _ wz).alloc (Nat.le_refl _) _
      have rD : D.heap[wz.heap.size]? = some (.cells #[.int .i64 p, .int .i64 c, .int .i64 s, .slice la ll lk] 33 (0, 0)) := by rw [← hD]; exact Go.heap_alloc_new wz _
      have RD : Hid (D.heap[wz.heap.size]? = some (.cells #[.int .i64 p, .int .i64 c, .int .i64 s, .slice la ll lk] 33 (0, 0))) := rD
      have BD : Hid (Below wz.heap.size wz D) := bD
      have ID : Hid (IsI D la l) := hI.keep bD
      rw [hll] at q3
      obtain ⟨ng, hng⟩ : ∃ ng, wz.heap.size = ng := ⟨_, rfl⟩
      rw [hng] at rD RD
      have e0 : D.cell? ⟨ng, 0, none⟩ = some (.int .i64 p) := cell_of_row _ _ 0 _ _ _ rD
      have e1 : D.cell? ⟨ng, 1, none⟩ = some (.int .i64 c) := cell_of_row _ _ 1 _ _ _ rD
      have e2 : D.cell? ⟨ng, 2, none⟩ = some (.int .i64 s) := cell_of_row _ _ 2 _ _ _ rD
      have e3 : D.cell? ⟨ng, 3, none⟩ = some (.slice la ll lk) := cell_of_row _ _ 3 _ _ _ rD
      have k0 : (k : Int) < (sn : Int) := by omega
      obtain ⟨co, hco⟩ : ∃ co, ofI z = co := ⟨_, rfl⟩
      have HCO : Hid (ofI z = co) := hco
      have STEP : Hid ((fitS ⟨p, c, s, l⟩ z && l.any fun i => decide (atS ⟨p, c, s, l⟩ i = x)) = false → ∀ j, j < k + 1 → (fitS (tdD ts j) z && (tdD ts j).l.any fun i => decide (atS (tdD ts j) i = x)) = false) := fun hh j hj => by
        rcases Nat.lt_or_eq_of_le (Nat.le_of_lt_succ hj) with e | rfl
        · exact HNO.out j e
        · rw [HTD.out.1]; exact hh
      have RO := rof_any p c s la lk l (slN c) true D ID.out LL.out HRI2.out.1 rfl HRI2.out.2
      rw [hll] at RO
      have HRO : Hid (Calls Tryz.prog 19 #[.agg #[.int .i64 p, .int .i64 c, .int .i64 s, .slice la ll lk]] D (ROp D p c s (slN c) l true)) := RO
      clear hrt hat hI hlm bD rD RO hll RT hco hkl ht
      go_wp2_with fail
      refine HRO.out.mono ?_
      rintro e w2 ⟨b2, ⟨hf, _⟩ | ⟨_, mb, mg, rfl, rf, g1, g2⟩⟩
      · cases hf
      have RF : Hid (Ref w2 mb mg p c s (slN c) (fOf l)) := rf
      have B2 : Hid (Below wz.heap.size wz w2) := BD.out.trans (b2.mono BD.out.size)
      have m1 : w2.cell? ⟨mb, 1, none⟩ = some (.int .i64 c) := rf.c1
      have m2 : w2.cell? ⟨mb, 2, none⟩ = some (.int .i64 s) := rf.c2
      have f3 : w2.cell? ⟨ng, 3, none⟩ = some (.slice la ll lk) := bcell b2 e3
      have I2 : Hid (IsI w2 la l) := ID.out.keep b2
      clear b2 rf
      by_cases hc : c = co
      · have b1 : decide (c = co) = true := decide_eq_true hc
        have b2 : (c == co) = true := by rw [beq_iff_eq]; exact hc
        have b3 : (c != co) = false := by rw [bne, b2]; rfl
        by_cases c7 : c = 7
        · have b4 : (c == 7) = true := by rw [beq_iff_eq]; exact c7
          by_cases sz : s = z
          · have b5 : (s == z) = true := by rw [beq_iff_eq]; exact sz
            have b6 : (s != z) = false := by rw [bne, b5]; rfl
            have HFIT : Hid (fitS ⟨p, c, s, l⟩ z = true) := decide_eq_true ⟨hc.trans HCO.out.symm, fun _ => sz⟩
            clear hc c7 sz b1
            go_wp2_with fail
            go_quiet ((go_at_call 92; first | exact Calls.quiet_of_same (qof_q z co _ HCO.out) | exact (qof_q z co _ HCO.out).mono (fun e w'' h => ⟨h.1, _, h.2⟩)))
            go_wp2_with fail
            go_loopw [56] (fun iv wy => ∃ m q : Nat, m ≤ ll ∧ iv = .int .i64 (m : Nat) ∧ wy = w2.drewN q ∧ ∀ j, j < m → decide (atS ⟨p, c, s, l⟩ (l.getD j 0) = x) = false) (fun iv _ => ll - lenW iv)
            case atStart => exact ⟨0, _, Nat.zero_le _, rfl, rfl, fun j hj => by omega⟩
            case round =>
              obtain ⟨m, q, hm, rfl, rfl, hq⟩ := hrel
              have HQ : Hid (∀ j, j < m → decide (atS ⟨p, c, s, l⟩ (l.getD j 0) = x) = false) := hq
              clear hq
              by_cases hml : m < ll
              · have hml' : m < l.length := by rw [HLL.out]; exact hml
                obtain ⟨gl, ol, rfl, cl⟩ := I2.out.get m hml'
                obtain ⟨a1, a2, a3, a4, a5⟩ := HAT.out (l.getD m 0) (by simp [List.getD, hml'])
                obtain ⟨y, hy⟩ : ∃ y, l.getD m 0 = y := ⟨_, rfl⟩
                rw [hy] at cl a1 a2 a3 a4
                obtain ⟨n, rfl⟩ : ∃ n : Nat, y = (n : Int) := ⟨y.toNat, by omega⟩
                obtain ⟨at9, hat9⟩ : ∃ v, atS ⟨p, c, s, l⟩ (n : Int) = v := ⟨_, rfl⟩
                have RA := rat_in mb mg (slN c) p c s (fOf l) n (w2.drewN q) (RF.out.drewN q) HRT.out rfl (by omega)
                have e9 : 256 * p + (n : Int) * szI c s = at9 := hat9
                rw [e9] at RA
                have HRA : Hid (Calls Tryz.prog 22 #[.pointer (some ⟨mb, 0, none⟩), .int .i64 (n : Nat)] (w2.drewN q) fun e w' => e = .returned (.tuple #[.int .i64 at9, .bool true]) ∧ ∃ m, w' = (w2.drewN q).drewN m) := RA
                have m0 : (m : Int) < (ll : Int) := by omega
                have HGE : Hid (atS ⟨p, c, s, l⟩ (l.getD m 0) = at9) := by show _ = _; rw [hy]; exact hat9
                clear RA e9 hat9 hy a1 a2 a3 a4 a5
                by_cases hx : at9 = x
                · have b0 : (at9 == x) = true := by rw [beq_iff_eq]; exact hx
                  have F : Hid (true = r) := by
                    show true = r
                    rw [← HR.out]
                    refine (any_yes HTD.out.2 ?_).symm
                    rw [HTD.out.1, HFIT.out, Bool.true_and]
                    exact any_one hml' (decide_eq_true (by rw [HGE.out]; exact hx))
                  clear hx hml'
                  go_wp2_with (go_at_call 22; refine HRA.out.mono ?_; rintro e w' ⟨rfl, q9, rfl⟩)
                  have BB := (FB.out w2 B2.out).2
                  go_ret
                  exact ⟨ret_bool F.out, by first | exact below_drewN BB _ | exact below_drewN (below_drewN BB _) _ | exact hnb ▸ below_drewN BB _ | exact hnb ▸ below_drewN (below_drewN BB _) _⟩
                · have b0 : (at9 == x) = false := by rw [beq_eq_false_iff_ne]; exact hx
                  have NQ : Hid (∀ j, j < m + 1 → decide (atS ⟨p, c, s, l⟩ (l.getD j 0) = x) = false) := fun j hj => by
                    rcases Nat.lt_or_eq_of_le (Nat.le_of_lt_succ hj) with e | rfl
                    · exact HQ.out j e
                    · exact decide_eq_false (by rw [HGE.out]; exact hx)
                  clear hx hml'
                  go_wp2_with (go_at_call 22; refine HRA.out.mono ?_; rintro e w' ⟨rfl, q9, rfl⟩)
                  go_roundw
                  case rel => exact ⟨m + 1, _, by omega, by congr 1, by first | rfl | exact World.drewN_drewN .., NQ.out⟩
                  case measure => simp [lenW]; omega
              · obtain rfl : m = ll := by omega
                have NX := STEP.out (by rw [any_no (fun j hj => HQ.out j (by rw [HLL.out] at hj; exact hj)), Bool.and_false])
                have BB := (FB.out w2 B2.out).1
                go_wp2
                go_roundw
                case rel => exact ⟨k + 1, by omega, by congr 1, NX, below_drewN BB _⟩
                case measure => simp [lenW]; omega
          · have b5 : (s == z) = false := by rw [beq_eq_false_iff_ne]; exact sz
            have b6 : (s != z) = true := by rw [bne, b5]; rfl
            have HF : (fitS ⟨p, c, s, l⟩ z && l.any fun i => decide (atS ⟨p, c, s, l⟩ i = x)) = false := by rw [show fitS ⟨p, c, s, l⟩ z = false from decide_eq_false (fun q => sz (q.2 c7)), Bool.false_and]
            clear hc c7 sz b1
            have NX := STEP.out HF
            go_wp2_with fail
            go_quiet ((go_at_call 92; first | exact Calls.quiet_of_same (qof_q z co _ HCO.out) | exact (qof_q z co _ HCO.out).mono (fun e w'' h => ⟨h.1, _, h.2⟩)))
            go_wp2
            have BB := (FB.out w2 B2.out).1
            go_roundw
            case rel => exact ⟨k + 1, by omega, by congr 1, NX, below_drewN BB _⟩
            case measure => simp [lenW]; omega
        · have b4 : (c == 7) = false := by rw [beq_eq_false_iff_ne]; exact c7
          have HFIT : Hid (fitS ⟨p, c, s, l⟩ z = true) := decide_eq_true ⟨hc.trans HCO.out.symm, fun q => absurd q c7⟩
          clear hc c7 b1
          go_wp2_with fail
          go_quiet ((go_at_call 92; first | exact Calls.quiet_of_same (qof_q z co _ HCO.out) | exact (qof_q z co _ HCO.out).mono (fun e w'' h => ⟨h.1, _, h.2⟩)))
          go_wp2_with fail
          go_loopw [56] (fun iv wy => ∃ m q : Nat, m ≤ ll ∧ iv = .int .i64 (m : Nat) ∧ wy = w2.drewN q ∧ ∀ j, j < m → decide (atS ⟨p, c, s, l⟩ (l.getD j 0) = x) = false) (fun iv _ => ll - lenW iv)
          case atStart => exact ⟨0, _, Nat.zero_le _, rfl, rfl, fun j hj => by omega⟩
          case round =>
            obtain ⟨m, q, hm, rfl, rfl, hq⟩ := hrel
            have HQ : Hid (∀ j, j < m → decide (atS ⟨p, c, s, l⟩ (l.getD j 0) = x) = false) := hq
            clear hq
            by_cases hml : m < ll
            · have hml' : m < l.length := by rw [HLL.out]; exact hml
              obtain ⟨gl, ol, rfl, cl⟩ := I2.out.get m hml'
              obtain ⟨a1, a2, a3, a4, a5⟩ := HAT.out (l.getD m 0) (by simp [List.getD, hml'])
              obtain ⟨y, hy⟩ : ∃ y, l.getD m 0 = y := ⟨_, rfl⟩
              rw [hy] at cl a1 a2 a3 a4
              obtain ⟨n, rfl⟩ : ∃ n : Nat, y = (n : Int) := ⟨y.toNat, by omega⟩
              obtain ⟨at9, hat9⟩ : ∃ v, atS ⟨p, c, s, l⟩ (n : Int) = v := ⟨_, rfl⟩
              have RA := rat_in mb mg (slN c) p c s (fOf l) n (w2.drewN q) (RF.out.drewN q) HRT.out rfl (by omega)
              have e9 : 256 * p + (n : Int) * szI c s = at9 := hat9
              rw [e9] at RA
              have HRA : Hid (Calls Tryz.prog 22 #[.pointer (some ⟨mb, 0, none⟩), .int .i64 (n : Nat)] (w2.drewN q) fun e w' => e = .returned (.tuple #[.int .i64 at9, .bool true]) ∧ ∃ m, w' = (w2.drewN q).drewN m) := RA
              have m0 : (m : Int) < (ll : Int) := by omega
              have HGE : Hid (atS ⟨p, c, s, l⟩ (l.getD m 0) = at9) := by show _ = _; rw [hy]; exact hat9
              clear RA e9 hat9 hy a1 a2 a3 a4 a5
              by_cases hx : at9 = x
              · have b0 : (at9 == x) = true := by rw [beq_iff_eq]; exact hx
                have F : Hid (true = r) := by
                  show true = r
                  rw [← HR.out]
                  refine (any_yes HTD.out.2 ?_).symm
                  rw [HTD.out.1, HFIT.out, Bool.true_and]
                  exact any_one hml' (decide_eq_true (by rw [HGE.out]; exact hx))
                clear hx hml'
                go_wp2_with (go_at_call 22; refine HRA.out.mono ?_; rintro e w' ⟨rfl, q9, rfl⟩)
                have BB := (FB.out w2 B2.out).2
                go_ret
                exact ⟨ret_bool F.out, by first | exact below_drewN BB _ | exact below_drewN (below_drewN BB _) _ | exact hnb ▸ below_drewN BB _ | exact hnb ▸ below_drewN (below_drewN BB _) _⟩
              · have b0 : (at9 == x) = false := by rw [beq_eq_false_iff_ne]; exact hx
                have NQ : Hid (∀ j, j < m + 1 → decide (atS ⟨p, c, s, l⟩ (l.getD j 0) = x) = false) := fun j hj => by
                  rcases Nat.lt_or_eq_of_le (Nat.le_of_lt_succ hj) with e | rfl
                  · exact HQ.out j e
                  · exact decide_eq_false (by rw [HGE.out]; exact hx)
                clear hx hml'
                go_wp2_with (go_at_call 22; refine HRA.out.mono ?_; rintro e w' ⟨rfl, q9, rfl⟩)
                go_roundw
                case rel => exact ⟨m + 1, _, by omega, by congr 1, by first | rfl | exact World.drewN_drewN .., NQ.out⟩
                case measure => simp [lenW]; omega
            · obtain rfl : m = ll := by omega
              have NX := STEP.out (by rw [any_no (fun j hj => HQ.out j (by rw [HLL.out] at hj; exact hj)), Bool.and_false])
              have BB := (FB.out w2 B2.out).1
              go_wp2
              go_roundw
              case rel => exact ⟨k + 1, by omega, by congr 1, NX, below_drewN BB _⟩
              case measure => simp [lenW]; omega
      · have b2 : (c == co) = false := by rw [beq_eq_false_iff_ne]; exact hc
        have b3 : (c != co) = true := by rw [bne, b2]; rfl
        have HF : (fitS ⟨p, c, s, l⟩ z && l.any fun i => decide (atS ⟨p, c, s, l⟩ i = x)) = false := by rw [show fitS ⟨p, c, s, l⟩ z = false from decide_eq_false (fun q => hc (q.1.trans HCO.out)), Bool.false_and]
        clear hc
        have NX := STEP.out HF
        go_wp2_with fail
        go_quiet ((go_at_call 92; first | exact Calls.quiet_of_same (qof_q z co _ HCO.out) | exact (qof_q z co _ HCO.out).mono (fun e w'' h => ⟨h.1, _, h.2⟩)))
        go_wp2
        have BB := (FB.out w2 B2.out).1
        go_roundw
        case rel => exact ⟨k + 1, by omega, by congr 1, NX, below_drewN BB _⟩
        case measure => simp [lenW]; omega
    · obtain rfl : k = sn := by omega
      have F : Hid (false = r) := by
        show false = r
        rw [← HR.out]
        exact (any_snoc_no HSL.out HNO.out).symm
      have BB := (FB.out wz (Below.refl _ _)).2
      go_wp2
      go_ret
      exact ⟨ret_bool F.out, by first | exact BB | exact hnb ▸ BB⟩
end Go.Proofs.YtbfamjnnlcopiaaGreatDoor
