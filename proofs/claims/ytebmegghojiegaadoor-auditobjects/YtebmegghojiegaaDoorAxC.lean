/- The document's slot: is a place where a live slot begins? -/
import Derived.Test.YtebmegghojiegaaDoorAxK
namespace Go.Proofs.YtebmegghojiegaaDoor
open Go.RowKit
set_option linter.unusedVariables false

theorem qof_q (n co : Int) (w : World) (h : ofI n = co) :
    Calls Tryd.prog 75 #[.int .i64 n] w fun e w' => e = .returned (.int .i64 co) ∧ w' = w := by
  subst h; exact (qof_any n w).mono (fun e w' h => ⟨h.1, h.2.symm⟩)
theorem any_snoc_no {ts : List Td} {P : Td → Bool} {n : Nat} (hn : ts.length = n) (h : ∀ j, j < n → P (tdD ts j) = false) : ts.any P = false := by
  cases e : ts.any P with
  | false => rfl
  | true =>
    obtain ⟨t, ht, hp⟩ := List.any_eq_true.1 e
    obtain ⟨j, hj, rfl⟩ := List.getElem_of_mem ht
    have := h j (by omega)
    rw [tdD_at hj, hp] at this
    cases this
theorem any_yes {ts : List Td} {P : Td → Bool} {j : Nat} (hj : j < ts.length) (h : P (tdD ts j) = true) : ts.any P = true := by
  rw [List.any_eq_true]
  exact ⟨ts[j], List.getElem_mem hj, by rw [← tdD_at hj]; exact h⟩
theorem any_no {l : List Int} {P : Int → Bool} (h : ∀ m, m < l.length → P (l.getD m 0) = false) : l.any P = false := by
  cases e : l.any P with
  | false => rfl
  | true =>
    obtain ⟨t, ht, hp⟩ := List.any_eq_true.1 e
    obtain ⟨m, hm, rfl⟩ := List.getElem_of_mem ht
    have := h m hm
    simp [List.getD, hm] at this
    rw [hp] at this
    cases this
theorem any_one {l : List Int} {P : Int → Bool} {m : Nat} (hm : m < l.length) (h : P (l.getD m 0) = true) : l.any P = true := by
  rw [List.any_eq_true]
  exact ⟨l[m], List.getElem_mem hm, by simpa [List.getD, hm] using h⟩
set_option maxRecDepth 20000 in
set_option maxHeartbeats 8000000 in
theorem rslot_any (V : Vw) (A : Va) (x z : Int) (w : World) (h : Rv w V A) (hV : Hold V 3) (r : Bool) (hr : slotB V.ts x z = r) :
    Calls Tryd.prog 53 #[.agg #[.int .i64 V.base, .int .i64 V.pgs, .slice A.ka A.kn A.kc, .slice A.ra A.rn A.rc, .slice A.sa A.sn A.sc, .slice A.ba A.bn A.bc], .int .i64 x, .int .i64 z] w fun e w' => e = .returned (.bool r) ∧ Below w.heap.size w w' := by
  have hri : ∀ j, j < V.ts.length → rightT (tdD V.ts j) := fun j hj => (hV.right (Nat.le_refl _) j hj).1
  have hpg : ∀ j, j < V.ts.length → (tdD V.ts j).p ≤ 4096 := fun j hj => by have := (hV.right (Nat.le_refl _) j hj).2; have := hV.r1 (by decide); omega
  obtain ⟨base, pgs, ks, rs, ts, bs⟩ := V
  obtain ⟨ka, ra, sa, ba, kn, rn, sn, bn, kc, rc, sc, bc⟩ := A
  obtain ⟨E, hE, bE, rE⟩ := vbox w ⟨base, pgs, ks, rs, ts, bs⟩ ⟨ka, ra, sa, ba, kn, rn, sn, bn, kc, rc, sc, bc⟩
  simp only at hE rE hr hri hpg
  obtain ⟨nb, hnb⟩ : ∃ nb, w.heap.size = nb := ⟨_, rfl⟩
  rw [hnb] at rE
  have d4 : E.cell? ⟨nb, 4, none⟩ = some (.slice sa sn sc) := cell_of_row _ _ 4 _ _ _ rE
  have HBE : Hid (Below w.heap.size w E) := bE
  have HTS : Hid (RdT E sa ts) := h.ts.keep bE
  have sl : ts.length = sn := h.sl
  have tz : ts.length ≤ 64 := h.tz
  have s64 : sn ≤ 64 := by omega
  have HSL : Hid (ts.length = sn) := sl
  have HRI : Hid (∀ j, j < ts.length → rightT (tdD ts j) ∧ (tdD ts j).p ≤ 4096) := fun j hj => ⟨hri j hj, hpg j hj⟩
  have HR : Hid (slotB ts x z = r) := hr
  clear h hr hV hri hpg sl tz rE bE
  go_enter Tryd.func53, Tryd.ntmps53
  go_wp2_with fail
  go_loopw [18] (fun iv wz => ∃ k : Nat, k ≤ sn ∧ iv = .int .i64 (k : Nat) ∧ (∀ j, j < k → (fitS (tdD ts j) z && (tdD ts j).l.any fun i => decide (atS (tdD ts j) i = x)) = false) ∧ Below E.heap.size E wz) (fun iv _ => sn - lenW iv)
  case atStart => exact ⟨0, Nat.zero_le _, rfl, fun j hj => by omega, by first | exact Below.refl _ _ | (rw [← hE]; exact Below.refl _ _)⟩
  case round =>
    obtain ⟨k, hk, rfl, hno, hb⟩ := hrel
    rename World => wz
    have HNO : Hid (∀ j, j < k → (fitS (tdD ts j) z && (tdD ts j).l.any fun i => decide (atS (tdD ts j) i = x)) = false) := hno
    have BZ : Hid (Below E.heap.size E wz) := hb
    have FB : Hid (∀ w', Below wz.heap.size wz w' → Below E.heap.size E w' ∧ Below w.heap.size w w') := fun w' b' => by
      have b2 := BZ.out.trans (b'.mono BZ.out.size)
      exact ⟨b2, HBE.out.trans (b2.mono HBE.out.size)⟩
    clear hno hb
    by_cases hkn : k < sn
    · have hkl : k < ts.length := by rw [HSL.out]; exact hkn
      obtain ⟨g, off, la, lk, rfl, q0, q1, q2, q3, hI, hlm⟩ := (HTS.out.keep BZ.out) k hkl
      rw [← tdD_at hkl] at q0 q1 q2 q3 hI hlm
      obtain ⟨hrt, hp4⟩ := HRI.out k hkl
      obtain ⟨t, ht⟩ : ∃ t, tdD ts k = t := ⟨_, rfl⟩
      have HTD : Hid (tdD ts k = t ∧ k < ts.length) := ⟨ht, hkl⟩
      rw [ht] at q0 q1 q2 q3 hI hlm hrt hp4
      have hat := fun i hi => right_at hrt (k := i) hi
      obtain ⟨p, c, s, l⟩ := t
      simp only at q0 q1 q2 q3 hI hlm hp4 hat
      obtain ⟨ll, hll⟩ : ∃ ll, l.length = ll := ⟨_, rfl⟩
      have HLL : Hid (l.length = ll) := hll
      have RT := newE_rt hrt.1
      have HRT : Hid (Rt p c s) := RT
      have HRI2 : Hid (newE p c s = 0 ∧ okL (slN c) (-1) l = true) := hrt
      have HAT : Hid (∀ i, i ∈ l → 0 ≤ i ∧ i < slN c ∧ 256 * p ≤ atS ⟨p, c, s, l⟩ i ∧ atS ⟨p, c, s, l⟩ i < 256 * p + 256 ∧ 0 ≤ p) := hat
      have LL : Hid (l.length ≤ maxLen) := hlm
      have l9 : ll ≤ 9223372036854775807 := by unfold maxLen at hlm; omega
      obtain ⟨D, hD⟩ : ∃ D, wz.alloc (.cells #[.int .i64 p, .int .i64 c, .int .i64 s, .slice la ll lk] 58) = D := ⟨_, rfl⟩
      have bD : Below wz.heap.size wz D := by rw [← hD]; exact (Below.refl _ wz).alloc (Nat.le_refl _) _
      have rD : D.heap[wz.heap.size]? = some (.cells #[.int .i64 p, .int .i64 c, .int .i64 s, .slice la ll lk] 58 (0, 0)) := by rw [← hD]; exact Go.heap_alloc_new wz _
      have RD : Hid (D.heap[wz.heap.size]? = some (.cells #[.int .i64 p, .int .i64 c, .int .i64 s, .slice la ll lk] 58 (0, 0))) := rD
      have BD : Hid (Below wz.heap.size wz D) := bD
      have ID : Hid (IsI D la l) := hI.keep bD
      rw [hll] at q3
      obtain ⟨ng, hng⟩ : ∃ ng, wz.heap.size = ng := ⟨_, rfl⟩
      rw [hng] at rD RD
      have e0 : D.cell? ⟨ng, 0, none⟩ = some (.int .i64 p) := cell_of_row _ _ 0 _ _ _ rD
      have e1 : D.cell? ⟨ng, 1, none⟩ = some (.int .i64 c) := cell_of_row _ _ 1 _ _ _ rD
      have e2 : D.cell? ⟨ng, 2, none⟩ = some (.int .i64 s) := cell_of_row _ _ 2 _ _ _ rD
      have e3 : D.cell? ⟨ng, 3, none⟩ = some (.slice la ll lk) := cell_of_row _ _ 3 _ _ _ rD
      have k0 : (k : Int) < (sn : Int) := by omega
      obtain ⟨co, hco⟩ : ∃ co, ofI z = co := ⟨_, rfl⟩
      have HCO : Hid (ofI z = co) := hco
      have STEP : Hid ((fitS ⟨p, c, s, l⟩ z && l.any fun i => decide (atS ⟨p, c, s, l⟩ i = x)) = false → ∀ j, j < k + 1 → (fitS (tdD ts j) z && (tdD ts j).l.any fun i => decide (atS (tdD ts j) i = x)) = false) := fun hh j hj => by
        rcases Nat.lt_or_eq_of_le (Nat.le_of_lt_succ hj) with e | rfl
        · exact HNO.out j e
        · rw [HTD.out.1]; exact hh
      have RO := rof_any p c s la lk l (slN c) true D ID.out LL.out HRI2.out.1 rfl HRI2.out.2
      rw [hll] at RO
      have HRO : Hid (Calls Tryd.prog 29 #[.agg #[.int .i64 p, .int .i64 c, .int .i64 s, .slice la ll lk]] D (ROp D p c s (slN c) l true)) := RO
      clear hrt hat hI hlm bD rD RO hll RT hco hkl ht
      go_wp2_with fail
      refine HRO.out.mono ?_
      rintro e w2 ⟨b2, ⟨hf, _⟩ | ⟨_, mb, mg, rfl, rf, g1, g2⟩⟩
      · cases hf
      have RF : Hid (Ref w2 mb mg p c s (slN c) (fOf l)) := rf
      have B2 : Hid (Below wz.heap.size wz w2) := BD.out.trans (b2.mono BD.out.size)
      have m1 : w2.cell? ⟨mb, 1, none⟩ = some (.int .i64 c) := rf.c1
      have m2 : w2.cell? ⟨mb, 2, none⟩ = some (.int .i64 s) := rf.c2
      have f3 : w2.cell? ⟨ng, 3, none⟩ = some (.slice la ll lk) := bcell b2 e3
      have I2 : Hid (IsI w2 la l) := ID.out.keep b2
      clear b2 rf
      by_cases hc : c = co
      · have b1 : decide (c = co) = true := decide_eq_true hc
        have b2 : (c == co) = true := by rw [beq_iff_eq]; exact hc
        have b3 : (c != co) = false := by rw [bne, b2]; rfl
        by_cases c7 : c = 7
        · have b4 : (c == 7) = true := by rw [beq_iff_eq]; exact c7
          by_cases sz : s = z
          · have b5 : (s == z) = true := by rw [beq_iff_eq]; exact sz
            have b6 : (s != z) = false := by rw [bne, b5]; rfl
            have HFIT : Hid (fitS ⟨p, c, s, l⟩ z = true) := decide_eq_true ⟨hc.trans HCO.out.symm, fun _ => sz⟩
            clear hc c7 sz b1
            go_wp2_with fail
            go_quiet ((go_at_call 75; first | exact Calls.quiet_of_same (qof_q z co _ HCO.out) | exact (qof_q z co _ HCO.out).mono (fun e w'' h => ⟨h.1, _, h.2⟩)))
            go_wp2_with fail
            go_loopw [56] (fun iv wy => ∃ m q : Nat, m ≤ ll ∧ iv = .int .i64 (m : Nat) ∧ wy = w2.drewN q ∧ ∀ j, j < m → decide (atS ⟨p, c, s, l⟩ (l.getD j 0) = x) = false) (fun iv _ => ll - lenW iv)
            case atStart => exact ⟨0, _, Nat.zero_le _, rfl, rfl, fun j hj => by omega⟩
            case round =>
              obtain ⟨m, q, hm, rfl, rfl, hq⟩ := hrel
              have HQ : Hid (∀ j, j < m → decide (atS ⟨p, c, s, l⟩ (l.getD j 0) = x) = false) := hq
              clear hq
              by_cases hml : m < ll
              · have hml' : m < l.length := by rw [HLL.out]; exact hml
                obtain ⟨gl, ol, rfl, cl⟩ := I2.out.get m hml'
                obtain ⟨a1, a2, a3, a4, a5⟩ := HAT.out (l.getD m 0) (by simp [List.getD, hml'])
                obtain ⟨y, hy⟩ : ∃ y, l.getD m 0 = y := ⟨_, rfl⟩
                rw [hy] at cl a1 a2 a3 a4
                obtain ⟨n, rfl⟩ : ∃ n : Nat, y = (n : Int) := ⟨y.toNat, by omega⟩
                obtain ⟨at9, hat9⟩ : ∃ v, atS ⟨p, c, s, l⟩ (n : Int) = v := ⟨_, rfl⟩
                have RA := rat_in mb mg (slN c) p c s (fOf l) n (w2.drewN q) (RF.out.drewN q) HRT.out rfl (by omega)
                have e9 : 256 * p + (n : Int) * szI c s = at9 := hat9
                rw [e9] at RA
                have HRA : Hid (Calls Tryd.prog 33 #[.pointer (some ⟨mb, 0, none⟩), .int .i64 (n : Nat)] (w2.drewN q) fun e w' => e = .returned (.tuple #[.int .i64 at9, .bool true]) ∧ ∃ m, w' = (w2.drewN q).drewN m) := RA
                have m0 : (m : Int) < (ll : Int) := by omega
                have HGE : Hid (atS ⟨p, c, s, l⟩ (l.getD m 0) = at9) := by show _ = _; rw [hy]; exact hat9
                clear RA e9 hat9 hy a1 a2 a3 a4 a5
                by_cases hx : at9 = x
                · have b0 : (at9 == x) = true := by rw [beq_iff_eq]; exact hx
                  have F : Hid (true = r) := by
                    show true = r
                    rw [← HR.out]
                    refine (any_yes HTD.out.2 ?_).symm
                    rw [HTD.out.1, HFIT.out, Bool.true_and]
                    exact any_one hml' (decide_eq_true (by rw [HGE.out]; exact hx))
                  clear hx hml'
                  go_wp2_with (go_at_call 33; refine HRA.out.mono ?_; rintro e w' ⟨rfl, q9, rfl⟩)
                  have BB := (FB.out w2 B2.out).2
                  go_ret
                  exact ⟨ret_bool F.out, by first | exact below_drewN BB _ | exact below_drewN (below_drewN BB _) _ | exact hnb ▸ below_drewN BB _ | exact hnb ▸ below_drewN (below_drewN BB _) _⟩
                · have b0 : (at9 == x) = false := by rw [beq_eq_false_iff_ne]; exact hx
                  have NQ : Hid (∀ j, j < m + 1 → decide (atS ⟨p, c, s, l⟩ (l.getD j 0) = x) = false) := fun j hj => by
                    rcases Nat.lt_or_eq_of_le (Nat.le_of_lt_succ hj) with e | rfl
                    · exact HQ.out j e
                    · exact decide_eq_false (by rw [HGE.out]; exact hx)
                  clear hx hml'
                  go_wp2_with (go_at_call 33; refine HRA.out.mono ?_; rintro e w' ⟨rfl, q9, rfl⟩)
                  go_roundw
                  case rel => exact ⟨m + 1, _, by omega, by congr 1, by first | rfl | exact World.drewN_drewN .., NQ.out⟩
                  case measure => simp [lenW]; omega
              · obtain rfl : m = ll := by omega
                have NX := STEP.out (by rw [any_no (fun j hj => HQ.out j (by rw [HLL.out] at hj; exact hj)), Bool.and_false])
                have BB := (FB.out w2 B2.out).1
                go_wp2
                go_roundw
                case rel => exact ⟨k + 1, by omega, by congr 1, NX, below_drewN BB _⟩
                case measure => simp [lenW]; omega
          · have b5 : (s == z) = false := by rw [beq_eq_false_iff_ne]; exact sz
            have b6 : (s != z) = true := by rw [bne, b5]; rfl
            have HF : (fitS ⟨p, c, s, l⟩ z && l.any fun i => decide (atS ⟨p, c, s, l⟩ i = x)) = false := by rw [show fitS ⟨p, c, s, l⟩ z = false from decide_eq_false (fun q => sz (q.2 c7)), Bool.false_and]
            clear hc c7 sz b1
            have NX := STEP.out HF
            go_wp2_with fail
            go_quiet ((go_at_call 75; first | exact Calls.quiet_of_same (qof_q z co _ HCO.out) | exact (qof_q z co _ HCO.out).mono (fun e w'' h => ⟨h.1, _, h.2⟩)))
            go_wp2
            have BB := (FB.out w2 B2.out).1
            go_roundw
            case rel => exact ⟨k + 1, by omega, by congr 1, NX, below_drewN BB _⟩
            case measure => simp [lenW]; omega
        · have b4 : (c == 7) = false := by rw [beq_eq_false_iff_ne]; exact c7
          have HFIT : Hid (fitS ⟨p, c, s, l⟩ z = true) := decide_eq_true ⟨hc.trans HCO.out.symm, fun q => absurd q c7⟩
          clear hc c7 b1
          go_wp2_with fail
          go_quiet ((go_at_call 75; first | exact Calls.quiet_of_same (qof_q z co _ HCO.out) | exact (qof_q z co _ HCO.out).mono (fun e w'' h => ⟨h.1, _, h.2⟩)))
          go_wp2_with fail
          go_loopw [56] (fun iv wy => ∃ m q : Nat, m ≤ ll ∧ iv = .int .i64 (m : Nat) ∧ wy = w2.drewN q ∧ ∀ j, j < m → decide (atS ⟨p, c, s, l⟩ (l.getD j 0) = x) = false) (fun iv _ => ll - lenW iv)
          case atStart => exact ⟨0, _, Nat.zero_le _, rfl, rfl, fun j hj => by omega⟩
          case round =>
            obtain ⟨m, q, hm, rfl, rfl, hq⟩ := hrel
            have HQ : Hid (∀ j, j < m → decide (atS ⟨p, c, s, l⟩ (l.getD j 0) = x) = false) := hq
            clear hq
            by_cases hml : m < ll
            · have hml' : m < l.length := by rw [HLL.out]; exact hml
              obtain ⟨gl, ol, rfl, cl⟩ := I2.out.get m hml'
              obtain ⟨a1, a2, a3, a4, a5⟩ := HAT.out (l.getD m 0) (by simp [List.getD, hml'])
              obtain ⟨y, hy⟩ : ∃ y, l.getD m 0 = y := ⟨_, rfl⟩
              rw [hy] at cl a1 a2 a3 a4
              obtain ⟨n, rfl⟩ : ∃ n : Nat, y = (n : Int) := ⟨y.toNat, by omega⟩
              obtain ⟨at9, hat9⟩ : ∃ v, atS ⟨p, c, s, l⟩ (n : Int) = v := ⟨_, rfl⟩
              have RA := rat_in mb mg (slN c) p c s (fOf l) n (w2.drewN q) (RF.out.drewN q) HRT.out rfl (by omega)
              have e9 : 256 * p + (n : Int) * szI c s = at9 := hat9
              rw [e9] at RA
              have HRA : Hid (Calls Tryd.prog 33 #[.pointer (some ⟨mb, 0, none⟩), .int .i64 (n : Nat)] (w2.drewN q) fun e w' => e = .returned (.tuple #[.int .i64 at9, .bool true]) ∧ ∃ m, w' = (w2.drewN q).drewN m) := RA
              have m0 : (m : Int) < (ll : Int) := by omega
              have HGE : Hid (atS ⟨p, c, s, l⟩ (l.getD m 0) = at9) := by show _ = _; rw [hy]; exact hat9
              clear RA e9 hat9 hy a1 a2 a3 a4 a5
              by_cases hx : at9 = x
              · have b0 : (at9 == x) = true := by rw [beq_iff_eq]; exact hx
                have F : Hid (true = r) := by
                  show true = r
                  rw [← HR.out]
                  refine (any_yes HTD.out.2 ?_).symm
                  rw [HTD.out.1, HFIT.out, Bool.true_and]
                  exact any_one hml' (decide_eq_true (by rw [HGE.out]; exact hx))
                clear hx hml'
                go_wp2_with (go_at_call 33; refine HRA.out.mono ?_; rintro e w' ⟨rfl, q9, rfl⟩)
                have BB := (FB.out w2 B2.out).2
                go_ret
                exact ⟨ret_bool F.out, by first | exact below_drewN BB _ | exact below_drewN (below_drewN BB _) _ | exact hnb ▸ below_drewN BB _ | exact hnb ▸ below_drewN (below_drewN BB _) _⟩
              · have b0 : (at9 == x) = false := by rw [beq_eq_false_iff_ne]; exact hx
                have NQ : Hid (∀ j, j < m + 1 → decide (atS ⟨p, c, s, l⟩ (l.getD j 0) = x) = false) := fun j hj => by
                  rcases Nat.lt_or_eq_of_le (Nat.le_of_lt_succ hj) with e | rfl
                  · exact HQ.out j e
                  · exact decide_eq_false (by rw [HGE.out]; exact hx)
                clear hx hml'
                go_wp2_with (go_at_call 33; refine HRA.out.mono ?_; rintro e w' ⟨rfl, q9, rfl⟩)
                go_roundw
                case rel => exact ⟨m + 1, _, by omega, by congr 1, by first | rfl | exact World.drewN_drewN .., NQ.out⟩
                case measure => simp [lenW]; omega
            · obtain rfl : m = ll := by omega
              have NX := STEP.out (by rw [any_no (fun j hj => HQ.out j (by rw [HLL.out] at hj; exact hj)), Bool.and_false])
              have BB := (FB.out w2 B2.out).1
              go_wp2
              go_roundw
              case rel => exact ⟨k + 1, by omega, by congr 1, NX, below_drewN BB _⟩
              case measure => simp [lenW]; omega
      · have b2 : (c == co) = false := by rw [beq_eq_false_iff_ne]; exact hc
        have b3 : (c != co) = true := by rw [bne, b2]; rfl
        have HF : (fitS ⟨p, c, s, l⟩ z && l.any fun i => decide (atS ⟨p, c, s, l⟩ i = x)) = false := by rw [show fitS ⟨p, c, s, l⟩ z = false from decide_eq_false (fun q => hc (q.1.trans HCO.out)), Bool.false_and]
        clear hc
        have NX := STEP.out HF
        go_wp2_with fail
        go_quiet ((go_at_call 75; first | exact Calls.quiet_of_same (qof_q z co _ HCO.out) | exact (qof_q z co _ HCO.out).mono (fun e w'' h => ⟨h.1, _, h.2⟩)))
        go_wp2
        have BB := (FB.out w2 B2.out).1
        go_roundw
        case rel => exact ⟨k + 1, by omega, by congr 1, NX, below_drewN BB _⟩
        case measure => simp [lenW]; omega
    · obtain rfl : k = sn := by omega
      have F : Hid (false = r) := by
        show false = r
        rw [← HR.out]
        exact (any_snoc_no HSL.out HNO.out).symm
      have BB := (FB.out wz (Below.refl _ _)).2
      go_wp2
      go_ret
      exact ⟨ret_bool F.out, by first | exact BB | exact hnb ▸ BB⟩
end Go.Proofs.YtebmegghojiegaaDoor
