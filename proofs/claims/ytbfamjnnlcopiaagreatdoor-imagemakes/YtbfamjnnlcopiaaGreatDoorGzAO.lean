/- The fourth rule asked: lies, rowRight. -/
import Derived.Test.YtbfamjnnlcopiaaGreatDoorGzAN
namespace Go.Proofs.YtbfamjnnlcopiaaGreatDoor
open Go.RowKit
set_option linter.unusedVariables false
set_option maxRecDepth 4000

theorem tdiv_bd {x : Int} (h : i64 x) : i64 (x.tdiv 256) := by
  unfold i64 at *
  rcases Int.le_total 0 x with h0 | h0
  · rw [Int.tdiv_eq_ediv_of_nonneg h0]; omega
  · have e := Int.neg_tdiv (-x) 256
    rw [Int.neg_neg] at e
    rw [e, Int.tdiv_eq_ediv_of_nonneg (by omega)]; omega
set_option maxRecDepth 20000 in
set_option maxHeartbeats 4000000 in
theorem lies_any (lb ms mi : Nat) (V : Vw) (A : Va) (nf nr : Nat) (f : Int → Option Nat) (gen kd x : Int) (lv : Bool) (w : World) (h : Lk w lb ms mi V A nf nr f) (hV : Hold V 3) (hk : i64 kd) (hx : i64 x) (r : Bool) (hr : liesB V ⟨gen, lv, kd, x⟩ = r) :
    Calls Tryz.prog 130 #[.pointer (some ⟨lb, 0, none⟩), .agg #[.int .i64 gen, .bool lv, .int .i64 kd, .int .i64 x]] w fun e w' => e = .returned (.bool r) ∧ Below w.heap.size w w' := by
  obtain ⟨E, hE⟩ : ∃ E, w.alloc (.cells #[.int .i64 gen, .bool lv, .int .i64 kd, .int .i64 x] 73) = E := ⟨_, rfl⟩
  have bE : Below w.heap.size w E := by rw [← hE]; exact (Below.refl _ w).alloc (Nat.le_refl _) _
  have rE : E.heap[w.heap.size]? = some (.cells #[.int .i64 gen, .bool lv, .int .i64 kd, .int .i64 x] 73 (0, 0)) := by rw [← hE]; exact Go.heap_alloc_new w _
  have LE := h.keep bE
  have d2 : E.cell? ⟨w.heap.size, 2, none⟩ = some (.int .i64 kd) := cell_of_row _ _ 2 _ _ _ rE
  have d3 : E.cell? ⟨w.heap.size, 3, none⟩ = some (.int .i64 x) := cell_of_row _ _ 3 _ _ _ rE
  have HE : Hid (w.alloc (.cells #[.int .i64 gen, .bool lv, .int .i64 kd, .int .i64 x] 73) = E) := hE
  have HBE : Hid (Below w.heap.size w E) := bE
  have kl := h.vw.kl
  have c2 : E.cell? ⟨lb, 2, none⟩ = some (.slice A.ka A.kn A.kc) := cell_of_row _ _ 2 _ _ _ LE.box
  have c6 : E.cell? ⟨lb, 6, none⟩ = some (.map (some ms)) := cell_of_row _ _ 6 _ _ _ LE.box
  obtain ⟨nb, hnb⟩ : ∃ nb, w.heap.size = nb := ⟨_, rfl⟩
  rw [hnb] at d2 d3
  unfold liesB at hr
  simp only at hr
  by_cases k0 : kd < 0
  · have F : Hid (r = false) := by rw [← hr, decide_eq_false (by omega)]; rfl
    have g0 : decide (kd < 0) = true := decide_eq_true k0
    clear h LE hr hV
    go_enter Tryz.func130, Tryz.ntmps130
    go_wp2_with fail
    (try rw [HE.out]); (try rw [hnb])
    go_quiet (fail)
    go_wp2
    go_ret
    exact ⟨ret_bool F.out.symm, below_drewN HBE.out _⟩
  · have g0 : decide (kd < 0) = false := decide_eq_false k0
    by_cases k1 : (A.kn : Int) ≤ kd
    · have F : Hid (r = false) := by rw [← hr, decide_eq_false (by omega)]; rfl
      have g1 : decide ((A.kn : Int) ≤ kd) = true := decide_eq_true k1
      clear h LE hr hV
      go_enter Tryz.func130, Tryz.ntmps130
      go_wp2_with fail
      (try rw [HE.out]); (try rw [hnb])
      go_quiet (fail)
      go_wp2
      go_ret
      exact ⟨ret_bool F.out.symm, below_drewN HBE.out _⟩
    · have g1 : decide ((A.kn : Int) ≤ kd) = false := decide_eq_false k1
      rw [decide_eq_true (by omega), Bool.true_and] at hr
      obtain ⟨kj, rfl⟩ : ∃ kj : Nat, kd = (kj : Int) := ⟨kd.toNat, by omega⟩
      have hkj : kj < V.ks.length := by omega
      have kk0 : (kj : Int) < (A.kn : Int) := by omega
      obtain ⟨g, o, la, lc, ea, e0, _⟩ := LE.vw.ks kj hkj
      rw [ea] at c2
      obtain ⟨z, hz⟩ : ∃ z, V.ks[kj].s = z := ⟨_, rfl⟩
      rw [hz] at e0
      rw [Int.toNat_natCast, knD_at hkj, hz] at hr
      obtain ⟨q, hq⟩ : ∃ q, x.tdiv 256 = q := ⟨_, rfl⟩
      have qi : i64 q := by rw [← hq]; exact tdiv_bd hx
      have wq : IntKind.i64.wrap q = q := by unfold i64 at qi; rw [IntKind.wrap_i64]; omega
      have LQ : ∀ n, (Instr.lookup 139 (.map (some ms)) (.int .i64 q) false).run Tryz.prog (E.drewN n) = .ok (ptO (f q)) (E.drewN n) := fun n => (LE.sp.same (w' := E.drewN n) (fun o ho => ho)).look qi
      cases hf : f q with
      | none =>
        have F : Hid (r = false) := by
          rw [← hr]
          refine slot_no hV (Nat.le_refl _) (fun i hi e => ?_)
          have := h.f2 i hi (hV.right (Nat.le_refl _) i hi).1
          rw [e, hq, hf] at this
          cases this
        rw [hf] at LQ
        have LQ : ∀ n, (Instr.lookup 139 (.map (some ms)) (.int .i64 q) false).run Tryz.prog (E.drewN n) = .ok (.pointer none) (E.drewN n) := LQ
        clear h LE hr hV
        go_enter Tryz.func130, Tryz.ntmps130
        go_wp2_with fail
        go_quiet (fail)
        go_wp2_with fail
        go_quiet (fail)
        go_wp2_with fail
        go_quiet (fail)
        go_wp2_with (go_at_call 100; refine (slot_nil x _).mono ?_; rintro e w' ⟨rfl, rfl⟩)
        go_ret
        exact ⟨ret_bool F.out.symm, below_drewN HBE.out _⟩
      | some sb =>
        obtain ⟨i, hi, hrt, hp, b, g2, sp⟩ := LE.f1 q sb hf
        have hr2 := slot_of hV (Nat.le_refl _) (z := z) hi (hp.trans hq.symm)
        rw [hr] at hr2
        have hany := fun y ok => any_at hrt (x := x) (y := y) (ok := ok)
        have HTB : Hid (Tabs E) := LE.tab
        obtain ⟨t, ht⟩ : ∃ t, tdD V.ts i = t := ⟨_, rfl⟩
        rw [ht] at hrt hp sp hr2 hany
        obtain ⟨p, c, s, l⟩ := t
        simp only at hp sp hany
        have HRT : Hid (Rt p c s) := newE_rt hrt.1
        have SP : Hid (SpanAt E sb b g2 p c s (fOf l)) := sp
        have BX : Hid (Bx E sb p c s) := sp.box
        have HR2 : Hid (r = (fitS ⟨p, c, s, l⟩ z && l.any (fun k => decide (atS ⟨p, c, s, l⟩ k = x)))) := hr2
        have HAN : Hid (∀ (y : Int) (ok : Bool), SlotR (slN c) p (szI c s) x y ok → (l.any fun k => decide (atS ⟨p, c, s, l⟩ k = x)) = (ok && hasB (slN c) (fOf l) y)) := hany
        have HCO : Hid (c = ofI z ∨ ¬ c = ofI z) := Classical.em _
        obtain ⟨co, hco⟩ : ∃ co, ofI z = co := ⟨_, rfl⟩
        have HO : Hid (ofI z = co) := hco
        rw [hf] at LQ
        have LQ : ∀ n, (Instr.lookup 139 (.map (some ms)) (.int .i64 q) false).run Tryz.prog (E.drewN n) = .ok (.pointer (some ⟨sb, 0, none⟩)) (E.drewN n) := LQ
        clear h LE hr hr2 hV sp hany hrt hp hi ht hf hco
        go_enter Tryz.func130, Tryz.ntmps130
        go_wp2_with fail
        go_quiet (fail)
        go_wp2_with fail
        go_quiet (fail)
        go_wp2_with fail
        go_quiet (fail)
        go_wp2_with fail
        refine (slot_any sb p c s x _ (BX.out.drewN _) (HTB.out.drewN _).1 HRT.out hx).mono ?_
        rintro e w' ⟨y, ok, rfl, sr, rfl⟩
        have HA := HAN.out y ok sr
        have FR : Hid (r = (decide (c = co ∧ (c = 7 → s = z)) && (ok && hasB (slN c) (fOf l) y))) := by rw [HR2.out, HA, ← HO.out]; rfl
        clear HA sr
        cases ok with
        | false =>
          have F : Hid (r = false) := by show r = false; rw [FR.out]; simp
          go_wp2
          go_ret
          exact ⟨ret_bool F.out.symm, below_drewN HBE.out _⟩
        | true =>
          obtain ⟨hb, hhb⟩ : ∃ hb, hasB (slN c) (fOf l) y = hb := ⟨_, rfl⟩
          have HHB : Hid (hasB (slN c) (fOf l) y = hb) := hhb
          rw [hhb] at FR
          clear hhb
          cases hb with
          | false =>
            have F : Hid (r = false) := by show r = false; rw [FR.out]; simp
            go_wp2_with (go_at_call 138; refine (has_any sb b g2 p c s (fOf l) y _ (SP.out.drewN _)).mono ?_; rw [HHB.out]; rintro e w' ⟨rfl, rfl⟩)
            go_ret
            exact ⟨ret_bool F.out.symm, below_drewN HBE.out _⟩
          | true =>
            by_cases hc : c = co
            · have b1 : (c == co) = true := by rw [beq_iff_eq]; exact hc
              have b2 : (c != co) = false := by rw [bne, b1]; rfl
              by_cases c7 : c = 7
              · have F : Hid (r = (s == z)) := by
                  show r = (s == z)
                  rw [FR.out]
                  by_cases e : s = z
                  · rw [decide_eq_true ⟨hc, fun _ => e⟩]; simp [e]
                  · rw [decide_eq_false (fun q => e (q.2 c7))]; simp [e]
                have b3 : (c == 7) = true := by rw [beq_iff_eq]; exact c7
                have b4 : (c != 7) = false := by rw [bne, b3]; rfl
                have ZZ : Hid (szI c s = s) := by show szI c s = s; unfold szI; rw [if_pos c7]
                clear c7 hc
                go_wp2_with (first
                  | (go_at_call 138; refine (has_any sb b g2 p c s (fOf l) y _ (SP.out.drewN _)).mono ?_; rw [HHB.out]; rintro e w' ⟨rfl, rfl⟩)
                  | (go_at_call 139; refine (class_any sb p c s _ (BX.out.drewN _)).mono ?_; rintro e w' ⟨rfl, rfl⟩)
                  | (go_at_call 133; refine (cof_any z _ (HTB.out.drewN _).1).mono ?_; rw [HO.out]; rintro e w' ⟨rfl, rfl⟩)
                  | (go_at_call 63; refine (size_any sb p c s _ (BX.out.drewN _) (HTB.out.drewN _).1 HRT.out.c0 HRT.out.c7).mono ?_; rw [ZZ.out]; rintro e w' ⟨rfl, rfl⟩))
                go_ret
                exact ⟨ret_bool F.out.symm, below_drewN HBE.out _⟩
              · have F : Hid (r = true) := by show r = true; rw [FR.out, decide_eq_true ⟨hc, fun q => absurd q c7⟩]; rfl
                have b3 : (c == 7) = false := by rw [beq_eq_false_iff_ne]; exact c7
                have b4 : (c != 7) = true := by rw [bne, b3]; rfl
                clear c7 hc
                go_wp2_with (first
                  | (go_at_call 138; refine (has_any sb b g2 p c s (fOf l) y _ (SP.out.drewN _)).mono ?_; rw [HHB.out]; rintro e w' ⟨rfl, rfl⟩)
                  | (go_at_call 139; refine (class_any sb p c s _ (BX.out.drewN _)).mono ?_; rintro e w' ⟨rfl, rfl⟩)
                  | (go_at_call 133; refine (cof_any z _ (HTB.out.drewN _).1).mono ?_; rw [HO.out]; rintro e w' ⟨rfl, rfl⟩))
                go_ret
                exact ⟨ret_bool F.out.symm, below_drewN HBE.out _⟩
            · have b1 : (c == co) = false := by rw [beq_eq_false_iff_ne]; exact hc
              have b2 : (c != co) = true := by rw [bne, b1]; rfl
              have F : Hid (r = false) := by show r = false; rw [FR.out, decide_eq_false (fun q => hc q.1)]; rfl
              clear hc
              go_wp2_with (first
                | (go_at_call 138; refine (has_any sb b g2 p c s (fOf l) y _ (SP.out.drewN _)).mono ?_; rw [HHB.out]; rintro e w' ⟨rfl, rfl⟩)
                | (go_at_call 139; refine (class_any sb p c s _ (BX.out.drewN _)).mono ?_; rintro e w' ⟨rfl, rfl⟩)
                | (go_at_call 133; refine (cof_any z _ (HTB.out.drewN _).1).mono ?_; rw [HO.out]; rintro e w' ⟨rfl, rfl⟩))
              go_ret
              exact ⟨ret_bool F.out.symm, below_drewN HBE.out _⟩
end Go.Proofs.YtbfamjnnlcopiaaGreatDoor

/- The fourth and the fifth rule asked: rowRight, rowAlone. -/
namespace Go.Proofs.YtbfamjnnlcopiaaGreatDoor
open Go.RowKit
set_option linter.unusedVariables false
set_option maxRecDepth 4000

theorem IsW.at {w : World} {a : Option Addr} {l : List HRw} (h : IsW w a l) (i : Nat) (hi : i < l.length) : ∃ b off, a = some ⟨b, off, none⟩ ∧ w.cell? ⟨b, off + i * 4, none⟩ = some (.int .i64 (rwD l i).gen) ∧ w.cell? ⟨b, off + i * 4 + 1, none⟩ = some (.bool (rwD l i).live) ∧ w.cell? ⟨b, off + i * 4 + 2, none⟩ = some (.int .i64 (rwD l i).kind) ∧ w.cell? ⟨b, off + i * 4 + 3, none⟩ = some (.int .i64 (rwD l i).pl) := by
  rcases h with h | ⟨b, off, e, _, hc⟩
  · subst h; cases hi
  · rw [rwD_at hi]
    exact ⟨b, off, e, hc i hi⟩
set_option maxRecDepth 20000 in
set_option maxHeartbeats 4000000 in
theorem rowRight_any (lb ms mi : Nat) (V : Vw) (A : Va) (nf nr : Nat) (f : Int → Option Nat) (i : Nat) (w : World) (h : Lk w lb ms mi V A nf nr f) (hi : i < V.rs.length) (hV : Hold V 3) (r : Bool) (hr : rule4 V i = r) :
    Calls Tryz.prog 120 #[.pointer (some ⟨lb, 0, none⟩), .int .i64 (i : Nat)] w fun e w' => e = .returned (.bool r) ∧ Below w.heap.size w w' := by
  have c3 : w.cell? ⟨lb, 3, none⟩ = some (.slice A.ra A.rn A.rc) := cell_of_row _ _ 3 _ _ _ h.box
  have rl := h.vw.rl
  have rz := h.vw.rz
  obtain ⟨b, off, ea, q0, q1, q2, q3⟩ := h.vw.rs.at i hi
  rw [ea] at c3
  have hri := h.vw.ri (rwD V.rs i) (by rw [rwD_at hi]; exact List.getElem_mem hi)
  unfold rule4 at hr
  obtain ⟨R, hR⟩ : ∃ R, rwD V.rs i = R := ⟨_, rfl⟩
  rw [hR] at q0 q1 q2 q3 hr hri
  obtain ⟨gen, lv, kd, x⟩ := R
  simp only at q0 q1 q2 q3 hr hri
  obtain ⟨rn, hrn⟩ : ∃ rn, A.rn = rn := ⟨_, rfl⟩
  rw [hrn] at c3 rl
  have i0 : (i : Int) < (rn : Int) := by omega
  obtain ⟨E, hE⟩ : ∃ E, w.alloc (.cells #[.int .i64 gen, .bool lv, .int .i64 kd, .int .i64 x] 73) = E := ⟨_, rfl⟩
  have bE : Below w.heap.size w E := by rw [← hE]; exact (Below.refl _ w).alloc (Nat.le_refl _) _
  have rE : E.heap[w.heap.size]? = some (.cells #[.int .i64 gen, .bool lv, .int .i64 kd, .int .i64 x] 73 (0, 0)) := by rw [← hE]; exact Go.heap_alloc_new w _
  have LE : Hid (Lk E lb ms mi V A nf nr f) := h.keep bE
  have HBE : Hid (Below w.heap.size w E) := bE
  have HVV : Hid (Hold V 3) := hV
  have HRI : Hid (i64 x ∧ i64 kd ∧ i64 gen) := hri
  obtain ⟨nb, hnb⟩ : ∃ nb, w.heap.size = nb := ⟨_, rfl⟩
  rw [hnb] at rE
  have d0 : E.cell? ⟨nb, 0, none⟩ = some (.int .i64 gen) := cell_of_row _ _ 0 _ _ _ rE
  have d1 : E.cell? ⟨nb, 1, none⟩ = some (.bool lv) := cell_of_row _ _ 1 _ _ _ rE
  have d2 : E.cell? ⟨nb, 2, none⟩ = some (.int .i64 kd) := cell_of_row _ _ 2 _ _ _ rE
  have d3 : E.cell? ⟨nb, 3, none⟩ = some (.int .i64 x) := cell_of_row _ _ 3 _ _ _ rE
  have c3E : E.cell? ⟨lb, 3, none⟩ = some (.slice (some ⟨b, off, none⟩) rn A.rc) := bcell bE c3
  have wr : IntKind.i64.wrap ((rn : Int) - 1) = (rn : Int) - 1 := by rw [IntKind.wrap_i64]; omega
  clear h hV hri hR bE rE
  by_cases g0 : gen < 0
  · have F : Hid (r = false) := by show r = false; rw [← hr, decide_eq_false (by omega)]; rfl
    clear hr
    go_enter Tryz.func120, Tryz.ntmps120
    go_wp2
    go_ret
    exact ⟨ret_bool F.out.symm, by first | exact HBE.out | exact hnb ▸ HBE.out⟩
  · by_cases g1 : 65535 < gen
    · have F : Hid (r = false) := by show r = false; rw [← hr, decide_eq_false (by omega)]; rfl
      clear hr
      go_enter Tryz.func120, Tryz.ntmps120
      go_wp2
      go_ret
      exact ⟨ret_bool F.out.symm, by first | exact HBE.out | exact hnb ▸ HBE.out⟩
    · rw [decide_eq_true (by omega), Bool.true_and] at hr
      cases lv with
      | true =>
        rw [if_pos rfl] at hr
        by_cases g2 : 0 < gen
        · rw [decide_eq_true (by omega), Bool.true_and] at hr
          have HR : Hid (liesB V ⟨gen, true, kd, x⟩ = r) := hr
          clear hr
          go_enter Tryz.func120, Tryz.ntmps120
          go_wp2_with (go_at_call 130; refine (lies_any lb ms mi V A nf nr f gen kd x true _ LE.out HVV.out HRI.out.2.1 HRI.out.1 r HR.out).mono ?_; rintro e w2 ⟨rfl, b2⟩; have B2 : Hid (Below w.heap.size w w2) := HBE.out.trans (b2.mono HBE.out.size); clear b2)
          go_ret
          exact ⟨rfl, B2.out⟩
        · rw [decide_eq_false (by omega), Bool.false_and] at hr
          have F : Hid (false = r) := hr
          clear hr
          go_enter Tryz.func120, Tryz.ntmps120
          go_wp2
          go_ret
          exact ⟨ret_bool F.out, by first | exact HBE.out | exact hnb ▸ HBE.out⟩
      | false =>
        rw [if_neg (by simp)] at hr
        by_cases g2 : gen = 0
        · have e0 : (gen == 0) = true := by rw [beq_iff_eq]; exact g2
          by_cases g3 : i + 1 = rn
          · have F : Hid (false = r) := by show false = r; rw [← hr]; exact (decide_eq_false (fun q => q.2.2 ⟨g2, by omega⟩)).symm
            have e1 : ((i : Int) == (rn : Int) - 1) = true := by rw [beq_iff_eq]; omega
            clear hr g3 g2
            go_enter Tryz.func120, Tryz.ntmps120
            go_wp2
            go_ret
            exact ⟨ret_bool F.out, by first | exact HBE.out | exact hnb ▸ HBE.out⟩
          · have e1 : ((i : Int) == (rn : Int) - 1) = false := by rw [beq_eq_false_iff_ne]; omega
            have HR : Hid (decide (kd = 0 ∧ x = 0) = r) := by show _ = _; rw [← hr]; exact decide_eq_decide.2 ⟨fun q => ⟨q.1, q.2, by omega⟩, fun q => ⟨q.1, q.2.1⟩⟩
            clear hr g3 g2
            by_cases k0 : kd = 0
            · have e2 : (kd == 0) = true := by rw [beq_iff_eq]; exact k0
              by_cases x0 : x = 0
              · have e3 : (x == 0) = true := by rw [beq_iff_eq]; exact x0
                have F : Hid (true = r) := by show true = r; rw [← HR.out]; exact (decide_eq_true ⟨k0, x0⟩).symm
                clear k0 x0
                go_enter Tryz.func120, Tryz.ntmps120
                go_wp2
                go_ret
                exact ⟨ret_bool F.out, by first | exact HBE.out | exact hnb ▸ HBE.out⟩
              · have e3 : (x == 0) = false := by rw [beq_eq_false_iff_ne]; exact x0
                have F : Hid (false = r) := by show false = r; rw [← HR.out]; exact (decide_eq_false (fun q => x0 q.2)).symm
                clear k0 x0
                go_enter Tryz.func120, Tryz.ntmps120
                go_wp2
                go_ret
                exact ⟨ret_bool F.out, by first | exact HBE.out | exact hnb ▸ HBE.out⟩
            · have e2 : (kd == 0) = false := by rw [beq_eq_false_iff_ne]; exact k0
              have F : Hid (false = r) := by show false = r; rw [← HR.out]; exact (decide_eq_false (fun q => k0 q.1)).symm
              clear k0
              go_enter Tryz.func120, Tryz.ntmps120
              go_wp2
              go_ret
              exact ⟨ret_bool F.out, by first | exact HBE.out | exact hnb ▸ HBE.out⟩
        · have e0 : (gen == 0) = false := by rw [beq_eq_false_iff_ne]; exact g2
          have HR : Hid (decide (kd = 0 ∧ x = 0) = r) := by show _ = _; rw [← hr]; exact decide_eq_decide.2 ⟨fun q => ⟨q.1, q.2, fun z => g2 z.1⟩, fun q => ⟨q.1, q.2.1⟩⟩
          clear hr g2
          by_cases k0 : kd = 0
          · have e2 : (kd == 0) = true := by rw [beq_iff_eq]; exact k0
            by_cases x0 : x = 0
            · have e3 : (x == 0) = true := by rw [beq_iff_eq]; exact x0
              have F : Hid (true = r) := by show true = r; rw [← HR.out]; exact (decide_eq_true ⟨k0, x0⟩).symm
              clear k0 x0
              go_enter Tryz.func120, Tryz.ntmps120
              go_wp2
              go_ret
              exact ⟨ret_bool F.out, by first | exact HBE.out | exact hnb ▸ HBE.out⟩
            · have e3 : (x == 0) = false := by rw [beq_eq_false_iff_ne]; exact x0
              have F : Hid (false = r) := by show false = r; rw [← HR.out]; exact (decide_eq_false (fun q => x0 q.2)).symm
              clear k0 x0
              go_enter Tryz.func120, Tryz.ntmps120
              go_wp2
              go_ret
              exact ⟨ret_bool F.out, by first | exact HBE.out | exact hnb ▸ HBE.out⟩
          · have e2 : (kd == 0) = false := by rw [beq_eq_false_iff_ne]; exact k0
            have F : Hid (false = r) := by show false = r; rw [← HR.out]; exact (decide_eq_false (fun q => k0 q.1)).symm
            clear k0
            go_enter Tryz.func120, Tryz.ntmps120
            go_wp2
            go_ret
            exact ⟨ret_bool F.out, by first | exact HBE.out | exact hnb ▸ HBE.out⟩
set_option maxRecDepth 20000 in
set_option maxHeartbeats 4000000 in
theorem rowAlone_any (lb ms mi : Nat) (V : Vw) (A : Va) (nf nr : Nat) (f : Int → Option Nat) (i : Nat) (w : World) (h : Lk w lb ms mi V A nf nr f) (hi : i < V.rs.length) (r : Bool) (hr : rule5 V i = r) :
    Calls Tryz.prog 121 #[.pointer (some ⟨lb, 0, none⟩), .int .i64 (i : Nat)] w fun e w' => e = .returned (.bool r) ∧ Below w.heap.size w w' := by
  have c3 : w.cell? ⟨lb, 3, none⟩ = some (.slice A.ra A.rn A.rc) := cell_of_row _ _ 3 _ _ _ h.box
  have rl := h.vw.rl
  have rz := h.vw.rz
  obtain ⟨b, off, ea, q0, q1, q2, q3⟩ := h.vw.rs.at i hi
  rw [ea] at c3
  have hri := h.vw.ri (rwD V.rs i) (by rw [rwD_at hi]; exact List.getElem_mem hi)
  have hsome : (rwD V.rs i).live = true → ∃ k, ownI V.rs (rwD V.rs i).pl = some k ∧ k ≤ i := fun hl => by
    cases e : ownI V.rs (rwD V.rs i).pl with
    | none => exact absurd ⟨hl, rfl⟩ (own_none e i hi)
    | some k =>
      refine ⟨k, rfl, ?_⟩
      obtain ⟨_, _, _, h4⟩ := own_some e
      rcases Nat.lt_or_ge i k with g | g
      · exact absurd ⟨hl, rfl⟩ (h4 i g)
      · exact g
  unfold rule5 at hr
  obtain ⟨R, hR⟩ : ∃ R, rwD V.rs i = R := ⟨_, rfl⟩
  rw [hR] at q0 q1 q2 q3 hr hri hsome
  obtain ⟨gen, lv, kd, x⟩ := R
  simp only at q0 q1 q2 q3 hr hri hsome
  obtain ⟨rn, hrn⟩ : ∃ rn, A.rn = rn := ⟨_, rfl⟩
  rw [hrn] at c3 rl
  have i0 : (i : Int) < (rn : Int) := by omega
  obtain ⟨E, hE⟩ : ∃ E, w.alloc (.cells #[.int .i64 gen, .bool lv, .int .i64 kd, .int .i64 x] 73) = E := ⟨_, rfl⟩
  have bE : Below w.heap.size w E := by rw [← hE]; exact (Below.refl _ w).alloc (Nat.le_refl _) _
  have rE : E.heap[w.heap.size]? = some (.cells #[.int .i64 gen, .bool lv, .int .i64 kd, .int .i64 x] 73 (0, 0)) := by rw [← hE]; exact Go.heap_alloc_new w _
  have LE := h.keep bE
  have HBE : Hid (Below w.heap.size w E) := bE
  obtain ⟨nb, hnb⟩ : ∃ nb, w.heap.size = nb := ⟨_, rfl⟩
  rw [hnb] at rE
  have d1 : E.cell? ⟨nb, 1, none⟩ = some (.bool lv) := cell_of_row _ _ 1 _ _ _ rE
  have d3 : E.cell? ⟨nb, 3, none⟩ = some (.int .i64 x) := cell_of_row _ _ 3 _ _ _ rE
  have c7 : E.cell? ⟨lb, 7, none⟩ = some (.map (some mi)) := cell_of_row _ _ 7 _ _ _ LE.box
  cases lv with
  | false =>
    have F : Hid (true = r) := by show true = r; rw [← hr]; rfl
    clear h LE hr hri hsome rE bE hR
    go_enter Tryz.func121, Tryz.ntmps121
    go_wp2_with fail
    go_quiet (fail)
    go_wp2
    go_ret
    exact ⟨ret_bool F.out, by first | exact below_drewN HBE.out _ | exact hnb ▸ below_drewN HBE.out _⟩
  | true =>
    obtain ⟨k, hk, hki⟩ := hsome rfl
    have LQ : ∀ n, (Instr.lookup 140 (.map (some mi)) (.int .i64 x) false).run Tryz.prog (E.drewN n) = .ok (.int .i64 (k : Nat)) (E.drewN n) := fun n => (LE.on.same (w' := E.drewN n) (fun o ho => ho)).look0 hri.1 k hk
    have F : Hid (((k : Int) == (i : Int)) = r) := by
      show _ = _
      rw [← hr, hk]
      by_cases e : k = i
      · subst e; simp
      · have e1 : ((k : Int) == (i : Int)) = false := by rw [beq_eq_false_iff_ne]; omega
        rw [e1]; simp [e]
    obtain ⟨B, hB⟩ : ∃ B, ((k : Int) == (i : Int)) = B := ⟨_, rfl⟩
    rw [hB] at F
    clear h LE hr hri hsome rE bE hR hk hki
    go_enter Tryz.func121, Tryz.ntmps121
    go_wp2_with fail
    go_quiet (fail)
    go_wp2
    go_ret
    exact ⟨ret_bool F.out, by first | exact below_drewN HBE.out _ | exact hnb ▸ below_drewN HBE.out _⟩
end Go.Proofs.YtbfamjnnlcopiaaGreatDoor
