/- The fourth rule asked: lies, rowRight. -/
import Derived.Test.YtebmegghojiegaaDoorAvB
import Derived.Test.YtebmegghojiegaaDoorAvM
namespace Go.Proofs.YtebmegghojiegaaDoor
open Go.RowKit
set_option linter.unusedVariables false

theorem tdiv_bd {x : Int} (h : i64 x) : i64 (x.tdiv 256) := by
  unfold i64 at *
  rcases Int.le_total 0 x with h0 | h0
  · rw [Int.tdiv_eq_ediv_of_nonneg h0]; omega
  · have e := Int.neg_tdiv (-x) 256
    rw [Int.neg_neg] at e
    rw [e, Int.tdiv_eq_ediv_of_nonneg (by omega)]; omega
def rbox (r : HRw) : Obj := .cells #[.int .i64 r.gen, .bool r.live, .int .i64 r.kind, .int .i64 r.pl] 50
set_option maxRecDepth 20000 in
set_option maxHeartbeats 4000000 in
theorem lies_any (lb ms mi : Nat) (V : Vw) (A : Va) (nf nr : Nat) (f : Int → Option Nat) (gen kd x : Int) (lv : Bool) (w : World) (h : Lk w lb ms mi V A nf nr f) (hV : Hold V 3) (hk : i64 kd) (hx : i64 x) (r : Bool) (hr : liesB V ⟨gen, lv, kd, x⟩ = r) :
    Calls Tryd.prog 85 #[.pointer (some ⟨lb, 0, none⟩), .agg #[.int .i64 gen, .bool lv, .int .i64 kd, .int .i64 x]] w fun e w' => e = .returned (.bool r) ∧ Below w.heap.size w w' := by
  obtain ⟨E, hE⟩ : ∃ E, w.alloc (.cells #[.int .i64 gen, .bool lv, .int .i64 kd, .int .i64 x] 50) = E := ⟨_, rfl⟩
  have bE : Below w.heap.size w E := by rw [← hE]; exact (Below.refl _ w).alloc (Nat.le_refl _) _
  have rE : E.heap[w.heap.size]? = some (.cells #[.int .i64 gen, .bool lv, .int .i64 kd, .int .i64 x] 50 (0, 0)) := by rw [← hE]; exact Go.heap_alloc_new w _
  have LE := h.keep bE
  have d2 : E.cell? ⟨w.heap.size, 2, none⟩ = some (.int .i64 kd) := cell_of_row _ _ 2 _ _ _ rE
  have d3 : E.cell? ⟨w.heap.size, 3, none⟩ = some (.int .i64 x) := cell_of_row _ _ 3 _ _ _ rE
  have HE : Hid (w.alloc (.cells #[.int .i64 gen, .bool lv, .int .i64 kd, .int .i64 x] 50) = E) := hE
  have HBE : Hid (Below w.heap.size w E) := bE
  have kl := h.vw.kl
  have c2 : E.cell? ⟨lb, 2, none⟩ = some (.slice A.ka A.kn A.kc) := cell_of_row _ _ 2 _ _ _ LE.box
  have c6 : E.cell? ⟨lb, 6, none⟩ = some (.map (some ms)) := cell_of_row _ _ 6 _ _ _ LE.box
  obtain ⟨nb, hnb⟩ : ∃ nb, w.heap.size = nb := ⟨_, rfl⟩
  rw [hnb] at d2 d3
  unfold liesB at hr
  simp only at hr
  by_cases k0 : kd < 0
  · have F : Hid (r = false) := by rw [← hr, decide_eq_false (by omega)]; rfl
    have g0 : decide (kd < 0) = true := decide_eq_true k0
    clear h LE hr hV
    go_enter Tryd.func85, Tryd.ntmps85
    go_wp2_with fail
    (try rw [HE.out]); (try rw [hnb])
    go_quiet (fail)
    go_wp2
    go_ret
    exact ⟨ret_bool F.out.symm, below_drewN HBE.out _⟩
  · have g0 : decide (kd < 0) = false := decide_eq_false k0
    by_cases k1 : (A.kn : Int) ≤ kd
    · have F : Hid (r = false) := by rw [← hr, decide_eq_false (by omega)]; rfl
      have g1 : decide ((A.kn : Int) ≤ kd) = true := decide_eq_true k1
      clear h LE hr hV
      go_enter Tryd.func85, Tryd.ntmps85
      go_wp2_with fail
      (try rw [HE.out]); (try rw [hnb])
      go_quiet (fail)
      go_wp2
      go_ret
      exact ⟨ret_bool F.out.symm, below_drewN HBE.out _⟩
    · have g1 : decide ((A.kn : Int) ≤ kd) = false := decide_eq_false k1
      rw [decide_eq_true (by omega), Bool.true_and] at hr
      obtain ⟨kj, rfl⟩ : ∃ kj : Nat, kd = (kj : Int) := ⟨kd.toNat, by omega⟩
      have hkj : kj < V.ks.length := by omega
      have kk0 : (kj : Int) < (A.kn : Int) := by omega
      obtain ⟨g, o, la, lc, ea, e0, _⟩ := LE.vw.ks kj hkj
      rw [ea] at c2
      obtain ⟨z, hz⟩ : ∃ z, V.ks[kj].s = z := ⟨_, rfl⟩
      rw [hz] at e0
      rw [Int.toNat_natCast, knD_at hkj, hz] at hr
      obtain ⟨q, hq⟩ : ∃ q, x.tdiv 256 = q := ⟨_, rfl⟩
      have qi : i64 q := by rw [← hq]; exact tdiv_bd hx
      have wq : IntKind.i64.wrap q = q := by unfold i64 at qi; rw [IntKind.wrap_i64]; omega
      have LQ : ∀ n, (Instr.lookup 79 (.map (some ms)) (.int .i64 q) false).run Tryd.prog (E.drewN n) = .ok (ptO (f q)) (E.drewN n) := fun n => (LE.sp.same (w' := E.drewN n) (fun o ho => ho)).look qi
      cases hf : f q with
      | none =>
        have F : Hid (r = false) := by
          rw [← hr]
          refine slot_no hV (Nat.le_refl _) (fun i hi e => ?_)
          have := h.f2 i hi (hV.right (Nat.le_refl _) i hi).1
          rw [e, hq, hf] at this
          cases this
        rw [hf] at LQ
        have LQ : ∀ n, (Instr.lookup 79 (.map (some ms)) (.int .i64 q) false).run Tryd.prog (E.drewN n) = .ok (.pointer none) (E.drewN n) := LQ
        clear h LE hr hV
        go_enter Tryd.func85, Tryd.ntmps85
        go_wp2_with fail
        go_quiet (fail)
        go_wp2_with fail
        go_quiet (fail)
        go_wp2_with fail
        go_quiet (fail)
        go_wp2_with (go_at_call 95; refine (slot_nil x _).mono ?_; rintro e w' ⟨rfl, rfl⟩)
        go_ret
        exact ⟨ret_bool F.out.symm, below_drewN HBE.out _⟩
      | some sb =>
        obtain ⟨i, hi, hrt, hp, b, g2, sp⟩ := LE.f1 q sb hf
        have hr2 := slot_of hV (Nat.le_refl _) (z := z) hi (hp.trans hq.symm)
        rw [hr] at hr2
        have hany := fun y ok => any_at hrt (x := x) (y := y) (ok := ok)
        have HTB : Hid (Tabs E) := LE.tab
        obtain ⟨t, ht⟩ : ∃ t, tdD V.ts i = t := ⟨_, rfl⟩
        rw [ht] at hrt hp sp hr2 hany
        obtain ⟨p, c, s, l⟩ := t
        simp only at hp sp hany
        have HRT : Hid (Rt p c s) := newE_rt hrt.1
        have SP : Hid (SpanAt E sb b g2 p c s (fOf l)) := sp
        have BX : Hid (Bx E sb p c s) := sp.box
        have HR2 : Hid (r = (fitS ⟨p, c, s, l⟩ z && l.any (fun k => decide (atS ⟨p, c, s, l⟩ k = x)))) := hr2
        have HAN : Hid (∀ (y : Int) (ok : Bool), SlotR (slN c) p (szI c s) x y ok → (l.any fun k => decide (atS ⟨p, c, s, l⟩ k = x)) = (ok && hasB (slN c) (fOf l) y)) := hany
        have HCO : Hid (c = ofI z ∨ ¬ c = ofI z) := Classical.em _
        obtain ⟨co, hco⟩ : ∃ co, ofI z = co := ⟨_, rfl⟩
        have HO : Hid (ofI z = co) := hco
        rw [hf] at LQ
        have LQ : ∀ n, (Instr.lookup 79 (.map (some ms)) (.int .i64 q) false).run Tryd.prog (E.drewN n) = .ok (.pointer (some ⟨sb, 0, none⟩)) (E.drewN n) := LQ
        clear h LE hr hr2 hV sp hany hrt hp hi ht hf hco
        go_enter Tryd.func85, Tryd.ntmps85
        go_wp2_with fail
        go_quiet (fail)
        go_wp2_with fail
        go_quiet (fail)
        go_wp2_with fail
        go_quiet (fail)
        go_wp2_with fail
        refine (slot_any sb p c s x _ (BX.out.drewN _) (HTB.out.drewN _).1 HRT.out hx).mono ?_
        rintro e w' ⟨y, ok, rfl, sr, rfl⟩
        have HA := HAN.out y ok sr
        have FR : Hid (r = (decide (c = co ∧ (c = 7 → s = z)) && (ok && hasB (slN c) (fOf l) y))) := by rw [HR2.out, HA, ← HO.out]; rfl
        clear HA sr
        cases ok with
        | false =>
          have F : Hid (r = false) := by show r = false; rw [FR.out]; simp
          go_wp2
          go_ret
          exact ⟨ret_bool F.out.symm, below_drewN HBE.out _⟩
        | true =>
          obtain ⟨hb, hhb⟩ : ∃ hb, hasB (slN c) (fOf l) y = hb := ⟨_, rfl⟩
          have HHB : Hid (hasB (slN c) (fOf l) y = hb) := hhb
          rw [hhb] at FR
          clear hhb
          cases hb with
          | false =>
            have F : Hid (r = false) := by show r = false; rw [FR.out]; simp
            go_wp2_with (go_at_call 96; refine (has_any sb b g2 p c s (fOf l) y _ (SP.out.drewN _)).mono ?_; rw [HHB.out]; rintro e w' ⟨rfl, rfl⟩)
            go_ret
            exact ⟨ret_bool F.out.symm, below_drewN HBE.out _⟩
          | true =>
            by_cases hc : c = co
            · have b1 : (c == co) = true := by rw [beq_iff_eq]; exact hc
              have b2 : (c != co) = false := by rw [bne, b1]; rfl
              by_cases c7 : c = 7
              · have F : Hid (r = (s == z)) := by
                  show r = (s == z)
                  rw [FR.out]
                  by_cases e : s = z
                  · rw [decide_eq_true ⟨hc, fun _ => e⟩]; simp [e]
                  · rw [decide_eq_false (fun q => e (q.2 c7))]; simp [e]
                have b3 : (c == 7) = true := by rw [beq_iff_eq]; exact c7
                have b4 : (c != 7) = false := by rw [bne, b3]; rfl
                have ZZ : Hid (szI c s = s) := by show szI c s = s; unfold szI; rw [if_pos c7]
                clear c7 hc
                go_wp2_with (first
                  | (go_at_call 96; refine (has_any sb b g2 p c s (fOf l) y _ (SP.out.drewN _)).mono ?_; rw [HHB.out]; rintro e w' ⟨rfl, rfl⟩)
                  | (go_at_call 97; refine (class_any sb p c s _ (BX.out.drewN _)).mono ?_; rintro e w' ⟨rfl, rfl⟩)
                  | (go_at_call 98; refine (cof_any z _ (HTB.out.drewN _).1).mono ?_; rw [HO.out]; rintro e w' ⟨rfl, rfl⟩)
                  | (go_at_call 99; refine (size_any sb p c s _ (BX.out.drewN _) (HTB.out.drewN _).1 HRT.out.c0 HRT.out.c7).mono ?_; rw [ZZ.out]; rintro e w' ⟨rfl, rfl⟩))
                go_ret
                exact ⟨ret_bool F.out.symm, below_drewN HBE.out _⟩
              · have F : Hid (r = true) := by show r = true; rw [FR.out, decide_eq_true ⟨hc, fun q => absurd q c7⟩]; rfl
                have b3 : (c == 7) = false := by rw [beq_eq_false_iff_ne]; exact c7
                have b4 : (c != 7) = true := by rw [bne, b3]; rfl
                clear c7 hc
                go_wp2_with (first
                  | (go_at_call 96; refine (has_any sb b g2 p c s (fOf l) y _ (SP.out.drewN _)).mono ?_; rw [HHB.out]; rintro e w' ⟨rfl, rfl⟩)
                  | (go_at_call 97; refine (class_any sb p c s _ (BX.out.drewN _)).mono ?_; rintro e w' ⟨rfl, rfl⟩)
                  | (go_at_call 98; refine (cof_any z _ (HTB.out.drewN _).1).mono ?_; rw [HO.out]; rintro e w' ⟨rfl, rfl⟩))
                go_ret
                exact ⟨ret_bool F.out.symm, below_drewN HBE.out _⟩
            · have b1 : (c == co) = false := by rw [beq_eq_false_iff_ne]; exact hc
              have b2 : (c != co) = true := by rw [bne, b1]; rfl
              have F : Hid (r = false) := by show r = false; rw [FR.out, decide_eq_false (fun q => hc q.1)]; rfl
              clear hc
              go_wp2_with (first
                | (go_at_call 96; refine (has_any sb b g2 p c s (fOf l) y _ (SP.out.drewN _)).mono ?_; rw [HHB.out]; rintro e w' ⟨rfl, rfl⟩)
                | (go_at_call 97; refine (class_any sb p c s _ (BX.out.drewN _)).mono ?_; rintro e w' ⟨rfl, rfl⟩)
                | (go_at_call 98; refine (cof_any z _ (HTB.out.drewN _).1).mono ?_; rw [HO.out]; rintro e w' ⟨rfl, rfl⟩))
              go_ret
              exact ⟨ret_bool F.out.symm, below_drewN HBE.out _⟩
end Go.Proofs.YtebmegghojiegaaDoor
