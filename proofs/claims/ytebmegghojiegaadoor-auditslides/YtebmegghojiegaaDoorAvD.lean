/- The fourth and the fifth rule asked: rowRight, rowAlone. -/
import Derived.Test.YtebmegghojiegaaDoorAvC
namespace Go.Proofs.YtebmegghojiegaaDoor
open Go.RowKit
set_option linter.unusedVariables false

theorem IsW.at {w : World} {a : Option Addr} {l : List HRw} (h : IsW w a l) (i : Nat) (hi : i < l.length) : ∃ b off, a = some ⟨b, off, none⟩ ∧ w.cell? ⟨b, off + i * 4, none⟩ = some (.int .i64 (rwD l i).gen) ∧ w.cell? ⟨b, off + i * 4 + 1, none⟩ = some (.bool (rwD l i).live) ∧ w.cell? ⟨b, off + i * 4 + 2, none⟩ = some (.int .i64 (rwD l i).kind) ∧ w.cell? ⟨b, off + i * 4 + 3, none⟩ = some (.int .i64 (rwD l i).pl) := by
  rcases h with h | ⟨b, off, e, _, hc⟩
  · subst h; cases hi
  · rw [rwD_at hi]
    exact ⟨b, off, e, hc i hi⟩
set_option maxRecDepth 20000 in
set_option maxHeartbeats 4000000 in
theorem rowRight_any (lb ms mi : Nat) (V : Vw) (A : Va) (nf nr : Nat) (f : Int → Option Nat) (i : Nat) (w : World) (h : Lk w lb ms mi V A nf nr f) (hi : i < V.rs.length) (hV : Hold V 3) (r : Bool) (hr : rule4 V i = r) :
    Calls Tryd.prog 71 #[.pointer (some ⟨lb, 0, none⟩), .int .i64 (i : Nat)] w fun e w' => e = .returned (.bool r) ∧ Below w.heap.size w w' := by
  have c3 : w.cell? ⟨lb, 3, none⟩ = some (.slice A.ra A.rn A.rc) := cell_of_row _ _ 3 _ _ _ h.box
  have rl := h.vw.rl
  have rz := h.vw.rz
  obtain ⟨b, off, ea, q0, q1, q2, q3⟩ := h.vw.rs.at i hi
  rw [ea] at c3
  have hri := h.vw.ri (rwD V.rs i) (by rw [rwD_at hi]; exact List.getElem_mem hi)
  unfold rule4 at hr
  obtain ⟨R, hR⟩ : ∃ R, rwD V.rs i = R := ⟨_, rfl⟩
  rw [hR] at q0 q1 q2 q3 hr hri
  obtain ⟨gen, lv, kd, x⟩ := R
  simp only at q0 q1 q2 q3 hr hri
  obtain ⟨rn, hrn⟩ : ∃ rn, A.rn = rn := ⟨_, rfl⟩
  rw [hrn] at c3 rl
  have i0 : (i : Int) < (rn : Int) := by omega
  obtain ⟨E, hE⟩ : ∃ E, w.alloc (.cells #[.int .i64 gen, .bool lv, .int .i64 kd, .int .i64 x] 50) = E := ⟨_, rfl⟩
  have bE : Below w.heap.size w E := by rw [← hE]; exact (Below.refl _ w).alloc (Nat.le_refl _) _
  have rE : E.heap[w.heap.size]? = some (.cells #[.int .i64 gen, .bool lv, .int .i64 kd, .int .i64 x] 50 (0, 0)) := by rw [← hE]; exact Go.heap_alloc_new w _
  have LE : Hid (Lk E lb ms mi V A nf nr f) := h.keep bE
  have HBE : Hid (Below w.heap.size w E) := bE
  have HVV : Hid (Hold V 3) := hV
  have HRI : Hid (i64 x ∧ i64 kd ∧ i64 gen) := hri
  obtain ⟨nb, hnb⟩ : ∃ nb, w.heap.size = nb := ⟨_, rfl⟩
  rw [hnb] at rE
  have d0 : E.cell? ⟨nb, 0, none⟩ = some (.int .i64 gen) := cell_of_row _ _ 0 _ _ _ rE
  have d1 : E.cell? ⟨nb, 1, none⟩ = some (.bool lv) := cell_of_row _ _ 1 _ _ _ rE
  have d2 : E.cell? ⟨nb, 2, none⟩ = some (.int .i64 kd) := cell_of_row _ _ 2 _ _ _ rE
  have d3 : E.cell? ⟨nb, 3, none⟩ = some (.int .i64 x) := cell_of_row _ _ 3 _ _ _ rE
  have c3E : E.cell? ⟨lb, 3, none⟩ = some (.slice (some ⟨b, off, none⟩) rn A.rc) := bcell bE c3
  have wr : IntKind.i64.wrap ((rn : Int) - 1) = (rn : Int) - 1 := by rw [IntKind.wrap_i64]; omega
  clear h hV hri hR bE rE
  by_cases g0 : gen < 0
  · have F : Hid (r = false) := by show r = false; rw [← hr, decide_eq_false (by omega)]; rfl
    clear hr
    go_enter Tryd.func71, Tryd.ntmps71
    go_wp2
    go_ret
    exact ⟨ret_bool F.out.symm, by first | exact HBE.out | exact hnb ▸ HBE.out⟩
  · by_cases g1 : 65535 < gen
    · have F : Hid (r = false) := by show r = false; rw [← hr, decide_eq_false (by omega)]; rfl
      clear hr
      go_enter Tryd.func71, Tryd.ntmps71
      go_wp2
      go_ret
      exact ⟨ret_bool F.out.symm, by first | exact HBE.out | exact hnb ▸ HBE.out⟩
    · rw [decide_eq_true (by omega), Bool.true_and] at hr
      cases lv with
      | true =>
        rw [if_pos rfl] at hr
        by_cases g2 : 0 < gen
        · rw [decide_eq_true (by omega), Bool.true_and] at hr
          have HR : Hid (liesB V ⟨gen, true, kd, x⟩ = r) := hr
          clear hr
          go_enter Tryd.func71, Tryd.ntmps71
          go_wp2_with (go_at_call 85; refine (lies_any lb ms mi V A nf nr f gen kd x true _ LE.out HVV.out HRI.out.2.1 HRI.out.1 r HR.out).mono ?_; rintro e w2 ⟨rfl, b2⟩; have B2 : Hid (Below w.heap.size w w2) := HBE.out.trans (b2.mono HBE.out.size); clear b2)
          go_ret
          exact ⟨rfl, B2.out⟩
        · rw [decide_eq_false (by omega), Bool.false_and] at hr
          have F : Hid (false = r) := hr
          clear hr
          go_enter Tryd.func71, Tryd.ntmps71
          go_wp2
          go_ret
          exact ⟨ret_bool F.out, by first | exact HBE.out | exact hnb ▸ HBE.out⟩
      | false =>
        rw [if_neg (by simp)] at hr
        by_cases g2 : gen = 0
        · have e0 : (gen == 0) = true := by rw [beq_iff_eq]; exact g2
          by_cases g3 : i + 1 = rn
          · have F : Hid (false = r) := by show false = r; rw [← hr]; exact (decide_eq_false (fun q => q.2.2 ⟨g2, by omega⟩)).symm
            have e1 : ((i : Int) == (rn : Int) - 1) = true := by rw [beq_iff_eq]; omega
            clear hr g3 g2
            go_enter Tryd.func71, Tryd.ntmps71
            go_wp2
            go_ret
            exact ⟨ret_bool F.out, by first | exact HBE.out | exact hnb ▸ HBE.out⟩
          · have e1 : ((i : Int) == (rn : Int) - 1) = false := by rw [beq_eq_false_iff_ne]; omega
            have HR : Hid (decide (kd = 0 ∧ x = 0) = r) := by show _ = _; rw [← hr]; exact decide_eq_decide.2 ⟨fun q => ⟨q.1, q.2, by omega⟩, fun q => ⟨q.1, q.2.1⟩⟩
            clear hr g3 g2
            by_cases k0 : kd = 0
            · have e2 : (kd == 0) = true := by rw [beq_iff_eq]; exact k0
              by_cases x0 : x = 0
              · have e3 : (x == 0) = true := by rw [beq_iff_eq]; exact x0
                have F : Hid (true = r) := by show true = r; rw [← HR.out]; exact (decide_eq_true ⟨k0, x0⟩).symm
                clear k0 x0
                go_enter Tryd.func71, Tryd.ntmps71
                go_wp2
                go_ret
                exact ⟨ret_bool F.out, by first | exact HBE.out | exact hnb ▸ HBE.out⟩
              · have e3 : (x == 0) = false := by rw [beq_eq_false_iff_ne]; exact x0
                have F : Hid (false = r) := by show false = r; rw [← HR.out]; exact (decide_eq_false (fun q => x0 q.2)).symm
                clear k0 x0
                go_enter Tryd.func71, Tryd.ntmps71
                go_wp2
                go_ret
                exact ⟨ret_bool F.out, by first | exact HBE.out | exact hnb ▸ HBE.out⟩
            · have e2 : (kd == 0) = false := by rw [beq_eq_false_iff_ne]; exact k0
              have F : Hid (false = r) := by show false = r; rw [← HR.out]; exact (decide_eq_false (fun q => k0 q.1)).symm
              clear k0
              go_enter Tryd.func71, Tryd.ntmps71
              go_wp2
              go_ret
              exact ⟨ret_bool F.out, by first | exact HBE.out | exact hnb ▸ HBE.out⟩
        · have e0 : (gen == 0) = false := by rw [beq_eq_false_iff_ne]; exact g2
          have HR : Hid (decide (kd = 0 ∧ x = 0) = r) := by show _ = _; rw [← hr]; exact decide_eq_decide.2 ⟨fun q => ⟨q.1, q.2, fun z => g2 z.1⟩, fun q => ⟨q.1, q.2.1⟩⟩
          clear hr g2
          by_cases k0 : kd = 0
          · have e2 : (kd == 0) = true := by rw [beq_iff_eq]; exact k0
            by_cases x0 : x = 0
            · have e3 : (x == 0) = true := by rw [beq_iff_eq]; exact x0
              have F : Hid (true = r) := by show true = r; rw [← HR.out]; exact (decide_eq_true ⟨k0, x0⟩).symm
              clear k0 x0
              go_enter Tryd.func71, Tryd.ntmps71
              go_wp2
              go_ret
              exact ⟨ret_bool F.out, by first | exact HBE.out | exact hnb ▸ HBE.out⟩
            · have e3 : (x == 0) = false := by rw [beq_eq_false_iff_ne]; exact x0
              have F : Hid (false = r) := by show false = r; rw [← HR.out]; exact (decide_eq_false (fun q => x0 q.2)).symm
              clear k0 x0
              go_enter Tryd.func71, Tryd.ntmps71
              go_wp2
              go_ret
              exact ⟨ret_bool F.out, by first | exact HBE.out | exact hnb ▸ HBE.out⟩
          · have e2 : (kd == 0) = false := by rw [beq_eq_false_iff_ne]; exact k0
            have F : Hid (false = r) := by show false = r; rw [← HR.out]; exact (decide_eq_false (fun q => k0 q.1)).symm
            clear k0
            go_enter Tryd.func71, Tryd.ntmps71
            go_wp2
            go_ret
            exact ⟨ret_bool F.out, by first | exact HBE.out | exact hnb ▸ HBE.out⟩
set_option maxRecDepth 20000 in
set_option maxHeartbeats 4000000 in
theorem rowAlone_any (lb ms mi : Nat) (V : Vw) (A : Va) (nf nr : Nat) (f : Int → Option Nat) (i : Nat) (w : World) (h : Lk w lb ms mi V A nf nr f) (hi : i < V.rs.length) (r : Bool) (hr : rule5 V i = r) :
    Calls Tryd.prog 72 #[.pointer (some ⟨lb, 0, none⟩), .int .i64 (i : Nat)] w fun e w' => e = .returned (.bool r) ∧ Below w.heap.size w w' := by
  have c3 : w.cell? ⟨lb, 3, none⟩ = some (.slice A.ra A.rn A.rc) := cell_of_row _ _ 3 _ _ _ h.box
  have rl := h.vw.rl
  have rz := h.vw.rz
  obtain ⟨b, off, ea, q0, q1, q2, q3⟩ := h.vw.rs.at i hi
  rw [ea] at c3
  have hri := h.vw.ri (rwD V.rs i) (by rw [rwD_at hi]; exact List.getElem_mem hi)
  have hsome : (rwD V.rs i).live = true → ∃ k, ownI V.rs (rwD V.rs i).pl = some k ∧ k ≤ i := fun hl => by
    cases e : ownI V.rs (rwD V.rs i).pl with
    | none => exact absurd ⟨hl, rfl⟩ (own_none e i hi)
    | some k =>
      refine ⟨k, rfl, ?_⟩
      obtain ⟨_, _, _, h4⟩ := own_some e
      rcases Nat.lt_or_ge i k with g | g
      · exact absurd ⟨hl, rfl⟩ (h4 i g)
      · exact g
  unfold rule5 at hr
  obtain ⟨R, hR⟩ : ∃ R, rwD V.rs i = R := ⟨_, rfl⟩
  rw [hR] at q0 q1 q2 q3 hr hri hsome
  obtain ⟨gen, lv, kd, x⟩ := R
  simp only at q0 q1 q2 q3 hr hri hsome
  obtain ⟨rn, hrn⟩ : ∃ rn, A.rn = rn := ⟨_, rfl⟩
  rw [hrn] at c3 rl
  have i0 : (i : Int) < (rn : Int) := by omega
  obtain ⟨E, hE⟩ : ∃ E, w.alloc (.cells #[.int .i64 gen, .bool lv, .int .i64 kd, .int .i64 x] 50) = E := ⟨_, rfl⟩
  have bE : Below w.heap.size w E := by rw [← hE]; exact (Below.refl _ w).alloc (Nat.le_refl _) _
  have rE : E.heap[w.heap.size]? = some (.cells #[.int .i64 gen, .bool lv, .int .i64 kd, .int .i64 x] 50 (0, 0)) := by rw [← hE]; exact Go.heap_alloc_new w _
  have LE := h.keep bE
  have HBE : Hid (Below w.heap.size w E) := bE
  obtain ⟨nb, hnb⟩ : ∃ nb, w.heap.size = nb := ⟨_, rfl⟩
  rw [hnb] at rE
  have d1 : E.cell? ⟨nb, 1, none⟩ = some (.bool lv) := cell_of_row _ _ 1 _ _ _ rE
  have d3 : E.cell? ⟨nb, 3, none⟩ = some (.int .i64 x) := cell_of_row _ _ 3 _ _ _ rE
  have c7 : E.cell? ⟨lb, 7, none⟩ = some (.map (some mi)) := cell_of_row _ _ 7 _ _ _ LE.box
  cases lv with
  | false =>
    have F : Hid (true = r) := by show true = r; rw [← hr]; rfl
    clear h LE hr hri hsome rE bE hR
    go_enter Tryd.func72, Tryd.ntmps72
    go_wp2_with fail
    go_quiet (fail)
    go_wp2
    go_ret
    exact ⟨ret_bool F.out, by first | exact below_drewN HBE.out _ | exact hnb ▸ below_drewN HBE.out _⟩
  | true =>
    obtain ⟨k, hk, hki⟩ := hsome rfl
    have LQ : ∀ n, (Instr.lookup 80 (.map (some mi)) (.int .i64 x) false).run Tryd.prog (E.drewN n) = .ok (.int .i64 (k : Nat)) (E.drewN n) := fun n => (LE.on.same (w' := E.drewN n) (fun o ho => ho)).look0 hri.1 k hk
    have F : Hid (((k : Int) == (i : Int)) = r) := by
      show _ = _
      rw [← hr, hk]
      by_cases e : k = i
      · subst e; simp
      · have e1 : ((k : Int) == (i : Int)) = false := by rw [beq_eq_false_iff_ne]; omega
        rw [e1]; simp [e]
    obtain ⟨B, hB⟩ : ∃ B, ((k : Int) == (i : Int)) = B := ⟨_, rfl⟩
    rw [hB] at F
    clear h LE hr hri hsome rE bE hR hk hki
    go_enter Tryd.func72, Tryd.ntmps72
    go_wp2_with fail
    go_quiet (fail)
    go_wp2
    go_ret
    exact ⟨ret_bool F.out, by first | exact below_drewN HBE.out _ | exact hnb ▸ below_drewN HBE.out _⟩
end Go.Proofs.YtebmegghojiegaaDoor
