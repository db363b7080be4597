/- The fourth and the fifth rule asked: rowRight, rowAlone. -/
import Derived.Test.YtbfamjnnlcopiaaGreatDoorGzAN
namespace Go.Proofs.YtbfamjnnlcopiaaGreatDoor
open Go.RowKit
set_option linter.unusedVariables false
set_option maxRecDepth 4000

theorem IsW.at {w : World} {a : Option Addr} {l : List HRw} (h : IsW w a l) (i : Nat) (hi : i < l.length) : ∃ b off, a = some ⟨b, off, none⟩ ∧ w.cell? ⟨b, off + i * 4, none⟩ = some (.int .i64 (rwD l i).gen) ∧ w.cell? ⟨b, off + i * 4 + 1, none⟩ = some (.bool (rwD l i).live) ∧ w.cell? ⟨b, off + i * 4 + 2, none⟩ = some (.int .i64 (rwD l i).kind) ∧ w.cell? ⟨b, off + i * 4 + 3, none⟩ = some (.int .i64 (rwD l i).pl) := by
  rcases h with h | ⟨b, off, e, _, hc⟩
  · subst h; cases hi
  · rw [rwD_at hi]
    exact ⟨b, off, e, hc i hi⟩
set_option maxRecDepth 20000 in
set_option maxHeartbeats 4000000 in
theorem rowRight_any (lb ms mi : Nat) (V : Vw) (A : Va) (nf nr : Nat) (f : Int → Option Nat) (i : Nat) (w : World) (h : Lk w lb ms mi V A nf nr f) (hi : i < V.rs.length) (hV : Hold V 3) (r : Bool) (hr : rule4 V i = r) :
    Calls Tryz.prog 120 #[.pointer (some ⟨lb, 0, none⟩), .int .i64 (i : Nat)] w fun e w' => e = .returned (.bool r) ∧ Below w.heap.size w w' := by
  have c3 : w.cell? ⟨lb, 3, none⟩ = some (.slice A.ra A.rn A.rc) := cell_of_row _ _ 3 _ _ _ h.box
  have rl := h.vw.rl
  have rz := h.vw.rz
  obtain ⟨b, off, ea, q0, q1, q2, q3⟩ := h.vw.rs.at i hi
  rw [ea] at c3
  have hri := h.vw.ri (rwD V.rs i) (by rw [rwD_at hi]; exact List.getElem_mem hi)
  unfold rule4 at hr
  obtain ⟨R, hR⟩ : ∃ R, rwD V.rs i = R := ⟨_, rfl⟩
  rw [hR] at q0 q1 q2 q3 hr hri
  obtain ⟨gen, lv, kd, x⟩ := R
  simp only at q0 q1 q2 q3 hr hri
  obtain ⟨rn, hrn⟩ : ∃ rn, A.rn = rn := ⟨_, rfl⟩
  rw [hrn] at c3 rl
  have i0 : (i : Int) < (rn : Int) := by omega
  obtain ⟨E, hE⟩ : ∃ E, w.alloc (.cells #[.int .i64 gen, .bool lv, .int .i64 kd, .int .i64 x] 73) = E := ⟨_, rfl⟩
  have bE : Below w.heap.size w E := by rw [← hE]; exact (Below.refl _ w).alloc (Nat.le_refl _) _
  have rE : E.heap[w.heap.size]? = some (.cells #[.int .i64 gen, .bool lv, .int .i64 kd, .int .i64 x] 73 (0, 0)) := by rw [← hE]; exact Go.heap_alloc_new w _
  have LE : Hid (Lk E lb ms mi V A nf nr f) := h.keep bE
  have HBE : Hid (Below w.heap.size w E) := bE
  have HVV : Hid (Hold V 3) := hV
  have HRI : Hid (i64 x ∧ i64 kd ∧ i64 gen) := hri
  obtain ⟨nb, hnb⟩ : ∃ nb, w.heap.size = nb := ⟨_, rfl⟩
  rw [hnb] at rE
  have d0 : E.cell? ⟨nb, 0, none⟩ = some (.int .i64 gen) := cell_of_row _ _ 0 _ _ _ rE
  have d1 : E.cell? ⟨nb, 1, none⟩ = some (.bool lv) := cell_of_row _ _ 1 _ _ _ rE
  have d2 : E.cell? ⟨nb, 2, none⟩ = some (.int .i64 kd) := cell_of_row _ _ 2 _ _ _ rE
  have d3 : E.cell? ⟨nb, 3, none⟩ = some (.int .i64 x) := cell_of_row _ _ 3 _ _ _ rE
  have c3E : E.cell? ⟨lb, 3, none⟩ = some (.slice (some ⟨b, off, none⟩) rn A.rc) := bcell bE c3
  have wr : IntKind.i64.wrap ((rn : Int) - 1) = (rn : Int) - 1 := by rw [IntKind.wrap_i64]; omega
  clear h hV hri hR bE rE
  by_cases g0 : gen < 0
  · have F : Hid (r = false) := by show r = false; rw [← hr, decide_eq_false (by omega)]; rfl
    clear hr
    go_enter Tryz.func120, Tryz.ntmps120
    go_wp2
    go_ret
    exact ⟨ret_bool F.out.symm, by first | exact HBE.out | exact hnb ▸ HBE.out⟩
  · by_cases g1 : 65535 < gen
    · have F : Hid (r = false) := by show r = false; rw [← hr, decide_eq_false (by omega)]; rfl
      clear hr
      go_enter Tryz.func120, Tryz.ntmps120
      go_wp2
      go_ret
      exact ⟨ret_bool F.out.symm, by first | exact HBE.out | exact hnb ▸ HBE.out⟩
    · rw [decide_eq_true (by omega), Bool.true_and] at hr
      cases lv with
      | true =>
        rw [if_pos rfl] at hr
        by_cases g2 : 0 < gen
        · rw [decide_eq_true (by omega), Bool.true_and] at hr
          have HR : Hid (liesB V ⟨gen, true, kd, x⟩ = r) := hr
          clear hr
          go_enter Tryz.func120, Tryz.ntmps120
          go_wp2_with (go_at_call 130; refine (lies_any lb ms mi V A nf nr f gen kd x true _ LE.out HVV.out HRI.out.2.1 HRI.out.1 r HR.out).mono ?_; rintro e w2 ⟨rfl, b2⟩; have B2 : Hid (Below w.heap.size w w2) := HBE.out.trans (b2.mono HBE.out.size); clear b2)
          go_ret
          exact ⟨rfl, B2.out⟩
        · rw [decide_eq_false (by omega), Bool.false_and] at hr
          have F : Hid (false = r) := hr
          clear hr
          go_enter Tryz.func120, Tryz.ntmps120
          go_wp2
          go_ret
          exact ⟨ret_bool F.out, by first | exact HBE.out | exact hnb ▸ HBE.out⟩
      | false =>
        rw [if_neg (by simp)] at hr
        by_cases g2 : gen = 0
        · have e0 : (gen == 0) = true := by rw [beq_iff_eq]; exact g2
          by_cases g3 : i + 1 = rn
          · have F : Hid (false = r) := by show false = r; rw [← hr]; exact (decide_eq_false (fun q => q.2.2 ⟨g2, by omega⟩)).symm
            have e1 : ((i : Int) == (rn : Int) - 1) = true := by rw [beq_iff_eq]; omega
            clear hr g3 g2
            go_enter Tryz.func120, Tryz.ntmps120
            go_wp2
            go_ret
            exact ⟨ret_bool F.out, by first | exact HBE.out | exact hnb ▸ HBE.out⟩
          · have e1 : ((i : Int) == (rn : Int) - 1) = false := by rw [beq_eq_false_iff_ne]; omega
            have HR : Hid (decide (kd = 0 ∧ x = 0) = r) := by show _ = _; rw [← hr]; exact decide_eq_decide.2 ⟨fun q => ⟨q.1, q.2, by omega⟩, fun q => ⟨q.1, q.2.1⟩⟩
            clear hr g3 g2
            by_cases k0 : kd = 0
            · have e2 : (kd == 0) = true := by rw [beq_iff_eq]; exact k0
              by_cases x0 : x = 0
              · have e3 : (x == 0) = true := by rw [beq_iff_eq]; exact x0
                have F : Hid (true = r) := by show true = r; rw [← HR.out]; exact (decide_eq_true ⟨k0, x0⟩).symm
                clear k0 x0
                go_enter Tryz.func120, Tryz.ntmps120
                go_wp2
                go_ret
                exact ⟨ret_bool F.out, by first | exact HBE.out | exact hnb ▸ HBE.out⟩
              · have e3 : (x == 0) = false := by rw [beq_eq_false_iff_ne]; exact x0
                have F : Hid (false = r) := by show false = r; rw [← HR.out]; exact (decide_eq_false (fun q => x0 q.2)).symm
                clear k0 x0
                go_enter Tryz.func120, Tryz.ntmps120
                go_wp2
                go_ret
                exact ⟨ret_bool F.out, by first | exact HBE.out | exact hnb ▸ HBE.out⟩
            · have e2 : (kd == 0) = false := by rw [beq_eq_false_iff_ne]; exact k0
              have F : Hid (false = r) := by show false = r; rw [← HR.out]; exact (decide_eq_false (fun q => k0 q.1)).symm
              clear k0
              go_enter Tryz.func120, Tryz.ntmps120
              go_wp2
              go_ret
              exact ⟨ret_bool F.out, by first | exact HBE.out | exact hnb ▸ HBE.out⟩
        · have e0 : (gen == 0) = false := by rw [beq_eq_false_iff_ne]; exact g2
          have HR : Hid (decide (kd = 0 ∧ x = 0) = r) := by show _ = _; rw [← hr]; exact decide_eq_decide.2 ⟨fun q => ⟨q.1, q.2, fun z => g2 z.1⟩, fun q => ⟨q.1, q.2.1⟩⟩
          clear hr g2
          by_cases k0 : kd = 0
          · have e2 : (kd == 0) = true := by rw [beq_iff_eq]; exact k0
            by_cases x0 : x = 0
            · have e3 : (x == 0) = true := by rw [beq_iff_eq]; exact x0
              have F : Hid (true = r) := by show true = r; rw [← HR.out]; exact (decide_eq_true ⟨k0, x0⟩).symm
              clear k0 x0
              go_enter Tryz.func120, Tryz.ntmps120
              go_wp2
              go_ret
              exact ⟨ret_bool F.out, by first | exact HBE.out | exact hnb ▸ HBE.out⟩
            · have e3 : (x == 0) = false := by rw [beq_eq_false_iff_ne]; exact x0
              have F : Hid (false = r) := by show false = r; rw [← HR.out]; exact (decide_eq_false (fun q => x0 q.2)).symm
              clear k0 x0
              go_enter Tryz.func120, Tryz.ntmps120
              go_wp2
              go_ret
              exact ⟨ret_bool F.out, by first | exact HBE.out | exact hnb ▸ HBE.out⟩
          · have e2 : (kd == 0) = false := by rw [beq_eq_false_iff_ne]; exact k0
            have F : Hid (false = r) := by show false = r; rw [← HR.out]; exact (decide_eq_false (fun q => k0 q.1)).symm
            clear k0
            go_enter Tryz.func120, Tryz.ntmps120
            go_wp2
            go_ret
            exact ⟨ret_bool F.out, by first | exact HBE.out | exact hnb ▸ HBE.out⟩
set_option maxRecDepth 20000 in
set_option maxHeartbeats 4000000 in
theorem rowAlone_any (lb ms mi : Nat) (V : Vw) (A : Va) (nf nr : Nat) (f : Int → Option Nat) (i : Nat) (w : World) (h : Lk w lb ms mi V A nf nr f) (hi : i < V.rs.length) (r : Bool) (hr : rule5 V i = r) :
    Calls Tryz.prog 121 #[.pointer (some ⟨lb, 0, none⟩), .int .i64 (i : Nat)] w fun e w' => e = .returned (.bool r) ∧ Below w.heap.size w w' := by
  have c3 : w.cell? ⟨lb, 3, none⟩ = some (.slice A.ra A.rn A.rc) := cell_of_row _ _ 3 _ _ _ h.box
  have rl := h.vw.rl
  have rz := h.vw.rz
  obtain ⟨b, off, ea, q0, q1, q2, q3⟩ := h.vw.rs.at i hi
  rw [ea] at c3
  have hri := h.vw.ri (rwD V.rs i) (by rw [rwD_at hi]; exact List.getElem_mem hi)
  have hsome : (rwD V.rs i).live = true → ∃ k, ownI V.rs (rwD V.rs i).pl = some k ∧ k ≤ i := fun hl => by
    cases e : ownI V.rs (rwD V.rs i).pl with
    | none => exact absurd ⟨hl, rfl⟩ (own_none e i hi)
    | some k =>
      refine ⟨k, rfl, ?_⟩
      obtain ⟨_, _, _, h4⟩ := own_some e
      rcases Nat.lt_or_ge i k with g | g
      · exact absurd ⟨hl, rfl⟩ (h4 i g)
      · exact g
  unfold rule5 at hr
  obtain ⟨R, hR⟩ : ∃ R, rwD V.rs i = R := ⟨_, rfl⟩
  rw [hR] at q0 q1 q2 q3 hr hri hsome
  obtain ⟨gen, lv, kd, x⟩ := R
  simp only at q0 q1 q2 q3 hr hri hsome
  obtain ⟨rn, hrn⟩ : ∃ rn, A.rn = rn := ⟨_, rfl⟩
  rw [hrn] at c3 rl
  have i0 : (i : Int) < (rn : Int) := by omega
  obtain ⟨E, hE⟩ : ∃ E, w.alloc (.cells #[.int .i64 gen, .bool lv, .int .i64 kd, .int .i64 x] 73) = E := ⟨_, rfl⟩
  have bE : Below w.heap.size w E := by rw [← hE]; exact (Below.refl _ w).alloc (Nat.le_refl _) _
  have rE : E.heap[w.heap.size]? = some (.cells #[.int .i64 gen, .bool lv, .int .i64 kd, .int .i64 x] 73 (0, 0)) := by rw [← hE]; exact Go.heap_alloc_new w _
  have LE := h.keep bE
  have HBE : Hid (Below w.heap.size w E) := bE
  obtain ⟨nb, hnb⟩ : ∃ nb, w.heap.size = nb := ⟨_, rfl⟩
  rw [hnb] at rE
  have d1 : E.cell? ⟨nb, 1, none⟩ = some (.bool lv) := cell_of_row _ _ 1 _ _ _ rE
  have d3 : E.cell? ⟨nb, 3, none⟩ = some (.int .i64 x) := cell_of_row _ _ 3 _ _ _ rE
  have c7 : E.cell? ⟨lb, 7, none⟩ = some (.map (some mi)) := cell_of_row _ _ 7 _ _ _ LE.box
  cases lv with
  | false =>
    have F : Hid (true = r) := by show true = r; rw [← hr]; rfl
    clear h LE hr hri hsome rE bE hR
    go_enter Tryz.func121, Tryz.ntmps121
    go_wp2_with fail
    go_quiet (fail)
    go_wp2
    go_ret
    exact ⟨ret_bool F.out, by first | exact below_drewN HBE.out _ | exact hnb ▸ below_drewN HBE.out _⟩
  | true =>
    obtain ⟨k, hk, hki⟩ := hsome rfl
    have LQ : ∀ n, (Instr.lookup 140 (.map (some mi)) (.int .i64 x) false).run Tryz.prog (E.drewN n) = .ok (.int .i64 (k : Nat)) (E.drewN n) := fun n => (LE.on.same (w' := E.drewN n) (fun o ho => ho)).look0 hri.1 k hk
    have F : Hid (((k : Int) == (i : Int)) = r) := by
      show _ = _
      rw [← hr, hk]
      by_cases e : k = i
      · subst e; simp
      · have e1 : ((k : Int) == (i : Int)) = false := by rw [beq_eq_false_iff_ne]; omega
        rw [e1]; simp [e]
    obtain ⟨B, hB⟩ : ∃ B, ((k : Int) == (i : Int)) = B := ⟨_, rfl⟩
    rw [hB] at F
    clear h LE hr hri hsome rE bE hR hk hki
    go_enter Tryz.func121, Tryz.ntmps121
    go_wp2_with fail
    go_quiet (fail)
    go_wp2
    go_ret
    exact ⟨ret_bool F.out, by first | exact below_drewN HBE.out _ | exact hnb ▸ below_drewN HBE.out _⟩
end Go.Proofs.YtbfamjnnlcopiaaGreatDoor

/- The sixth rule asked: slotsTold. -/
namespace Go.Proofs.YtbfamjnnlcopiaaGreatDoor
open Go.RowKit Go.Maps
set_option linter.unusedVariables false
set_option maxRecDepth 4000

theorem MapI.look2 {w : World} {b n : Nat} {f : Int → Option Nat} (h : MapI w b n f) {i : Int} (hi : -9223372036854775808 ≤ i ∧ i ≤ 9223372036854775807) :
    (Instr.lookup 140 (.map (some b)) (.int .i64 i) true).run Tryz.prog w = .ok (.tuple #[.int .i64 (((f i).getD 0 : Nat) : Int), .bool (f i).isSome]) w := by
  obtain ⟨D, ho, hh, hv⟩ := h
  obtain ⟨v, ps, hrun, hR⟩ := ho.look_ok law Tryz.underlying140 (z := .int .i64 0) (by kernel_rfl) (plainElem_int Tryz.underlying3 (by decide)) (keyI hi)
  obtain ⟨c, rfl, e, _⟩ := plainElem_int_inv Tryz.underlying3 hR
  rw [hrun, hh]
  cases hf : f i with
  | none =>
    rw [Maps.atKey_of_not_has (by rw [hh, hf]; rfl)] at e
    simp at e
    rw [← e.1]; rfl
  | some k =>
    rw [hv i k hf] at e
    simp at e
    rw [← e.1]; rfl
theorem IsI.get {w : World} {a : Option Addr} {l : List Int} (h : IsI w a l) (i : Nat) (hi : i < l.length) : ∃ b off, a = some ⟨b, off, none⟩ ∧ w.cell? ⟨b, off + i, none⟩ = some (.int .i64 (l.getD i 0)) := by
  obtain ⟨_, h | ⟨b, off, e, _, hc⟩⟩ := h
  · subst h; cases hi
  · exact ⟨b, off, e, by rw [hc i hi]⟩
theorem at_q (sb : Nat) (p c s : Int) (i : Nat) (x : Int) (w : World) (h : Bx w sb p c s) (hT : TabC w) (r : Rt p c s) (hi : i < slN c) (hx : 256 * p + (i : Int) * szI c s = x) :
    Calls Tryz.prog 101 #[.pointer (some ⟨sb, 0, none⟩), .int .i64 (i : Nat)] w fun e w' => e = .returned (.tuple #[.int .i64 x, .bool true]) ∧ w' = w := by
  subst hx; exact (at_in sb p c s i w h hT r hi).mono (fun e w' h => ⟨h.1, h.2.symm⟩)
theorem all_step {l : List Int} {P : Int → Bool} {k : Nat} (hk : k < l.length) (h : ∀ m, m < k → P (l.getD m 0) = true) : (P (l.getD k 0) = false → l.all P = false) ∧ (P (l.getD k 0) = true → ∀ m, m < k + 1 → P (l.getD m 0) = true) := by
  refine ⟨fun e => ?_, fun e m hm => ?_⟩
  · cases q : l.all P with
    | false => rfl
    | true =>
      have := List.all_eq_true.1 q l[k] (List.getElem_mem hk)
      simp [List.getD, hk] at e
      rw [this] at e; cases e
  · rcases Nat.lt_or_eq_of_le (Nat.le_of_lt_succ hm) with g | rfl
    · exact h m g
    · exact e
theorem all_done {l : List Int} {P : Int → Bool} (h : ∀ m, m < l.length → P (l.getD m 0) = true) : l.all P = true := by
  rw [List.all_eq_true]
  intro x hx
  obtain ⟨m, hm, rfl⟩ := List.getElem_of_mem hx
  have := h m hm
  simpa [List.getD, hm] using this
set_option maxRecDepth 20000 in
set_option maxHeartbeats 4000000 in
theorem slotsTold_any (lb ms mi : Nat) (V : Vw) (A : Va) (nf nr : Nat) (f : Int → Option Nat) (i : Nat) (w : World) (h : Lk w lb ms mi V A nf nr f) (hi : i < V.ts.length) (hV : Hold V 3) (r : Bool) (hr : rule6 V i = r) :
    Calls Tryz.prog 122 #[.pointer (some ⟨lb, 0, none⟩), .int .i64 (i : Nat)] w fun e w' => e = .returned (.bool r) ∧ Below w.heap.size w w' := by
  have c4 : w.cell? ⟨lb, 4, none⟩ = some (.slice A.sa A.sn A.sc) := cell_of_row _ _ 4 _ _ _ h.box
  have sl := h.vw.sl
  have tz := h.vw.tz
  obtain ⟨g, off, la, lk, ea, q0, q1, q2, q3, hI, hlm⟩ := h.vw.ts i hi
  rw [ea] at c4
  obtain ⟨hrt, hpe⟩ := hV.right (Nat.le_refl _) i hi
  have h1 := hV.r1 (by decide)
  have hsm := h.f2 i hi hrt
  obtain ⟨sb, hsb⟩ := Option.isSome_iff_exists.1 hsm
  have hsp : ∃ b g2, SpanAt w sb b g2 (tdD V.ts i).p (tdD V.ts i).c (tdD V.ts i).s (fOf (tdD V.ts i).l) := by
    obtain ⟨j, hj, _, hp, b, g2, hs⟩ := h.f1 _ _ hsb
    obtain rfl := std_same (hV.std (Nat.le_refl _)) (fun k hk => (hV.right (Nat.le_refl _) k hk).1) hj hi hp
    exact ⟨b, g2, hs⟩
  obtain ⟨b, g2, hs⟩ := hsp
  have hri := h.vw.ti (tdD V.ts i) (by rw [tdD_at hi]; exact List.getElem_mem hi)
  unfold rule6 at hr
  rw [← tdD_at hi] at q0 q1 q2 q3 hI hlm
  obtain ⟨t, ht⟩ : ∃ t, tdD V.ts i = t := ⟨_, rfl⟩
  rw [ht] at q0 q1 q2 q3 hI hlm hrt hpe hsb hs hr hri
  have hat := fun k hk => right_at hrt (k := k) hk
  obtain ⟨p, c, s, l⟩ := t
  simp only at q0 q1 q2 q3 hI hlm hpe hsb hs hr hri hat
  obtain ⟨ll, hll⟩ : ∃ ll, l.length = ll := ⟨_, rfl⟩
  rw [hll] at q3 hlm
  obtain ⟨sn, hsn⟩ : ∃ sn, A.sn = sn := ⟨_, rfl⟩
  rw [hsn] at c4 sl
  have i0 : (i : Int) < (sn : Int) := by omega
  obtain ⟨E, hE⟩ : ∃ E, w.alloc (.cells #[.int .i64 p, .int .i64 c, .int .i64 s, .slice la ll lk] 33) = E := ⟨_, rfl⟩
  have bE : Below w.heap.size w E := by rw [← hE]; exact (Below.refl _ w).alloc (Nat.le_refl _) _
  have rE : E.heap[w.heap.size]? = some (.cells #[.int .i64 p, .int .i64 c, .int .i64 s, .slice la ll lk] 33 (0, 0)) := by rw [← hE]; exact Go.heap_alloc_new w _
  have LE := h.keep bE
  have HBE : Hid (Below w.heap.size w E) := bE
  have d0 : E.cell? ⟨w.heap.size, 0, none⟩ = some (.int .i64 p) := cell_of_row _ _ 0 _ _ _ rE
  have d3 : E.cell? ⟨w.heap.size, 3, none⟩ = some (.slice la ll lk) := cell_of_row _ _ 3 _ _ _ rE
  have c6 : E.cell? ⟨lb, 6, none⟩ = some (.map (some ms)) := cell_of_row _ _ 6 _ _ _ LE.box
  have c7 : E.cell? ⟨lb, 7, none⟩ = some (.map (some mi)) := cell_of_row _ _ 7 _ _ _ LE.box
  have LQ : ∀ n, (Instr.lookup 139 (.map (some ms)) (.int .i64 p) false).run Tryz.prog (E.drewN n) = .ok (.pointer (some ⟨sb, 0, none⟩)) (E.drewN n) := fun n => by
    have := (LE.sp.same (w' := E.drewN n) (fun o ho => ho)).look hri
    rw [hsb] at this
    exact this
  have LR : Hid (∀ (n : Nat) (x : Int), i64 x → (Instr.lookup 140 (.map (some mi)) (.int .i64 x) true).run Tryz.prog (E.drewN n) = .ok (.tuple #[.int .i64 (((ownI V.rs x).getD 0 : Nat) : Int), .bool (ownI V.rs x).isSome]) (E.drewN n)) := fun n x hx => (LE.on.same (w' := E.drewN n) (fun o ho => ho)).look2 hx
  have HIE : Hid (IsI E la l) := hI.keep bE
  have BX : Hid (Bx E sb p c s) := (hs.keep bE).box
  have HTB : Hid (Tabs E) := LE.tab
  have HRT : Hid (Rt p c s) := newE_rt hrt.1
  have HAT : Hid (∀ k, k ∈ l → 0 ≤ k ∧ k < slN c ∧ 256 * p ≤ atS ⟨p, c, s, l⟩ k ∧ atS ⟨p, c, s, l⟩ k < 256 * p + 256 ∧ 0 ≤ p) := hat
  have HR : Hid ((l.all fun x => (ownI V.rs (atS ⟨p, c, s, l⟩ x)).isSome) = r) := hr
  have HLL : Hid (l.length = ll) := hll
  have pB : p ≤ 4096 := by omega
  have l9 : ll ≤ 9223372036854775807 := by unfold maxLen at hlm; omega
  obtain ⟨nb, hnb⟩ : ∃ nb, w.heap.size = nb := ⟨_, rfl⟩
  rw [hnb] at d0 d3
  clear h LE hV hrt hpe h1 hsm hsb hs hri ht hat hI hlm hr rE bE hll
  go_enter Tryz.func122, Tryz.ntmps122
  go_wp2_with fail
  go_loopw [23] (fun iv wz => ∃ k q : Nat, k ≤ ll ∧ iv = .int .i64 (k : Nat) ∧ wz = E.drewN q ∧ ∀ m, m < k → (ownI V.rs (atS ⟨p, c, s, l⟩ (l.getD m 0))).isSome = true) (fun iv _ => ll - lenW iv)
  case atStart => exact ⟨0, 0, Nat.zero_le _, rfl, by first | rfl | (rw [← hE]; rfl), fun m hm => by omega⟩
  case round =>
    obtain ⟨k, q, hk, rfl, rfl, hm⟩ := hrel
    have HM : Hid (∀ m, m < k → (ownI V.rs (atS ⟨p, c, s, l⟩ (l.getD m 0))).isSome = true) := hm
    clear hm
    by_cases hkl : k < ll
    · have hkl' : k < l.length := by rw [HLL.out]; exact hkl
      obtain ⟨gl, ol, rfl, cl⟩ := HIE.out.get k hkl'
      have st := all_step (P := fun x => (ownI V.rs (atS ⟨p, c, s, l⟩ x)).isSome) hkl' HM.out
      obtain ⟨k1, k2, k3, k4, k5⟩ := HAT.out (l.getD k 0) (by simp [List.getD, hkl'])
      obtain ⟨y, hy⟩ : ∃ y, l.getD k 0 = y := ⟨_, rfl⟩
      rw [hy] at cl st k1 k2 k3 k4
      obtain ⟨n, rfl⟩ : ∃ n : Nat, y = (n : Int) := ⟨y.toNat, by omega⟩
      have HX : Hid (256 * p + (n : Int) * szI c s = atS ⟨p, c, s, l⟩ (n : Int)) := rfl
      have HY : Hid (l.getD k 0 = (n : Int)) := hy
      obtain ⟨x, hx⟩ : ∃ x, atS ⟨p, c, s, l⟩ (n : Int) = x := ⟨_, rfl⟩
      rw [hx] at HX k3 k4
      simp only [hx] at st
      have LX := fun n => LR.out n x (by unfold i64; omega)
      have HN : Hid (n < slN c) := by show n < slN c; omega
      have kk : (k : Int) < (ll : Int) := by omega
      have ST : Hid (((ownI V.rs x).isSome = false → r = false) ∧ ((ownI V.rs x).isSome = true → ∀ m, m < k + 1 → (ownI V.rs (atS ⟨p, c, s, l⟩ (l.getD m 0))).isSome = true)) := ⟨fun e => by rw [← HR.out]; exact st.1 e, st.2⟩
      obtain ⟨rr, hrr⟩ : ∃ rr, (ownI V.rs x).isSome = rr := ⟨_, rfl⟩
      obtain ⟨cc, hcc⟩ : ∃ cc : Int, (((ownI V.rs x).getD 0 : Nat) : Int) = cc := ⟨_, rfl⟩
      rw [hrr] at ST
      simp only [hrr, hcc] at LX
      clear st hx hy k1 k2 k3 k4 k5 hrr hcc hkl'
      cases rr with
      | false =>
        have F : Hid (false = r) := (ST.out.1 rfl).symm
        go_wp2_with fail
        go_quiet ((go_at_call 101; exact (at_q sb p c s n x _ (BX.out.drewN _) (HTB.out.drewN _).1 HRT.out HN.out HX.out).mono (fun e w'' h => ⟨h.1, _, h.2⟩)))
        go_wp2
        go_ret
        exact ⟨ret_bool F.out, by first | exact below_drewN HBE.out _ | exact hnb ▸ below_drewN HBE.out _⟩
      | true =>
        have NX : Hid (∀ m, m < k + 1 → (ownI V.rs (atS ⟨p, c, s, l⟩ (l.getD m 0))).isSome = true) := ST.out.2 rfl
        clear ST
        go_wp2_with fail
        go_quiet ((go_at_call 101; exact (at_q sb p c s n x _ (BX.out.drewN _) (HTB.out.drewN _).1 HRT.out HN.out HX.out).mono (fun e w'' h => ⟨h.1, _, h.2⟩)))
        go_wp2
        go_roundw
        case rel => exact ⟨k + 1, _, by omega, by congr 1, rfl, NX.out⟩
        case measure => simp [lenW]; omega
    · obtain rfl : k = ll := by omega
      have F : Hid (true = r) := by
        show true = r
        rw [← HR.out]
        exact (all_done (fun m hm => HM.out m (by rw [HLL.out] at hm; exact hm))).symm
      go_wp2
      go_ret
      exact ⟨ret_bool F.out, by first | exact below_drewN HBE.out _ | exact hnb ▸ below_drewN HBE.out _⟩
end Go.Proofs.YtbfamjnnlcopiaaGreatDoor

/- Plain mathematics of layer 14: where a live row's object lies, its pointer fields, and what they lead to. -/
namespace Go.Proofs.YtbfamjnnlcopiaaGreatDoor
open Go.RowKit
set_option linter.unusedVariables false
set_option maxRecDepth 4000

theorem ofI_fits {z : Int} (h0 : 0 ≤ ofI z) (h7 : ofI z < 7) : z ≤ sizeI (ofI z) := by
  rcases ofI_cases z with ⟨h, e⟩ | ⟨h1, h2, e⟩ | ⟨h1, h2, e⟩ | ⟨h1, h2, e⟩ | ⟨h1, h2, e⟩ | ⟨h1, h2, e⟩ | ⟨h1, h2, e⟩ | ⟨h1, h2, e⟩ | ⟨h1, h2, e⟩ <;> rw [e] at h0 h7 ⊢ <;> first | omega | (simp only [sizeI]; omega) | (simp [sizeI]; omega)
/-- A slot is told: where it lies. -/
theorem slot_in {V : Vw} {q : Nat} (h : Hold V q) (hq : 3 ≤ q) {x z : Int} (hs : slotB V.ts x z = true) : 0 ≤ x ∧ x + z ≤ V.bs.length ∧ x + 16 ≤ V.bs.length := by
  unfold slotB at hs
  obtain ⟨t, ht, hh⟩ := List.any_eq_true.1 hs
  obtain ⟨j, hj, rfl⟩ := List.getElem_of_mem ht
  rw [← tdD_at hj] at hh
  rw [Bool.and_eq_true, List.any_eq_true] at hh
  obtain ⟨h1, k, hk, h2⟩ := hh
  obtain ⟨hr, hpe⟩ := h.right hq j hj
  have hx := of_decide_eq_true h2
  have hf := of_decide_eq_true h1
  obtain ⟨k0, k1, _, _, p0⟩ := right_at hr hk
  have rt := newE_rt hr.1
  obtain ⟨f1, f2, f3, f4, f5, f6, f7, f8, f9, f10, f11⟩ := rt.facts
  have hb := (h.r1 (by omega)).2.2.2.1
  unfold atS at hx
  have n0 : 0 ≤ k * szI (tdD V.ts j).c (tdD V.ts j).s := Int.mul_nonneg (by omega) (by omega)
  have m : (k + 1) * szI (tdD V.ts j).c (tdD V.ts j).s ≤ (slN (tdD V.ts j).c : Int) * szI (tdD V.ts j).c (tdD V.ts j).s := Int.mul_le_mul_of_nonneg_right (by omega) (by omega)
  rw [Int.add_mul, Int.one_mul] at m
  have zz : z ≤ szI (tdD V.ts j).c (tdD V.ts j).s := by
    unfold szI
    by_cases c7 : (tdD V.ts j).c = 7
    · rw [if_pos c7, hf.2 c7]; exact Int.le_refl _
    · rw [if_neg c7, hf.1]
      exact ofI_fits (by rw [← hf.1]; exact rt.c0) (by rw [← hf.1]; have := rt.c7; omega)
  exact ⟨by omega, by omega, by omega⟩
/-- What the fourth rule says of a live row. -/
theorem Hold.live {V : Vw} {q : Nat} (h : Hold V q) (hq : 4 ≤ q) (i : Nat) (hi : i < V.rs.length) (hl : (rwD V.rs i).live = true) : 1 ≤ (rwD V.rs i).gen ∧ (rwD V.rs i).gen ≤ 65535 ∧ 0 ≤ (rwD V.rs i).kind ∧ (rwD V.rs i).kind < V.ks.length ∧ slotB V.ts (rwD V.rs i).pl (knD V.ks (rwD V.rs i).kind.toNat).s = true := by
  have := h 3 (by omega) i hi
  have : rule4 V i = true := this
  unfold rule4 at this
  rw [if_pos hl, Bool.and_eq_true, Bool.and_eq_true] at this
  have h1 := of_decide_eq_true this.1
  have h2 := of_decide_eq_true this.2.1
  have h3 := this.2.2
  unfold liesB at h3
  rw [Bool.and_eq_true] at h3
  have h4 := of_decide_eq_true h3.1
  exact ⟨h2, h1.2, h4.1, h4.2, h3.2⟩
theorem Hold.lies {V : Vw} {q : Nat} (h : Hold V q) (hq : 4 ≤ q) (i : Nat) (hi : i < V.rs.length) (hl : (rwD V.rs i).live = true) : 0 ≤ (rwD V.rs i).pl ∧ (rwD V.rs i).pl + (knD V.ks (rwD V.rs i).kind.toNat).s ≤ V.bs.length ∧ (rwD V.rs i).pl + 16 ≤ V.bs.length ∧ 1 ≤ (knD V.ks (rwD V.rs i).kind.toNat).s ∧ (knD V.ks (rwD V.rs i).kind.toNat).s ≤ 4096 ∧ placedB (knD V.ks (rwD V.rs i).kind.toNat).s 0 (knD V.ks (rwD V.rs i).kind.toNat).l = true ∧ (knD V.ks (rwD V.rs i).kind.toNat).l.length ≤ 16 := by
  obtain ⟨_, _, h3, h4, h5⟩ := h.live hq i hi hl
  obtain ⟨a1, a2, a3⟩ := slot_in h (by omega) h5
  obtain ⟨b1, b2, b3, b4⟩ := checkK_ok (h.r2 (by omega) (rwD V.rs i).kind.toNat (by omega))
  exact ⟨a1, a2, a3, b1, b2, b4, b3⟩
theorem placed_all {s : Int} : ∀ (l : List Int) (f : Int), placedB s f l = true → (∀ p ∈ l, f ≤ p ∧ p + 8 ≤ s) ∧ l.Pairwise (fun p q => p + 8 ≤ q)
  | [], _, _ => ⟨by simp, List.Pairwise.nil⟩
  | x :: l, f, h => by
    rw [placedB, Bool.and_eq_true] at h
    have h1 := of_decide_eq_true h.1
    obtain ⟨k1, k2⟩ := placed_all l (x + 8) h.2
    refine ⟨fun y hy => ?_, List.pairwise_cons.2 ⟨fun y hy => (k1 y hy).1, k2⟩⟩
    rcases List.mem_cons.1 hy with rfl | hy
    · omega
    · have := k1 y hy; omega
/-- No row has a place beyond the bytes. -/
theorem own_far {V : Vw} {q : Nat} (h : Hold V q) (hq : 4 ≤ q) {x : Int} (hx : x < 0 ∨ V.bs.length ≤ x) : ownI V.rs x = none := by
  cases e : ownI V.rs x with
  | none => rfl
  | some i =>
    obtain ⟨hi, h1, h2, _⟩ := own_some e
    have := h.lies hq i hi h1
    omega
theorem own_wrap {V : Vw} {q : Nat} (h : Hold V q) (hq : 4 ≤ q) (hb : V.bs.length ≤ 16384) {x : Int} (h0 : 0 ≤ x) (h1 : x ≤ 18446744073709551615) : ownI V.rs (IntKind.i64.wrap (IntKind.u64.wrap (x - V.base))) = ownI V.rs (x - V.base) := by
  have hg := (h.r1 (by omega)).2.2.1
  unfold goodR at hg
  by_cases e : x - V.base < 9223372036854775808
  · have : IntKind.i64.wrap (IntKind.u64.wrap (x - V.base)) = x - V.base := by
      rw [IntKind.wrap_u64, IntKind.wrap_i64]; omega
    rw [this]
  · rw [own_far h hq (x := x - V.base) (by omega), own_far h hq]
    rw [IntKind.wrap_u64, IntKind.wrap_i64]; omega
/-- The handle of the object at an address. -/
def nameH (V : Vw) (x : Int) : Nat := match ownI V.rs (x - V.base) with
  | some j => ofN ((j : Int) + 1) (rwD V.rs j).gen
  | none => 0
theorem ofN_pos {j : Nat} {g : Int} (h1 : j < 4096) (h2 : 1 ≤ g) (h3 : g ≤ 65535) : ofN ((j : Int) + 1) g ≠ 0 := by
  unfold ofN
  rw [if_pos ⟨by omega, by omega, h2, h3⟩]
  omega
theorem nameH_zero {V : Vw} {q : Nat} (h : Hold V q) (hq : 4 ≤ q) (hr : V.rs.length ≤ 300) (x : Int) : (nameH V x = 0) ↔ ownI V.rs (x - V.base) = none := by
  unfold nameH
  cases e : ownI V.rs (x - V.base) with
  | none => simp
  | some j =>
    obtain ⟨hj, h1, _⟩ := own_some e
    obtain ⟨g1, g2, _⟩ := h.live hq j hj h1
    have := ofN_pos (j := j) (g := (rwD V.rs j).gen) (by omega) g1 g2
    simp [this]
theorem word_cut {bs : List Int} {a z p : Nat} (hp : p + 8 ≤ z) : ((((bs.drop a).take z).drop p).take 8) = (bs.drop (a + p)).take 8 := by
  rw [List.drop_take, List.take_take, List.drop_drop, Nat.min_eq_left (by omega)]
end Go.Proofs.YtbfamjnnlcopiaaGreatDoor
