/- The document's row: may a row be? -/
import Derived.Test.YtbfamjnnlcopiaaGreatDoorGzBE
namespace Go.Proofs.YtbfamjnnlcopiaaGreatDoor
open Go.RowKit
set_option linter.unusedVariables false
set_option maxRecDepth 4000

set_option maxRecDepth 20000 in
set_option maxHeartbeats 8000000 in
theorem rrow_any (V : Vw) (A : Va) (i : Nat) (w : World) (h : Rv w V A) (hi : i < V.rs.length) (hV : Hold V 3) (r : Bool) (hr : rule4 V i = r) :
    Calls Tryz.prog 33 #[.agg #[.int .i64 V.base, .int .i64 V.pgs, .slice A.ka A.kn A.kc, .slice A.ra A.rn A.rc, .slice A.sa A.sn A.sc, .slice A.ba A.bn A.bc], .int .i64 (i : Nat)] w fun e w' => e = .returned (.bool r) ∧ Below w.heap.size w w' := by
  have HV3 : Hid (Hold V 3) := hV
  obtain ⟨E, hE, bE, rE⟩ := vbox w V A
  have HBE : Hid (Below w.heap.size w E) := bE
  have hE' := h.keep bE
  have HVE : Hid (Rv E V A) := hE'
  obtain ⟨b, off, ea, q0, q1, q2, q3⟩ := hE'.rs.at i hi
  unfold rule4 at hr
  obtain ⟨R, hR⟩ : ∃ R, rwD V.rs i = R := ⟨_, rfl⟩
  rw [hR] at q0 q1 q2 q3 hr
  obtain ⟨gen, lv, kd, x⟩ := R
  simp only at q0 q1 q2 q3 hr
  have rl := h.rl
  have kl := h.kl
  have rz := h.rz
  have i0 : (i : Int) < (A.rn : Int) := by omega
  have wr : IntKind.i64.wrap ((A.rn : Int) - 1) = (A.rn : Int) - 1 := by rw [IntKind.wrap_i64]; omega
  have HKS : Hid (RdK E A.ka V.ks) := hE'.ks
  obtain ⟨G, hG⟩ : ∃ G, E.alloc (.cells #[.int .i64 gen, .bool lv, .int .i64 kd, .int .i64 x] 73) = G := ⟨_, rfl⟩
  have bG : Below E.heap.size E G := by rw [← hG]; exact (Below.refl _ E).alloc (Nat.le_refl _) _
  have rG : G.heap[E.heap.size]? = some (.cells #[.int .i64 gen, .bool lv, .int .i64 kd, .int .i64 x] 73 (0, 0)) := by rw [← hG]; exact Go.heap_alloc_new E _
  have BG : Hid (Below E.heap.size E G) := bG
  have BWG : Hid (Below w.heap.size w G) := bE.trans (bG.mono bE.size)
  obtain ⟨nb, hnb⟩ : ∃ nb, w.heap.size = nb := ⟨_, rfl⟩
  rw [hnb] at rE
  obtain ⟨ng, hng⟩ : ∃ ng, E.heap.size = ng := ⟨_, rfl⟩
  rw [hng] at rG
  have d3 : E.cell? ⟨nb, 3, none⟩ = some (.slice A.ra A.rn A.rc) := cell_of_row _ _ 3 _ _ _ rE
  have d3' := d3
  rw [ea] at d3
  have v0 : G.cell? ⟨nb, 0, none⟩ = some (.int .i64 V.base) := bcell bG (cell_of_row _ _ 0 _ _ _ rE)
  have v1 : G.cell? ⟨nb, 1, none⟩ = some (.int .i64 V.pgs) := bcell bG (cell_of_row _ _ 1 _ _ _ rE)
  have v2 : G.cell? ⟨nb, 2, none⟩ = some (.slice A.ka A.kn A.kc) := bcell bG (cell_of_row _ _ 2 _ _ _ rE)
  have v3 : G.cell? ⟨nb, 3, none⟩ = some (.slice A.ra A.rn A.rc) := bcell bG d3'
  have v4 : G.cell? ⟨nb, 4, none⟩ = some (.slice A.sa A.sn A.sc) := bcell bG (cell_of_row _ _ 4 _ _ _ rE)
  have v5 : G.cell? ⟨nb, 5, none⟩ = some (.slice A.ba A.bn A.bc) := bcell bG (cell_of_row _ _ 5 _ _ _ rE)
  have g0 : G.cell? ⟨ng, 0, none⟩ = some (.int .i64 gen) := cell_of_row _ _ 0 _ _ _ rG
  have g1 : G.cell? ⟨ng, 1, none⟩ = some (.bool lv) := cell_of_row _ _ 1 _ _ _ rG
  have g2 : G.cell? ⟨ng, 2, none⟩ = some (.int .i64 kd) := cell_of_row _ _ 2 _ _ _ rG
  have g3 : G.cell? ⟨ng, 3, none⟩ = some (.int .i64 x) := cell_of_row _ _ 3 _ _ _ rG
  have HRL : Hid (V.rs.length = A.rn ∧ V.ks.length = A.kn) := ⟨rl, kl⟩
  clear h hV hR bE rE rG bG hE' d3' ea rz kl rl
  by_cases n0 : gen < 0
  · have F : Hid (false = r) := by show false = r; rw [← hr, decide_eq_false (by omega)]; rfl
    clear hr
    go_enter Tryz.func33, Tryz.ntmps33
    go_wp2
    go_ret
    exact ⟨ret_bool F.out, by first | exact BWG.out | exact hnb ▸ BWG.out⟩
  · by_cases n1 : 65535 < gen
    · have F : Hid (false = r) := by show false = r; rw [← hr, decide_eq_false (by omega)]; rfl
      clear hr
      go_enter Tryz.func33, Tryz.ntmps33
      go_wp2
      go_ret
      exact ⟨ret_bool F.out, by first | exact BWG.out | exact hnb ▸ BWG.out⟩
    · rw [decide_eq_true (by omega), Bool.true_and] at hr
      cases lv with
      | true =>
        rw [if_pos rfl] at hr
        by_cases n2 : gen = 0
        · have F : Hid (false = r) := by show false = r; rw [← hr, decide_eq_false (by omega)]; rfl
          have b0 : (gen == 0) = true := by rw [beq_iff_eq]; exact n2
          clear hr n2
          go_enter Tryz.func33, Tryz.ntmps33
          go_wp2
          go_ret
          exact ⟨ret_bool F.out, by first | exact BWG.out | exact hnb ▸ BWG.out⟩
        · have b0 : (gen == 0) = false := by rw [beq_eq_false_iff_ne]; exact n2
          rw [decide_eq_true (by omega), Bool.true_and] at hr
          obtain ⟨bl, hbl⟩ : ∃ bl, ((i : Int) == (A.rn : Int) - 1) = bl := ⟨_, rfl⟩
          clear n2
          by_cases k0 : 0 ≤ kd
          · have c0 : decide (0 ≤ kd) = true := decide_eq_true k0
            by_cases k1 : kd < (A.kn : Int)
            · have c1 : decide (kd < (A.kn : Int)) = true := decide_eq_true k1
              obtain ⟨kj, rfl⟩ : ∃ kj : Nat, kd = (kj : Int) := ⟨kd.toNat, by omega⟩
              have hkj : kj < V.ks.length := by have := HRL.out.2; omega
              obtain ⟨gk, ok, la, lc, ek, e0, _⟩ := HKS.out kj hkj
              obtain ⟨z, hz⟩ : ∃ z, V.ks[kj].s = z := ⟨_, rfl⟩
              rw [hz] at e0
              have HR : Hid (slotB V.ts x z = r) := by
                show _ = _
                rw [← hr]
                unfold liesB
                simp only
                rw [decide_eq_true ⟨k0, by have := HRL.out.2; omega⟩, Bool.true_and, Int.toNat_natCast, knD_at hkj, hz]
              have e0G : G.cell? ⟨gk, ok + kj * 2, none⟩ = some (.int .i64 z) := bcell BG.out e0
              have RVG : Hid (Rv G.drew V A) := (HVE.out.keep BG.out).keep (Below.refl _ G).drew
              clear hr e0 hz HVE HKS
              obtain ⟨ka, ra, sa, ba, kn, rn, sn, bn, kc, rc, sc, bc⟩ := A
              simp only at ek v2 v3 v4 v5 c1 k1 i0 wr hbl d3 hE
              subst ek
              cases bl with
              | false =>
                go_enter Tryz.func33, Tryz.ntmps33
                go_wp2_with fail
                go_region_held3 (fun w' => w'.cell? ⟨nb, 0, none⟩ = some (.int .i64 V.base) ∧ w'.cell? ⟨nb, 1, none⟩ = some (.int .i64 V.pgs) ∧ w'.cell? ⟨nb, 2, none⟩ = some (.slice (some ⟨gk, ok, none⟩) kn kc) ∧ w'.cell? ⟨nb, 3, none⟩ = some (.slice ra rn rc) ∧ w'.cell? ⟨nb, 4, none⟩ = some (.slice sa sn sc) ∧ w'.cell? ⟨nb, 5, none⟩ = some (.slice ba bn bc) ∧ w'.cell? ⟨ng, 2, none⟩ = some (.int .i64 (kj : Int)) ∧ w'.cell? ⟨ng, 3, none⟩ = some (.int .i64 x) ∧ w'.cell? ⟨gk, ok + kj * 2, none⟩ = some (.int .i64 z)) (first | exact ⟨v0, v1, v2, v3, v4, v5, g2, g3, e0G⟩ | exact ⟨h0, h1, h2, h3, h4, h5, h6, h7, h8⟩)
                  ((go_at_call 71; refine (rslot_any V ⟨some ⟨gk, ok, none⟩, ra, sa, ba, kn, rn, sn, bn, kc, rc, sc, bc⟩ x z _ RVG.out HV3.out r HR.out).mono ?_; rintro e w2 ⟨rfl, b2⟩; have B2 : Hid (Below G.heap.size G w2) := Below.ofDrew b2; have h0 := bcell B2.out v0; have h1 := bcell B2.out v1; have h2 := bcell B2.out v2; have h3 := bcell B2.out v3; have h4 := bcell B2.out v4; have h5 := bcell B2.out v5; have h6 := bcell B2.out g2; have h7 := bcell B2.out g3; have h8 := bcell B2.out e0G; clear b2))
                have BB := BWG.out.trans (B2.out.mono BWG.out.size)
                go_wp2
                go_ret
                exact ⟨rfl, by first | exact BB | exact hnb ▸ BB⟩
              | true =>
                go_enter Tryz.func33, Tryz.ntmps33
                go_wp2_with fail
                go_region_held3 (fun w' => w'.cell? ⟨nb, 0, none⟩ = some (.int .i64 V.base) ∧ w'.cell? ⟨nb, 1, none⟩ = some (.int .i64 V.pgs) ∧ w'.cell? ⟨nb, 2, none⟩ = some (.slice (some ⟨gk, ok, none⟩) kn kc) ∧ w'.cell? ⟨nb, 3, none⟩ = some (.slice ra rn rc) ∧ w'.cell? ⟨nb, 4, none⟩ = some (.slice sa sn sc) ∧ w'.cell? ⟨nb, 5, none⟩ = some (.slice ba bn bc) ∧ w'.cell? ⟨ng, 2, none⟩ = some (.int .i64 (kj : Int)) ∧ w'.cell? ⟨ng, 3, none⟩ = some (.int .i64 x) ∧ w'.cell? ⟨gk, ok + kj * 2, none⟩ = some (.int .i64 z)) (first | exact ⟨v0, v1, v2, v3, v4, v5, g2, g3, e0G⟩ | exact ⟨h0, h1, h2, h3, h4, h5, h6, h7, h8⟩)
                  ((go_at_call 71; refine (rslot_any V ⟨some ⟨gk, ok, none⟩, ra, sa, ba, kn, rn, sn, bn, kc, rc, sc, bc⟩ x z _ RVG.out HV3.out r HR.out).mono ?_; rintro e w2 ⟨rfl, b2⟩; have B2 : Hid (Below G.heap.size G w2) := Below.ofDrew b2; have h0 := bcell B2.out v0; have h1 := bcell B2.out v1; have h2 := bcell B2.out v2; have h3 := bcell B2.out v3; have h4 := bcell B2.out v4; have h5 := bcell B2.out v5; have h6 := bcell B2.out g2; have h7 := bcell B2.out g3; have h8 := bcell B2.out e0G; clear b2))
                have BB := BWG.out.trans (B2.out.mono BWG.out.size)
                go_wp2
                go_ret
                exact ⟨rfl, by first | exact BB | exact hnb ▸ BB⟩
            · have c1 : decide (kd < (A.kn : Int)) = false := decide_eq_false k1
              have F : Hid (false = r) := by
                show false = r
                rw [← hr]
                unfold liesB
                rw [decide_eq_false (fun q => k1 (by have := HRL.out.2; have := q.2; simp only at this; omega)), Bool.false_and]
              clear hr
              cases bl with
              | false =>
                go_enter Tryz.func33, Tryz.ntmps33
                go_wp2_with fail
                go_quiet (fail)
                go_wp2
                go_ret
                exact ⟨ret_bool F.out, by first | exact below_drewN BWG.out _ | exact hnb ▸ below_drewN BWG.out _⟩
              | true =>
                go_enter Tryz.func33, Tryz.ntmps33
                go_wp2_with fail
                go_quiet (fail)
                go_wp2
                go_ret
                exact ⟨ret_bool F.out, by first | exact below_drewN BWG.out _ | exact hnb ▸ below_drewN BWG.out _⟩
          · have c0 : decide (0 ≤ kd) = false := decide_eq_false k0
            have F : Hid (false = r) := by
              show false = r
              rw [← hr]
              unfold liesB
              rw [decide_eq_false (fun q => k0 q.1), Bool.false_and]
            clear hr
            cases bl with
            | false =>
              go_enter Tryz.func33, Tryz.ntmps33
              go_wp2_with fail
              go_quiet (fail)
              go_wp2
              go_ret
              exact ⟨ret_bool F.out, by first | exact below_drewN BWG.out _ | exact hnb ▸ below_drewN BWG.out _⟩
            | true =>
              go_enter Tryz.func33, Tryz.ntmps33
              go_wp2_with fail
              go_quiet (fail)
              go_wp2
              go_ret
              exact ⟨ret_bool F.out, by first | exact below_drewN BWG.out _ | exact hnb ▸ below_drewN BWG.out _⟩
      | false =>
        rw [if_neg (by simp)] at hr
        by_cases k0 : kd = 0
        · have b1 : (kd == 0) = true := by rw [beq_iff_eq]; exact k0
          have b2 : (kd != 0) = false := by rw [bne, b1]; rfl
          by_cases x0 : x = 0
          · have b3 : (x == 0) = true := by rw [beq_iff_eq]; exact x0
            have b4 : (x != 0) = false := by rw [bne, b3]; rfl
            by_cases i1 : i + 1 = A.rn
            · have b5 : ((i : Int) == (A.rn : Int) - 1) = true := by rw [beq_iff_eq]; omega
              by_cases n2 : gen = 0
              · have b0 : (gen == 0) = true := by rw [beq_iff_eq]; exact n2
                have F : Hid (false = r) := by show false = r; rw [← hr]; exact (decide_eq_false (fun q => q.2.2 ⟨n2, by have := HRL.out.1; omega⟩)).symm
                clear hr k0 x0 n2 i1
                go_enter Tryz.func33, Tryz.ntmps33
                go_wp2
                go_ret
                exact ⟨ret_bool F.out, by first | exact BWG.out | exact hnb ▸ BWG.out⟩
              · have b0 : (gen == 0) = false := by rw [beq_eq_false_iff_ne]; exact n2
                have F : Hid (true = r) := by show true = r; rw [← hr]; exact (decide_eq_true ⟨k0, x0, fun q => n2 q.1⟩).symm
                clear hr k0 x0 n2 i1
                go_enter Tryz.func33, Tryz.ntmps33
                go_wp2
                go_ret
                exact ⟨ret_bool F.out, by first | exact BWG.out | exact hnb ▸ BWG.out⟩
            · have b5 : ((i : Int) == (A.rn : Int) - 1) = false := by rw [beq_eq_false_iff_ne]; omega
              have F : Hid (true = r) := by show true = r; rw [← hr]; exact (decide_eq_true ⟨k0, x0, fun q => i1 (by have := HRL.out.1; omega)⟩).symm
              clear hr k0 x0 i1
              go_enter Tryz.func33, Tryz.ntmps33
              go_wp2
              go_ret
              exact ⟨ret_bool F.out, by first | exact BWG.out | exact hnb ▸ BWG.out⟩
          · have b3 : (x == 0) = false := by rw [beq_eq_false_iff_ne]; exact x0
            have b4 : (x != 0) = true := by rw [bne, b3]; rfl
            have F : Hid (false = r) := by show false = r; rw [← hr]; exact (decide_eq_false (fun q => x0 q.2.1)).symm
            clear hr k0 x0
            go_enter Tryz.func33, Tryz.ntmps33
            go_wp2
            go_ret
            exact ⟨ret_bool F.out, by first | exact BWG.out | exact hnb ▸ BWG.out⟩
        · have b1 : (kd == 0) = false := by rw [beq_eq_false_iff_ne]; exact k0
          have b2 : (kd != 0) = true := by rw [bne, b1]; rfl
          have F : Hid (false = r) := by show false = r; rw [← hr]; exact (decide_eq_false (fun q => k0 q.1)).symm
          clear hr k0
          go_enter Tryz.func33, Tryz.ntmps33
          go_wp2
          go_ret
          exact ⟨ret_bool F.out, by first | exact BWG.out | exact hnb ▸ BWG.out⟩
end Go.Proofs.YtbfamjnnlcopiaaGreatDoor
