/- The document's row: may a row be? -/
import Derived.Test.YtbfamjnnlcopiaaGreatDoorGzBA
import Derived.Test.YtbfamjnnlcopiaaGreatDoorGzAQ
import Derived.Test.YtbfamjnnlcopiaaGreatDoorGzAR
import Derived.Deep.RegionLaw
namespace Go.Proofs.YtbfamjnnlcopiaaGreatDoor
open Go.RowKit
set_option linter.unusedVariables false
set_option maxRecDepth 4000

set_option maxRecDepth 20000 in
set_option maxHeartbeats 8000000 in
theorem rrow_any (V : Vw) (A : Va) (i : Nat) (w : World) (h : Rv w V A) (hi : i < V.rs.length) (hV : Hold V 3) (r : Bool) (hr : rule4 V i = r) :
    Calls Tryz.prog 33 #[.agg #[.int .i64 V.base, .int .i64 V.pgs, .slice A.ka A.kn A.kc, .slice A.ra A.rn A.rc, .slice A.sa A.sn A.sc, .slice A.ba A.bn A.bc], .int .i64 (i : Nat)] w fun e w' => e = .returned (.bool r) ∧ Below w.heap.size w w' := by
  have HV3 : Hid (Hold V 3) := hV
  obtain ⟨E, hE, bE, rE⟩ := vbox w V A
  have HBE : Hid (Below w.heap.size w E) := bE
  have hE' := h.keep bE
  have HVE : Hid (Rv E V A) := hE'
  obtain ⟨b, off, ea, q0, q1, q2, q3⟩ := hE'.rs.at i hi
  unfold rule4 at hr
  obtain ⟨R, hR⟩ : ∃ R, rwD V.rs i = R := ⟨_, rfl⟩
  rw [hR] at q0 q1 q2 q3 hr
  obtain ⟨gen, lv, kd, x⟩ := R
  simp only at q0 q1 q2 q3 hr
  have rl := h.rl
  have kl := h.kl
  have rz := h.rz
  have i0 : (i : Int) < (A.rn : Int) := by omega
  have wr : IntKind.i64.wrap ((A.rn : Int) - 1) = (A.rn : Int) - 1 := by rw [IntKind.wrap_i64]; omega
  have HKS : Hid (RdK E A.ka V.ks) := hE'.ks
  obtain ⟨G, hG⟩ : ∃ G, E.alloc (.cells #[.int .i64 gen, .bool lv, .int .i64 kd, .int .i64 x] 73) = G := ⟨_, rfl⟩
  have bG : Below E.heap.size E G := by rw [← hG]; exact (Below.refl _ E).alloc (Nat.le_refl _) _
  have rG : G.heap[E.heap.size]? = some (.cells #[.int .i64 gen, .bool lv, .int .i64 kd, .int .i64 x] 73 (0, 0)) := by rw [← hG]; exact Go.heap_alloc_new E _
  have BG : Hid (Below E.heap.size E G) := bG
  have BWG : Hid (Below w.heap.size w G) := bE.trans (bG.mono bE.size)
  obtain ⟨nb, hnb⟩ : ∃ nb, w.heap.size = nb := ⟨_, rfl⟩
  rw [hnb] at rE
  obtain ⟨ng, hng⟩ : ∃ ng, E.heap.size = ng := ⟨_, rfl⟩
  rw [hng] at rG
  have d3 : E.cell? ⟨nb, 3, none⟩ = some (.slice A.ra A.rn A.rc) := cell_of_row _ _ 3 _ _ _ rE
  have d3' := d3
  rw [ea] at d3
  have v0 : G.cell? ⟨nb, 0, none⟩ = some (.int .i64 V.base) := bcell bG (cell_of_row _ _ 0 _ _ _ rE)
  have v1 : G.cell? ⟨nb, 1, none⟩ = some (.int .i64 V.pgs) := bcell bG (cell_of_row _ _ 1 _ _ _ rE)
  have v2 : G.cell? ⟨nb, 2, none⟩ = some (.slice A.ka A.kn A.kc) := bcell bG (cell_of_row _ _ 2 _ _ _ rE)
  have v3 : G.cell? ⟨nb, 3, none⟩ = some (.slice A.ra A.rn A.rc) := bcell bG d3'
  have v4 : G.cell? ⟨nb, 4, none⟩ = some (.slice A.sa A.sn A.sc) := bcell bG (cell_of_row _ _ 4 _ _ _ rE)
  have v5 : G.cell? ⟨nb, 5, none⟩ = some (.slice A.ba A.bn A.bc) := bcell bG (cell_of_row _ _ 5 _ _ _ rE)
  have g0 : G.cell? ⟨ng, 0, none⟩ = some (.int .i64 gen) := cell_of_row _ _ 0 _ _ _ rG
  have g1 : G.cell? ⟨ng, 1, none⟩ = some (.bool lv) := cell_of_row _ _ 1 _ _ _ rG
  have g2 : G.cell? ⟨ng, 2, none⟩ = some (.int .i64 kd) := cell_of_row _ _ 2 _ _ _ rG
  have g3 : G.cell? ⟨ng, 3, none⟩ = some (.int .i64 x) := cell_of_row _ _ 3 _ _ _ rG
  have HRL : Hid (V.rs.length = A.rn ∧ V.ks.length = A.kn) := ⟨rl, kl⟩
  clear h hV hR bE rE rG bG hE' d3' ea rz kl rl
  by_cases n0 : gen < 0
  · have F : Hid (false = r) := by show false = r; rw [← hr, decide_eq_false (by omega)]; rfl
    clear hr
    go_enter Tryz.func33, Tryz.ntmps33
    go_wp2
    go_ret
    exact ⟨ret_bool F.out, by first | exact BWG.out | exact hnb ▸ BWG.out⟩
  · by_cases n1 : 65535 < gen
    · have F : Hid (false = r) := by show false = r; rw [← hr, decide_eq_false (by omega)]; rfl
      clear hr
      go_enter Tryz.func33, Tryz.ntmps33
      go_wp2
      go_ret
      exact ⟨ret_bool F.out, by first | exact BWG.out | exact hnb ▸ BWG.out⟩
    · rw [decide_eq_true (by omega), Bool.true_and] at hr
      cases lv with
      | true =>
        rw [if_pos rfl] at hr
        by_cases n2 : gen = 0
        · have F : Hid (false = r) := by show false = r; rw [← hr, decide_eq_false (by omega)]; rfl
          have b0 : (gen == 0) = true := by rw [beq_iff_eq]; exact n2
          clear hr n2
          go_enter Tryz.func33, Tryz.ntmps33
          go_wp2
          go_ret
          exact ⟨ret_bool F.out, by first | exact BWG.out | exact hnb ▸ BWG.out⟩
        · have b0 : (gen == 0) = false := by rw [beq_eq_false_iff_ne]; exact n2
          rw [decide_eq_true (by omega), Bool.true_and] at hr
          obtain ⟨bl, hbl⟩ : ∃ bl, ((i : Int) == (A.rn : Int) - 1) = bl := ⟨_, rfl⟩
          clear n2
          by_cases k0 : 0 ≤ kd
          · have c0 : decide (0 ≤ kd) = true := decide_eq_true k0
            by_cases k1 : kd < (A.kn : Int)
            · have c1 : decide (kd < (A.kn : Int)) = true := decide_eq_true k1
              obtain ⟨kj, rfl⟩ : ∃ kj : Nat, kd = (kj : Int) := ⟨kd.toNat, by omega⟩
              have hkj : kj < V.ks.length := by have := HRL.out.2; omega
              obtain ⟨gk, ok, la, lc, ek, e0, _⟩ := HKS.out kj hkj
              obtain ⟨z, hz⟩ : ∃ z, V.ks[kj].s = z := ⟨_, rfl⟩
              rw [hz] at e0
              have HR : Hid (slotB V.ts x z = r) := by
                show _ = _
                rw [← hr]
                unfold liesB
                simp only
                rw [decide_eq_true ⟨k0, by have := HRL.out.2; omega⟩, Bool.true_and, Int.toNat_natCast, knD_at hkj, hz]
              have e0G : G.cell? ⟨gk, ok + kj * 2, none⟩ = some (.int .i64 z) := bcell BG.out e0
              have RVG : Hid (Rv G.drew V A) := (HVE.out.keep BG.out).keep (Below.refl _ G).drew
              clear hr e0 hz HVE HKS
              obtain ⟨ka, ra, sa, ba, kn, rn, sn, bn, kc, rc, sc, bc⟩ := A
              simp only at ek v2 v3 v4 v5 c1 k1 i0 wr hbl d3 hE
              subst ek
              cases bl with
              | false =>
                go_enter Tryz.func33, Tryz.ntmps33
                go_wp2_with fail
                go_region_held3 (fun w' => w'.cell? ⟨nb, 0, none⟩ = some (.int .i64 V.base) ∧ w'.cell? ⟨nb, 1, none⟩ = some (.int .i64 V.pgs) ∧ w'.cell? ⟨nb, 2, none⟩ = some (.slice (some ⟨gk, ok, none⟩) kn kc) ∧ w'.cell? ⟨nb, 3, none⟩ = some (.slice ra rn rc) ∧ w'.cell? ⟨nb, 4, none⟩ = some (.slice sa sn sc) ∧ w'.cell? ⟨nb, 5, none⟩ = some (.slice ba bn bc) ∧ w'.cell? ⟨ng, 2, none⟩ = some (.int .i64 (kj : Int)) ∧ w'.cell? ⟨ng, 3, none⟩ = some (.int .i64 x) ∧ w'.cell? ⟨gk, ok + kj * 2, none⟩ = some (.int .i64 z)) (first | exact ⟨v0, v1, v2, v3, v4, v5, g2, g3, e0G⟩ | exact ⟨h0, h1, h2, h3, h4, h5, h6, h7, h8⟩)
                  ((go_at_call 71; refine (rslot_any V ⟨some ⟨gk, ok, none⟩, ra, sa, ba, kn, rn, sn, bn, kc, rc, sc, bc⟩ x z _ RVG.out HV3.out r HR.out).mono ?_; rintro e w2 ⟨rfl, b2⟩; have B2 : Hid (Below G.heap.size G w2) := Below.ofDrew b2; have h0 := bcell B2.out v0; have h1 := bcell B2.out v1; have h2 := bcell B2.out v2; have h3 := bcell B2.out v3; have h4 := bcell B2.out v4; have h5 := bcell B2.out v5; have h6 := bcell B2.out g2; have h7 := bcell B2.out g3; have h8 := bcell B2.out e0G; clear b2))
                have BB := BWG.out.trans (B2.out.mono BWG.out.size)
                go_wp2
                go_ret
                exact ⟨rfl, by first | exact BB | exact hnb ▸ BB⟩
              | true =>
                go_enter Tryz.func33, Tryz.ntmps33
                go_wp2_with fail
                go_region_held3 (fun w' => w'.cell? ⟨nb, 0, none⟩ = some (.int .i64 V.base) ∧ w'.cell? ⟨nb, 1, none⟩ = some (.int .i64 V.pgs) ∧ w'.cell? ⟨nb, 2, none⟩ = some (.slice (some ⟨gk, ok, none⟩) kn kc) ∧ w'.cell? ⟨nb, 3, none⟩ = some (.slice ra rn rc) ∧ w'.cell? ⟨nb, 4, none⟩ = some (.slice sa sn sc) ∧ w'.cell? ⟨nb, 5, none⟩ = some (.slice ba bn bc) ∧ w'.cell? ⟨ng, 2, none⟩ = some (.int .i64 (kj : Int)) ∧ w'.cell? ⟨ng, 3, none⟩ = some (.int .i64 x) ∧ w'.cell? ⟨gk, ok + kj * 2, none⟩ = some (.int .i64 z)) (first | exact ⟨v0, v1, v2, v3, v4, v5, g2, g3, e0G⟩ | exact ⟨h0, h1, h2, h3, h4, h5, h6, h7, h8⟩)
                  ((go_at_call 71; refine (rslot_any V ⟨some ⟨gk, ok, none⟩, ra, sa, ba, kn, rn, sn, bn, kc, rc, sc, bc⟩ x z _ RVG.out HV3.out r HR.out).mono ?_; rintro e w2 ⟨rfl, b2⟩; have B2 : Hid (Below G.heap.size G w2) := Below.ofDrew b2; have h0 := bcell B2.out v0; have h1 := bcell B2.out v1; have h2 := bcell B2.out v2; have h3 := bcell B2.out v3; have h4 := bcell B2.out v4; have h5 := bcell B2.out v5; have h6 := bcell B2.out g2; have h7 := bcell B2.out g3; have h8 := bcell B2.out e0G; clear b2))
                have BB := BWG.out.trans (B2.out.mono BWG.out.size)
                go_wp2
                go_ret
                exact ⟨rfl, by first | exact BB | exact hnb ▸ BB⟩
            · have c1 : decide (kd < (A.kn : Int)) = false := decide_eq_false k1
              have F : Hid (false = r) := by
                show false = r
                rw [← hr]
                unfold liesB
                rw [decide_eq_false (fun q => k1 (by have := HRL.out.2; have := q.2; simp only at this; omega)), Bool.false_and]
              clear hr
              cases bl with
              | false =>
                go_enter Tryz.func33, Tryz.ntmps33
                go_wp2_with fail
                go_quiet (fail)
                go_wp2
                go_ret
                exact ⟨ret_bool F.out, by first | exact below_drewN BWG.out _ | exact hnb ▸ below_drewN BWG.out _⟩
              | true =>
                go_enter Tryz.func33, Tryz.ntmps33
                go_wp2_with fail
                go_quiet (fail)
                go_wp2
                go_ret
                exact ⟨ret_bool F.out, by first | exact below_drewN BWG.out _ | exact hnb ▸ below_drewN BWG.out _⟩
          · have c0 : decide (0 ≤ kd) = false := decide_eq_false k0
            have F : Hid (false = r) := by
              show false = r
              rw [← hr]
              unfold liesB
              rw [decide_eq_false (fun q => k0 q.1), Bool.false_and]
            clear hr
            cases bl with
            | false =>
              go_enter Tryz.func33, Tryz.ntmps33
              go_wp2_with fail
              go_quiet (fail)
              go_wp2
              go_ret
              exact ⟨ret_bool F.out, by first | exact below_drewN BWG.out _ | exact hnb ▸ below_drewN BWG.out _⟩
            | true =>
              go_enter Tryz.func33, Tryz.ntmps33
              go_wp2_with fail
              go_quiet (fail)
              go_wp2
              go_ret
              exact ⟨ret_bool F.out, by first | exact below_drewN BWG.out _ | exact hnb ▸ below_drewN BWG.out _⟩
      | false =>
        rw [if_neg (by simp)] at hr
        by_cases k0 : kd = 0
        · have b1 : (kd == 0) = true := by rw [beq_iff_eq]; exact k0
          have b2 : (kd != 0) = false := by rw [bne, b1]; rfl
          by_cases x0 : x = 0
          · have b3 : (x == 0) = true := by rw [beq_iff_eq]; exact x0
            have b4 : (x != 0) = false := by rw [bne, b3]; rfl
            by_cases i1 : i + 1 = A.rn
            · have b5 : ((i : Int) == (A.rn : Int) - 1) = true := by rw [beq_iff_eq]; omega
              by_cases n2 : gen = 0
              · have b0 : (gen == 0) = true := by rw [beq_iff_eq]; exact n2
                have F : Hid (false = r) := by show false = r; rw [← hr]; exact (decide_eq_false (fun q => q.2.2 ⟨n2, by have := HRL.out.1; omega⟩)).symm
                clear hr k0 x0 n2 i1
                go_enter Tryz.func33, Tryz.ntmps33
                go_wp2
                go_ret
                exact ⟨ret_bool F.out, by first | exact BWG.out | exact hnb ▸ BWG.out⟩
              · have b0 : (gen == 0) = false := by rw [beq_eq_false_iff_ne]; exact n2
                have F : Hid (true = r) := by show true = r; rw [← hr]; exact (decide_eq_true ⟨k0, x0, fun q => n2 q.1⟩).symm
                clear hr k0 x0 n2 i1
                go_enter Tryz.func33, Tryz.ntmps33
                go_wp2
                go_ret
                exact ⟨ret_bool F.out, by first | exact BWG.out | exact hnb ▸ BWG.out⟩
            · have b5 : ((i : Int) == (A.rn : Int) - 1) = false := by rw [beq_eq_false_iff_ne]; omega
              have F : Hid (true = r) := by show true = r; rw [← hr]; exact (decide_eq_true ⟨k0, x0, fun q => i1 (by have := HRL.out.1; omega)⟩).symm
              clear hr k0 x0 i1
              go_enter Tryz.func33, Tryz.ntmps33
              go_wp2
              go_ret
              exact ⟨ret_bool F.out, by first | exact BWG.out | exact hnb ▸ BWG.out⟩
          · have b3 : (x == 0) = false := by rw [beq_eq_false_iff_ne]; exact x0
            have b4 : (x != 0) = true := by rw [bne, b3]; rfl
            have F : Hid (false = r) := by show false = r; rw [← hr]; exact (decide_eq_false (fun q => x0 q.2.1)).symm
            clear hr k0 x0
            go_enter Tryz.func33, Tryz.ntmps33
            go_wp2
            go_ret
            exact ⟨ret_bool F.out, by first | exact BWG.out | exact hnb ▸ BWG.out⟩
        · have b1 : (kd == 0) = false := by rw [beq_eq_false_iff_ne]; exact k0
          have b2 : (kd != 0) = true := by rw [bne, b1]; rfl
          have F : Hid (false = r) := by show false = r; rw [← hr]; exact (decide_eq_false (fun q => k0 q.1)).symm
          clear hr k0
          go_enter Tryz.func33, Tryz.ntmps33
          go_wp2
          go_ret
          exact ⟨ret_bool F.out, by first | exact BWG.out | exact hnb ▸ BWG.out⟩
end Go.Proofs.YtbfamjnnlcopiaaGreatDoor

/- Bytes at the beginning of a block: read, set, cleared, laid into; Clone of bytes. -/
namespace Go.Proofs.YtbfamjnnlcopiaaGreatDoor
open Go.RowKit
set_option linter.unusedVariables false
set_option maxRecDepth 4000

/-- A block that begins with these bytes. -/
def Byk (w : World) (g : Nat) (l : List Int) : Prop := ∃ cur, w.heap[g]? = some (.cells cur 5 (0, 0)) ∧ cur.toList.take l.length = cellsB l
theorem Byk.lt {w : World} {g : Nat} {l : List Int} (h : Byk w g l) : g < w.heap.size := by
  obtain ⟨cur, h, _⟩ := h; exact hlt h
theorem Byk.at {cur : Array Value} {l : List Int} (h : cur.toList.take l.length = cellsB l) (i : Nat) (hi : i < l.length) : cur[i]? = some (.int .u8 (l.getD i 0)) := by
  have e := cellsB_at l i hi
  rw [← h, List.getElem?_take_of_lt hi] at e
  simpa using e
theorem Byk.size {cur : Array Value} {l : List Int} (h : cur.toList.take l.length = cellsB l) : l.length ≤ cur.size := by
  have := congrArg List.length h
  rw [cellsB_len, List.length_take] at this
  have e : cur.toList.length = cur.size := Array.length_toList
  omega
theorem Byk.cell {w : World} {g : Nat} {l : List Int} (h : Byk w g l) (i : Nat) (hi : i < l.length) : w.cell? ⟨g, i, none⟩ = some (.int .u8 (l.getD i 0)) := by
  obtain ⟨cur, h, k⟩ := h
  rw [cell_of_row w g i _ _ _ h]; exact Byk.at k i hi
theorem Byk.thawed {w : World} {g : Nat} {l : List Int} (h : Byk w g l) (i : Nat) : w.frozen? ⟨g, i, none⟩ = false := by
  obtain ⟨cur, h, k⟩ := h; exact frozen_of_row w g i _ 5 h
theorem Byk.same {w w' : World} {g : Nat} {l : List Int} (h : Byk w g l) (hb : ∀ o, w.heap[g]? = some o → w'.heap[g]? = some o) : Byk w' g l := by
  obtain ⟨cur, h, k⟩ := h; exact ⟨cur, hb _ h, k⟩
theorem Byk.keep {w w' : World} {g : Nat} {l : List Int} (h : Byk w g l) (hb : Below w.heap.size w w') : Byk w' g l := h.same (fun o ho => by rw [hb.block g (hlt ho)]; exact ho)
theorem Byk.part {w : World} {g : Nat} {l : List Int} (h : Byk w g l) (hb : AllB l) (o k : Nat) (hf : o + k ≤ l.length) : IsB w (some ⟨g, o, none⟩) ((l.drop o).take k) := by
  refine ⟨(hb.drop o).take k, .inr ⟨g, o, rfl, h.lt, fun i hi => ?_⟩⟩
  simp at hi
  rw [h.cell (o + i) (by omega)]
  simp [List.getD_eq_getElem?_getD, List.getElem?_drop, show i < k by omega]
theorem Byk.isB {w : World} {g : Nat} {l : List Int} (h : Byk w g l) (hb : AllB l) : IsB w (some ⟨g, 0, none⟩) l :=
  ⟨hb, .inr ⟨g, 0, rfl, h.lt, fun i hi => by rw [Nat.zero_add]; exact h.cell i hi⟩⟩
theorem Byk.set {w : World} {g : Nat} {l : List Int} (h : Byk w g l) (i : Nat) (v : Int) (hi : i < l.length) : Byk (w.setCell ⟨g, i, none⟩ (.int .u8 v)) g (l.set i v) := by
  obtain ⟨cur, h, k⟩ := h
  refine ⟨cur.setIfInBounds i (.int .u8 v), heap_setCell_same w g i _ _ (.int .u8 v) h, ?_⟩
  rw [List.length_set, Array.toList_setIfInBounds, List.take_set, k]
  simp [cellsB, List.map_set]
theorem OwnsB.bk {w : World} {base g : Nat} {l : List Int} {cap : Nat} (h : OwnsB w base (some ⟨g, 0, none⟩) l cap) : Byk w g l := by
  obtain ⟨h0, ⟨h1, _⟩ | ⟨g', c', cur, h1, _, h2, h3, h4, h5, h6⟩⟩ := h
  · cases h1
  · cases h1
    rw [Nat.mul_one] at h6
    exact ⟨cur, h2, h6⟩
theorem OwnsB.kind {w : World} {base : Nat} {a : Option Addr} {l : List Int} {cap : Nat} (h : OwnsB w base a l cap) : ∀ g, ob a = some g → base ≤ g ∧ ∃ cur, w.heap[g]? = some (.cells cur 5 (0, 0)) := fun g hg => by
  obtain ⟨h0, ⟨h1, _⟩ | ⟨g', c', cur, h1, hb, h2, _⟩⟩ := h
  · have : a = none := by injection h1
    subst this; cases hg
  · cases h1
    cases hg
    exact ⟨hb, cur, h2⟩
theorem OwnsB.same {w w' : World} {base : Nat} {a : Option Addr} {l : List Int} {cap : Nat} (h : OwnsB w base a l cap) (he : ∀ g o, ob a = some g → w.heap[g]? = some o → w'.heap[g]? = some o) : OwnsB w' base a l cap := by
  obtain ⟨h0, h1 | ⟨g', c', cur, h1, hb, h2, h3⟩⟩ := h
  · exact ⟨h0, .inl h1⟩
  · cases h1
    exact ⟨h0, .inr ⟨g', _, cur, rfl, hb, he g' _ rfl h2, h3⟩⟩
theorem OwnsB.put {w w' : World} {base g : Nat} {l l' : List Int} {cap : Nat} (h : OwnsB w base (some ⟨g, 0, none⟩) l cap) (k : ∀ cur : Array Value, w.heap[g]? = some (.cells cur 5 (0, 0)) → ∃ cur' : Array Value, w'.heap[g]? = some (.cells cur' 5 (0, 0)) ∧ cur'.size = cur.size) (hb : Byk w' g l') (hl : l'.length = l.length) : OwnsB w' base (some ⟨g, 0, none⟩) l' cap := by
  obtain ⟨h0, ⟨h1, _⟩ | ⟨g', c', cur, h1, hB, h2, h3, h4, h5, h6⟩⟩ := h
  · cases h1
  · cases h1
    obtain ⟨cur', k1, k2⟩ := k cur h2
    obtain ⟨cur2, k3, k4⟩ := hb
    rw [k1] at k3
    cases k3
    refine ⟨by simp, .inr ⟨g, cap, cur', by rw [hl], hB, k1, by omega, h4, by omega, ?_⟩⟩
    rw [Nat.mul_one]
    exact k4
theorem OwnsB.set {w : World} {base g : Nat} {l : List Int} {cap : Nat} (h : OwnsB w base (some ⟨g, 0, none⟩) l cap) (i : Nat) (v : Int) (hi : i < l.length) : OwnsB (w.setCell ⟨g, i, none⟩ (.int .u8 v)) base (some ⟨g, 0, none⟩) (l.set i v) cap :=
  h.put (fun cur hc => ⟨_, heap_setCell_same w g i _ _ (.int .u8 v) hc, by simp⟩) (h.bk.set i v hi) (by simp)
end Go.Proofs.YtbfamjnnlcopiaaGreatDoor

/- Calls and clear in a walk. -/
namespace Go.Proofs.YtbfamjnnlcopiaaGreatDoor
open Go.RowKit
set_option linter.unusedVariables false
set_option maxRecDepth 4000

theorem enter_run (f : Nat) (vs : Array Value) (w : World) (hf : (match Tryz.prog.funcs[f]? with | some fn => !(fn.name == "runtime.NumGoroutine") && !fn.body.isNone | none => false) = true) : (callFunc f vs).run Tryz.prog w = .ok (.enter f vs) w := by
  unfold callFunc
  simp only [Sem.run_bind, go_sem]
  cases hq : Tryz.prog.funcs[f]? with
  | none => rw [hq] at hf; cases hf
  | some fn =>
    rw [hq] at hf
    simp at hf
    simp [hf.1, hq]
    intro h
    rw [h] at hf
    simp at hf
/-- A call of a Go function by its contract, in a region that draws. -/
theorem step_call {ops : Array Oper} {o : Oper} {a : Act} {K : Act → World → Prop} {Q : Exit → Act → World → Prop} {E : Prop} {w : World} (hgd : o.guard = none) (f : Nat) (xs : List Operand) (ts : Array TypeId)
    (ho : o.op = .call { callee := .value (.func f), args := xs.toArray, argTypes := ts }) (vs : List Value) (hx : xs.map a.eval = vs) (R : Ending → World → Prop) (C : Calls Tryz.prog f vs.toArray w R)
    (hf : (match Tryz.prog.funcs[f]? with | some fn => !(fn.name == "runtime.NumGoroutine") && !fn.body.isNone | none => false) = true) (h : ∀ e w', R e w' → ∃ v, e = .returned v ∧ K (a.put o.dst v) w') :
    if Region.wanted o (yielded ops a.tmps) = true then Oper.wp Tryz.prog o a w K Q else E := by
  have hw : Region.wanted o (yielded ops a.tmps) = true := by simp [Region.wanted, hgd]
  rw [if_pos hw]
  subst hx
  obtain ⟨dst, op, type, pos, after, guard⟩ := o
  simp only at ho
  subst ho
  unfold Oper.wp
  have e1 : execOp a.eval { dst, op := .call { callee := .value (.func f), args := xs.toArray, argTypes := ts }, type, pos, after, guard } = callFunc f (#[] ++ xs.toArray.map a.eval ++ #[]) := rfl
  rw [e1, show (#[] : Array Value) ++ xs.toArray.map a.eval ++ #[] = (xs.map a.eval).toArray from by simp, enter_run f _ w hf]
  refine C.mono ?_
  intro e w' hR
  obtain ⟨v, rfl, hK⟩ := h e w' hR
  exact hK

theorem kind_ne {w : World} {g k : Nat} {c d : Array Value} {t u : TypeId} (h : w.heap[g]? = some (.cells c t (0, 0))) (k' : w.heap[k]? = some (.cells d u (0, 0))) (ht : t ≠ u) : g ≠ k := fun e => by
  subst e; rw [h] at k'; cases k'; exact ht rfl
end Go.Proofs.YtbfamjnnlcopiaaGreatDoor

/- Rows of objects of one's own. -/
namespace Go.Proofs.YtbfamjnnlcopiaaGreatDoor
open Go.RowKit
set_option linter.unusedVariables false
set_option maxRecDepth 4000

/-- An object, and where its lists lie. -/
structure Rob extends Ob where
  (ba : Option Addr) (bk : Nat) (ha : Option Addr) (hk : Nat)
def Rob.cs (r : Rob) : List Value := [.int .u64 (r.h : Nat), .int .i64 r.k, .slice r.ba r.b.length r.bk, .slice r.ha r.t.length r.hk]
theorem Rob.cs_at : ∀ (rs : List Rob) (i : Nat) (h : i < rs.length), (rs.flatMap Rob.cs)[i * 4]? = some (.int .u64 (rs[i].h : Nat)) ∧ (rs.flatMap Rob.cs)[i * 4 + 1]? = some (.int .i64 rs[i].k) ∧ (rs.flatMap Rob.cs)[i * 4 + 2]? = some (.slice rs[i].ba rs[i].b.length rs[i].bk) ∧ (rs.flatMap Rob.cs)[i * 4 + 3]? = some (.slice rs[i].ha rs[i].t.length rs[i].hk)
  | r :: rs, 0, _ => ⟨rfl, rfl, rfl, rfl⟩
  | r :: rs, i + 1, h => by
    have := Rob.cs_at rs i (by simpa using h)
    rw [show (i + 1) * 4 = i * 4 + 4 by omega]
    exact this
/-- An object more behind a row of one's own. -/
theorem appO_run (t ts : TypeId) (hu : Tryz.prog.underlying ts = some (.slice t)) (hI : (Tryz.prog.info? t).map (fun i => (i.zero, i.size, i.bytes)) = some (some (.agg #[.int .u64 0, .int .i64 0, .slice none 0 0, .slice none 0 0]), 4, 64)) (B : Nat) (w : World) (hB : B ≤ w.heap.size) (a : Option Addr) (n c : Nat) (rs : List Rob) (h : w.ownsRow B t 4 (.slice a n c) n (rs.flatMap Rob.cs)) (q : Nat) (r : Rob) (u : TypeId) (hq : w.heap[q]? = some (.cells r.cs.toArray u (0, 0))) (hn : n ≤ 100000) :
    ∃ a' c' w', (Builtin.append_ #[ts, ts] ts #[.slice a n c, .slice (some ⟨q, 0, none⟩) 1 1]).run Tryz.prog w = .ok (.slice a' (n + 1) c') w' ∧ w'.ownsRow B t 4 (.slice a' (n + 1) c') (n + 1) ((rs ++ [r]).flatMap Rob.cs) ∧ Tu (fun k => ob a = some k) w w' := by
  obtain ⟨i0, hi, hz0, hz2, hz3⟩ := info_parts hI
  obtain ⟨v', w', hr, h2, h3, _, _⟩ := run_append_own_at (P := Tryz.prog) w B ts ts t i0 _ 4 64 hu hi hz0 hz2 hz3 rfl (by decide) (.slice a n c) n (rs.flatMap Rob.cs) h ⟨q, 0, none⟩ 1 1 r.cs rfl (fun j u' hj => by
      rw [show (⟨q, 0, none⟩ : Addr).add j = ⟨q, j, none⟩ by simp [Addr.add]; exact fun h => h.symm, cell_of_row w q j _ _ _ hq]
      show (r.cs.toArray)[j]? = some u'
      rw [List.getElem?_toArray]; exact hj) (by intro u' hu'; simp [Rob.cs] at hu'; rcases hu' with rfl | rfl | rfl | rfl <;> rfl) (by unfold maxLen; omega) (by omega) hB
  obtain ⟨a', c', rfl⟩ := howns_form h2
  rw [ob_own] at h3
  refine ⟨a', c', w', hr, ?_, Tu.grown h3 (fun g hg => hg)⟩
  have e : (rs ++ [r]).flatMap Rob.cs = rs.flatMap Rob.cs ++ r.cs := by simp [List.flatMap_append]
  rw [e]
  exact h2
/-- Objects of one's own, each with bytes and handles of its own. -/
def Tob (w : World) (B : Nat) (t : TypeId) (v : Value) (os : List Ob) : Prop := ∃ rs : List Rob, rs.map Rob.toOb = os ∧ w.ownsRow B t 4 v os.length (rs.flatMap Rob.cs) ∧ ∀ r ∈ rs, OwnsB w B r.ba r.b r.bk ∧ Oh w B r.ha r.t r.hk ∧ AllB r.b ∧ r.ba ≠ none
theorem Tob.nil (w : World) (B : Nat) (t : TypeId) : Tob w B t (.slice none 0 0) [] := ⟨[], rfl, World.ownsRow_nil _ _ _ _, fun r h => by cases h⟩
theorem Tob.keep {w w' : World} {B : Nat} {t : TypeId} {v : Value} {os : List Ob} (h : Tob w B t v os) (hb : Below w.heap.size w w') : Tob w' B t v os := by
  obtain ⟨rs, e1, e2, e3⟩ := h
  exact ⟨rs, e1, ownsRow_keepB e2 hb, fun r hr => ⟨(e3 r hr).1.keep hb, (e3 r hr).2.1.keep hb, (e3 r hr).2.2⟩⟩
theorem Tob.mono {w : World} {B B' : Nat} {t : TypeId} {v : Value} {os : List Ob} (h : Tob w B t v os) (hb : B' ≤ B) : Tob w B' t v os := by
  obtain ⟨rs, e1, ⟨k0, k1 | ⟨g, c, cur, k1, k2, k3⟩⟩, e3⟩ := h
  · exact ⟨rs, e1, ⟨k0, .inl k1⟩, fun r hr => ⟨(e3 r hr).1.mono hb, (e3 r hr).2.1.mono hb, (e3 r hr).2.2⟩⟩
  · exact ⟨rs, e1, ⟨k0, .inr ⟨g, c, cur, k1, by omega, k3⟩⟩, fun r hr => ⟨(e3 r hr).1.mono hb, (e3 r hr).2.1.mono hb, (e3 r hr).2.2⟩⟩
theorem row_kind {w : World} {B : Nat} {t : TypeId} {a : Option Addr} {n c s : Nat} {xs : List Value} (h : w.ownsRow B t s (.slice a n c) n xs) : ∀ g, ob a = some g → B ≤ g ∧ ∃ cur, w.heap[g]? = some (.cells cur t (0, 0)) := fun g hg => by
  obtain ⟨_, ⟨h1, _⟩ | ⟨g', c', cur, h1, hb, h2, _⟩⟩ := h
  · have : a = none := by injection h1
    subst this; cases hg
  · cases h1
    cases hg
    exact ⟨hb, cur, h2⟩
theorem Tob.more (t ts : TypeId) (hu : Tryz.prog.underlying ts = some (.slice t)) (hI : (Tryz.prog.info? t).map (fun i => (i.zero, i.size, i.bytes)) = some (some (.agg #[.int .u64 0, .int .i64 0, .slice none 0 0, .slice none 0 0]), 4, 64)) (ht5 : t ≠ 5) (htH : t ≠ 163) {B : Nat} {w : World} (hB : B ≤ w.heap.size) {a : Option Addr} {n c : Nat} {os : List Ob} (h : Tob w B t (.slice a n c) os) (hl : os.length = n) (r : Rob) (h1 : OwnsB w B r.ba r.b r.bk) (h2 : Oh w B r.ha r.t r.hk) (h3 : AllB r.b) (h4 : r.ba ≠ none) (hn : n ≤ 100000) :
    ∃ a' c' w', (Builtin.append_ #[ts, ts] ts #[.slice a n c, .slice (some ⟨w.heap.size, 0, none⟩) 1 1]).run Tryz.prog (w.alloc (.cells r.cs.toArray t)) = .ok (.slice a' (n + 1) c') w' ∧ Tob w' B t (.slice a' (n + 1) c') (os ++ [r.toOb]) ∧ Below B w w' := by
  subst hl
  have b : Below w.heap.size w (w.alloc (.cells r.cs.toArray t)) := (Below.refl _ w).alloc (Nat.le_refl _) _
  obtain ⟨rs, e1, e2, e3⟩ := h.keep b
  obtain ⟨a', c', w', hr, o1, u1⟩ := appO_run t ts hu hI B _ (Nat.le_trans hB b.size) a _ c rs e2 w.heap.size r t (Go.heap_alloc_new w _) hn
  have hk := row_kind e2
  refine ⟨a', c', w', hr, ⟨rs ++ [r], by rw [List.map_append, e1]; rfl, by rw [List.length_append]; exact o1, fun q hq => ?_⟩, ?_⟩
  · have key : ∀ q : Rob, OwnsB (w.alloc (.cells r.cs.toArray t)) B q.ba q.b q.bk → Oh (w.alloc (.cells r.cs.toArray t)) B q.ha q.t q.hk → OwnsB w' B q.ba q.b q.bk ∧ Oh w' B q.ha q.t q.hk := fun q q1 q2 => by
      refine ⟨q1.same (fun g o hg ho => ?_), q2.same (fun g o hg ho => ?_)⟩
      · obtain ⟨_, cur, hc⟩ := q1.kind g hg
        refine u1.block g o ho (fun e => ?_)
        obtain ⟨_, cur2, hc2⟩ := hk g e
        exact kind_ne hc2 hc ht5 rfl
      · obtain ⟨cur, hc⟩ := q2.kind g hg
        refine u1.block g o ho (fun e => ?_)
        obtain ⟨_, cur2, hc2⟩ := hk g e
        exact kind_ne hc2 hc htH rfl
    rcases List.mem_append.1 hq with k | k
    · have := e3 q k
      exact ⟨(key q this.1 this.2.1).1, (key q this.1 this.2.1).2, this.2.2⟩
    · obtain rfl : q = r := by simpa using k
      exact ⟨(key q (h1.keep b) (h2.keep b)).1, (key q (h1.keep b) (h2.keep b)).2, h3, h4⟩
  · exact ((Below.refl _ w).alloc hB _).trans (u1.below (fun i e => (hk i e).1) (Nat.le_trans hB b.size))
theorem isH_of {w : World} {B : Nat} {a : Option Addr} {l : List Nat} {c : Nat} (h : Oh w B a l c) : IsH w a l ∧ l.length ≤ 9223372036854775807 := by
  refine ⟨?_, Nat.le_trans h.len.1 h.len.2⟩
  by_cases e : l = []
  · exact .inl e
  · obtain ⟨g, ea, hb, hs, _⟩ := h.cells 0 (by rcases l with _ | ⟨x, l⟩; exact absurd rfl e; simp)
    refine .inr ⟨g, ea, hs, fun i hi => ?_⟩
    obtain ⟨g', ea', _, _, hc⟩ := h.cells i hi
    rw [ea] at ea'
    cases ea'
    exact hc
theorem Tob.rd {w : World} {B : Nat} {t : TypeId} {a : Option Addr} {n c : Nat} {os : List Ob} (h : Tob w B t (.slice a n c) os) : RdO w a os := by
  obtain ⟨rs, e1, e2, e3⟩ := h
  intro i hi
  have hl : rs.length = os.length := by rw [← e1, List.length_map]
  have hi' : i < rs.length := by omega
  have eo : os[i] = rs[i].toOb := by subst e1; simp
  obtain ⟨c0, c1, c2, c3⟩ := Rob.cs_at rs i hi'
  obtain ⟨r1, r2, r3, _⟩ := e3 rs[i] (List.getElem_mem hi')
  obtain ⟨_, ⟨h1, h0⟩ | ⟨g, c', cur, h1, hb, h2, h3, h4, h5, h6⟩⟩ := e2
  · omega
  · cases h1
    have hc : ∀ j v, j < os.length * 4 → (rs.flatMap Rob.cs)[j]? = some v → w.cell? ⟨g, j, none⟩ = some v := fun j v hj hv => by
      rw [cell_of_row _ _ j _ _ _ h2, ← Array.getElem?_toList]
      rw [← h6, List.getElem?_take_of_lt hj] at hv
      exact hv
    refine ⟨g, 0, rs[i].ba, rs[i].bk, rs[i].ha, rs[i].hk, rfl, ?_, ?_, ?_, ?_, ?_, ?_, ?_⟩
    · rw [Nat.zero_add, eo]; exact hc _ _ (by omega) c0
    · rw [Nat.zero_add, eo]; exact hc _ _ (by omega) c1
    · rw [Nat.zero_add, eo]; exact hc _ _ (by omega) c2
    · rw [Nat.zero_add, eo]; exact hc _ _ (by omega) c3
    · rw [eo]; exact ownsB_isB r3 r1
    · rw [eo]; exact (isH_of r2).1
    · rw [eo]; exact (isH_of r2).2
end Go.Proofs.YtbfamjnnlcopiaaGreatDoor
