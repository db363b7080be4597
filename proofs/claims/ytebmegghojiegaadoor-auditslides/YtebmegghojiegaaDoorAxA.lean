/- The document's owner and word. -/
import Derived.Test.YtebmegghojiegaaDoorAvF
namespace Go.Proofs.YtebmegghojiegaaDoor
open Go.RowKit
set_option linter.unusedVariables false

/-- A view in a box. -/
theorem vbox (w : World) (V : Vw) (A : Va) : ∃ E, w.alloc (.cells #[.int .i64 V.base, .int .i64 V.pgs, .slice A.ka A.kn A.kc, .slice A.ra A.rn A.rc, .slice A.sa A.sn A.sc, .slice A.ba A.bn A.bc] 27) = E ∧ Below w.heap.size w E ∧ E.heap[w.heap.size]? = some (.cells #[.int .i64 V.base, .int .i64 V.pgs, .slice A.ka A.kn A.kc, .slice A.ra A.rn A.rc, .slice A.sa A.sn A.sc, .slice A.ba A.bn A.bc] 27 (0, 0)) :=
  ⟨_, rfl, (Below.refl _ w).alloc (Nat.le_refl _) _, Go.heap_alloc_new w _⟩
def ownZ (rs : List HRw) (x : Int) : Int := match ownI rs x with
  | some i => (i : Int)
  | none => -1
set_option maxRecDepth 20000 in
set_option maxHeartbeats 4000000 in
theorem owner_any (V : Vw) (A : Va) (x : Int) (w : World) (h : Rv w V A) (r : Int) (hr : ownZ V.rs x = r) :
    Calls Tryd.prog 32 #[.agg #[.int .i64 V.base, .int .i64 V.pgs, .slice A.ka A.kn A.kc, .slice A.ra A.rn A.rc, .slice A.sa A.sn A.sc, .slice A.ba A.bn A.bc], .int .i64 x] w fun e w' => e = .returned (.int .i64 r) ∧ Below w.heap.size w w' := by
  obtain ⟨base, pgs, ks, rs, ts, bs⟩ := V
  obtain ⟨ka, ra, sa, ba, kn, rn, sn, bn, kc, rc, sc, bc⟩ := A
  obtain ⟨E, hE, bE, rE⟩ := vbox w ⟨base, pgs, ks, rs, ts, bs⟩ ⟨ka, ra, sa, ba, kn, rn, sn, bn, kc, rc, sc, bc⟩
  simp only at hE rE
  obtain ⟨nb, hnb⟩ : ∃ nb, w.heap.size = nb := ⟨_, rfl⟩
  rw [hnb] at rE
  have d3 : E.cell? ⟨nb, 3, none⟩ = some (.slice ra rn rc) := cell_of_row _ _ 3 _ _ _ rE
  have HBE : Hid (Below w.heap.size w E) := bE
  have HIW : Hid (IsW E ra rs) := h.rs.keep bE
  have rl : rs.length = rn := h.rl
  have rz : rs.length ≤ 300 := h.rz
  have HRL : Hid (rs.length = rn) := rl
  have HR : Hid (ownZ rs x = r) := hr
  have r300 : rn ≤ 300 := by omega
  clear h hr rl rz rE bE
  go_enter Tryd.func32, Tryd.ntmps32
  go_wp2_with fail
  go_loopw [10] (fun iv wz => ∃ k : Nat, k ≤ rn ∧ iv = .int .i64 (k : Nat) ∧ (∀ j, j < k → ¬ ((rwD rs j).live = true ∧ (rwD rs j).pl = x)) ∧ Below E.heap.size E wz) (fun iv _ => rn - lenW iv)
  case atStart => exact ⟨0, Nat.zero_le _, rfl, fun j hj => by omega, by first | exact Below.refl _ _ | (rw [← hE]; exact Below.refl _ _)⟩
  case round =>
    obtain ⟨k, hk, rfl, hno, hb⟩ := hrel
    rename World => wz
    have HNO : Hid (∀ j, j < k → ¬ ((rwD rs j).live = true ∧ (rwD rs j).pl = x)) := hno
    have BZ : Hid (Below E.heap.size E wz) := hb
    have FB : Hid (∀ w', Below wz.heap.size wz w' → Below E.heap.size E w' ∧ Below w.heap.size w w') := fun w' b' => by
      have b2 := BZ.out.trans (b'.mono BZ.out.size)
      exact ⟨b2, HBE.out.trans (b2.mono HBE.out.size)⟩
    clear hno hb
    by_cases hkn : k < rn
    · have hkl : k < rs.length := by rw [HRL.out]; exact hkn
      obtain ⟨b, off, rfl, q0, q1, q2, q3⟩ := (HIW.out.keep BZ.out).at k hkl
      have k0 : (k : Int) < (rn : Int) := by omega
      obtain ⟨R, hR⟩ : ∃ R, rwD rs k = R := ⟨_, rfl⟩
      have HRR : Hid (rwD rs k = R) := hR
      rw [hR] at q0 q1 q2 q3
      obtain ⟨gen, lv, kd, pl⟩ := R
      simp only at q0 q1 q2 q3
      obtain ⟨G, hG⟩ : ∃ G, wz.alloc (.cells #[.int .i64 gen, .bool lv, .int .i64 kd, .int .i64 pl] 50) = G := ⟨_, rfl⟩
      have bG : Below wz.heap.size wz G := by rw [← hG]; exact (Below.refl _ wz).alloc (Nat.le_refl _) _
      have rG : G.heap[wz.heap.size]? = some (.cells #[.int .i64 gen, .bool lv, .int .i64 kd, .int .i64 pl] 50 (0, 0)) := by rw [← hG]; exact Go.heap_alloc_new wz _
      have BG : Hid (Below E.heap.size E G ∧ Below w.heap.size w G) := FB.out G bG
      obtain ⟨ng, hng⟩ : ∃ ng, wz.heap.size = ng := ⟨_, rfl⟩
      rw [hng] at rG
      have e1 : G.cell? ⟨ng, 1, none⟩ = some (.bool lv) := cell_of_row _ _ 1 _ _ _ rG
      have e3 : G.cell? ⟨ng, 3, none⟩ = some (.int .i64 pl) := cell_of_row _ _ 3 _ _ _ rG
      have STEP : Hid (¬ (lv = true ∧ pl = x) → ∀ j, j < k + 1 → ¬ ((rwD rs j).live = true ∧ (rwD rs j).pl = x)) := fun hh j hj => by
        rcases Nat.lt_or_eq_of_le (Nat.le_of_lt_succ hj) with e | rfl
        · exact HNO.out j e
        · rw [HRR.out]; exact hh
      clear bG rG hR
      cases lv with
      | false =>
        have NX := STEP.out (by simp)
        go_wp2
        go_roundw
        case rel => exact ⟨k + 1, by omega, by congr 1, NX, BG.out.1⟩
        case measure => simp [lenW]; omega
      | true =>
        by_cases hp : pl = x
        · have b0 : (pl == x) = true := by rw [beq_iff_eq]; exact hp
          have F : Hid ((k : Int) = r) := by
            show (k : Int) = r
            rw [← HR.out]
            unfold ownZ
            rw [own_is hkl (by rw [HRR.out]) (by rw [HRR.out]; exact hp) HNO.out]
          clear hp hkl
          go_wp2
          go_ret
          exact ⟨ret_int F.out, by first | exact BG.out.2 | exact hnb ▸ BG.out.2⟩
        · have b0 : (pl == x) = false := by rw [beq_eq_false_iff_ne]; exact hp
          have NX := STEP.out (fun q => hp q.2)
          clear hp hkl
          go_wp2
          go_roundw
          case rel => exact ⟨k + 1, by omega, by congr 1, NX, BG.out.1⟩
          case measure => simp [lenW]; omega
    · obtain rfl : k = rn := by omega
      have F : Hid ((-1 : Int) = r) := by
        show (-1 : Int) = r
        rw [← HR.out]
        unfold ownZ
        cases e : ownI rs x with
        | none => rfl
        | some i =>
          obtain ⟨h1, h2, h3, _⟩ := own_some e
          exact absurd ⟨h2, h3⟩ (HNO.out i (by rw [HRL.out] at h1; exact h1))
      have B2 := (FB.out wz (Below.refl _ _)).2
      go_wp2
      go_ret
      exact ⟨ret_int F.out, by first | exact B2 | exact hnb ▸ B2⟩
set_option maxRecDepth 20000 in
set_option maxHeartbeats 4000000 in
theorem word_any (V : Vw) (A : Va) (x : Nat) (w : World) (h : Rv w V A) (hx : x + 8 ≤ V.bs.length) (v : Int) (hv : wordV V.bs (x : Int) = v) :
    Calls Tryd.prog 42 #[.agg #[.int .i64 V.base, .int .i64 V.pgs, .slice A.ka A.kn A.kc, .slice A.ra A.rn A.rc, .slice A.sa A.sn A.sc, .slice A.ba A.bn A.bc], .int .i64 (x : Nat)] w fun e w' => e = .returned (.int .u64 v) ∧ Below w.heap.size w w' := by
  obtain ⟨base, pgs, ks, rs, ts, bs⟩ := V
  obtain ⟨ka, ra, sa, ba, kn, rn, sn, bn, kc, rc, sc, bc⟩ := A
  obtain ⟨E, hE, bE, rE⟩ := vbox w ⟨base, pgs, ks, rs, ts, bs⟩ ⟨ka, ra, sa, ba, kn, rn, sn, bn, kc, rc, sc, bc⟩
  simp only at hE rE hx hv
  obtain ⟨nb, hnb⟩ : ∃ nb, w.heap.size = nb := ⟨_, rfl⟩
  rw [hnb] at rE
  have d5 : E.cell? ⟨nb, 5, none⟩ = some (.slice ba bn bc) := cell_of_row _ _ 5 _ _ _ rE
  have HBE : Hid (Below w.heap.size w E) := bE
  have hib : IsB E ba bs := h.bs.keep bE
  have bl : bs.length = bn := h.bl
  have bk : bn ≤ bc ∧ bc ≤ 9223372036854775807 := h.bk
  have bz : bs.length ≤ 16384 := h.bz
  obtain ⟨gb, ob, rfl⟩ : ∃ gb ob, ba = some ⟨gb, ob, none⟩ := by
    obtain ⟨_, hh | ⟨gb, ob, e, _⟩⟩ := hib
    · rw [hh] at hx; simp at hx
    · exact ⟨gb, ob, e⟩
  obtain ⟨en, hen⟩ : ∃ en : Nat, x + 8 = en := ⟨_, rfl⟩
  have wz : IntKind.i64.wrap ((x : Int) + 8) = (en : Int) := by rw [IntKind.wrap_i64]; omega
  have i1 : (en : Int) ≤ (bc : Int) := by omega
  have i2 : (x : Int) ≤ (en : Int) := by omega
  have i3 : ¬ (bc = x) := by omega
  have i5 : en - x = 8 := by omega
  have i6 : IntKind.i64.wrap (x : Int) = (x : Int) := by rw [IntKind.wrap_i64]; omega
  have SLR : ∀ w : World, (Instr.slice 25 (.slice (some ⟨gb, ob, none⟩) bn bc) (some (.int .i64 (x : Int))) (some (.int .i64 (en : Int))) none).run Tryd.prog w = .ok (.slice (some ⟨gb, ob + x, none⟩) 8 (bc - x)) w := fun w => by
    rw [sliceB_run w gb ob bn bc x en (by omega) (by omega) (by omega), i5]
  have IBP : Hid (IsB E (some ⟨gb, ob + x, none⟩) ((bs.drop x).take 8)) := hib.cut x 8 hx
  have LB8 : Hid (((bs.drop x).take 8).length = 8) := by show _ = _; rw [List.length_take, List.length_drop]; omega
  have GV : Hid (getL (((bs.drop x).take 8).take 8) = v) := by
    show _ = _
    rw [List.take_take, Nat.min_self, ← hv]
    unfold wordV
    rw [Int.toNat_natCast]
  clear h hv rE bE hib bl bk bz hx hen
  go_enter Tryd.func42, Tryd.ntmps42
  go_wp2_with fail
  have RG := rget_any (some ⟨gb, ob + x, none⟩) (bc - x) ((bs.drop x).take 8) E IBP.out (by rw [LB8.out]; unfold maxLen; omega)
  rw [LB8.out, GV.out] at RG
  refine RG.mono ?_
  rintro e w' ⟨rfl, rfl⟩
  go_wp2
  go_ret
  exact ⟨rfl, by first | exact HBE.out | exact hnb ▸ HBE.out⟩
end Go.Proofs.YtebmegghojiegaaDoor
