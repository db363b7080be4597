/- nameOf, named, bytesOf. -/
import Derived.Test.YtbfamjnnlcopiaaGreatDoorGzAO
import Derived.BigQuiet
namespace Go.Proofs.YtbfamjnnlcopiaaGreatDoor
open Go.RowKit Go.Maps
set_option linter.unusedVariables false
set_option maxRecDepth 4000

set_option maxRecDepth 20000 in
set_option maxHeartbeats 2000000 in
theorem nameOf_any (lb ms mi : Nat) (V : Vw) (A : Va) (nf nr : Nat) (f : Int → Option Nat) (i : Nat) (w : World) (h : Lk w lb ms mi V A nf nr f) (hi : i < V.rs.length) (N : Nat) (hN : ofN ((i : Int) + 1) (rwD V.rs i).gen = N) :
    Calls Tryz.prog 140 #[.pointer (some ⟨lb, 0, none⟩), .int .i64 (i : Nat)] w fun e w' => e = .returned (.int .u64 (N : Nat)) ∧ w' = w := by
  have c3 : w.cell? ⟨lb, 3, none⟩ = some (.slice A.ra A.rn A.rc) := cell_of_row _ _ 3 _ _ _ h.box
  have rl := h.vw.rl
  have rz := h.vw.rz
  obtain ⟨b, off, ea, q0, _⟩ := h.vw.rs.at i hi
  rw [ea] at c3
  have hri := h.vw.ri (rwD V.rs i) (by rw [rwD_at hi]; exact List.getElem_mem hi)
  obtain ⟨rn, hrn⟩ : ∃ rn, A.rn = rn := ⟨_, rfl⟩
  rw [hrn] at c3 rl
  have i0 : (i : Int) < (rn : Int) := by omega
  have wi : IntKind.i64.wrap ((i : Int) + 1) = (i : Int) + 1 := by rw [IntKind.wrap_i64]; omega
  have HI : Hid ((i : Int) ≤ 300) := by show (i : Int) ≤ 300; omega
  obtain ⟨g, hg⟩ : ∃ g, (rwD V.rs i).gen = g := ⟨_, rfl⟩
  rw [hg] at q0 hN hri
  have HN : Hid (ofN ((i : Int) + 1) g = N) := hN
  have HG : Hid (i64 g) := hri.2.2
  clear h hN hri hg
  go_enter Tryz.func140, Tryz.ntmps140
  go_wp2_with (go_at_call 142; refine (of_q ((i : Int) + 1) g N _ (by have := HI.out; omega) HG.out HN.out).mono ?_; rintro e w' ⟨rfl, rfl⟩)
  go_ret
  exact ⟨rfl, rfl⟩
set_option maxRecDepth 20000 in
set_option maxHeartbeats 4000000 in
theorem named_any (lb ms mi : Nat) (V : Vw) (A : Va) (nf nr : Nat) (f : Int → Option Nat) (x : Int) (w : World) (h : Lk w lb ms mi V A nf nr f) (hV : Hold V 4) (h0 : 0 ≤ x) (h1 : x ≤ 18446744073709551615) (N : Nat) (hN : nameH V x = N) :
    Calls Tryz.prog 132 #[.pointer (some ⟨lb, 0, none⟩), .int .u64 x] w fun e w' => e = .returned (.int .u64 (N : Nat)) ∧ ∃ q, w' = w.drewN q := by
  have c0 : w.cell? ⟨lb, 0, none⟩ = some (.int .i64 V.base) := cell_of_row _ _ 0 _ _ _ h.box
  have c7 : w.cell? ⟨lb, 7, none⟩ = some (.map (some mi)) := cell_of_row _ _ 7 _ _ _ h.box
  have hg := (hV.r1 (by decide)).2.2.1
  unfold goodR at hg
  obtain ⟨y, hy⟩ : ∃ y, IntKind.i64.wrap (IntKind.u64.wrap (x - V.base)) = y := ⟨_, rfl⟩
  have hyr : i64 y := by unfold i64; rw [← hy, IntKind.wrap_i64]; omega
  have how := own_wrap hV (Nat.le_refl _) h.vw.bz h0 h1
  rw [hy] at how
  have wb : IntKind.u64.wrap V.base = V.base := by rw [IntKind.wrap_u64]; omega
  have LQ := fun n => (h.on.same (w' := w.drewN n) (fun o ho => ho)).look2 hyr
  unfold nameH at hN
  rw [← how] at hN
  obtain ⟨base, hbase⟩ : ∃ base, V.base = base := ⟨_, rfl⟩
  rw [hbase] at c0 hy wb
  obtain ⟨u, hu⟩ : ∃ u, IntKind.u64.wrap (x - base) = u := ⟨_, rfl⟩
  rw [hu] at hy
  have HL : Hid (Lk w lb ms mi V A nf nr f) := h
  cases e : ownI V.rs y with
  | none =>
    rw [e] at LQ hN
    have LQ : ∀ n, (Instr.lookup 140 (.map (some mi)) (.int .i64 y) true).run Tryz.prog (w.drewN n) = .ok (.tuple #[.int .i64 0, .bool false]) (w.drewN n) := LQ
    have hN : 0 = N := hN
    subst hN
    clear h hV hg how e
    go_enter Tryz.func132, Tryz.ntmps132
    go_wp2_with fail
    go_quiet (fail)
    go_wp2
    go_ret
    exact ⟨rfl, _, rfl⟩
  | some j =>
    rw [e] at LQ hN
    have LQ : ∀ n, (Instr.lookup 140 (.map (some mi)) (.int .i64 y) true).run Tryz.prog (w.drewN n) = .ok (.tuple #[.int .i64 (j : Nat), .bool true]) (w.drewN n) := LQ
    have HN : Hid (ofN ((j : Int) + 1) (rwD V.rs j).gen = N) := hN
    have HJ : Hid (j < V.rs.length) := (own_some e).1
    clear h hV hg how e hN
    go_enter Tryz.func132, Tryz.ntmps132
    go_wp2_with fail
    go_quiet (fail)
    go_wp2_with (go_at_call 140; refine (nameOf_any lb ms mi V A nf nr f j _ (HL.out.keep (below_drewN (Below.refl _ _) _)) HJ.out N HN.out).mono ?_; rintro e w' ⟨rfl, rfl⟩)
    go_ret
    exact ⟨rfl, _, rfl⟩
theorem sliceB_run (w : World) (g off n c lo hi : Nat) (h1 : lo ≤ hi) (h2 : hi ≤ c) (h3 : lo < c) : (Instr.slice 25 (.slice (some ⟨g, off, none⟩) n c) (some (.int .i64 (lo : Int))) (some (.int .i64 (hi : Int))) none).run Tryz.prog w = .ok (.slice (some ⟨g, off + lo, none⟩) (hi - lo) (c - lo)) w := by
  have a1 : (lo : Int) ≤ (hi : Int) := by omega
  have a2 : (hi : Int) ≤ (c : Int) := by omega
  have a3 : ¬ c = lo := by omega
  simp [go_sem, Tryz.underlying25, a1, a2, a3, addr_add]
theorem IsB.cut {w : World} {g off : Nat} {l : List Int} (h : IsB w (some ⟨g, off, none⟩) l) (lo n : Nat) (hn : lo + n ≤ l.length) : IsB w (some ⟨g, off + lo, none⟩) ((l.drop lo).take n) := by
  obtain ⟨ha, h⟩ := h
  refine ⟨fun x hx => ha x (List.mem_of_mem_drop (List.mem_of_mem_take hx)), ?_⟩
  rcases h with h | ⟨b, o, e, hb, hc⟩
  · left; subst h; simp
  · cases e
    right
    refine ⟨g, off + lo, rfl, hb, fun i hi => ?_⟩
    rw [List.length_take, List.length_drop] at hi
    have := hc (lo + i) (by omega)
    rw [Nat.add_assoc, this]
    simp only [List.getD_eq_getElem?_getD]
    rw [List.getElem?_take_of_lt (by omega), List.getElem?_drop]
set_option maxRecDepth 20000 in
set_option maxHeartbeats 4000000 in
theorem bytesOf_any (lb ms mi : Nat) (V : Vw) (A : Va) (nf nr : Nat) (f : Int → Option Nat) (i : Nat) (w : World) (h : Lk w lb ms mi V A nf nr f) (hi : i < V.rs.length) (hV : Hold V 4) (gen kd x : Int) (lv : Bool) (hR : rwD V.rs i = ⟨gen, lv, kd, x⟩) (hl : lv = true) (z : Nat) (hz : (knD V.ks kd.toNat).s = (z : Int)) :
    Calls Tryz.prog 131 #[.pointer (some ⟨lb, 0, none⟩), .agg #[.int .i64 gen, .bool lv, .int .i64 kd, .int .i64 x]] w fun e w' => ∃ g o c, e = .returned (.slice (some ⟨g, o, none⟩) z c) ∧ z ≤ c ∧ c ≤ 9223372036854775807 ∧ IsB w' (some ⟨g, o, none⟩) ((V.bs.drop x.toNat).take z) ∧ Below w.heap.size w w' := by
  have hlies := hV.lies (Nat.le_refl _) i hi (by rw [hR]; exact hl)
  have hlive := hV.live (Nat.le_refl _) i hi (by rw [hR]; exact hl)
  rw [hR] at hlies hlive
  simp only at hlies hlive
  rw [hz] at hlies
  obtain ⟨x0, x1, _, z1, z2, _, _⟩ := hlies
  obtain ⟨_, _, k0, k1, _⟩ := hlive
  obtain ⟨kj, rfl⟩ : ∃ kj : Nat, kd = (kj : Int) := ⟨kd.toNat, by omega⟩
  obtain ⟨xn, rfl⟩ : ∃ xn : Nat, x = (xn : Int) := ⟨x.toNat, by omega⟩
  obtain ⟨E, hE⟩ : ∃ E, w.alloc (.cells #[.int .i64 gen, .bool lv, .int .i64 (kj : Int), .int .i64 (xn : Int)] 73) = E := ⟨_, rfl⟩
  have bE : Below w.heap.size w E := by rw [← hE]; exact (Below.refl _ w).alloc (Nat.le_refl _) _
  have rE : E.heap[w.heap.size]? = some (.cells #[.int .i64 gen, .bool lv, .int .i64 (kj : Int), .int .i64 (xn : Int)] 73 (0, 0)) := by rw [← hE]; exact Go.heap_alloc_new w _
  have LE := h.keep bE
  have d2 : E.cell? ⟨w.heap.size, 2, none⟩ = some (.int .i64 (kj : Int)) := cell_of_row _ _ 2 _ _ _ rE
  have d3 : E.cell? ⟨w.heap.size, 3, none⟩ = some (.int .i64 (xn : Int)) := cell_of_row _ _ 3 _ _ _ rE
  have HBE : Hid (Below w.heap.size w E) := bE
  have c2 : E.cell? ⟨lb, 2, none⟩ = some (.slice A.ka A.kn A.kc) := cell_of_row _ _ 2 _ _ _ LE.box
  have c5 : E.cell? ⟨lb, 5, none⟩ = some (.slice A.ba A.bn A.bc) := cell_of_row _ _ 5 _ _ _ LE.box
  have kl := h.vw.kl
  have bl := h.vw.bl
  have bk := h.vw.bk
  have bz := h.vw.bz
  have kz := h.vw.kz
  have hkj : kj < V.ks.length := by omega
  obtain ⟨gk, ok, la, lc, ea, e0, _⟩ := LE.vw.ks kj hkj
  rw [ea] at c2
  rw [Int.toNat_natCast, knD_at hkj] at hz
  rw [hz] at e0
  obtain ⟨gb, ob, hba⟩ : ∃ gb ob, A.ba = some ⟨gb, ob, none⟩ := by
    obtain ⟨_, hh | ⟨gb, ob, e, _⟩⟩ := h.vw.bs
    · rw [hh] at x1; simp at x1; omega
    · exact ⟨gb, ob, e⟩
  have hbs := LE.vw.bs
  rw [hba] at c5 hbs
  have FIN : Hid (IsB E (some ⟨gb, ob + xn, none⟩) ((V.bs.drop xn).take z)) := hbs.cut xn z (by omega)
  obtain ⟨kn, hkn⟩ : ∃ kn, A.kn = kn := ⟨_, rfl⟩
  obtain ⟨bn, hbn⟩ : ∃ bn, A.bn = bn := ⟨_, rfl⟩
  obtain ⟨bc, hbc⟩ : ∃ bc, A.bc = bc := ⟨_, rfl⟩
  rw [hkn] at c2 kl
  rw [hbn] at c5 bl bk
  rw [hbc] at c5 bk
  have kk0 : (kj : Int) < (kn : Int) := by omega
  obtain ⟨en, hen⟩ : ∃ en : Nat, xn + z = en := ⟨_, rfl⟩
  have wz : IntKind.i64.wrap ((xn : Int) + (z : Int)) = (en : Int) := by rw [IntKind.wrap_i64]; omega
  have i1 : (en : Int) ≤ (bc : Int) := by omega
  have i2 : (xn : Int) ≤ (en : Int) := by omega
  have i3 : ¬ (bc = xn) := by omega
  have i6 : IntKind.i64.wrap (xn : Int) = (xn : Int) := by rw [IntKind.wrap_i64]; omega
  have i7 : IntKind.i64.wrap (en : Int) = (en : Int) := by rw [IntKind.wrap_i64]; omega
  have i5 : en - xn = z := by omega
  have BC : Hid (z ≤ bc - xn ∧ bc - xn ≤ 9223372036854775807) := by show _ ∧ _; omega
  have SLR : ∀ w : World, (Instr.slice 25 (.slice (some ⟨gb, ob, none⟩) bn bc) (some (.int .i64 (xn : Int))) (some (.int .i64 (en : Int))) none).run Tryz.prog w = .ok (.slice (some ⟨gb, ob + xn, none⟩) z (bc - xn)) w := fun w => by
    rw [sliceB_run w gb ob bn bc xn en (by omega) (by omega) (by omega), i5]
  obtain ⟨nb, hnb⟩ : ∃ nb, w.heap.size = nb := ⟨_, rfl⟩
  rw [hnb] at d2 d3
  clear h LE hV hR hl x0 x1 z1 z2 k0 k1 rE bE hbs hz kl bl bk bz kz hen
  go_enter Tryz.func131, Tryz.ntmps131
  go_wp2_with fail
  go_quiet (fail)
  go_wp2
  go_ret
  refine ⟨gb, ob + xn, bc - xn, rfl, BC.out.1, BC.out.2, IsB.drewN (by rw [Int.toNat_natCast]; exact FIN.out) _, by first | exact below_drewN HBE.out _ | exact hnb ▸ below_drewN HBE.out _⟩
end Go.Proofs.YtbfamjnnlcopiaaGreatDoor

/- The document's owner and word. -/
namespace Go.Proofs.YtbfamjnnlcopiaaGreatDoor
open Go.RowKit
set_option linter.unusedVariables false
set_option maxRecDepth 4000

/-- A view in a box. -/
theorem vbox (w : World) (V : Vw) (A : Va) : ∃ E, w.alloc (.cells #[.int .i64 V.base, .int .i64 V.pgs, .slice A.ka A.kn A.kc, .slice A.ra A.rn A.rc, .slice A.sa A.sn A.sc, .slice A.ba A.bn A.bc] 27) = E ∧ Below w.heap.size w E ∧ E.heap[w.heap.size]? = some (.cells #[.int .i64 V.base, .int .i64 V.pgs, .slice A.ka A.kn A.kc, .slice A.ra A.rn A.rc, .slice A.sa A.sn A.sc, .slice A.ba A.bn A.bc] 27 (0, 0)) :=
  ⟨_, rfl, (Below.refl _ w).alloc (Nat.le_refl _) _, Go.heap_alloc_new w _⟩
def ownZ (rs : List HRw) (x : Int) : Int := match ownI rs x with
  | some i => (i : Int)
  | none => -1
set_option maxRecDepth 20000 in
set_option maxHeartbeats 4000000 in
theorem owner_any (V : Vw) (A : Va) (x : Int) (w : World) (h : Rv w V A) (r : Int) (hr : ownZ V.rs x = r) :
    Calls Tryz.prog 34 #[.agg #[.int .i64 V.base, .int .i64 V.pgs, .slice A.ka A.kn A.kc, .slice A.ra A.rn A.rc, .slice A.sa A.sn A.sc, .slice A.ba A.bn A.bc], .int .i64 x] w fun e w' => e = .returned (.int .i64 r) ∧ Below w.heap.size w w' := by
  obtain ⟨base, pgs, ks, rs, ts, bs⟩ := V
  obtain ⟨ka, ra, sa, ba, kn, rn, sn, bn, kc, rc, sc, bc⟩ := A
  obtain ⟨E, hE, bE, rE⟩ := vbox w ⟨base, pgs, ks, rs, ts, bs⟩ ⟨ka, ra, sa, ba, kn, rn, sn, bn, kc, rc, sc, bc⟩
  simp only at hE rE
  obtain ⟨nb, hnb⟩ : ∃ nb, w.heap.size = nb := ⟨_, rfl⟩
  rw [hnb] at rE
  have d3 : E.cell? ⟨nb, 3, none⟩ = some (.slice ra rn rc) := cell_of_row _ _ 3 _ _ _ rE
  have HBE : Hid (Below w.heap.size w E) := bE
  have HIW : Hid (IsW E ra rs) := h.rs.keep bE
  have rl : rs.length = rn := h.rl
  have rz : rs.length ≤ 300 := h.rz
  have HRL : Hid (rs.length = rn) := rl
  have HR : Hid (ownZ rs x = r) := hr
  have r300 : rn ≤ 300 := by omega
  clear h hr rl rz rE bE
  go_enter Tryz.func34, Tryz.ntmps34
  go_wp2_with fail
  go_loopw [10] (fun iv wz => ∃ k : Nat, k ≤ rn ∧ iv = .int .i64 (k : Nat) ∧ (∀ j, j < k → ¬ ((rwD rs j).live = true ∧ (rwD rs j).pl = x)) ∧ Below E.heap.size E wz) (fun iv _ => rn - lenW iv)
  case atStart => exact ⟨0, Nat.zero_le _, rfl, fun j hj => by omega, by first | exact Below.refl _ _ | (rw [← hE]; exact Below.refl _ _)⟩
  case round =>
    obtain ⟨k, hk, rfl, hno, hb⟩ := hrel
    rename World => wz
    have HNO : Hid (∀ j, j < k → ¬ ((rwD rs j).live = true ∧ (rwD rs j).pl = x)) := hno
    have BZ : Hid (Below E.heap.size E wz) := hb
    have FB : Hid (∀ w', Below wz.heap.size wz w' → Below E.heap.size E w' ∧ Below w.heap.size w w') := fun w' b' => by
      have b2 := BZ.out.trans (b'.mono BZ.out.size)
      exact ⟨b2, HBE.out.trans (b2.mono HBE.out.size)⟩
    clear hno hb
    by_cases hkn : k < rn
    · have hkl : k < rs.length := by rw [HRL.out]; exact hkn
      obtain ⟨b, off, rfl, q0, q1, q2, q3⟩ := (HIW.out.keep BZ.out).at k hkl
      have k0 : (k : Int) < (rn : Int) := by omega
      obtain ⟨R, hR⟩ : ∃ R, rwD rs k = R := ⟨_, rfl⟩
      have HRR : Hid (rwD rs k = R) := hR
      rw [hR] at q0 q1 q2 q3
      obtain ⟨gen, lv, kd, pl⟩ := R
      simp only at q0 q1 q2 q3
      obtain ⟨G, hG⟩ : ∃ G, wz.alloc (.cells #[.int .i64 gen, .bool lv, .int .i64 kd, .int .i64 pl] 73) = G := ⟨_, rfl⟩
      have bG : Below wz.heap.size wz G := by rw [← hG]; exact (Below.refl _ wz).alloc (Nat.le_refl _) _
      have rG : G.heap[wz.heap.size]? = some (.cells #[.int .i64 gen, .bool lv, .int .i64 kd, .int .i64 pl] 73 (0, 0)) := by rw [← hG]; exact Go.heap_alloc_new wz _
      have BG : Hid (Below E.heap.size E G ∧ Below w.heap.size w G) := FB.out G bG
      obtain ⟨ng, hng⟩ : ∃ ng, wz.heap.size = ng := ⟨_, rfl⟩
      rw [hng] at rG
      have e1 : G.cell? ⟨ng, 1, none⟩ = some (.bool lv) := cell_of_row _ _ 1 _ _ _ rG
      have e3 : G.cell? ⟨ng, 3, none⟩ = some (.int .i64 pl) := cell_of_row _ _ 3 _ _ _ rG
      have STEP : Hid (¬ (lv = true ∧ pl = x) → ∀ j, j < k + 1 → ¬ ((rwD rs j).live = true ∧ (rwD rs j).pl = x)) := fun hh j hj => by
        rcases Nat.lt_or_eq_of_le (Nat.le_of_lt_succ hj) with e | rfl
        · exact HNO.out j e
        · rw [HRR.out]; exact hh
      clear bG rG hR
      cases lv with
      | false =>
        have NX := STEP.out (by simp)
        go_wp2
        go_roundw
        case rel => exact ⟨k + 1, by omega, by congr 1, NX, BG.out.1⟩
        case measure => simp [lenW]; omega
      | true =>
        by_cases hp : pl = x
        · have b0 : (pl == x) = true := by rw [beq_iff_eq]; exact hp
          have F : Hid ((k : Int) = r) := by
            show (k : Int) = r
            rw [← HR.out]
            unfold ownZ
            rw [own_is hkl (by rw [HRR.out]) (by rw [HRR.out]; exact hp) HNO.out]
          clear hp hkl
          go_wp2
          go_ret
          exact ⟨ret_int F.out, by first | exact BG.out.2 | exact hnb ▸ BG.out.2⟩
        · have b0 : (pl == x) = false := by rw [beq_eq_false_iff_ne]; exact hp
          have NX := STEP.out (fun q => hp q.2)
          clear hp hkl
          go_wp2
          go_roundw
          case rel => exact ⟨k + 1, by omega, by congr 1, NX, BG.out.1⟩
          case measure => simp [lenW]; omega
    · obtain rfl : k = rn := by omega
      have F : Hid ((-1 : Int) = r) := by
        show (-1 : Int) = r
        rw [← HR.out]
        unfold ownZ
        cases e : ownI rs x with
        | none => rfl
        | some i =>
          obtain ⟨h1, h2, h3, _⟩ := own_some e
          exact absurd ⟨h2, h3⟩ (HNO.out i (by rw [HRL.out] at h1; exact h1))
      have B2 := (FB.out wz (Below.refl _ _)).2
      go_wp2
      go_ret
      exact ⟨ret_int F.out, by first | exact B2 | exact hnb ▸ B2⟩
set_option maxRecDepth 20000 in
set_option maxHeartbeats 4000000 in
theorem word_any (V : Vw) (A : Va) (x : Nat) (w : World) (h : Rv w V A) (hx : x + 8 ≤ V.bs.length) (v : Int) (hv : wordV V.bs (x : Int) = v) :
    Calls Tryz.prog 42 #[.agg #[.int .i64 V.base, .int .i64 V.pgs, .slice A.ka A.kn A.kc, .slice A.ra A.rn A.rc, .slice A.sa A.sn A.sc, .slice A.ba A.bn A.bc], .int .i64 (x : Nat)] w fun e w' => e = .returned (.int .u64 v) ∧ Below w.heap.size w w' := by
  obtain ⟨base, pgs, ks, rs, ts, bs⟩ := V
  obtain ⟨ka, ra, sa, ba, kn, rn, sn, bn, kc, rc, sc, bc⟩ := A
  obtain ⟨E, hE, bE, rE⟩ := vbox w ⟨base, pgs, ks, rs, ts, bs⟩ ⟨ka, ra, sa, ba, kn, rn, sn, bn, kc, rc, sc, bc⟩
  simp only at hE rE hx hv
  obtain ⟨nb, hnb⟩ : ∃ nb, w.heap.size = nb := ⟨_, rfl⟩
  rw [hnb] at rE
  have d5 : E.cell? ⟨nb, 5, none⟩ = some (.slice ba bn bc) := cell_of_row _ _ 5 _ _ _ rE
  have HBE : Hid (Below w.heap.size w E) := bE
  have hib : IsB E ba bs := h.bs.keep bE
  have bl : bs.length = bn := h.bl
  have bk : bn ≤ bc ∧ bc ≤ 9223372036854775807 := h.bk
  have bz : bs.length ≤ 16384 := h.bz
  obtain ⟨gb, ob, rfl⟩ : ∃ gb ob, ba = some ⟨gb, ob, none⟩ := by
    obtain ⟨_, hh | ⟨gb, ob, e, _⟩⟩ := hib
    · rw [hh] at hx; simp at hx
    · exact ⟨gb, ob, e⟩
  obtain ⟨en, hen⟩ : ∃ en : Nat, x + 8 = en := ⟨_, rfl⟩
  have wz : IntKind.i64.wrap ((x : Int) + 8) = (en : Int) := by rw [IntKind.wrap_i64]; omega
  have i1 : (en : Int) ≤ (bc : Int) := by omega
  have i2 : (x : Int) ≤ (en : Int) := by omega
  have i3 : ¬ (bc = x) := by omega
  have i5 : en - x = 8 := by omega
  have i6 : IntKind.i64.wrap (x : Int) = (x : Int) := by rw [IntKind.wrap_i64]; omega
  have SLR : ∀ w : World, (Instr.slice 25 (.slice (some ⟨gb, ob, none⟩) bn bc) (some (.int .i64 (x : Int))) (some (.int .i64 (en : Int))) none).run Tryz.prog w = .ok (.slice (some ⟨gb, ob + x, none⟩) 8 (bc - x)) w := fun w => by
    rw [sliceB_run w gb ob bn bc x en (by omega) (by omega) (by omega), i5]
  have IBP : Hid (IsB E (some ⟨gb, ob + x, none⟩) ((bs.drop x).take 8)) := hib.cut x 8 hx
  have LB8 : Hid (((bs.drop x).take 8).length = 8) := by show _ = _; rw [List.length_take, List.length_drop]; omega
  have GV : Hid (getL (((bs.drop x).take 8).take 8) = v) := by
    show _ = _
    rw [List.take_take, Nat.min_self, ← hv]
    unfold wordV
    rw [Int.toNat_natCast]
  clear h hv rE bE hib bl bk bz hx hen
  go_enter Tryz.func42, Tryz.ntmps42
  go_wp2_with fail
  have RG := rget_any (some ⟨gb, ob + x, none⟩) (bc - x) ((bs.drop x).take 8) E IBP.out (by rw [LB8.out]; unfold maxLen; omega)
  rw [LB8.out, GV.out] at RG
  refine RG.mono ?_
  rintro e w' ⟨rfl, rfl⟩
  go_wp2
  go_ret
  exact ⟨rfl, by first | exact HBE.out | exact hnb ▸ HBE.out⟩
end Go.Proofs.YtbfamjnnlcopiaaGreatDoor

/- The document's Same, of objects that read alike. -/
namespace Go.Proofs.YtbfamjnnlcopiaaGreatDoor
open Go.RowKit
set_option linter.unusedVariables false
set_option maxRecDepth 4000

/-- What can be seen of an object. -/
structure Ob where
  h : Nat
  k : Int
  b : List Int
  t : List Nat
/-- A slice of objects that can be read. -/
def RdO (w : World) (a : Option Addr) (os : List Ob) : Prop :=
  ∀ i (hi : i < os.length), ∃ g off ba bk ha hk, a = some ⟨g, off, none⟩ ∧ w.cell? ⟨g, off + i * 4, none⟩ = some (.int .u64 (os[i].h : Nat)) ∧ w.cell? ⟨g, off + i * 4 + 1, none⟩ = some (.int .i64 os[i].k) ∧ w.cell? ⟨g, off + i * 4 + 2, none⟩ = some (.slice ba os[i].b.length bk) ∧ w.cell? ⟨g, off + i * 4 + 3, none⟩ = some (.slice ha os[i].t.length hk) ∧ IsB w ba os[i].b ∧ IsH w ha os[i].t ∧ os[i].t.length ≤ 9223372036854775807
theorem RdO.keep {w w' : World} {a : Option Addr} {os : List Ob} (h : RdO w a os) (hb : Below w.heap.size w w') : RdO w' a os := fun i hi => by
  obtain ⟨g, off, ba, bk, ha, hk, e, c0, c1, c2, c3, hB, hH, hl⟩ := h i hi
  exact ⟨g, off, ba, bk, ha, hk, e, bcell hb c0, bcell hb c1, bcell hb c2, bcell hb c3, hB.keep hb, hH.keep hb, hl⟩
end Go.Proofs.YtbfamjnnlcopiaaGreatDoor

/- What can be seen of a view's objects, as numbers. -/
namespace Go.Proofs.YtbfamjnnlcopiaaGreatDoor
open Go.RowKit
set_option linter.unusedVariables false
set_option maxRecDepth 4000

/-- Bytes with noughts in the place of these fields. -/
def blankB (b : List Int) (l : List Int) : List Int := l.foldl (fun b p => overR b p.toNat (List.replicate 8 0)) b
theorem over_len {l : List Int} {o : Nat} {b : List Int} (h : o + b.length ≤ l.length) : (overR l o b).length = l.length := by
  unfold overR; simp; omega
theorem over_all {l : List Int} {o : Nat} {b : List Int} (h : AllB l) (k : AllB b) : AllB (overR l o b) := ((h.take o).append k).append (h.drop _)
theorem over_drop {l : List Int} {o p : Nat} {b : List Int} (h : o + b.length ≤ l.length) (hp : o + b.length ≤ p) : (overR l o b).drop p = l.drop p := by
  unfold overR
  have e : (l.take o ++ b).length = o + b.length := by simp; omega
  rw [List.drop_append, e, List.drop_of_length_le (by omega), List.nil_append, List.drop_drop]
  congr 1; omega
theorem blank_snoc (b l : List Int) (p : Int) : blankB b (l ++ [p]) = overR (blankB b l) p.toNat (List.replicate 8 0) := by
  unfold blankB; rw [List.foldl_append]; rfl
theorem blank_drop : ∀ (l b : List Int) (p : Nat), (∀ q ∈ l, 0 ≤ q ∧ q + 8 ≤ b.length) → (∀ q ∈ l, q + 8 ≤ p) → (blankB b l).drop p = b.drop p
  | [], b, p, _, _ => rfl
  | q :: l, b, p, h, k => by
    have hq := h q List.mem_cons_self
    have kq := k q List.mem_cons_self
    have e : (overR b q.toNat (List.replicate 8 0)).length = b.length := over_len (by simp; omega)
    show (blankB (overR b q.toNat (List.replicate 8 0)) l).drop p = _
    rw [blank_drop l _ p (fun x hx => by rw [e]; exact h x (List.mem_cons_of_mem _ hx)) (fun x hx => k x (List.mem_cons_of_mem _ hx)), over_drop (by simp; omega) (by simp; omega)]
/-- What can be seen of a row's object. -/
def zOf (V : Vw) (i : Nat) : Nat := (knD V.ks (rwD V.rs i).kind.toNat).s.toNat
def psOf (V : Vw) (i : Nat) : List Int := (knD V.ks (rwD V.rs i).kind.toNat).l
def b0Of (V : Vw) (i : Nat) : List Int := (V.bs.drop (rwD V.rs i).pl.toNat).take (zOf V i)
/-- What is known of a live row's object. -/
structure ObjF (V : Vw) (i : Nat) : Prop where
  pl : 0 ≤ (rwD V.rs i).pl
  z0 : 1 ≤ zOf V i
  z1 : zOf V i ≤ 4096
  zs : (knD V.ks (rwD V.rs i).kind.toNat).s = (zOf V i : Int)
  fit : (rwD V.rs i).pl.toNat + zOf V i ≤ V.bs.length
  len : (b0Of V i).length = zOf V i
  ps : ∀ p ∈ psOf V i, 0 ≤ p ∧ p + 8 ≤ (zOf V i : Int)
  pw : (psOf V i).Pairwise (fun p q => p + 8 ≤ q)
  pn : (psOf V i).length ≤ 16
  kd : 0 ≤ (rwD V.rs i).kind ∧ (rwD V.rs i).kind < V.ks.length
theorem Hold.obj {V : Vw} {q : Nat} (h : Hold V q) (hq : 4 ≤ q) (i : Nat) (hi : i < V.rs.length) (hl : (rwD V.rs i).live = true) : ObjF V i := by
  obtain ⟨l1, l2, l3, l4, l5, l6, l7⟩ := h.lies hq i hi hl
  obtain ⟨m1, m2, m3, m4, _⟩ := h.live hq i hi hl
  have hz : (knD V.ks (rwD V.rs i).kind.toNat).s = (zOf V i : Int) := by unfold zOf; omega
  rw [hz] at l2 l4 l5 l6
  obtain ⟨p1, p2⟩ := placed_all _ _ l6
  have fit : (rwD V.rs i).pl.toNat + zOf V i ≤ V.bs.length := by omega
  refine ⟨l1, by omega, by omega, hz, fit, ?_, p1, p2, l7, m3, m4⟩
  unfold b0Of
  rw [List.length_take, List.length_drop]
  omega
/-- A field's number, whatever fields ahead of it are blank. -/
theorem ObjF.read {V : Vw} {i : Nat} (h : ObjF V i) (k : Nat) (hk : k < (psOf V i).length) : (((blankB (b0Of V i) ((psOf V i).take k)).drop ((psOf V i).getD k 0).toNat).take 8) = (V.bs.drop ((rwD V.rs i).pl + (psOf V i).getD k 0).toNat).take 8 := by
  have e : (psOf V i).getD k 0 = (psOf V i)[k] := by simp [List.getD, hk]
  rw [e]
  have hp := h.ps _ (List.getElem_mem hk)
  have pl := h.pl
  have hs : ∀ q ∈ (psOf V i).take k, q ∈ psOf V i := fun q hq => List.mem_of_mem_take hq
  rw [blank_drop _ _ _ (fun q hq => by rw [h.len]; exact h.ps q (hs q hq)) (fun q hq => ?_)]
  · unfold b0Of
    rw [word_cut (by omega)]
    congr 2
    omega
  · obtain ⟨j, hj, rfl⟩ := List.getElem_of_mem hq
    have hj' : j < k := by rw [List.length_take] at hj; omega
    rw [List.getElem_take]
    have := List.pairwise_iff_getElem.1 h.pw j k (by omega) hk hj'
    omega
theorem ObjF.more {V : Vw} {i : Nat} (k : Nat) (hk : k < (psOf V i).length) : overR (blankB (b0Of V i) ((psOf V i).take k)) ((psOf V i).getD k 0).toNat (List.replicate 8 0) = blankB (b0Of V i) ((psOf V i).take (k + 1)) := by
  have e : (psOf V i).getD k 0 = (psOf V i)[k] := by simp [List.getD, hk]
  rw [e, List.take_succ_eq_append_getElem hk, blank_snoc]
end Go.Proofs.YtbfamjnnlcopiaaGreatDoor

/- The document's Lay: eight bytes of a number, at a place. -/
namespace Go.Proofs.YtbfamjnnlcopiaaGreatDoor
open Go.RowKit
set_option linter.unusedVariables false
set_option maxRecDepth 4000

/-- So many bytes have been laid. -/
def midR (l : List Int) (o : Nat) (bs : List Int) (i : Nat) : List Int := l.take o ++ bs.take i ++ l.drop (o + i)
theorem midR_len {l : List Int} {o : Nat} {bs : List Int} {i : Nat} (hi : i ≤ bs.length) (h : o + bs.length ≤ l.length) : (midR l o bs i).length = l.length := by
  unfold midR; simp; omega
theorem midR_zero (l : List Int) (o : Nat) (bs : List Int) : midR l o bs 0 = l := by simp [midR]
theorem midR_full (l : List Int) (o : Nat) (bs : List Int) : midR l o bs bs.length = overR l o bs := by simp [midR, overR]
theorem midR_set {l : List Int} {o : Nat} {bs : List Int} {i : Nat} (hi : i < bs.length) (h : o + bs.length ≤ l.length) : (midR l o bs i).set (o + i) (bs.getD i 0) = midR l o bs (i + 1) := by
  have e : l.drop (o + i) = l[o + i]'(by omega) :: l.drop (o + i + 1) := List.drop_eq_getElem_cons (by omega)
  have hl : (l.take o ++ bs.take i).length = o + i := by simp; omega
  unfold midR
  rw [e, List.set_append_right _ _ (by omega), hl, Nat.sub_self, List.set_cons_zero, List.take_succ_eq_append_getElem hi, ← Nat.add_assoc, List.getD_eq_getElem?_getD, List.getElem?_eq_getElem hi, Option.getD_some, List.append_assoc, List.append_assoc, List.append_assoc]
  rfl
theorem putL_len (k : Nat) : ∀ n, (putL k n).length = k := by
  induction k with
  | zero => intro n; rfl
  | succ k ih => intro n; simp [putL, ih]
end Go.Proofs.YtbfamjnnlcopiaaGreatDoor

/- Plain mathematics of AuditLost: slots lie apart, a row that is taken out, a field that leads between objects. -/
namespace Go.Proofs.YtbfamjnnlcopiaaGreatDoor
open Go.RowKit
set_option linter.unusedVariables false
set_option maxRecDepth 4000

theorem getL_putL (k : Nat) : ∀ n : Int, 0 ≤ n → getL (putL k n) = n % 256 ^ k := by
  induction k with
  | zero => intro n h; simp [putL, getL]
  | succ k ih =>
    intro n h
    simp only [putL, getL]
    rw [ih (n / 256) (by omega), Int.pow_succ, Int.mul_comm _ (256 : Int)]
    have hp : (0 : Int) < 256 ^ k := Int.pow_pos (by decide)
    rw [Int.emod_def (n / 256), Int.emod_def n (256 * 256 ^ k), ← Int.ediv_ediv_of_nonneg (by omega)]
    generalize n / 256 / 256 ^ k = q
    rw [Int.mul_sub, Int.mul_assoc 256]
    omega

theorem getL_putL8 (n : Int) (h : 0 ≤ n) (h1 : n ≤ 18446744073709551615) : getL (putL 8 n) = n := by
  rw [getL_putL 8 n h, show (256 : Int) ^ 8 = 18446744073709551616 from by decide]
  omega
/-- A slot that is told. -/
structure SlotAt (V : Vw) (x : Int) (j : Nat) (k : Int) : Prop where
  jl : j < V.ts.length
  kl : k ∈ (tdD V.ts j).l
  at' : atS (tdD V.ts j) k = x
def szT (V : Vw) (j : Nat) : Int := szI (tdD V.ts j).c (tdD V.ts j).s
theorem slot_some {V : Vw} {x z : Int} (hs : slotB V.ts x z = true) : ∃ j k, SlotAt V x j k ∧ fitS (tdD V.ts j) z = true := by
  unfold slotB at hs
  obtain ⟨t, ht, hh⟩ := List.any_eq_true.1 hs
  obtain ⟨j, hj, rfl⟩ := List.getElem_of_mem ht
  rw [← tdD_at hj] at hh
  rw [Bool.and_eq_true, List.any_eq_true] at hh
  obtain ⟨h1, k, hk, h2⟩ := hh
  exact ⟨j, k, ⟨hj, hk, of_decide_eq_true h2⟩, h1⟩
theorem SlotAt.facts {V : Vw} {q : Nat} (h : Hold V q) (hq : 3 ≤ q) {x : Int} {j : Nat} {k : Int} (a : SlotAt V x j k) : 0 ≤ k ∧ 256 * (tdD V.ts j).p ≤ x ∧ x + szT V j ≤ 256 * ((tdD V.ts j).p + (pgsN (tdD V.ts j).c (tdD V.ts j).s : Int)) ∧ 16 ≤ szT V j ∧ x = 256 * (tdD V.ts j).p + k * szT V j := by
  obtain ⟨hr, hpe⟩ := h.right hq j a.jl
  obtain ⟨k0, k1, k2, _, p0⟩ := right_at hr a.kl
  have rt := newE_rt hr.1
  obtain ⟨f1, f2, f3, f4, f5, f6, f7, f8, f9, f10, f11⟩ := rt.facts
  have hx := a.at'
  unfold atS at hx
  unfold szT
  have n0 : 0 ≤ k * szI (tdD V.ts j).c (tdD V.ts j).s := Int.mul_nonneg (by omega) (by omega)
  have m : (k + 1) * szI (tdD V.ts j).c (tdD V.ts j).s ≤ (slN (tdD V.ts j).c : Int) * szI (tdD V.ts j).c (tdD V.ts j).s := Int.mul_le_mul_of_nonneg_right (by omega) (by omega)
  rw [Int.add_mul, Int.one_mul] at m
  exact ⟨k0, by omega, by omega, by omega, hx.symm⟩
theorem SlotAt.fits {V : Vw} {q : Nat} (h : Hold V q) (hq : 3 ≤ q) {x z : Int} {j : Nat} {k : Int} (a : SlotAt V x j k) (hf : fitS (tdD V.ts j) z = true) : z ≤ szT V j := by
  obtain ⟨hr, hpe⟩ := h.right hq j a.jl
  have rt := newE_rt hr.1
  have hf := of_decide_eq_true hf
  unfold szT szI
  by_cases c7 : (tdD V.ts j).c = 7
  · rw [if_pos c7, hf.2 c7]; exact Int.le_refl _
  · rw [if_neg c7, hf.1]
    exact ofI_fits (by rw [← hf.1]; exact rt.c0) (by rw [← hf.1]; have := rt.c7; omega)
/-- Slots lie apart. -/
theorem SlotAt.apart {V : Vw} {q : Nat} (h : Hold V q) (hq : 3 ≤ q) {x y : Int} {j j' : Nat} {k k' : Int} (a : SlotAt V x j k) (b : SlotAt V y j' k') (hne : x ≠ y) : x + szT V j ≤ y ∨ y + szT V j' ≤ x := by
  obtain ⟨a1, a2, a3, a4, a5⟩ := a.facts h hq
  obtain ⟨b1, b2, b3, b4, b5⟩ := b.facts h hq
  rcases Nat.lt_trichotomy j j' with e | rfl | e
  · have := std_rise (h.std hq) j' b.jl j e
    left; omega
  · rcases Int.lt_trichotomy k k' with e | rfl | e
    · left
      have m : (k + 1) * szT V j ≤ k' * szT V j := Int.mul_le_mul_of_nonneg_right (by omega) (by omega)
      rw [Int.add_mul, Int.one_mul] at m
      omega
    · exact absurd (a5.trans b5.symm) hne
    · right
      have m : (k' + 1) * szT V j ≤ k * szT V j := Int.mul_le_mul_of_nonneg_right (by omega) (by omega)
      rw [Int.add_mul, Int.one_mul] at m
      omega
  · have := std_rise (h.std hq) j a.jl j' e
    right; omega
theorem Hold.slot {V : Vw} {q : Nat} (h : Hold V q) (hq : 4 ≤ q) (i : Nat) (hi : i < V.rs.length) (hl : (rwD V.rs i).live = true) : ∃ j k, SlotAt V (rwD V.rs i).pl j k ∧ (zOf V i : Int) ≤ szT V j := by
  obtain ⟨_, _, _, _, hs⟩ := h.live hq i hi hl
  obtain ⟨j, k, a, f⟩ := slot_some hs
  have := a.fits h (by omega) f
  rw [(h.obj hq i hi hl).zs] at this
  exact ⟨j, k, a, this⟩
/-- Of live rows no two tell one place. -/
theorem Hold.alone {V : Vw} {q : Nat} (h : Hold V q) (hq : 5 ≤ q) {a b : Nat} (ha : a < V.rs.length) (hb : b < V.rs.length) (la : (rwD V.rs a).live = true) (lb : (rwD V.rs b).live = true) (e : (rwD V.rs a).pl = (rwD V.rs b).pl) : a = b := by
  have h5 : ∀ i, i < V.rs.length → (rwD V.rs i).live = true → ownI V.rs (rwD V.rs i).pl = some i := fun i hi hl => by
    have q : rule5 V i = true := h 4 (by omega) i hi
    unfold rule5 at q
    rw [hl] at q
    simpa using q
  have q1 := h5 a ha la
  have q2 := h5 b hb lb
  rw [e] at q1
  rw [q1] at q2
  exact Option.some.inj q2
theorem over_get {l b : List Int} {o k : Nat} (h : o + b.length ≤ l.length) (hk : k < o ∨ o + b.length ≤ k) : (overR l o b)[k]? = l[k]? := by
  unfold overR
  have e1 : (l.take o).length = o := by rw [List.length_take]; omega
  rcases hk with hk | hk
  · rw [List.append_assoc, List.getElem?_append_left (by omega), List.getElem?_take_of_lt hk]
  · have e2 : (l.take o ++ b).length = o + b.length := by rw [List.length_append, e1]
    rw [List.getElem?_append_right (by omega), e2, List.getElem?_drop]
    congr 1; omega
theorem wordV_else {bs b : List Int} {o : Nat} {x : Int} (h : o + b.length ≤ bs.length) (hx : 0 ≤ x) (hk : x + 8 ≤ o ∨ (o : Int) + b.length ≤ x) : wordV (overR bs o b) x = wordV bs x := by
  unfold wordV
  congr 1
  apply List.ext_getElem?
  intro m
  rw [List.getElem?_take, List.getElem?_take]
  split
  · rw [List.getElem?_drop, List.getElem?_drop, over_get h (by omega)]
  · rfl
theorem word_self {bs : List Int} {o : Nat} {W : Int} (h : o + 8 ≤ bs.length) (h0 : 0 ≤ W) (h1 : W ≤ 18446744073709551615) : wordV (overR bs o (putL 8 W)) (o : Int) = W := by
  unfold wordV overR
  have e1 : (bs.take o).length = o := by rw [List.length_take]; omega
  rw [Int.toNat_natCast, List.append_assoc, List.drop_append_of_le_length (by omega), List.drop_of_length_le (by omega), List.nil_append, List.take_append_of_le_length (by rw [putL_len]; exact Nat.le_refl _), List.take_of_length_le (by rw [putL_len]; exact Nat.le_refl _)]
  exact getL_putL8 W h0 h1
theorem ChkR.at {V : Vw} {r x : Int} (h : ChkR V r x) {j : Nat} (hj : j < 7) (hh : Hold V j) {i : Nat} (hi : i < ruN V j) (hf : ruF V j i = false) : r = (j : Int) + 1 ∧ ∃ m : Nat, x = (m : Int) ∧ m < ruN V j ∧ ruF V j m = false ∧ ∀ k, k < m → ruF V j k = true := by
  rcases h with ⟨_, _, h⟩ | ⟨j', i', h1, h2, rfl, rfl, h3, h4, h5⟩
  · rw [h j hj i hi] at hf; cases hf
  · rcases Nat.lt_trichotomy j' j with e | rfl | e
    · rw [hh j' e i' h2] at h3; cases h3
    · exact ⟨rfl, i', rfl, h2, h3, h4⟩
    · rw [h5 j e i hi] at hf; cases hf
end Go.Proofs.YtbfamjnnlcopiaaGreatDoor
