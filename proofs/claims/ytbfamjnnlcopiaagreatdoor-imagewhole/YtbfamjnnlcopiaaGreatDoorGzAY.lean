/- Check: the rule that a view breaks first. -/
import Derived.Test.YtbfamjnnlcopiaaGreatDoorAwH
import Derived.Test.YtbfamjnnlcopiaaGreatDoorGzAR
import Derived.Test.YtbfamjnnlcopiaaGreatDoorGzAW
import Derived.Test.YtbfamjnnlcopiaaGreatDoorGzAP
namespace Go.Proofs.YtbfamjnnlcopiaaGreatDoor
open Go.RowKit
set_option linter.unusedVariables false
set_option maxRecDepth 4000

set_option maxRecDepth 20000 in
set_option maxHeartbeats 4000000 in
theorem check_any14 (V : Vw) (A : Va) (w : World) (h : Rv w V A) (hT : Tabs w) :
    Calls Tryz.prog 28 #[.agg #[.int .i64 V.base, .int .i64 V.pgs, .slice A.ka A.kn A.kc, .slice A.ra A.rn A.rc, .slice A.sa A.sn A.sc, .slice A.ba A.bn A.bc]] w fun e w' => ∃ r x, e = .returned (.tuple #[.int .i64 r, .int .i64 x]) ∧ ChkR V r x ∧ Below w.heap.size w w' := by
  obtain ⟨E, hE⟩ : ∃ E, w.alloc (.cells #[.int .i64 V.base, .int .i64 V.pgs, .slice A.ka A.kn A.kc, .slice A.ra A.rn A.rc, .slice A.sa A.sn A.sc, .slice A.ba A.bn A.bc] 27) = E := ⟨_, rfl⟩
  have bE : Below w.heap.size w E := by rw [← hE]; exact (Below.refl _ w).alloc (Nat.le_refl _) _
  have HV : Hid (Rv E V A) := h.keep bE
  have HT : Hid (Tabs E) := hT.keep bE
  have BE : Hid (Below w.heap.size w E) := bE
  have rE : E.heap[w.heap.size]? = some (.cells #[.int .i64 V.base, .int .i64 V.pgs, .slice A.ka A.kn A.kc, .slice A.ra A.rn A.rc, .slice A.sa A.sn A.sc, .slice A.ba A.bn A.bc] 27 (0, 0)) := by rw [← hE]; exact Go.heap_alloc_new w _
  have d0 : E.cell? ⟨w.heap.size, 0, none⟩ = some (.int .i64 V.base) := cell_of_row _ _ 0 _ _ _ rE
  have d1 : E.cell? ⟨w.heap.size, 1, none⟩ = some (.int .i64 V.pgs) := cell_of_row _ _ 1 _ _ _ rE
  have d2 : E.cell? ⟨w.heap.size, 2, none⟩ = some (.slice A.ka A.kn A.kc) := cell_of_row _ _ 2 _ _ _ rE
  have d3 : E.cell? ⟨w.heap.size, 3, none⟩ = some (.slice A.ra A.rn A.rc) := cell_of_row _ _ 3 _ _ _ rE
  have d4 : E.cell? ⟨w.heap.size, 4, none⟩ = some (.slice A.sa A.sn A.sc) := cell_of_row _ _ 4 _ _ _ rE
  have d5 : E.cell? ⟨w.heap.size, 5, none⟩ = some (.slice A.ba A.bn A.bc) := cell_of_row _ _ 5 _ _ _ rE
  clear h hT bE rE
  go_enter Tryz.func28, Tryz.ntmps28
  go_wp2_with (first
    | (go_at_call 64; refine (look_any V A _ HV.out HT.out).mono ?_; rintro e w2 ⟨lb, ms, mi, nf, nr, f, rfl, lk, hlb, b2⟩; have LK : Hid (Lk w2 lb ms mi V A nf nr f) := lk; have B2 : Hid (Below w.heap.size w w2) := BE.out.trans (b2.mono BE.out.size); clear lk b2)
    | (go_at_call 65; refine (broken_any lb ms mi V A nf nr f _ LK.out).mono ?_; rintro e w3 ⟨r, x, rfl, hc, b3⟩; have HC : Hid (ChkR V r x) := hc; have B3 : Hid (Below w.heap.size w w3) := B2.out.trans (b3.mono B2.out.size); clear hc b3))
  go_ret2
  exact ⟨r, x, rfl, HC.out, B3.out⟩
end Go.Proofs.YtbfamjnnlcopiaaGreatDoor

/- Layer 17: kindsIn and cut of the code. -/
namespace Go.Proofs.YtbfamjnnlcopiaaGreatDoor
open Go.RowKit
set_option linter.unusedVariables false
set_option maxRecDepth 4000

theorem made_Z (n : Nat) : madeCells #[.int .i64 0] n = ((List.replicate n (0 : Int)).map (Value.int .i64)).toArray := by
  apply Array.ext'
  simp [madeCells]
  apply List.ext_getElem
  · simp
  · intro i h1 h2
    simp [Nat.mod_one]
/-- Noughts. -/
def zarr (n : Nat) : Array Value := ((List.replicate n (0 : Int)).map (Value.int .i64)).toArray
theorem make_Z (w : World) (n : Nat) (hn : n ≤ 1000000000) : (Instr.makeSlice 31 (.int .i64 (n : Nat)) (.int .i64 (n : Nat))).run Tryz.prog w = .ok (.slice (some ⟨w.heap.size, 0, none⟩) n n) (w.alloc (.cells (zarr n) 3)) := by
  obtain ⟨i0, hi, hz0, hz1, hz2⟩ := info_parts Tryz.info3
  have := run_make (P := Tryz.prog) w 31 3 i0 (.int .i64 0) Tryz.underlying31 hi hz0 .i64 .i64 n n (by omega) (by omega) (by rw [hz2]; omega) (by omega)
  rw [hz1] at this
  simp only [Int.toNat_natCast, Nat.mul_one] at this
  rw [this, zarr, ← made_Z]
  rfl
theorem ownsI_new (w : World) (l : List Int) (hm : l.length ≤ maxLen) : OwnsI (w.alloc (.cells (l.map (Value.int .i64)).toArray 3)) w.heap.size (some ⟨w.heap.size, 0, none⟩) l l.length :=
  ⟨by simp, .inr ⟨w.heap.size, l.length, (l.map (Value.int .i64)).toArray, rfl, Nat.le_refl _, Go.heap_alloc_new w _, Nat.le_refl _, hm, by simp, by simp; exact List.take_of_length_le (by simp)⟩⟩

set_option maxRecDepth 20000 in
set_option maxHeartbeats 4000000 in
/-- Which kind the object in each slot has. -/
theorem kindsIn_any (V : Vw) (A : Va) (j sb b g : Nat) (w : World) (h : Rv w V A) (hH : Hold V 7) (hj : j < V.ts.length) (hS : SpanAt w sb b g (tdD V.ts j).p (tdD V.ts j).c (tdD V.ts j).s (fOf (tdD V.ts j).l)) (hT : Tabs w) :
    Calls Tryz.prog 67 #[.pointer (some ⟨sb, 0, none⟩), .slice A.ra A.rn A.rc] w fun e w' => ∃ K, e = .returned (.slice (some ⟨w.heap.size, 0, none⟩) K.length K.length) ∧ KinP V j V.rs.length K ∧ OwnsI w' w.heap.size (some ⟨w.heap.size, 0, none⟩) K K.length ∧ Below w.heap.size w w' := by
  obtain ⟨ka, ra, sa, ba, kn, rn, sn, bn, kc, rc, sc, bc⟩ := A
  have HIW : Hid (IsW w ra V.rs) := h.rs
  have HRL : Hid (V.rs.length = rn) := h.rl
  have r300 : rn ≤ 300 := by have := h.rz; have := h.rl; simp only at this; omega
  have HRI : Hid (∀ r ∈ V.rs, i64 r.pl ∧ i64 r.kind ∧ i64 r.gen) := h.ri
  have HH : Hid (Hold V 7) := hH
  have HJ : Hid (j < V.ts.length) := hj
  have HT : Hid (Tabs w) := hT
  have SA : Hid (SpanAt w sb b g (tdD V.ts j).p (tdD V.ts j).c (tdD V.ts j).s (fOf (tdD V.ts j).l)) := hS
  obtain ⟨hr, _⟩ := hH.right (by decide) j hj
  have RT : Hid (Rt (tdD V.ts j).p (tdD V.ts j).c (tdD V.ts j).s) := newE_rt hr.1
  obtain ⟨N, hN⟩ : ∃ N, slN (tdD V.ts j).c = N := ⟨_, rfl⟩
  have HN : Hid (slN (tdD V.ts j).c = N) := hN
  have n16 : N ≤ 16 := by have := RT.out.facts.2.1; omega
  have MK : ∀ w : World, (Instr.makeSlice 31 (.int .i64 (N : Nat)) (.int .i64 (N : Nat))).run Tryz.prog w = .ok (.slice (some ⟨w.heap.size, 0, none⟩) N N) (w.alloc (.cells (zarr N) 3)) := fun w => make_Z w N (by omega)
  obtain ⟨E, hE⟩ : ∃ E, w.alloc (.cells (zarr N) 3) = E := ⟨_, rfl⟩
  have HE : Hid (w.alloc (.cells (zarr N) 3) = E) := hE
  have BE : Hid (Below w.heap.size w E) := by show Below _ _ _; rw [← hE]; exact (Below.refl _ w).alloc (Nat.le_refl _) _
  have OE : Hid (OwnsI E w.heap.size (some ⟨w.heap.size, 0, none⟩) (List.replicate N (0 : Int)) N) := by
    show OwnsI _ _ _ _ _
    have q := ownsI_new w (List.replicate N (0 : Int)) (by simp; unfold maxLen; omega)
    rw [← zarr, hE, List.length_replicate] at q
    exact q
  clear h hH hj hS hT hr hN hE
  go_enter Tryz.func67, Tryz.ntmps67
  go_wp2_with (go_at_call 78; refine (slots_rt sb _ _ _ _ SA.out.box HT.out.1 RT.out N HN.out).mono ?_; rintro e w' ⟨rfl, rfl⟩)
  go_loopw [15] (fun iv wz => ∃ (k : Nat) (K : List Int), k ≤ rn ∧ iv = .int .i64 (k : Nat) ∧ KinP V j k K ∧ OwnsI wz w.heap.size (some ⟨w.heap.size, 0, none⟩) K N ∧ Below w.heap.size w wz) (fun iv _ => rn - lenW iv)
  case atStart => exact ⟨0, List.replicate N 0, Nat.zero_le _, rfl, by rw [← HN.out]; exact KinP.zero V j, by first | exact OE.out | (rw [HE.out]; exact OE.out), by first | exact BE.out | (rw [HE.out]; exact BE.out)⟩
  case round =>
    obtain ⟨k, K, hk, rfl, hK, hO, hb⟩ := hrel
    rename World => wz
    have HK : Hid (KinP V j k K) := hK
    have KL : Hid (K.length = N) := by show _ = _; rw [hK.len, HN.out]
    have OZ : Hid (OwnsI wz w.heap.size (some ⟨w.heap.size, 0, none⟩) K N) := hO
    have BZ : Hid (Below w.heap.size w wz) := hb
    clear hK hO hb
    by_cases hkn : k < rn
    · have hkl : k < V.rs.length := by rw [HRL.out]; exact hkn
      obtain ⟨bb, off, rfl, q0, q1, q2, q3⟩ := (HIW.out.keep BZ.out).at k hkl
      have k0 : (k : Int) < (rn : Int) := by omega
      have RI := HRI.out (rwD V.rs k) (by rw [rwD_at hkl]; exact List.getElem_mem hkl)
      obtain ⟨R, hR⟩ : ∃ R, rwD V.rs k = R := ⟨_, rfl⟩
      have HRR : Hid (rwD V.rs k = R) := hR
      rw [hR] at q0 q1 q2 q3 RI
      obtain ⟨gen, lv, kd, pl⟩ := R
      simp only at q0 q1 q2 q3 RI
      obtain ⟨PI, KI, _⟩ := RI
      have HPI : Hid (i64 pl) := PI
      obtain ⟨G, hG⟩ : ∃ G, wz.alloc (.cells #[.int .i64 gen, .bool lv, .int .i64 kd, .int .i64 pl] 73) = G := ⟨_, rfl⟩
      have bG : Below wz.heap.size wz G := by rw [← hG]; exact (Below.refl _ wz).alloc (Nat.le_refl _) _
      have rG : G.heap[wz.heap.size]? = some (.cells #[.int .i64 gen, .bool lv, .int .i64 kd, .int .i64 pl] 73 (0, 0)) := by rw [← hG]; exact Go.heap_alloc_new wz _
      have HG : Hid (wz.alloc (.cells #[.int .i64 gen, .bool lv, .int .i64 kd, .int .i64 pl] 73) = G) := hG
      have BG : Hid (Below w.heap.size w G) := BZ.out.trans (bG.mono BZ.out.size)
      have OG : Hid (OwnsI G w.heap.size (some ⟨w.heap.size, 0, none⟩) K N) := OwnsI.keep OZ.out bG
      obtain ⟨ng, hng⟩ : ∃ ng, wz.heap.size = ng := ⟨_, rfl⟩
      rw [hng] at rG
      have HNG : Hid (wz.heap.size = ng) := hng
      have e1 : G.cell? ⟨ng, 1, none⟩ = some (.bool lv) := cell_of_row _ _ 1 _ _ _ rG
      have e2 : G.cell? ⟨ng, 2, none⟩ = some (.int .i64 kd) := cell_of_row _ _ 2 _ _ _ rG
      have e3 : G.cell? ⟨ng, 3, none⟩ = some (.int .i64 pl) := cell_of_row _ _ 3 _ _ _ rG
      have PUT : Hid (∀ y : Int, SlotR (slN (tdD V.ts j).c) (tdD V.ts j).p (szT V j) pl y true → lv = true → 0 ≤ y ∧ y < (K.length : Int) ∧ KinP V j (k + 1) (K.set y.toNat kd)) := fun y hs hl => by
        have := KinP.put HH.out HJ.out hkl HK.out (y := y) (by rw [HRR.out]; exact hs) (by rw [HRR.out]; exact hl)
        rw [HRR.out] at this
        exact this
      have SKIP : Hid (∀ (y : Int) (ok : Bool), SlotR (slN (tdD V.ts j).c) (tdD V.ts j).p (szT V j) pl y ok → ¬ (ok = true ∧ lv = true) → KinP V j (k + 1) K) := fun y ok hs hl => HK.out.skip (by rw [HRR.out]; exact hs) (by rw [HRR.out]; exact hl)
      clear bG rG hR PI KI hng hG
      go_upto_region 5 with (fail)
      rw [HG.out]
      try rw [HNG.out]
      go_wp2_with fail
      refine (slot_any sb _ _ _ pl _ (SA.out.keep BG.out).box (HT.out.keep BG.out).1 RT.out HPI.out).mono ?_
      rintro e w' ⟨y, ok, rfl, hs, rfl⟩
      have HS : Hid (SlotR (slN (tdD V.ts j).c) (tdD V.ts j).p (szT V j) pl y ok) := hs
      clear hs
      cases ok with
      | false =>
        have NX : Hid (KinP V j (k + 1) K) := SKIP.out y false HS.out (by simp)
        go_wp2
        go_roundw
        case rel => exact ⟨k + 1, K, by omega, by congr 1, NX.out, OG.out, BG.out⟩
        case measure => simp [lenW]; omega
      | true =>
        cases lv with
        | false =>
          have NX : Hid (KinP V j (k + 1) K) := SKIP.out y true HS.out (by simp)
          go_wp2
          go_roundw
          case rel => exact ⟨k + 1, K, by omega, by congr 1, NX.out, OG.out, BG.out⟩
          case measure => simp [lenW]; omega
        | true =>
          obtain ⟨y0, y1, nx⟩ := PUT.out y HS.out rfl
          have NX : Hid (KinP V j (k + 1) (K.set y.toNat kd)) := nx
          rw [KL.out] at y1
          obtain ⟨z, rfl⟩ : ∃ z : Nat, y = z := ⟨y.toNat, by omega⟩
          have zN : z < N := by omega
          have z1 : (z : Int) < (N : Int) := by omega
          have z0 : (0 : Int) ≤ (z : Int) := by omega
          obtain ⟨g', v, eg, _, cg, fg, _⟩ := OG.out.num z (by rw [KL.out]; exact zN)
          simp only [Option.some.injEq, Addr.mk.injEq, and_true] at eg
          subst eg
          obtain ⟨W, hW⟩ : ∃ W, G.setCell ⟨w.heap.size, z, none⟩ (.int .i64 kd) = W := ⟨_, rfl⟩
          have OW : Hid (OwnsI W w.heap.size (some ⟨w.heap.size, 0, none⟩) (K.set z kd) N) := by show OwnsI _ _ _ _ _; rw [← hW]; exact OG.out.turned z kd
          have BW : Hid (Below w.heap.size w W) := by show Below _ _ _; rw [← hW]; exact BG.out.trans ((Only.set w.heap.size z _ G).below (Nat.le_refl _))
          have HW : Hid (G.setCell ⟨w.heap.size, z, none⟩ (.int .i64 kd) = W) := hW
          clear nx hW
          go_wp2
          try rw [HW.out]
          go_roundw
          case rel => exact ⟨k + 1, K.set z kd, by omega, by congr 1, (by have := NX.out; simpa using this), OW.out, BW.out⟩
          case measure => simp [lenW]; omega
    · have ek : k = V.rs.length := by have := HRL.out; omega
      have F : Hid (KinP V j V.rs.length K) := by show KinP _ _ _ _; rw [← ek]; exact HK.out
      clear ek
      go_wp2
      go_ret
      refine ⟨K, by rw [KL.out]; first | rfl | simp, F.out, ?_, BZ.out⟩
      rw [KL.out]
      exact OZ.out
end Go.Proofs.YtbfamjnnlcopiaaGreatDoor

/- Layer 17: cut of the code. -/
namespace Go.Proofs.YtbfamjnnlcopiaaGreatDoor
open Go.RowKit
set_option linter.unusedVariables false
set_option maxRecDepth 4000

theorem sliceB3_run (w : World) (g off n c lo hi : Nat) (h1 : lo ≤ hi) (h2 : hi ≤ c) (h3 : lo < hi) : (Instr.slice 25 (.slice (some ⟨g, off, none⟩) n c) (some (.int .i64 (lo : Int))) (some (.int .i64 (hi : Int))) (some (.int .i64 (hi : Int)))).run Tryz.prog w = .ok (.slice (some ⟨g, off + lo, none⟩) (hi - lo) (hi - lo)) w := by
  have a1 : (lo : Int) ≤ (hi : Int) := by omega
  have a2 : (hi : Int) ≤ (c : Int) := by omega
  have a3 : ¬ hi = lo := by omega
  simp [go_sem, Tryz.underlying25, a1, a2, a3, addr_add]
/-- A live slot's number. -/
theorem lv_slot {V : Vw} (h : Hold V 7) {j n : Nat} (hj : j < V.ts.length) (hn : n < lvN V j) : ∃ y : Nat, (tdD V.ts j).l.getD n 0 = (y : Int) ∧ y < slN (tdD V.ts j).c := by
  obtain ⟨hr, _⟩ := h.right (by decide) j hj
  obtain ⟨k0, k1, _⟩ := right_at hr (getD_mem' hn)
  refine ⟨((tdD V.ts j).l.getD n 0).toNat, by omega, by omega⟩

set_option maxRecDepth 20000 in
set_option maxHeartbeats 4000000 in
theorem cut_any (V : Vw) (A : Va) (j n sb b g z : Nat) (y : Int) (w : World) (h : Rv w V A) (hH : Hold V 7) (hj : j < V.ts.length) (hn : n < lvN V j) (hS : SpanAt w sb b g (tdD V.ts j).p (tdD V.ts j).c (tdD V.ts j).s (fOf (tdD V.ts j).l)) (hT : Tabs w) (hz : (szT V j).toNat = z) (hy : (tdD V.ts j).l.getD n 0 = y) :
    Calls Tryz.prog 68 #[.slice A.ba A.bn A.bc, .pointer (some ⟨sb, 0, none⟩), .int .i64 y] w fun e w' => ∃ gb ob, e = .returned (.slice (some ⟨gb, ob, none⟩) z z) ∧ IsB w (some ⟨gb, ob, none⟩) (slbV V j (plV V j n)) ∧ (some ⟨gb, ob, none⟩ : Option Addr) = A.ba.map (fun a => a.add (plV V j n).toNat) ∧ w = w' := by
  obtain ⟨ka, ra, sa, ba, kn, rn, sn, bn, kc, rc, sc, bc⟩ := A
  obtain ⟨p0, p1, z0, z1⟩ := plV_in hH hj hn
  obtain ⟨y', hy', yl⟩ := lv_slot hH hj hn
  rw [hy] at hy'
  subst hy'
  have SA : Hid (SpanAt w sb b g (tdD V.ts j).p (tdD V.ts j).c (tdD V.ts j).s (fOf (tdD V.ts j).l)) := hS
  have HT : Hid (Tabs w) := hT
  obtain ⟨hr, _⟩ := hH.right (by decide) j hj
  have RT : Hid (Rt (tdD V.ts j).p (tdD V.ts j).c (tdD V.ts j).s) := newE_rt hr.1
  have hib : IsB w ba V.bs := h.bs
  have bl : V.bs.length = bn := h.bl
  have bk : bn ≤ bc ∧ bc ≤ 9223372036854775807 := h.bk
  have bz := h.bz
  obtain ⟨gb, ob, rfl⟩ : ∃ gb ob, ba = some ⟨gb, ob, none⟩ := by
    obtain ⟨_, hh | ⟨gb, ob, e, _⟩⟩ := hib
    · rw [hh] at p1; simp at p1; omega
    · exact ⟨gb, ob, e⟩
  obtain ⟨x, hx⟩ : ∃ x : Nat, plV V j n = (x : Int) := ⟨(plV V j n).toNat, by omega⟩
  have HZ : Hid (szI (tdD V.ts j).c (tdD V.ts j).s = (z : Int)) := by show _ = _; have : szT V j = (z : Int) := by omega
                                                                      exact this
  have ez : szT V j = (z : Int) := HZ.out
  have HX : Hid (256 * (tdD V.ts j).p + (y' : Int) * szI (tdD V.ts j).c (tdD V.ts j).s = (x : Int)) := by
    show _ = _
    rw [← hx]
    unfold plV atS
    rw [hy]
  rw [hx, ez] at p1
  rw [ez] at z0 z1
  have IBP : Hid (IsB w (some ⟨gb, ob + x, none⟩) (slbV V j (plV V j n))) := by
    have q := hib.cut x z (by omega)
    show IsB _ _ _
    unfold slbV
    rw [hx, hz, Int.toNat_natCast]
    exact q
  have YL : Hid (y' < slN (tdD V.ts j).c) := yl
  obtain ⟨en, hen⟩ : ∃ en : Nat, x + z = en := ⟨_, rfl⟩
  have wz : IntKind.i64.wrap ((x : Int) + (z : Int)) = (en : Int) := by rw [IntKind.wrap_i64]; omega
  have SLR : ∀ w : World, (Instr.slice 25 (.slice (some ⟨gb, ob, none⟩) bn bc) (some (.int .i64 (x : Int))) (some (.int .i64 (en : Int))) (some (.int .i64 (en : Int)))).run Tryz.prog w = .ok (.slice (some ⟨gb, ob + x, none⟩) z z) w := fun w => by
    rw [sliceB3_run w gb ob bn bc x en (by omega) (by omega) (by omega), show en - x = z by omega]
  have HXP : Hid (plV V j n = (x : Int)) := hx
  clear h hH hj hn hS hT hz hy hr hib bl bk bz yl p0 p1 z0 z1 hx ez hen
  go_enter Tryz.func68, Tryz.ntmps68
  go_wp2_with (first
    | (go_at_call 101; refine (at_in sb _ _ _ y' _ SA.out.box HT.out.1 RT.out YL.out).mono ?_; rw [HX.out]; rintro e w' ⟨rfl, rfl⟩)
    | (go_at_call 63; refine (size_rt sb _ _ _ _ SA.out.box HT.out.1 RT.out (z : Int) HZ.out).mono ?_; rintro e w' ⟨rfl, rfl⟩))
  go_ret
  exact ⟨gb, ob + x, rfl, IBP.out, by rw [HXP.out]; simp [addr_add], rfl⟩
end Go.Proofs.YtbfamjnnlcopiaaGreatDoor

/- Layer 17: an image that grows: its numbers and its bytes, both in new memory. -/
namespace Go.Proofs.YtbfamjnnlcopiaaGreatDoor
open Go.RowKit
set_option linter.unusedVariables false
set_option maxRecDepth 4000

theorem appB_g (w : World) (base : Nat) (hbase : base ≤ w.heap.size) (as0 : Option Addr) (L : List Int) (cs : Nat) (hown : OwnsB w base as0 L cs) (ad : Addr) (l : List Int) (cx : Nat) (hB : IsB w (some ad) l) (hlen : L.length + l.length ≤ 140737488355328) :
    ∃ a' cap' w', (Builtin.append_ #[25, 25] 25 #[.slice as0 L.length cs, .slice (some ad) l.length cx]).run Tryz.prog w = .ok (.slice a' (L ++ l).length cap') w' ∧ OwnsB w' base a' (L ++ l) cap' ∧ w.grownBy w' (Value.slice as0 L.length cs).ownBlock := by
  obtain ⟨i0, hi, hz0, hz1, hz2⟩ := info_parts Tryz.info5
  obtain ⟨v', w', h1, h2, h3, _⟩ := run_append_own (P := Tryz.prog) w base 25 25 5 i0 (.int .u8 0) 1 1 Tryz.underlying25 hi hz0 hz1 hz2 rfl (by decide) _ L.length (L.map (Value.int .u8)) hown ad l.length cx (l.map (Value.int .u8)) (by simp) (by
      intro j u hj
      have hjn : j < l.length := by
        have := (List.getElem?_eq_some_iff.1 hj).1
        simpa using this
      obtain ⟨_, rfl | ⟨b, off, e, _, hc⟩⟩ := hB
      · simp at hjn
      · cases e
        rw [addr_add, hc j hjn]
        have e : (l.map (Value.int .u8))[j]? = some (Value.int .u8 (l.getD j 0)) := by simp [List.getD, List.getElem?_eq_getElem hjn]
        rw [e] at hj
        exact hj) (by intro u hu; obtain ⟨x, _, rfl⟩ := List.mem_map.1 hu; rfl) (by unfold maxLen; omega) (by omega) hbase
  obtain ⟨a', cap', rfl⟩ := rowns_form h2
  exact ⟨a', cap', w', by rw [List.length_append]; exact h1, by simpa [OwnsB] using h2, h3⟩
theorem appI_g (w : World) (base : Nat) (hbase : base ≤ w.heap.size) (as0 : Option Addr) (L : List Int) (cs : Nat) (hown : OwnsI w base as0 L cs) (ad : Addr) (l : List Int) (cx : Nat) (hB : IsI w (some ad) l) (hL : L.length ≤ 100000) (hlen : l.length ≤ 100000) :
    ∃ a' cap' w', (Builtin.append_ #[31, 31] 31 #[.slice as0 L.length cs, .slice (some ad) l.length cx]).run Tryz.prog w = .ok (.slice a' (L ++ l).length cap') w' ∧ OwnsI w' base a' (L ++ l) cap' ∧ w.grownBy w' (Value.slice as0 L.length cs).ownBlock := by
  obtain ⟨i0, hi, hz0, hz1, hz2⟩ := info_parts Tryz.info3
  obtain ⟨v', w', h1, h2, h3, _⟩ := run_append_own (P := Tryz.prog) w base 31 31 3 i0 (.int .i64 0) 1 8 Tryz.underlying31 hi hz0 hz1 hz2 rfl (by decide) _ L.length (L.map (Value.int .i64)) hown ad l.length cx (l.map (Value.int .i64)) (by simp) (by
      intro j u hj
      have hjn : j < l.length := by
        have := (List.getElem?_eq_some_iff.1 hj).1
        simpa using this
      obtain ⟨_, rfl | ⟨b, off, e, _, hc⟩⟩ := hB
      · simp at hjn
      · cases e
        rw [addr_add, hc j hjn]
        have e : (l.map (Value.int .i64))[j]? = some (Value.int .i64 (l.getD j 0)) := by simp [List.getD, List.getElem?_eq_getElem hjn]
        rw [e] at hj
        exact hj) (by intro u hu; obtain ⟨x, _, rfl⟩ := List.mem_map.1 hu; rfl) (by unfold maxLen; omega) (by omega) hbase
  have hf : ∃ a' cap', v' = .slice a' (L.length + l.length) cap' := by
    obtain ⟨_, ⟨h4, h5⟩ | ⟨g, c', cur, h4, _⟩⟩ := h2
    · exact ⟨_, _, by rw [h4, h5]⟩
    · exact ⟨_, _, h4⟩
  obtain ⟨a', cap', rfl⟩ := hf
  exact ⟨a', cap', w', by rw [List.length_append]; exact h1, by simpa [OwnsI] using h2, h3⟩
/-- Numbers and bytes lie apart. -/
theorem own_apart {w : World} {b1 b2 : Nat} {oa ba : Option Addr} {O B : List Int} {oc bc : Nat} (h1 : OwnsI w b1 oa O oc) (h2 : OwnsB w b2 ba B bc) : ((Value.slice oa O.length oc).ownBlock = none ∨ (Value.slice oa O.length oc).ownBlock ≠ (Value.slice ba B.length bc).ownBlock) ∧ ((Value.slice ba B.length bc).ownBlock = none ∨ (Value.slice ba B.length bc).ownBlock ≠ (Value.slice oa O.length oc).ownBlock) := by
  obtain ⟨_, ⟨q, _⟩ | ⟨g, c', cur, q, hg, hr, _⟩⟩ := h1
  · rw [q]; exact ⟨.inl rfl, by
      obtain ⟨_, ⟨r, _⟩ | ⟨g2, c2, cur2, r, hg2, hr2, _⟩⟩ := h2
      · rw [r]; exact .inl rfl
      · rw [r]; exact .inr (by simp [Value.ownBlock])⟩
  · obtain ⟨_, ⟨r, _⟩ | ⟨g2, c2, cur2, r, hg2, hr2, _⟩⟩ := h2
    · rw [q, r]; exact ⟨.inr (by simp [Value.ownBlock]), .inl rfl⟩
    · have hne : g ≠ g2 := fun e => by
        subst e
        rw [hr] at hr2
        cases hr2
      rw [q, r]
      exact ⟨.inr (by simp [Value.ownBlock]; exact hne), .inr (by simp [Value.ownBlock]; exact fun e => hne e.symm)⟩
theorem ownI_blk {w : World} {b : Nat} {oa : Option Addr} {O : List Int} {oc : Nat} (h : OwnsI w b oa O oc) : ∀ k, (Value.slice oa O.length oc).ownBlock = some k → b ≤ k ∧ k < w.heap.size := World.ownsRow.lt h
theorem ownB_blk {w : World} {b : Nat} {oa : Option Addr} {O : List Int} {oc : Nat} (h : OwnsB w b oa O oc) : ∀ k, (Value.slice oa O.length oc).ownBlock = some k → b ≤ k ∧ k < w.heap.size := World.ownsRow.lt h
/-- An image that grows, in its box. -/
structure MkS (T : TypeId) (E wr : World) (M : Nat) (p c s : Int) (la2 : Option Addr) (L lc2 : Nat) (Bs : Int) (oa : Option Addr) (oc : Nat) (ba : Option Addr) (bc : Nat) (O B : List Int) : Prop where
  row : wr.heap[M]? = some (.cells (icells p c s la2 L lc2 Bs oa O.length oc ba B.length bc) T (0, 0))
  oo : OwnsI wr E.heap.size oa O oc
  ob : OwnsB wr E.heap.size ba B bc
  tg : Tg M E wr
  hM : M < E.heap.size
theorem row_set5 {w : World} {g : Nat} {T : TypeId} {p c s base : Int} {la oa ba a5 : Option Addr} {ln lc on oc bn bc n5 k5 : Nat} (h : w.heap[g]? = some (.cells (icells p c s la ln lc base oa on oc ba bn bc) T (0, 0))) :
    (w.setCell ⟨g, 5, none⟩ (.slice a5 n5 k5)).heap[g]? = some (.cells (icells p c s la ln lc base a5 n5 k5 ba bn bc) T (0, 0)) := heap_setCell_same w g 5 _ _ _ h
theorem row_set6 {w : World} {g : Nat} {T : TypeId} {p c s base : Int} {la oa ba a5 : Option Addr} {ln lc on oc bn bc n5 k5 : Nat} (h : w.heap[g]? = some (.cells (icells p c s la ln lc base oa on oc ba bn bc) T (0, 0))) :
    (w.setCell ⟨g, 6, none⟩ (.slice a5 n5 k5)).heap[g]? = some (.cells (icells p c s la ln lc base oa on oc a5 n5 k5) T (0, 0)) := heap_setCell_same w g 6 _ _ _ h
theorem row_set4 {w : World} {g : Nat} {T : TypeId} {p c s base x : Int} {la oa ba : Option Addr} {ln lc on oc bn bc : Nat} (h : w.heap[g]? = some (.cells (icells p c s la ln lc base oa on oc ba bn bc) T (0, 0))) :
    (w.setCell ⟨g, 4, none⟩ (.int .i64 x)).heap[g]? = some (.cells (icells p c s la ln lc x oa on oc ba bn bc) T (0, 0)) := heap_setCell_same w g 4 _ _ _ h
theorem ownsI_onlyM {w w' : World} {base cap g : Nat} {a : Option Addr} {l : List Int} (h : OwnsI w base a l cap) (o : Only g w w') (hg : g < base) : OwnsI w' base a l cap := OwnsI.tg h (Tg.ofOnly o) hg
theorem ownsB_onlyM {w w' : World} {base cap g : Nat} {a : Option Addr} {l : List Int} (h : OwnsB w base a l cap) (o : Only g w w') (hg : g < base) : OwnsB w' base a l cap := by
  obtain ⟨q1, q2 | ⟨g', c', cur, r1, r2, r3, r4⟩⟩ := h
  · exact ⟨q1, .inl q2⟩
  · exact ⟨q1, .inr ⟨g', c', cur, r1, r2, by rw [o.block g' (by omega)]; exact r3, r4⟩⟩
theorem tg_grown {M : Nat} {E w w' : World} {row : Option Nat} (h : Tg M E w) (g : w.grownBy w' row) (hr : ∀ k, row = some k → E.heap.size ≤ k) : Tg M E w' :=
  ⟨g.os.trans h.os, g.tape.trans h.tape, g.output.trans h.output, Nat.le_trans h.size g.size, fun i hi hn => (g.block i (Nat.lt_of_lt_of_le hi h.size) (fun e => by have := hr i e.symm; omega)).trans (h.block i hi hn)⟩
theorem row_grown {T : TypeId} {M : Nat} {w w' : World} {row : Option Nat} {C : Array Value} (h : w.heap[M]? = some (.cells C T (0, 0))) (g : w.grownBy w' row) (hr : ∀ k, row = some k → M ≠ k) : w'.heap[M]? = some (.cells C T (0, 0)) := by
  rw [g.block M (row_lt h) (fun e => hr M e.symm rfl)]
  exact h
section
variable {T : TypeId} {E wr : World} {M : Nat} {p c s : Int} {la2 : Option Addr} {L lc2 : Nat} {Bs : Int} {oa : Option Addr} {oc : Nat} {ba : Option Addr} {bc : Nat} {O B : List Int}
theorem MkS.keep {w' : World} (h : MkS T E wr M p c s la2 L lc2 Bs oa oc ba bc O B) (b : Below wr.heap.size wr w') : MkS T E w' M p c s la2 L lc2 Bs oa oc ba bc O B :=
  ⟨by rw [b.block M (row_lt h.row)]; exact h.row, OwnsI.keep h.oo b, OwnsB.keep h.ob b, h.tg.trans (Tg.ofBelow b), h.hM⟩
theorem MkS.le (h : MkS T E wr M p c s la2 L lc2 Bs oa oc ba bc O B) : E.heap.size ≤ wr.heap.size := h.tg.size
/-- One number more. -/
theorem MkS.addO (h : MkS T E wr M p c s la2 L lc2 Bs oa oc ba bc O B) (x : Int) (hx : -9223372036854775808 ≤ x ∧ x ≤ 9223372036854775807) (hL : O.length ≤ 100000) :
    ∃ a' c' w2, (Builtin.append_ #[31, 31] 31 #[.slice oa O.length oc, .slice (some ⟨wr.heap.size, 0, none⟩) 1 1]).run Tryz.prog (wr.alloc (.cells #[.int .i64 x] 3)) = .ok (.slice a' (O.length + 1) c') w2 ∧ w2.heap[M]? = some (.cells (icells p c s la2 L lc2 Bs oa O.length oc ba B.length bc) T (0, 0)) ∧ MkS T E (w2.setCell ⟨M, 5, none⟩ (.slice a' (O.length + 1) c')) M p c s la2 L lc2 Bs a' c' ba bc (O ++ [x]) B := by
  have b0 : Below wr.heap.size wr (wr.alloc (.cells #[.int .i64 x] 3)) := (Below.refl _ wr).alloc (Nat.le_refl _) _
  have h1 := h.keep b0
  obtain ⟨a', c', w2, hrun, o2, g2⟩ := appI_g _ E.heap.size h1.le oa O oc h1.oo ⟨wr.heap.size, 0, none⟩ [x] 1 (one_isI wr x hx) hL (by simp)
  have el : (O ++ [x]).length = O.length + 1 := by simp
  rw [el] at hrun
  have hk := ownI_blk h1.oo
  have r2 := row_grown h1.row g2 (fun k e => by have := (hk k e).1; have := h.hM; omega)
  have on : Only M w2 (w2.setCell ⟨M, 5, none⟩ (.slice a' (O.length + 1) c')) := Only.set M 5 _ w2
  refine ⟨a', c', w2, hrun, r2, ⟨by rw [el]; exact row_set5 r2, ownsI_onlyM o2 on h.hM, ownsB_onlyM (World.ownsRow.kept h1.ob g2 (own_apart h1.oo h1.ob).2) on h.hM, (tg_grown h1.tg g2 (fun k e => (hk k e).1)).trans (Tg.ofOnly on), h.hM⟩⟩
/-- Bytes more. -/
theorem MkS.addB (h : MkS T E wr M p c s la2 L lc2 Bs oa oc ba bc O B) (ad : Addr) (l : List Int) (n cx : Nat) (hn : l.length = n) (hB : IsB wr (some ad) l) (hL : B.length + l.length ≤ 140737488355328) :
    ∃ a' c' w2, (Builtin.append_ #[25, 25] 25 #[.slice ba B.length bc, .slice (some ad) n cx]).run Tryz.prog wr = .ok (.slice a' (B ++ l).length c') w2 ∧ w2.heap[M]? = some (.cells (icells p c s la2 L lc2 Bs oa O.length oc ba B.length bc) T (0, 0)) ∧ MkS T E (w2.setCell ⟨M, 6, none⟩ (.slice a' (B ++ l).length c')) M p c s la2 L lc2 Bs oa oc a' c' O (B ++ l) := by
  subst hn
  obtain ⟨a', c', w2, hrun, o2, g2⟩ := appB_g _ E.heap.size h.le ba B bc h.ob ad l cx hB hL
  have hk := ownB_blk h.ob
  have r2 := row_grown h.row g2 (fun k e => by have := (hk k e).1; have := h.hM; omega)
  have on : Only M w2 (w2.setCell ⟨M, 6, none⟩ (.slice a' (B ++ l).length c')) := Only.set M 6 _ w2
  exact ⟨a', c', w2, hrun, r2, ⟨row_set6 r2, ownsI_onlyM (World.ownsRow.kept h.oo g2 (own_apart h.oo h.ob).1) on h.hM, ownsB_onlyM o2 on h.hM, (tg_grown h.tg g2 (fun k e => (hk k e).1)).trans (Tg.ofOnly on), h.hM⟩⟩
/-- Another base. -/
theorem MkS.setBs (h : MkS T E wr M p c s la2 L lc2 Bs oa oc ba bc O B) (x : Int) : MkS T E (wr.setCell ⟨M, 4, none⟩ (.int .i64 x)) M p c s la2 L lc2 x oa oc ba bc O B :=
  ⟨row_set4 h.row, ownsI_onlyM h.oo (Only.set M 4 _ wr) h.hM, ownsB_onlyM h.ob (Only.set M 4 _ wr) h.hM, h.tg.trans (Tg.ofOnly (Only.set M 4 _ wr)), h.hM⟩
end
end Go.Proofs.YtbfamjnnlcopiaaGreatDoor
