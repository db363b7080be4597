/- The walk of ImageOne. -/
import Derived.Test.YtbajchidpffbpaaDoorIgK
import Derived.Test.YtbajchidpffbpaaDoorJrKdD
namespace Go.Proofs.YtbajchidpffbpaaDoor
open Go.RowKit
set_option linter.unusedVariables false
set_option maxRecDepth 4000

theorem fresh_nil {w : World} {base : Nat} {a : Option Addr} {l : List Int} {cap : Nat} (h : FreshB w base a l cap) : a = none → l = [] ∧ cap = 0 := by
  intro e
  rcases h with ⟨h1, _, h2⟩ | ⟨g, h1, _⟩
  · exact ⟨h1, h2⟩
  · rw [e] at h1; cases h1

set_option maxRecDepth 20000 in
set_option maxHeartbeats 8000000 in
theorem imageOne_any (a : Option Addr) (k : Nat) (l : List Int) (w : World) (h : IsB w a l) (hm : l.length ≤ maxLen) (ha : a = none → l = []) (hT : Tabs w) :
    Calls Tryd.prog 5 #[.slice a l.length k] w fun e w' => e = .returned (.bool true) ∧ Below w.heap.size w w' := by
  have HB : Hid (IsB w a l) := h
  have HA : Hid (a = none → l = []) := ha
  have HT : Hid (Tabs w) := hT
  have AB : Hid (AllB l) := h.1
  unfold maxLen at hm
  clear h ha hT
  by_cases hbig : 20000 < l.length
  · go_enter Tryd.func5, Tryd.ntmps5
    go_wp2_with (go_at_call 6; refine (alive_any17 _ HT.out).mono ?_; rintro e w1 ⟨rfl, b1⟩)
    go_ret
    exact ⟨rfl, b1⟩
  have hb' : l.length ≤ 20000 := by omega
  go_enter Tryd.func5, Tryd.ntmps5
  go_wp2_with fail
  refine (alive_any17 _ HT.out).mono ?_
  rintro e w1 ⟨rfl, b1⟩
  have B1 : Hid (Below w.heap.size w w1) := b1
  have I1 : Hid (IsB w1 a l) := HB.out.keep b1
  have T1 : Hid (Tabs w1) := HT.out.keep b1
  clear b1
  go_wp2_with fail
  refine (iread_any a k l _ I1.out (by omega) HA.out T1.out).mono ?_
  rintro e w2 ⟨m, er, la, lc, oa, oc, ba, bc, hR, rfl, iL, iO, iF, b2, q16, q81, q40, qp, qa⟩
  obtain ⟨p, c, s, live, base, offs, bytes⟩ := m
  obtain ⟨X, eX, zX, rX, bX⟩ := ibox 32 w2 p c s la live.length lc base oa offs.length oc ba bytes.length bc
  have EX : Hid (w2.alloc (.cells #[.int .i64 p, .int .i64 c, .int .i64 s, .slice la live.length lc, .int .i64 base, .slice oa offs.length oc, .slice ba bytes.length bc] 32) = X) := eX
  have BX : Hid (Below w1.heap.size w1 X) := b2.trans (bX.mono b2.size)
  have CX : Hid (Ic X w2.heap.size p c s la live.length lc base oa offs.length oc ba bytes.length bc) := icell rX
  have IL : Hid (IsI X la live) := IsI.keep iL bX
  have IO : Hid (IsI X oa offs) := IsI.keep iO bX
  have IB : Hid (IsB X ba bytes) := (freshB_isB iF qa).keep bX
  have NB : Hid (ba = none → bytes = [] ∧ bc = 0) := fresh_nil iF
  have Q1 : Hid (live.length ≤ maxLen) := by have q16 : live.length ≤ 16 := q16; show _ ≤ _; unfold maxLen; omega
  have Q2 : Hid (offs.length ≤ maxLen) := by have q81 : offs.length ≤ 8192 := q81; show _ ≤ _; unfold maxLen; omega
  have q40 : bytes.length ≤ 4096 := q40
  have Q3 : Hid (bytes.length ≤ maxLen) := by show _ ≤ _; unfold maxLen; omega
  have QP : Hid (i64' p) := qp
  have TX : Hid (Tabs X) := T1.out.keep BX.out
  have BW : Hid (Below w.heap.size w X) := B1.out.trans (BX.out.mono B1.out.size)
  have RG := read_goodG AB.out
  rw [hR] at RG
  have RG : (er = 0 ∧ rightG ⟨p, c, s, live, base, offs, bytes⟩ = true ∧ l = bodyG ⟨p, c, s, live, base, offs, bytes⟩) ∨ ((er = 3 ∨ er = 4 ∨ er = 6) ∧ (⟨p, c, s, live, base, offs, bytes⟩ : Im) = noIm) := RG
  clear iL iO iF b2 q16 q81 qp qa hR eX zX rX bX
  obtain ⟨N, hN⟩ : ∃ N, w2.heap.size = N := ⟨_, rfl⟩
  rw [hN] at CX
  rcases RG with ⟨rfl, hr, hl⟩ | ⟨he, hn⟩
  rotate_left
  · have hne : (er != 0) = true := by rw [bne_iff_ne]; omega
    unfold noIm at hn
    simp only [Im.mk.injEq] at hn
    obtain ⟨rfl, rfl, rfl, rfl, rfl, rfl, rfl⟩ := hn
    obtain ⟨c0, c1, c2, c3, c4, c5, c6⟩ := CX.out
    have c5' : X.cell? ⟨N, 5, none⟩ = some (.slice oa 0 oc) := c5
    have c6' : X.cell? ⟨N, 6, none⟩ = some (.slice ba 0 bc) := c6
    have EX' : Hid (w2.alloc (.cells #[.int .i64 0, .int .i64 0, .int .i64 0, .slice la 0 lc, .int .i64 0, .slice oa 0 oc, .slice ba 0 bc] 32) = X) := EX.out
    clear he c5 c6 c3
    go_upto_region 6 with (fail)
    rw [EX'.out]
    go_wp2
    go_ret
    exact ⟨rfl, BW.out⟩
  · obtain ⟨EO1, EO2⟩ := out_ok hr
    have EO : Hid (outG ⟨p, c, s, live, base, offs, bytes⟩ = l) := EO1.trans hl.symm
    have EE : Hid (errG ⟨p, c, s, live, base, offs, bytes⟩ = 0) := EO2
    have HR : Hid (rightG ⟨p, c, s, live, base, offs, bytes⟩ = true) := hr
    obtain ⟨Z, hZ⟩ : ∃ Z, sizeG p c s live = Z := ⟨_, rfl⟩
    have HZ : Hid (sizeG p c s live = Z) := hZ
    have z0 : 0 ≤ Z := by rw [← hZ]; exact (size_range p c s live).1
    have z1 : Z ≤ 4096 := by rw [← hZ]; exact (size_range p c s live).2
    have hq : (((bytes.length : Nat) : Int) == Z) = true := by rw [beq_iff_eq, ← hZ]; exact (right_parts.1 hr).2.1
    obtain ⟨c0, c1, c2, c3, c4, c5, c6⟩ := CX.out
    have NK : Hid (∀ wz, Below X.heap.size X wz → wz.cell? ⟨N, 0, none⟩ = some (.int .i64 p) ∧ wz.cell? ⟨N, 1, none⟩ = some (.int .i64 c) ∧ wz.cell? ⟨N, 2, none⟩ = some (.int .i64 s) ∧ wz.cell? ⟨N, 3, none⟩ = some (.slice la live.length lc) ∧ wz.cell? ⟨N, 4, none⟩ = some (.int .i64 base) ∧ wz.cell? ⟨N, 5, none⟩ = some (.slice oa offs.length oc) ∧ wz.cell? ⟨N, 6, none⟩ = some (.slice ba bytes.length bc)) := fun wz b => ⟨(CX.out.keep b).c0, (CX.out.keep b).c1, (CX.out.keep b).c2, (CX.out.keep b).c3, (CX.out.keep b).c4, (CX.out.keep b).c5, (CX.out.keep b).c6⟩
    clear EO1 EO2 hl hr hZ
    go_upto_region 6 with (fail)
    rw [EX.out]
    go_wp2_with fail
    refine (ibody_any p c s base la oa ba lc oc bc live offs bytes X TX.out IL.out IO.out IB.out NB.out Q1.out Q2.out Q3.out QP.out).mono ?_
    rw [EO.out, EE.out]
    rintro e w3 ⟨a3, k3, rfl, o3, b3⟩
    have B3 : Hid (Below X.heap.size X w3) := b3
    have I3 : Hid (IsB w3 a3 l) := ownsB_isB AB.out o3
    clear o3 b3 c0 c1 c2 c3 c4 c5 c6
    go_wp2_with fail
    go_region_held3 (fun wz => wz.cell? ⟨N, 0, none⟩ = some (.int .i64 p) ∧ wz.cell? ⟨N, 1, none⟩ = some (.int .i64 c) ∧ wz.cell? ⟨N, 2, none⟩ = some (.int .i64 s) ∧ wz.cell? ⟨N, 3, none⟩ = some (.slice la live.length lc) ∧ wz.cell? ⟨N, 4, none⟩ = some (.int .i64 base) ∧ wz.cell? ⟨N, 5, none⟩ = some (.slice oa offs.length oc) ∧ wz.cell? ⟨N, 6, none⟩ = some (.slice ba bytes.length bc))
      (with_reducible first | exact NK.out _ B5.out | exact NK.out _ B4.out | exact NK.out _ (Below.toDrew B3.out) | fail)
      (first
      | (go_at_call 12; refine (rsame_true a3 a _ _ k3 k l _ ((I3.out.keep B34.out).keep B45.out) (HB.out.keep (BW.out.trans (B5.out.mono BW.out.size))) rfl rfl).mono ?_; rintro e w6 ⟨rfl, rfl⟩)
      | (go_at_call 15; refine (isize_any p c s la _ lc live Z _ rfl HZ.out (TX.out.keep B4.out) (IL.out.keep B4.out) Q1.out QP.out).mono ?_; rintro e w5 ⟨rfl, b5⟩; have B45 : Hid (Below w4.heap.size w4 w5) := b5; have B5 : Hid (Below X.heap.size X w5) := B4.out.trans (b5.mono B4.out.size); clear b5)
      | (go_at_call 13; refine (iright_any p c s base la oa ba _ lc _ oc _ bc live offs bytes true _ rfl rfl rfl HR.out (TX.out.keep (Below.toDrew B3.out)) (IL.out.keep (Below.toDrew B3.out)) (IO.out.keep (Below.toDrew B3.out)) Q1.out Q2.out Q3.out QP.out).mono ?_; rintro e w4 ⟨rfl, b4⟩; have B34 : Hid (Below w3.heap.size w3 w4) := Below.ofDrew b4; have B4 : Hid (Below X.heap.size X w4) := B3.out.trans (B34.out.mono B3.out.size); clear b4))
    go_wp2
    go_ret
    exact ⟨rfl, BW.out.trans (B5.out.mono BW.out.size)⟩
end Go.Proofs.YtbajchidpffbpaaDoor
