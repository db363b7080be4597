/- Layer 17: the law's example: an image with one live slot is written and read. -/
import Derived.Test.YtbfamjnnlcopiaaDoorIgG
import Derived.Test.YtbfamjnnlcopiaaDoorIgJ
namespace Go.Proofs.YtbfamjnnlcopiaaDoor
open Go.RowKit
set_option linter.unusedVariables false
set_option maxRecDepth 4000

def exM : Im := ⟨2, 0, 0, [3], 512, [8], List.replicate 16 0⟩
theorem ex_right : rightG exM = true := by decide +kernel
theorem ex_body : bodyG exM = [2, 0, 0, 8, 0, 2, 1, 1, 0, 0, 0, 0, 0, 0, 0, 0, 0, 0, 0, 0, 0, 0, 0, 0] := by decide +kernel
theorem ex_size : sizeG 2 0 0 [3] = 16 := by decide +kernel
theorem all16 : AllB (List.replicate 16 0) := fun x hx => by have := List.eq_of_mem_replicate hx; omega

theorem readI_ex {w w' : World} {l : List Int} {e : Ending} (h : ReadI w l e w') (hR : readG l = (exM, 0)) : ∃ la lc oa oc ba bc, e = .returned (.tuple #[.agg #[.int .i64 2, .int .i64 0, .int .i64 0, .slice la 1 lc, .int .i64 512, .slice oa 1 oc, .slice ba 16 bc], .int .i64 0]) ∧ IsI w' oa [8] ∧ Below w.heap.size w w' := by
  obtain ⟨m, er, la, lc, oa, oc, ba, bc, hr, rfl, iL, iO, iF, b6, _⟩ := h
  rw [hR] at hr
  simp only [Prod.mk.injEq] at hr
  obtain ⟨rfl, rfl⟩ := hr
  exact ⟨la, lc, oa, oc, ba, bc, rfl, iO, b6⟩

set_option maxRecDepth 20000 in
set_option maxHeartbeats 4000000 in
theorem alive_any17 (w : World) (hT : Tabs w) : Calls Tryd.prog 4 #[] w fun e w' => e = .returned (.bool true) ∧ Below w.heap.size w w' := by
  have MK : ∀ v : World, (Instr.makeSlice 25 (.int .i64 16) (.int .i64 16)).run Tryd.prog v = .ok (.slice (some ⟨v.heap.size, 0, none⟩) 16 16) (v.alloc (.cells (cellsB (List.replicate 16 0)).toArray 5)) := fun v => make_B v 16 (by decide)
  obtain ⟨CB, hCB⟩ : ∃ CB, (cellsB (List.replicate 16 0)).toArray = CB := ⟨_, rfl⟩
  rw [hCB] at MK
  obtain ⟨X1, e1⟩ : ∃ X1, w.alloc (.cells #[.int .i64 3] 3) = X1 := ⟨_, rfl⟩
  obtain ⟨X2, e2⟩ : ∃ X2, X1.alloc (.cells #[.int .i64 8] 3) = X2 := ⟨_, rfl⟩
  obtain ⟨X3, e3⟩ : ∃ X3, X2.alloc (.cells CB 5) = X3 := ⟨_, rfl⟩
  have z1 : X1.heap.size = w.heap.size + 1 := by rw [← e1]; simp
  have z2 : X2.heap.size = w.heap.size + 1 + 1 := by rw [← e2]; simp [z1]
  have z3 : X3.heap.size = w.heap.size + 1 + 1 + 1 := by rw [← e3]; simp [z2]
  obtain ⟨X4, e4, z4, r4, b4⟩ := ibox 29 X3 2 0 0 (some ⟨w.heap.size, 0, none⟩) 1 1 512 (some ⟨w.heap.size + 1, 0, none⟩) 1 1 (some ⟨w.heap.size + 1 + 1, 0, none⟩) 16 16
  have b1 : Below w.heap.size w X1 := by rw [← e1]; exact (Below.refl _ _).alloc (Nat.le_refl _) _
  have b2 : Below X1.heap.size X1 X2 := by rw [← e2]; exact (Below.refl _ _).alloc (Nat.le_refl _) _
  have b3 : Below X2.heap.size X2 X3 := by rw [← e3]; exact (Below.refl _ _).alloc (Nat.le_refl _) _
  have BW : Hid (Below w.heap.size w X4) := ((b1.trans (b2.mono (by omega))).trans (b3.mono (by omega))).trans (b4.mono (by omega))
  have I1 : Hid (IsI X4 (some ⟨w.heap.size, 0, none⟩) [3]) := by
    have q : IsI X1 (some ⟨w.heap.size, 0, none⟩) [3] := by rw [← e1]; exact one_isI w 3 (by omega)
    exact ((q.keep b2).keep b3).keep b4
  have I2 : Hid (IsI X4 (some ⟨w.heap.size + 1, 0, none⟩) [8]) := by
    have q : IsI X2 (some ⟨w.heap.size + 1, 0, none⟩) [8] := by rw [← e2, ← z1]; exact one_isI X1 8 (by omega)
    exact (q.keep b3).keep b4
  have I3 : Hid (IsB X4 (some ⟨w.heap.size + 1 + 1, 0, none⟩) (List.replicate 16 0)) := by
    have q : RowB X3 (w.heap.size + 1 + 1) (List.replicate 16 0) := by rw [← e3, ← z2, ← hCB]; exact Go.heap_alloc_new X2 _
    exact (q.isB all16).keep b4
  have T4 : Hid (Tabs X4) := hT.keep BW.out
  have C4 : Hid (Ic X4 X3.heap.size 2 0 0 (some ⟨w.heap.size, 0, none⟩) 1 1 512 (some ⟨w.heap.size + 1, 0, none⟩) 1 1 (some ⟨w.heap.size + 1 + 1, 0, none⟩) 16 16) := icell r4
  have E1 : Hid (w.alloc (.cells #[.int .i64 3] 3) = X1) := e1
  have E2 : Hid (X1.alloc (.cells #[.int .i64 8] 3) = X2) := e2
  have E3 : Hid (X2.alloc (.cells CB 5) = X3) := e3
  have E4 : Hid (X3.alloc (.cells #[.int .i64 2, .int .i64 0, .int .i64 0, .slice (some ⟨w.heap.size, 0, none⟩) 1 1, .int .i64 512, .slice (some ⟨w.heap.size + 1, 0, none⟩) 1 1, .slice (some ⟨w.heap.size + 1 + 1, 0, none⟩) 16 16] 29) = X4) := e4
  obtain ⟨BY, hBY⟩ : ∃ BY, outG ⟨2, 0, 0, [3], 512, [8], List.replicate 16 0⟩ = BY := ⟨_, rfl⟩
  have EO : Hid (outG ⟨2, 0, 0, [3], 512, [8], List.replicate 16 0⟩ = BY) := hBY
  have EE : Hid (errG ⟨2, 0, 0, [3], 512, [8], List.replicate 16 0⟩ = 0) := (out_ok ex_right).2
  have hb : BY = bodyG exM := by rw [← hBY]; exact (out_ok ex_right).1
  have LB : Hid (BY.length = 24) := by show _ = _; rw [hb, ex_body]; rfl
  have G0 : Hid (BY.getD 0 0 = 2) := by show _ = _; rw [hb, ex_body]; rfl
  have G3 : Hid (BY.getD 3 0 = 8) := by show _ = _; rw [hb, ex_body]; rfl
  have AB : Hid (AllB BY) := by show AllB _; rw [hb]; exact body_byte ex_right all16
  have RB : Hid (readG BY = (exM, 0)) := by show _ = _; rw [hb]; exact read_backG ex_right
  clear hT e1 e2 e3 e4 z1 z2 z4 r4 b1 b2 b3 b4 hCB hBY hb
  go_enter Tryd.func4, Tryd.ntmps4
  go_wp2_with fail
  rw [E1.out, E2.out, E3.out, E4.out]
  refine (ibody_any 2 0 0 512 (some ⟨w.heap.size, 0, none⟩) (some ⟨w.heap.size + 1, 0, none⟩) (some ⟨w.heap.size + 1 + 1, 0, none⟩) 1 1 16 [3] [8] (List.replicate 16 0) X4 T4.out I1.out I2.out I3.out (fun h => by cases h) (by decide) (by decide) (by decide) ⟨by omega, by omega⟩).mono ?_
  rw [EO.out, EE.out, LB.out]
  rintro e w5 ⟨a5, k5, rfl, o5, b5⟩
  have B5 : Hid (Below X4.heap.size X4 w5) := b5
  have I5 : Hid (IsB w5 a5 BY) := ownsB_isB AB.out o5
  have M5 : Hid (a5 = none → BY = []) := fun h => ((rownsB_isL o5).2.2 h).1
  have C5 : Hid (Ic w5 X3.heap.size 2 0 0 (some ⟨w.heap.size, 0, none⟩) 1 1 512 (some ⟨w.heap.size + 1, 0, none⟩) 1 1 (some ⟨w.heap.size + 1 + 1, 0, none⟩) 16 16) := C4.out.keep b5
  have P5 := iread_any a5 k5 BY w5 I5.out (by rw [LB.out]; omega) M5.out (T4.out.keep b5)
  rw [LB.out] at P5
  have Q5 : Hid (Calls Tryd.prog 13 #[.slice a5 24 k5] w5 (ReadI w5 BY)) := P5
  clear o5 b5 P5
  go_wp2_with fail
  refine Calls.mono Q5.out ?_
  intro e w6 h6
  obtain ⟨la, lc, oa, oc, ba, bc, rfl, iO, b6⟩ := readI_ex h6 RB.out
  have C6 : Hid (Ic w6 X3.heap.size 2 0 0 (some ⟨w.heap.size, 0, none⟩) 1 1 512 (some ⟨w.heap.size + 1, 0, none⟩) 1 1 (some ⟨w.heap.size + 1 + 1, 0, none⟩) 16 16) := C5.out.keep b6
  obtain ⟨X7, e7, z7', r7, b7⟩ := ibox 29 w6 2 0 0 la 1 lc 512 oa 1 oc ba 16 bc
  have E7 : Hid (w6.alloc (.cells #[.int .i64 2, .int .i64 0, .int .i64 0, .slice la 1 lc, .int .i64 512, .slice oa 1 oc, .slice ba 16 bc] 29) = X7) := e7
  have B7 : Hid (Below X4.heap.size X4 X7) := (B5.out.trans (b6.mono B5.out.size)).trans (b7.mono (by have := b6.size; have := B5.out.size; omega))
  obtain ⟨x0, x1, x2, x3, x4, x5, x6⟩ := C6.out.keep b7
  obtain ⟨y0, y1, y2, y3, y4, y5, y6⟩ := icell r7
  obtain ⟨_, q | ⟨b, off, rfl, q1, q2⟩⟩ := (I5.out.keep b6).keep b7
  · have := LB.out; rw [q] at this; simp at this
  have k0 := q2 0 (by rw [LB.out]; omega)
  have k3 := q2 3 (by rw [LB.out]; omega)
  rw [G0.out] at k0
  rw [G3.out] at k3
  have k0' : X7.cell? ⟨b, off, none⟩ = some (.int .u8 2) := k0
  obtain ⟨_, q | ⟨b', off', rfl, q3, q4⟩⟩ := iO.keep b7
  · cases q
  have j0 : X7.cell? ⟨b', off' + 0, none⟩ = some (.int .i64 8) := q4 0 (by show 0 < 1; omega)
  have j0' : X7.cell? ⟨b', off', none⟩ = some (.int .i64 8) := j0
  have BF : Hid (Below w.heap.size w X7) := BW.out.trans (B7.out.mono BW.out.size)
  clear h6 iO b6 e7 z7' r7 b7 q1 q2 q3 q4
  rw [z3] at x0 x1 x2 x3 x4 x5 x6
  go_upto_region 4 with (fail)
  rw [E7.out]
  go_wp2_with (go_at_call 14; refine (isize_any 2 0 0 (some ⟨w.heap.size, 0, none⟩) 1 1 [3] 16 _ rfl ex_size (T4.out.keep B7.out) (I1.out.keep B7.out) (by decide) ⟨by omega, by omega⟩).mono ?_; rintro e w8 ⟨rfl, b8⟩; have B8 : Hid (Below w.heap.size w w8) := BF.out.trans (b8.mono BF.out.size); have yy4 := bcell b8 y4; have yy5 := bcell b8 y5; have yy3 := bcell b8 y3; have jj0 := bcell b8 j0; have jj0' := bcell b8 j0'; clear b8)
  go_ret
  exact ⟨rfl, B8.out⟩
end Go.Proofs.YtbfamjnnlcopiaaDoor
