/- Layer 17: Make of the code. -/
import Derived.Test.YtbfamjnnlcopiaaGreatDoorIiD
import Derived.Deep.RegionHeld3
import Derived.Test.YtbfamjnnlcopiaaGreatDoorGzAR
import Derived.Test.YtbfamjnnlcopiaaGreatDoorGzAW
namespace Go.Proofs.YtbfamjnnlcopiaaGreatDoor
open Go.RowKit
set_option linter.unusedVariables false
set_option maxRecDepth 4000

/-- What Make leaves behind: an image in new memory. -/
def MakP (w : World) (m : Im) (e : Ending) (w' : World) : Prop :=
  ∃ la lc oa oc ba bc, e = .returned (.tuple #[.agg #[.int .i64 m.p, .int .i64 m.c, .int .i64 m.s, .slice la m.live.length lc, .int .i64 m.base, .slice oa m.offs.length oc, .slice ba m.bytes.length bc], .int .i64 0]) ∧ IsI w' la m.live ∧ IsI w' oa m.offs ∧ OwnsB w' w.heap.size ba m.bytes bc ∧ Below w.heap.size w w'
theorem chk_bad {V : Vw} {r x : Int} (h : ChkR V r x) (hn : ¬ Hold V 7) : 0 < r := by
  rcases h with ⟨_, _, q⟩ | ⟨j, i, _, _, rfl, _⟩
  · exact absurd q hn
  · omega
theorem chk_good {V : Vw} {r x : Int} (h : ChkR V r x) (hn : Hold V 7) : r = 0 ∧ x = 0 := ChkR.one h (.inl ⟨rfl, rfl, hn⟩)

def iie0 : Oper := { dst := some 26, op := Op.load 27 (Operand.tmp 2), type := 27, pos := "image.go:55", after := #[], guard := none }
def iie1 : Oper := { dst := some 27, op := Op.fieldAddr 27 (Operand.tmp 2) 4, type := 0, pos := "image.go:55", after := #[], guard := none }
def iie2 : Oper := { dst := some 28, op := Op.load 24 (Operand.tmp 27), type := 24, pos := "image.go:55", after := #[{ on := 1, ground := Ground.data }], guard := none }
def iie3 : Oper := { dst := some 29, op := Op.move (Operand.tmp 1), type := 3, pos := "image.go:55", after := #[], guard := none }
def iie4 : Oper := { dst := some 30, op := Op.indexAddr 24 (Operand.tmp 28) (Operand.tmp 29), type := 0, pos := "image.go:55", after := #[{ on := 2, ground := Ground.data }, { on := 3, ground := Ground.data }], guard := none }
def iie5 : Oper := { dst := some 31, op := Op.load 33 (Operand.tmp 30), type := 33, pos := "image.go:55", after := #[{ on := 4, ground := Ground.data }], guard := none }
def iie6 : Oper := { dst := some 32, op := Op.call { callee := Callee.value (Operand.func 29), args := #[Operand.tmp 26, Operand.tmp 31], argTypes := #[27, 33] }, type := 35, pos := "image.go:55", after := #[{ on := 0, ground := Ground.data }, { on := 5, ground := Ground.data }], guard := none }
def iie7 : Oper := { dst := none, op := Op.store 35 (Operand.tmp 4) (Operand.tmp 32), type := 0, pos := "image.go:55", after := #[{ on := 6, ground := Ground.data }, { on := 6, ground := Ground.chain }, { on := 0, ground := Ground.phase }, { on := 1, ground := Ground.phase }, { on := 2, ground := Ground.phase }, { on := 3, ground := Ground.phase }, { on := 4, ground := Ground.phase }, { on := 5, ground := Ground.phase }, { on := 6, ground := Ground.phase }], guard := none }
def iie8 : Oper := { dst := some 5, op := Op.assign (Operand.const (Value.int IntKind.i64 0)), type := 36, pos := "image.go:55", after := #[{ on := 7, ground := Ground.chain }, { on := 0, ground := Ground.phase }, { on := 1, ground := Ground.phase }, { on := 2, ground := Ground.phase }, { on := 3, ground := Ground.phase }, { on := 4, ground := Ground.phase }, { on := 5, ground := Ground.phase }, { on := 6, ground := Ground.phase }, { on := 7, ground := Ground.phase }], guard := none }

set_option maxRecDepth 20000 in
set_option maxHeartbeats 8000000 in
theorem imake_ok (V : Vw) (A : Va) (i : Int) (w : World) (h : Rv w V A) (hT : Tabs w) (hH : Hold V 7) (j : Nat) (hj : j < V.ts.length) (hi : i = (j : Int)) :
    Calls Tryz.prog 8 #[.agg #[.int .i64 V.base, .int .i64 V.pgs, .slice A.ka A.kn A.kc, .slice A.ra A.rn A.rc, .slice A.sa A.sn A.sc, .slice A.ba A.bn A.bc], .int .i64 i] w (MakP w (makeG V j)) := by
  subst hi
  obtain ⟨ka, ra, sa, ba, kn, rn, sn, bn, kc, rc, sc, bc⟩ := A
  obtain ⟨D1, hD1, bD1, rD1⟩ := vbox w V ⟨ka, ra, sa, ba, kn, rn, sn, bn, kc, rc, sc, bc⟩
  simp only at hD1 rD1
  have zD1 : D1.heap.size = w.heap.size + 1 := by rw [← hD1]; simp
  obtain ⟨E, hE0, zE0, rE0, bE0⟩ := ibox 35 D1 0 0 0 none 0 0 0 none 0 0 none 0 0
  rw [zD1] at rE0 zE0
  have HD1 : Hid (w.alloc (.cells #[.int .i64 V.base, .int .i64 V.pgs, .slice ka kn kc, .slice ra rn rc, .slice sa sn sc, .slice ba bn bc] 27) = D1) := hD1
  have HE0 : Hid (D1.alloc (.cells #[.int .i64 0, .int .i64 0, .int .i64 0, .slice none 0 0, .int .i64 0, .slice none 0 0, .slice none 0 0] 35) = E) := hE0
  have BE : Hid (Below w.heap.size w E) := bD1.trans (bE0.mono (by omega))
  have ZE : Hid (E.heap.size = w.heap.size + 2) := by show _ = _; omega
  have CV : Hid (∀ wz, Below E.heap.size E wz → wz.cell? ⟨w.heap.size, 0, none⟩ = some (.int .i64 V.base) ∧ wz.cell? ⟨w.heap.size, 1, none⟩ = some (.int .i64 V.pgs) ∧ wz.cell? ⟨w.heap.size, 2, none⟩ = some (.slice ka kn kc) ∧ wz.cell? ⟨w.heap.size, 3, none⟩ = some (.slice ra rn rc) ∧ wz.cell? ⟨w.heap.size, 4, none⟩ = some (.slice sa sn sc) ∧ wz.cell? ⟨w.heap.size, 5, none⟩ = some (.slice ba bn bc)) := fun wz b => ⟨bcell b (bcell bE0 (cell_of_row _ _ 0 _ _ _ rD1)), bcell b (bcell bE0 (cell_of_row _ _ 1 _ _ _ rD1)), bcell b (bcell bE0 (cell_of_row _ _ 2 _ _ _ rD1)), bcell b (bcell bE0 (cell_of_row _ _ 3 _ _ _ rD1)), bcell b (bcell bE0 (cell_of_row _ _ 4 _ _ _ rD1)), bcell b (bcell bE0 (cell_of_row _ _ 5 _ _ _ rD1))⟩
  have RR : Hid (E.heap[w.heap.size + 1]? = some (.cells (icells 0 0 0 none 0 0 0 none 0 0 none 0 0) 35 (0, 0))) := rE0
  have HRV : Hid (Rv E V ⟨ka, ra, sa, ba, kn, rn, sn, bn, kc, rc, sc, bc⟩) := h.keep BE.out
  have HT : Hid (Tabs E) := hT.keep BE.out
  have SL : (j : Int) < (sn : Int) := by have := h.sl; simp only at this; omega
  have GS0 : ∀ g o, sa = some ⟨g, o, none⟩ → g < w.heap.size := fun g o e => by
    obtain ⟨g', o', _, _, e', q0, _⟩ := h.ts j hj
    have e' : sa = some ⟨g', o', none⟩ := e'
    rw [e] at e'
    cases e'
    exact World.block_lt_of_cell? w _ q0
  obtain ⟨gs, os, la, lc, esa, s0, s1, s2, s3, sI, sm⟩ := HRV.out.ts j hj
  have esa : sa = some ⟨gs, os, none⟩ := esa
  have GS : Hid (gs < w.heap.size) := GS0 gs os esa
  clear GS0
  subst esa
  have e0 : V.ts[j] = tdD V.ts j := by simp [tdD, List.getD, hj]
  rw [e0] at s0 s1 s2 s3 sI sm
  obtain ⟨td, htd⟩ : ∃ td, tdD V.ts j = td := ⟨_, rfl⟩
  rw [htd] at s0 s1 s2 s3 sI sm
  obtain ⟨p, c, s, l⟩ := td
  simp only at s0 s1 s2 s3 sI sm
  have HTD : Hid (tdD V.ts j = ⟨p, c, s, l⟩) := htd
  have HSI : Hid (IsI E la l) := sI
  have NK : Hid (∀ wz, Below E.heap.size E wz → (wz.cell? ⟨w.heap.size, 0, none⟩ = some (.int .i64 V.base) ∧ wz.cell? ⟨w.heap.size, 1, none⟩ = some (.int .i64 V.pgs) ∧ wz.cell? ⟨w.heap.size, 2, none⟩ = some (.slice ka kn kc) ∧ wz.cell? ⟨w.heap.size, 3, none⟩ = some (.slice ra rn rc) ∧ wz.cell? ⟨w.heap.size, 4, none⟩ = some (.slice (some ⟨gs, os, none⟩) sn sc) ∧ wz.cell? ⟨w.heap.size, 5, none⟩ = some (.slice ba bn bc)) ∧ wz.cell? ⟨gs, os + j * 4, none⟩ = some (.int .i64 p) ∧ wz.cell? ⟨gs, os + j * 4 + 1, none⟩ = some (.int .i64 c) ∧ wz.cell? ⟨gs, os + j * 4 + 2, none⟩ = some (.int .i64 s) ∧ wz.cell? ⟨gs, os + j * 4 + 3, none⟩ = some (.slice la l.length lc)) := fun wz b => ⟨CV.out wz b, bcell b s0, bcell b s1, bcell b s2, bcell b s3⟩
  have HJ : Hid (j < V.ts.length) := hj
  clear s0 s1 s2 s3 sI sm htd e0
  obtain ⟨c0, c1, c2, c3, c4, c5⟩ := CV.out E (Below.refl _ _)
  clear hD1 bD1 rD1 zD1 hE0 zE0 rE0 bE0 h hT hj
  go_enter Tryz.func8, Tryz.ntmps8
  go_upto_region 1 with (fail)
  rw [HD1.out, HE0.out]
  go_wp2_with fail
  refine (check_any14 V ⟨ka, ra, some ⟨gs, os, none⟩, ba, kn, rn, sn, bn, kc, rc, sc, bc⟩ E HRV.out HT.out).mono ?_
  rintro e w1 ⟨r, x, rfl, hC, b1⟩
  have B1 : Hid (Below E.heap.size E w1) := b1
  have BW1 : Hid (Below w.heap.size w w1) := BE.out.trans (b1.mono BE.out.size)
  have RW : Hid (w1.heap[w.heap.size + 1]? = some (.cells (icells 0 0 0 none 0 0 0 none 0 0 none 0 0) 35 (0, 0))) := by show _ = _; rw [b1.block _ (row_lt RR.out)]; exact RR.out
  clear b1 c0 c1 c2 c3 c4 c5
  obtain ⟨rfl, rfl⟩ := chk_good hC hH
  have HH : Hid (Hold V 7) := hH
  clear hC hH
  obtain ⟨c0, c1, c2, c3, c4, c5⟩ := CV.out w1 B1.out
  obtain ⟨X0, hX0⟩ : ∃ X0, w1.drew = X0 := ⟨_, rfl⟩
  have BX0 : Hid (Below E.heap.size E X0) := by show Below _ _ _; rw [← hX0]; exact Below.toDrew B1.out
  have BWX : Hid (Below w.heap.size w X0) := BE.out.trans (BX0.out.mono BE.out.size)
  have HX0 : Hid (w1.drew = X0) := hX0
  clear hX0
  have j0 : (0 : Int) ≤ (j : Int) := by omega
  go_upto_region 6 with (fail)
  clear c0 c1 c2 c3 c4 c5
  refine wp_region_held_drew (S := (fun wz => (wz.cell? ⟨w.heap.size, 0, none⟩ = some (.int .i64 V.base) ∧ wz.cell? ⟨w.heap.size, 1, none⟩ = some (.int .i64 V.pgs) ∧ wz.cell? ⟨w.heap.size, 2, none⟩ = some (.slice ka kn kc) ∧ wz.cell? ⟨w.heap.size, 3, none⟩ = some (.slice ra rn rc) ∧ wz.cell? ⟨w.heap.size, 4, none⟩ = some (.slice (some ⟨gs, os, none⟩) sn sc) ∧ wz.cell? ⟨w.heap.size, 5, none⟩ = some (.slice ba bn bc)) ∧ wz.cell? ⟨gs, os + j * 4, none⟩ = some (.int .i64 p) ∧ wz.cell? ⟨gs, os + j * 4 + 1, none⟩ = some (.int .i64 c) ∧ wz.cell? ⟨gs, os + j * 4 + 2, none⟩ = some (.int .i64 s) ∧ wz.cell? ⟨gs, os + j * 4 + 3, none⟩ = some (.slice la l.length lc))) (by kernel_rfl) (by rw [HX0.out]; exact NK.out _ BX0.out) (fun _ => ?_)
  rw [HX0.out]
  refine wpAnyH_take (i := 0) (oi := iie0) (v := .agg #[.int .i64 V.base, .int .i64 V.pgs, .slice ka kn kc, .slice ra rn rc, .slice (some ⟨gs, os, none⟩) sn sc, .slice ba bn bc]) rfl (by kernel_rfl) (by kernel_rfl) (by kernel_rfl) (fun _ _ _ h => h) (.inl ⟨rfl, by intro wz hz; obtain ⟨⟨q0, q1, q2, q3, q4, q5⟩, g0, g1, g2, g3⟩ := hz; unfold iie0; go_simp⟩) (NK.out _ BX0.out) ?_
  simp only [iie0, Act.put, List.setIfInBounds_toArray, List.set_cons_succ, List.set_cons_zero]
  refine wpAnyH_take (i := 1) (oi := iie1) (v := .pointer (some ⟨w.heap.size, 4, none⟩)) rfl (by kernel_rfl) (by kernel_rfl) (by kernel_rfl) (fun _ _ _ h => h) (.inl ⟨rfl, by intro wz hz; obtain ⟨⟨q0, q1, q2, q3, q4, q5⟩, g0, g1, g2, g3⟩ := hz; unfold iie1; go_simp⟩) (NK.out _ BX0.out) ?_
  simp only [iie1, Act.put, List.setIfInBounds_toArray, List.set_cons_succ, List.set_cons_zero]
  refine wpAnyH_take (i := 2) (oi := iie2) (v := .slice (some ⟨gs, os, none⟩) sn sc) rfl (by kernel_rfl) (by kernel_rfl) (by kernel_rfl) (fun _ _ _ h => h) (.inl ⟨rfl, by intro wz hz; obtain ⟨⟨q0, q1, q2, q3, q4, q5⟩, g0, g1, g2, g3⟩ := hz; unfold iie2; go_simp⟩) (NK.out _ BX0.out) ?_
  simp only [iie2, Act.put, List.setIfInBounds_toArray, List.set_cons_succ, List.set_cons_zero]
  refine wpAnyH_take (i := 3) (oi := iie3) (v := .int .i64 (j : Int)) rfl (by kernel_rfl) (by kernel_rfl) (by kernel_rfl) (fun _ _ _ h => h) (.inl ⟨rfl, by intro wz hz; obtain ⟨⟨q0, q1, q2, q3, q4, q5⟩, g0, g1, g2, g3⟩ := hz; unfold iie3; go_simp⟩) (NK.out _ BX0.out) ?_
  simp only [iie3, Act.put, List.setIfInBounds_toArray, List.set_cons_succ, List.set_cons_zero]
  refine wpAnyH_take (i := 4) (oi := iie4) (v := .pointer (some ⟨gs, os + j * 4, none⟩)) rfl (by kernel_rfl) (by kernel_rfl) (by kernel_rfl) (fun _ _ _ h => h) (.inl ⟨rfl, by intro wz hz; obtain ⟨⟨q0, q1, q2, q3, q4, q5⟩, g0, g1, g2, g3⟩ := hz; unfold iie4; go_simp⟩) (NK.out _ BX0.out) ?_
  simp only [iie4, Act.put, List.setIfInBounds_toArray, List.set_cons_succ, List.set_cons_zero]
  refine wpAnyH_take (i := 5) (oi := iie5) (v := .agg #[.int .i64 p, .int .i64 c, .int .i64 s, .slice la l.length lc]) rfl (by kernel_rfl) (by kernel_rfl) (by kernel_rfl) (fun _ _ _ h => h) (.inl ⟨rfl, by intro wz hz; obtain ⟨⟨q0, q1, q2, q3, q4, q5⟩, g0, g1, g2, g3⟩ := hz; unfold iie5; go_simp⟩) (NK.out _ BX0.out) ?_
  simp only [iie5, Act.put, List.setIfInBounds_toArray, List.set_cons_succ, List.set_cons_zero]
  refine wpAnyH_ready (rs := [6]) (by kernel_rfl) (by simp) ?_
  refine AllReadyH.cons (o := iie6) rfl (fun K hK => ?_) AllReadyH.nil
  unfold iie6
  go_simp
  refine (imageOf_any V ⟨ka, ra, some ⟨gs, os, none⟩, ba, kn, rn, sn, bn, kc, rc, sc, bc⟩ j la lc p c s l X0 (HRV.out.keep BX0.out) HH.out HJ.out (HT.out.keep BX0.out) HTD.out (HSI.out.keep BX0.out)).mono ?_
  rintro e w2 ⟨la3, lc3, oa3, oc3, ba3, bc3, rfl, iL, iO, iB, gL, gO, b2⟩
  obtain ⟨m, hm⟩ : ∃ m, makeG V j = m := ⟨_, rfl⟩
  have HMM : Hid (makeG V j = m) := hm
  rw [hm] at iL iO iB
  rw [hm]
  have B2 : Hid (Below E.heap.size E w2) := BX0.out.trans (b2.mono BX0.out.size)
  have BW2 : Hid (Below w.heap.size w w2) := BWX.out.trans (b2.mono BWX.out.size)
  have RW2 : Hid (w2.heap[w.heap.size + 1]? = some (.cells (icells 0 0 0 none 0 0 0 none 0 0 none 0 0) 35 (0, 0))) := by show _ = _; rw [B2.out.block _ (row_lt RR.out)]; exact RR.out
  obtain ⟨r0, r1, r2, r3, r4, r5, r6⟩ := icell RW2.out
  have fr0 := ithawed RW2.out 0
  have fr1 := ithawed RW2.out 1
  have fr2 := ithawed RW2.out 2
  have fr3 := ithawed RW2.out 3
  have fr4 := ithawed RW2.out 4
  have fr5 := ithawed RW2.out 5
  have fr6 := ithawed RW2.out 6
  have on := lay7_only w2 (w.heap.size + 1) (.int .i64 m.p) (.int .i64 m.c) (.int .i64 m.s) (.slice la3 m.live.length lc3) (.int .i64 m.base) (.slice oa3 m.offs.length oc3) (.slice ba3 m.bytes.length bc3)
  obtain ⟨LW, hLW⟩ : ∃ LW, lay7 w2 (w.heap.size + 1) (.int .i64 m.p) (.int .i64 m.c) (.int .i64 m.s) (.slice la3 m.live.length lc3) (.int .i64 m.base) (.slice oa3 m.offs.length oc3) (.slice ba3 m.bytes.length bc3) = LW := ⟨_, rfl⟩
  have rL : LW.heap[w.heap.size + 1]? = some (.cells (icells m.p m.c m.s la3 m.live.length lc3 m.base oa3 m.offs.length oc3 ba3 m.bytes.length bc3) 35 (0, 0)) := by rw [← hLW]; exact lay7_row RW2.out
  have LV : Hid (LW = (((((((w2.setCell ⟨w.heap.size + 1, 0, none⟩ (.int .i64 m.p)).setCell ⟨w.heap.size + 1, 1, none⟩ (.int .i64 m.c)).setCell ⟨w.heap.size + 1, 2, none⟩ (.int .i64 m.s)).setCell ⟨w.heap.size + 1, 3, none⟩ (.slice la3 m.live.length lc3)).setCell ⟨w.heap.size + 1, 4, none⟩ (.int .i64 m.base)).setCell ⟨w.heap.size + 1, 5, none⟩ (.slice oa3 m.offs.length oc3)).setCell ⟨w.heap.size + 1, 6, none⟩ (.slice ba3 m.bytes.length bc3))) := by show _ = _; rw [← hLW]; rfl
  rw [hLW] at on
  obtain ⟨u0, u1, u2, u3, u4, u5, u6⟩ := icell rL
  have NR : w.heap.size + 1 < X0.heap.size := by have := BX0.out.size; have := ZE.out; omega
  have PO : Hid (MakP w m (.returned (.tuple #[.agg #[.int .i64 m.p, .int .i64 m.c, .int .i64 m.s, .slice la3 m.live.length lc3, .int .i64 m.base, .slice oa3 m.offs.length oc3, .slice ba3 m.bytes.length bc3], .int .i64 0])) LW) := ⟨la3, lc3, oa3, oc3, ba3, bc3, rfl, iL.tgG (Tg.ofOnly on) (fun ad e => by have := gL ad e; omega), iO.tgG (Tg.ofOnly on) (fun ad e => by have := gO ad e; omega), OwnsB.mono (ownsB_onlyM iB on NR) BWX.out.size, BW2.out.trans (on.below (show w.heap.size ≤ w.heap.size + 1 by omega))⟩
  have SLW : Hid ((LW.cell? ⟨w.heap.size, 0, none⟩ = some (.int .i64 V.base) ∧ LW.cell? ⟨w.heap.size, 1, none⟩ = some (.int .i64 V.pgs) ∧ LW.cell? ⟨w.heap.size, 2, none⟩ = some (.slice ka kn kc) ∧ LW.cell? ⟨w.heap.size, 3, none⟩ = some (.slice ra rn rc) ∧ LW.cell? ⟨w.heap.size, 4, none⟩ = some (.slice (some ⟨gs, os, none⟩) sn sc) ∧ LW.cell? ⟨w.heap.size, 5, none⟩ = some (.slice ba bn bc)) ∧ LW.cell? ⟨gs, os + j * 4, none⟩ = some (.int .i64 p) ∧ LW.cell? ⟨gs, os + j * 4 + 1, none⟩ = some (.int .i64 c) ∧ LW.cell? ⟨gs, os + j * 4 + 2, none⟩ = some (.int .i64 s) ∧ LW.cell? ⟨gs, os + j * 4 + 3, none⟩ = some (.slice la l.length lc)) := by
    obtain ⟨⟨q0, q1, q2, q3, q4, q5⟩, g0, g1, g2, g3⟩ := NK.out _ B2.out
    have n1 : w.heap.size ≠ w.heap.size + 1 := by omega
    have n2 : gs ≠ w.heap.size + 1 := by have := GS.out; omega
    exact ⟨⟨by rw [on.cell (p := ⟨w.heap.size, 0, none⟩) n1]; exact q0, by rw [on.cell (p := ⟨w.heap.size, 1, none⟩) n1]; exact q1, by rw [on.cell (p := ⟨w.heap.size, 2, none⟩) n1]; exact q2, by rw [on.cell (p := ⟨w.heap.size, 3, none⟩) n1]; exact q3, by rw [on.cell (p := ⟨w.heap.size, 4, none⟩) n1]; exact q4, by rw [on.cell (p := ⟨w.heap.size, 5, none⟩) n1]; exact q5⟩, by rw [on.cell (p := ⟨gs, os + j * 4, none⟩) n2]; exact g0, by rw [on.cell (p := ⟨gs, os + j * 4 + 1, none⟩) n2]; exact g1, by rw [on.cell (p := ⟨gs, os + j * 4 + 2, none⟩) n2]; exact g2, by rw [on.cell (p := ⟨gs, os + j * 4 + 3, none⟩) n2]; exact g3⟩
  clear on hLW rL iL iO iB gL gO b2 NR hm
  go_wp2_with fail
  refine hK.out _ _ (NK.out _ B2.out) (fun _ => ?_)
  clear hK K
  try simp only [iie6, Act.put, List.setIfInBounds_toArray, List.set_cons_succ, List.set_cons_zero]
  refine wpAnyH_ready (rs := [7]) (by kernel_rfl) (by simp) ?_
  refine AllReadyH.cons (o := iie7) rfl (fun K hK => ?_) AllReadyH.nil
  unfold iie7
  go_simp
  rw [← LV.out]
  refine hK.out _ _ SLW.out (fun _ => ?_)
  clear hK K
  try simp only [iie7, Act.put, List.setIfInBounds_toArray, List.set_cons_succ, List.set_cons_zero]
  refine wpAnyH_take (i := 8) (oi := iie8) (v := .int .i64 0) rfl (by kernel_rfl) (by kernel_rfl) (by kernel_rfl) (fun _ _ _ h => h) (.inl ⟨rfl, by intro wz hz; obtain ⟨⟨q0, q1, q2, q3, q4, q5⟩, g0, g1, g2, g3⟩ := hz; unfold iie8; go_simp⟩) SLW.out ?_
  simp only [iie8, Act.put, List.setIfInBounds_toArray, List.set_cons_succ, List.set_cons_zero]
  refine wpAnyH_done (by kernel_rfl) ?_ _
  go_wp2
  refine bodyPost_ret (v := .tuple #[.agg #[.int .i64 m.p, .int .i64 m.c, .int .i64 m.s, .slice la3 m.live.length lc3, .int .i64 m.base, .slice oa3 m.offs.length oc3, .slice ba3 m.bytes.length bc3], .int .i64 0]) (by simp [results, Tryz.results8, go_sem, u0, u1, u2, u3, u4, u5, u6]) rfl (by rw [HMM.out]; exact PO.out)
end Go.Proofs.YtbfamjnnlcopiaaGreatDoor

/- Layer 17: Move of the code, its two refusals. -/
namespace Go.Proofs.YtbfamjnnlcopiaaGreatDoor
open Go.RowKit
set_option linter.unusedVariables false
set_option maxRecDepth 4000

set_option maxRecDepth 20000 in
set_option maxHeartbeats 8000000 in
theorem imove_form (p c s base : Int) (la oa ba : Option Addr) (lc oc bc : Nat) (live offs bytes : List Int) (t n : Int) (w : World) (hR : rightG ⟨p, c, s, live, base, offs, bytes⟩ = false)
    (hL : IsI w la live) (hO : IsI w oa offs) (hml : live.length ≤ maxLen) (hmo : offs.length ≤ maxLen) (hmb : bytes.length ≤ maxLen) (hT : Tabs w) (hp : i64' p) :
    Calls Tryz.prog 18 #[.agg #[.int .i64 p, .int .i64 c, .int .i64 s, .slice la live.length lc, .int .i64 base, .slice oa offs.length oc, .slice ba bytes.length bc], .int .i64 t, .int .i64 n] w fun e w' => e = .returned (.tuple #[.agg #[.int .i64 0, .int .i64 0, .int .i64 0, .slice none 0 0, .int .i64 0, .slice none 0 0, .slice none 0 0], .int .i64 4]) ∧ Below w.heap.size w w' := by
  obtain ⟨D, hD, zD, rD, bD⟩ := ibox 35 w p c s la live.length lc base oa offs.length oc ba bytes.length bc
  have HD : Hid (w.alloc (.cells #[.int .i64 p, .int .i64 c, .int .i64 s, .slice la live.length lc, .int .i64 base, .slice oa offs.length oc, .slice ba bytes.length bc] 35) = D) := hD
  obtain ⟨E, hE, zE, rE, bE⟩ := ibox 35 D 0 0 0 none 0 0 0 none 0 0 none 0 0
  have HE : Hid (D.alloc (.cells #[.int .i64 0, .int .i64 0, .int .i64 0, .slice none 0 0, .int .i64 0, .slice none 0 0, .slice none 0 0] 35) = E) := hE
  rw [zD] at rE zE
  have BE : Hid (Below w.heap.size w E) := bD.trans (bE.mono (by omega))
  have RE : Hid (E.heap[w.heap.size + 1]? = some (.cells (icells 0 0 0 none 0 0 0 none 0 0 none 0 0) 35 (0, 0))) := rE
  have ZE : Hid (E.heap.size = w.heap.size + 1 + 1) := zE
  have LE : Hid (IsI E la live) := hL.keep BE.out
  have OE : Hid (IsI E oa offs) := hO.keep BE.out
  have TE : Hid (Tabs E) := hT.keep BE.out
  have HP : Hid (i64' p) := hp
  have CE : Hid (Ic E w.heap.size p c s la live.length lc base oa offs.length oc ba bytes.length bc) := (icell rD).keep bE
  obtain ⟨c0, c1, c2, c3, c4, c5, c6⟩ := (icell rD).keep bE
  have HML : Hid (live.length ≤ maxLen) := hml
  have HMO : Hid (offs.length ≤ maxLen) := hmo
  have HMB : Hid (bytes.length ≤ maxLen) := hmb
  have H : Hid (rightG ⟨p, c, s, live, base, offs, bytes⟩ = false) := hR
  clear hD zD rD bD hL hO hml hmo hmb hR hE zE rE bE
  go_enter Tryz.func18, Tryz.ntmps18
  go_upto_region 1 with (fail)
  rw [HD.out, HE.out]
  go_wp2_with fail
  refine (iright_any p c s base la oa ba _ lc _ oc _ bc live offs bytes false _ rfl rfl rfl H.out TE.out LE.out OE.out HML.out HMO.out HMB.out HP.out).mono ?_
  rintro e w1 ⟨rfl, b1⟩
  have B1 : Hid (Below w.heap.size w w1) := BE.out.trans (b1.mono BE.out.size)
  have BE1 : Hid (Below E.heap.size E w1) := b1
  have RES : Hid (w1.heap[w.heap.size + 1]? = some (.cells (icells 0 0 0 none 0 0 0 none 0 0 none 0 0) 35 (0, 0))) := by show _ = _; rw [b1.block (w.heap.size + 1) (by have := ZE.out; omega)]; exact RE.out
  clear b1 c0 c1 c2 c3 c4 c5 c6
  have rR : w1.heap[w.heap.size + 1]? = some (.cells (icells 0 0 0 none 0 0 0 none 0 0 none 0 0) 35 (0, 0)) := RES.out
  obtain ⟨g0, g1, g2, g3, g4, g5, g6⟩ := icell rR
  have f00 := ithawed rR 0
  have f01 := ithawed rR 1
  have f02 := ithawed rR 2
  have f03 := ithawed rR 3
  have f04 := ithawed rR 4
  have f05 := ithawed rR 5
  have f06 := ithawed rR 6
  have rL := lay7_row (p := 0) (c := 0) (s := 0) (la := none) (ln := 0) (lc := 0) (base := 0) (oa := none) (on := 0) (oc := 0) (ba := none) (bn := 0) (bc := 0) rR
  have on := lay7_only w1 (w.heap.size + 1) (.int .i64 0) (.int .i64 0) (.int .i64 0) (.slice none 0 0) (.int .i64 0) (.slice none 0 0) (.slice none 0 0)
  have bL := B1.out.trans (on.below (show w.heap.size ≤ w.heap.size + 1 by omega))
  have LV : Hid (lay7 w1 (w.heap.size + 1) (.int .i64 0) (.int .i64 0) (.int .i64 0) (.slice none 0 0) (.int .i64 0) (.slice none 0 0) (.slice none 0 0) = (((((((w1.setCell ⟨w.heap.size + 1, 0, none⟩ (.int .i64 0)).setCell ⟨w.heap.size + 1, 1, none⟩ (.int .i64 0)).setCell ⟨w.heap.size + 1, 2, none⟩ (.int .i64 0)).setCell ⟨w.heap.size + 1, 3, none⟩ (.slice none 0 0)).setCell ⟨w.heap.size + 1, 4, none⟩ (.int .i64 0)).setCell ⟨w.heap.size + 1, 5, none⟩ (.slice none 0 0)).setCell ⟨w.heap.size + 1, 6, none⟩ (.slice none 0 0))) := rfl
  obtain ⟨LW, hLW⟩ : ∃ LW, lay7 w1 (w.heap.size + 1) (.int .i64 0) (.int .i64 0) (.int .i64 0) (.slice none 0 0) (.int .i64 0) (.slice none 0 0) (.slice none 0 0) = LW := ⟨_, rfl⟩
  rw [hLW] at rL bL LV
  obtain ⟨u0, u1, u2, u3, u4, u5, u6⟩ := icell rL
  have BL : Hid (Below w.heap.size w LW) := bL
  clear hLW rL bL on
  go_wp2
  rw [← LV.out]
  refine bodyPost_ret (v := .tuple #[.agg #[.int .i64 0, .int .i64 0, .int .i64 0, .slice none 0 0, .int .i64 0, .slice none 0 0, .slice none 0 0], .int .i64 4]) (by simp [results, Tryz.results18, go_sem, u0, u1, u2, u3, u4, u5, u6]) rfl ⟨rfl, BL.out⟩
set_option maxRecDepth 20000 in
set_option maxHeartbeats 8000000 in
theorem imove_arg (p c s base : Int) (la oa ba : Option Addr) (lc oc bc : Nat) (live offs bytes : List Int) (t n : Int) (w : World) (hR : rightG ⟨p, c, s, live, base, offs, bytes⟩ = true)
    (hL : IsI w la live) (hO : IsI w oa offs) (hml : live.length ≤ maxLen) (hmo : offs.length ≤ maxLen) (hmb : bytes.length ≤ maxLen) (hT : Tabs w) (hp : i64' p) (hA : ¬ goesA t n) :
    Calls Tryz.prog 18 #[.agg #[.int .i64 p, .int .i64 c, .int .i64 s, .slice la live.length lc, .int .i64 base, .slice oa offs.length oc, .slice ba bytes.length bc], .int .i64 t, .int .i64 n] w fun e w' => e = .returned (.tuple #[.agg #[.int .i64 0, .int .i64 0, .int .i64 0, .slice none 0 0, .int .i64 0, .slice none 0 0, .slice none 0 0], .int .i64 2]) ∧ Below w.heap.size w w' := by
  obtain ⟨D, hD, zD, rD, bD⟩ := ibox 35 w p c s la live.length lc base oa offs.length oc ba bytes.length bc
  have HD : Hid (w.alloc (.cells #[.int .i64 p, .int .i64 c, .int .i64 s, .slice la live.length lc, .int .i64 base, .slice oa offs.length oc, .slice ba bytes.length bc] 35) = D) := hD
  obtain ⟨E, hE, zE, rE, bE⟩ := ibox 35 D 0 0 0 none 0 0 0 none 0 0 none 0 0
  have HE : Hid (D.alloc (.cells #[.int .i64 0, .int .i64 0, .int .i64 0, .slice none 0 0, .int .i64 0, .slice none 0 0, .slice none 0 0] 35) = E) := hE
  rw [zD] at rE zE
  have BE : Hid (Below w.heap.size w E) := bD.trans (bE.mono (by omega))
  have RE : Hid (E.heap[w.heap.size + 1]? = some (.cells (icells 0 0 0 none 0 0 0 none 0 0 none 0 0) 35 (0, 0))) := rE
  have ZE : Hid (E.heap.size = w.heap.size + 1 + 1) := zE
  have LE : Hid (IsI E la live) := hL.keep BE.out
  have OE : Hid (IsI E oa offs) := hO.keep BE.out
  have TE : Hid (Tabs E) := hT.keep BE.out
  have HP : Hid (i64' p) := hp
  have CE : Hid (Ic E w.heap.size p c s la live.length lc base oa offs.length oc ba bytes.length bc) := (icell rD).keep bE
  obtain ⟨c0, c1, c2, c3, c4, c5, c6⟩ := (icell rD).keep bE
  have HML : Hid (live.length ≤ maxLen) := hml
  have HMO : Hid (offs.length ≤ maxLen) := hmo
  have HMB : Hid (bytes.length ≤ maxLen) := hmb
  have H : Hid (rightG ⟨p, c, s, live, base, offs, bytes⟩ = true) := hR
  clear hD zD rD bD hL hO hml hmo hmb hR hE zE rE bE
  go_enter Tryz.func18, Tryz.ntmps18
  go_upto_region 1 with (fail)
  rw [HD.out, HE.out]
  go_wp2_with fail
  refine (iright_any p c s base la oa ba _ lc _ oc _ bc live offs bytes true _ rfl rfl rfl H.out TE.out LE.out OE.out HML.out HMO.out HMB.out HP.out).mono ?_
  rintro e w1 ⟨rfl, b1⟩
  have B1 : Hid (Below w.heap.size w w1) := BE.out.trans (b1.mono BE.out.size)
  have BE1 : Hid (Below E.heap.size E w1) := b1
  have RES : Hid (w1.heap[w.heap.size + 1]? = some (.cells (icells 0 0 0 none 0 0 0 none 0 0 none 0 0) 35 (0, 0))) := by show _ = _; rw [b1.block (w.heap.size + 1) (by have := ZE.out; omega)]; exact RE.out
  clear b1 c0 c1 c2 c3 c4 c5 c6
  cases hg : decide (goodR t)
  · have HG : Hid (decide (goodR t) = false) := hg
    clear hg hA
    have rR : w1.heap[w.heap.size + 1]? = some (.cells (icells 0 0 0 none 0 0 0 none 0 0 none 0 0) 35 (0, 0)) := RES.out
    obtain ⟨g0, g1, g2, g3, g4, g5, g6⟩ := icell rR
    have f00 := ithawed rR 0
    have f01 := ithawed rR 1
    have f02 := ithawed rR 2
    have f03 := ithawed rR 3
    have f04 := ithawed rR 4
    have f05 := ithawed rR 5
    have f06 := ithawed rR 6
    have rL := lay7_row (p := 0) (c := 0) (s := 0) (la := none) (ln := 0) (lc := 0) (base := 0) (oa := none) (on := 0) (oc := 0) (ba := none) (bn := 0) (bc := 0) rR
    have on := lay7_only w1 (w.heap.size + 1) (.int .i64 0) (.int .i64 0) (.int .i64 0) (.slice none 0 0) (.int .i64 0) (.slice none 0 0) (.slice none 0 0)
    have bL := B1.out.trans (on.below (show w.heap.size ≤ w.heap.size + 1 by omega))
    have LV : Hid (lay7 w1 (w.heap.size + 1) (.int .i64 0) (.int .i64 0) (.int .i64 0) (.slice none 0 0) (.int .i64 0) (.slice none 0 0) (.slice none 0 0) = (((((((w1.setCell ⟨w.heap.size + 1, 0, none⟩ (.int .i64 0)).setCell ⟨w.heap.size + 1, 1, none⟩ (.int .i64 0)).setCell ⟨w.heap.size + 1, 2, none⟩ (.int .i64 0)).setCell ⟨w.heap.size + 1, 3, none⟩ (.slice none 0 0)).setCell ⟨w.heap.size + 1, 4, none⟩ (.int .i64 0)).setCell ⟨w.heap.size + 1, 5, none⟩ (.slice none 0 0)).setCell ⟨w.heap.size + 1, 6, none⟩ (.slice none 0 0))) := rfl
    obtain ⟨LW, hLW⟩ : ∃ LW, lay7 w1 (w.heap.size + 1) (.int .i64 0) (.int .i64 0) (.int .i64 0) (.slice none 0 0) (.int .i64 0) (.slice none 0 0) (.slice none 0 0) = LW := ⟨_, rfl⟩
    rw [hLW] at rL bL LV
    obtain ⟨u0, u1, u2, u3, u4, u5, u6⟩ := icell rL
    have BL : Hid (Below w.heap.size w LW) := bL
    clear hLW rL bL on
    go_wp2_with (go_at_call 55; refine (good_of t false _ HG.out).mono ?_; rintro e w3 ⟨rfl, rfl⟩)
    rw [← LV.out]
    refine bodyPost_ret (v := .tuple #[.agg #[.int .i64 0, .int .i64 0, .int .i64 0, .slice none 0 0, .int .i64 0, .slice none 0 0, .slice none 0 0], .int .i64 2]) (by simp [results, Tryz.results18, go_sem, u0, u1, u2, u3, u4, u5, u6]) rfl ⟨rfl, BL.out⟩
  have HG : Hid (decide (goodR t) = true) := hg
  by_cases n0 : n < 0
  · clear hg hA
    have rR : w1.heap[w.heap.size + 1]? = some (.cells (icells 0 0 0 none 0 0 0 none 0 0 none 0 0) 35 (0, 0)) := RES.out
    obtain ⟨g0, g1, g2, g3, g4, g5, g6⟩ := icell rR
    have f00 := ithawed rR 0
    have f01 := ithawed rR 1
    have f02 := ithawed rR 2
    have f03 := ithawed rR 3
    have f04 := ithawed rR 4
    have f05 := ithawed rR 5
    have f06 := ithawed rR 6
    have rL := lay7_row (p := 0) (c := 0) (s := 0) (la := none) (ln := 0) (lc := 0) (base := 0) (oa := none) (on := 0) (oc := 0) (ba := none) (bn := 0) (bc := 0) rR
    have on := lay7_only w1 (w.heap.size + 1) (.int .i64 0) (.int .i64 0) (.int .i64 0) (.slice none 0 0) (.int .i64 0) (.slice none 0 0) (.slice none 0 0)
    have bL := B1.out.trans (on.below (show w.heap.size ≤ w.heap.size + 1 by omega))
    have LV : Hid (lay7 w1 (w.heap.size + 1) (.int .i64 0) (.int .i64 0) (.int .i64 0) (.slice none 0 0) (.int .i64 0) (.slice none 0 0) (.slice none 0 0) = (((((((w1.setCell ⟨w.heap.size + 1, 0, none⟩ (.int .i64 0)).setCell ⟨w.heap.size + 1, 1, none⟩ (.int .i64 0)).setCell ⟨w.heap.size + 1, 2, none⟩ (.int .i64 0)).setCell ⟨w.heap.size + 1, 3, none⟩ (.slice none 0 0)).setCell ⟨w.heap.size + 1, 4, none⟩ (.int .i64 0)).setCell ⟨w.heap.size + 1, 5, none⟩ (.slice none 0 0)).setCell ⟨w.heap.size + 1, 6, none⟩ (.slice none 0 0))) := rfl
    obtain ⟨LW, hLW⟩ : ∃ LW, lay7 w1 (w.heap.size + 1) (.int .i64 0) (.int .i64 0) (.int .i64 0) (.slice none 0 0) (.int .i64 0) (.slice none 0 0) (.slice none 0 0) = LW := ⟨_, rfl⟩
    rw [hLW] at rL bL LV
    obtain ⟨u0, u1, u2, u3, u4, u5, u6⟩ := icell rL
    have BL : Hid (Below w.heap.size w LW) := bL
    clear hLW rL bL on
    go_wp2_with (go_at_call 55; refine (good_of t true _ HG.out).mono ?_; rintro e w3 ⟨rfl, rfl⟩)
    rw [← LV.out]
    refine bodyPost_ret (v := .tuple #[.agg #[.int .i64 0, .int .i64 0, .int .i64 0, .slice none 0 0, .int .i64 0, .slice none 0 0, .slice none 0 0], .int .i64 2]) (by simp [results, Tryz.results18, go_sem, u0, u1, u2, u3, u4, u5, u6]) rfl ⟨rfl, BL.out⟩
  have n1 : 1048576 < n := by
    refine Int.not_le.1 fun q => hA ⟨of_decide_eq_true hg, by omega, q⟩
  clear hg hA
  have rR : w1.heap[w.heap.size + 1]? = some (.cells (icells 0 0 0 none 0 0 0 none 0 0 none 0 0) 35 (0, 0)) := RES.out
  obtain ⟨g0, g1, g2, g3, g4, g5, g6⟩ := icell rR
  have f00 := ithawed rR 0
  have f01 := ithawed rR 1
  have f02 := ithawed rR 2
  have f03 := ithawed rR 3
  have f04 := ithawed rR 4
  have f05 := ithawed rR 5
  have f06 := ithawed rR 6
  have rL := lay7_row (p := 0) (c := 0) (s := 0) (la := none) (ln := 0) (lc := 0) (base := 0) (oa := none) (on := 0) (oc := 0) (ba := none) (bn := 0) (bc := 0) rR
  have on := lay7_only w1 (w.heap.size + 1) (.int .i64 0) (.int .i64 0) (.int .i64 0) (.slice none 0 0) (.int .i64 0) (.slice none 0 0) (.slice none 0 0)
  have bL := B1.out.trans (on.below (show w.heap.size ≤ w.heap.size + 1 by omega))
  have LV : Hid (lay7 w1 (w.heap.size + 1) (.int .i64 0) (.int .i64 0) (.int .i64 0) (.slice none 0 0) (.int .i64 0) (.slice none 0 0) (.slice none 0 0) = (((((((w1.setCell ⟨w.heap.size + 1, 0, none⟩ (.int .i64 0)).setCell ⟨w.heap.size + 1, 1, none⟩ (.int .i64 0)).setCell ⟨w.heap.size + 1, 2, none⟩ (.int .i64 0)).setCell ⟨w.heap.size + 1, 3, none⟩ (.slice none 0 0)).setCell ⟨w.heap.size + 1, 4, none⟩ (.int .i64 0)).setCell ⟨w.heap.size + 1, 5, none⟩ (.slice none 0 0)).setCell ⟨w.heap.size + 1, 6, none⟩ (.slice none 0 0))) := rfl
  obtain ⟨LW, hLW⟩ : ∃ LW, lay7 w1 (w.heap.size + 1) (.int .i64 0) (.int .i64 0) (.int .i64 0) (.slice none 0 0) (.int .i64 0) (.slice none 0 0) (.slice none 0 0) = LW := ⟨_, rfl⟩
  rw [hLW] at rL bL LV
  obtain ⟨u0, u1, u2, u3, u4, u5, u6⟩ := icell rL
  have BL : Hid (Below w.heap.size w LW) := bL
  clear hLW rL bL on
  go_wp2_with (go_at_call 55; refine (good_of t true _ HG.out).mono ?_; rintro e w3 ⟨rfl, rfl⟩)
  rw [← LV.out]
  refine bodyPost_ret (v := .tuple #[.agg #[.int .i64 0, .int .i64 0, .int .i64 0, .slice none 0 0, .int .i64 0, .slice none 0 0, .slice none 0 0], .int .i64 2]) (by simp [results, Tryz.results18, go_sem, u0, u1, u2, u3, u4, u5, u6]) rfl ⟨rfl, BL.out⟩
end Go.Proofs.YtbfamjnnlcopiaaGreatDoor
