/- Layer 17: Make of the document. -/
import Derived.Test.YtbfamjnnlcopiaaGreatDoorIiE
import Derived.Test.YtbfamjnnlcopiaaGreatDoorGzAY
import Derived.Test.YtbfamjnnlcopiaaGreatDoorGzAM
namespace Go.Proofs.YtbfamjnnlcopiaaGreatDoor
open Go.RowKit
set_option linter.unusedVariables false
set_option maxRecDepth 4000

theorem told_1 {w : World} {B : Nat} {a' : Option Addr} {c' : Nat} {p c s : Int} {live : List Int} (h : Told w B (.slice a' 1 c') [⟨p, c, s, live⟩]) :
    ∃ gA la2 lc2, a' = some ⟨gA, 0, none⟩ ∧ w.cell? ⟨gA, 0, none⟩ = some (.int .i64 p) ∧ w.cell? ⟨gA, 1, none⟩ = some (.int .i64 c) ∧ w.cell? ⟨gA, 2, none⟩ = some (.int .i64 s) ∧ w.cell? ⟨gA, 3, none⟩ = some (.slice la2 live.length lc2) ∧ OwnsI w B la2 live lc2 := by
  obtain ⟨rs, h1, h2, h3⟩ := h
  rcases rs with _ | ⟨r, _ | ⟨r', rs⟩⟩
  · cases h1
  · simp at h1
    obtain ⟨⟨p', c', s', l'⟩, ra, rk⟩ := r
    simp only [Td.mk.injEq] at h1
    obtain ⟨rfl, rfl, rfl, rfl⟩ := h1
    have o := h3 _ (List.mem_cons_self ..)
    have h2' := h2
    obtain ⟨_, ⟨_, q⟩ | ⟨g, cap, cur, e, hg, hr, _, _, _, _⟩⟩ := h2'
    · cases q
    · have e' : a' = some ⟨g, 0, none⟩ := by injection e
      subst e'
      have cl := World.ownsRow.cellAt h2
      exact ⟨g, ra, rk, rfl, cl 0 (by decide), cl 1 (by decide), cl 2 (by decide), cl 3 (by decide), o⟩
  · simp at h1
/-- The base that goes with places. -/
def bsO (V : Vw) (O : List Int) : Int := if O = [] then 0 else V.base
theorem bsO_more (V : Vw) (O : List Int) (x : Int) : bsO V (O ++ [x]) = V.base := if_neg (by simp)
theorem ps_hit {V : Vw} (hH : Hold V 7) {x : Int} {m : Nat} (hm : m < V.rs.length) (h1 : (rwD V.rs m).live = true) (h2 : (rwD V.rs m).pl = x) : psAt V x = psOf V m := by
  have e : ownI V.rs x = some m := by
    have q : rule5 V m = true := hH 4 (by decide) m hm
    unfold rule5 at q
    rw [h1, h2] at q
    simpa using q
  unfold psAt
  rw [e]
def iif0 : Oper := { dst := some 105, op := Op.fieldAddr 42 (Operand.tmp 8) 3, type := 0, pos := "ref.go:59", after := #[], guard := none }
def iif1 : Oper := { dst := some 106, op := Op.load 25 (Operand.tmp 105), type := 25, pos := "ref.go:59", after := #[{ on := 0, ground := Ground.data }], guard := none }
def iif2 : Oper := { dst := some 107, op := Op.fieldAddr 27 (Operand.tmp 2) 5, type := 0, pos := "ref.go:59", after := #[], guard := none }
def iif3 : Oper := { dst := some 108, op := Op.load 25 (Operand.tmp 107), type := 25, pos := "ref.go:59", after := #[{ on := 2, ground := Ground.data }], guard := none }
def iif4 : Oper := { dst := some 109, op := Op.move (Operand.tmp 11), type := 3, pos := "ref.go:59", after := #[], guard := none }
def iif5 : Oper := { dst := some 110, op := Op.move (Operand.tmp 11), type := 3, pos := "ref.go:59", after := #[], guard := none }
def iif6 : Oper := { dst := some 111, op := Op.move (Operand.tmp 6), type := 53, pos := "ref.go:59", after := #[], guard := none }
def iif7 : Oper := { dst := some 112, op := Op.call { callee := Callee.value (Operand.func 20), args := #[Operand.tmp 111], argTypes := #[53] }, type := 3, pos := "ref.go:59", after := #[{ on := 6, ground := Ground.data }], guard := none }
def iif8 : Oper := { dst := some 113, op := Op.binOp BinOp.add 3 (Operand.tmp 110) (Operand.tmp 112) 3, type := 3, pos := "ref.go:59", after := #[{ on := 5, ground := Ground.data }, { on := 7, ground := Ground.data }], guard := none }
def iif9 : Oper := { dst := some 114, op := Op.slice 25 (Operand.tmp 108) (some (Operand.tmp 109)) (some (Operand.tmp 113)) none, type := 25, pos := "ref.go:59", after := #[{ on := 3, ground := Ground.data }, { on := 4, ground := Ground.data }, { on := 8, ground := Ground.data }], guard := none }
def iif10 : Oper := { dst := some 115, op := Op.call { callee := Callee.builtin Builtin.append, args := #[Operand.tmp 106, Operand.tmp 114], argTypes := #[25, 25] }, type := 25, pos := "ref.go:59", after := #[{ on := 1, ground := Ground.data }, { on := 9, ground := Ground.data }, { on := 7, ground := Ground.chain }], guard := none }
def iif11 : Oper := { dst := some 116, op := Op.fieldAddr 42 (Operand.tmp 8) 3, type := 0, pos := "ref.go:59", after := #[{ on := 0, ground := Ground.phase }, { on := 1, ground := Ground.phase }, { on := 2, ground := Ground.phase }, { on := 3, ground := Ground.phase }, { on := 4, ground := Ground.phase }, { on := 5, ground := Ground.phase }, { on := 6, ground := Ground.phase }, { on := 7, ground := Ground.phase }, { on := 8, ground := Ground.phase }, { on := 9, ground := Ground.phase }, { on := 10, ground := Ground.phase }], guard := none }
def iif12 : Oper := { dst := none, op := Op.store 25 (Operand.tmp 116) (Operand.tmp 115), type := 0, pos := "ref.go:59", after := #[{ on := 11, ground := Ground.data }, { on := 10, ground := Ground.data }, { on := 10, ground := Ground.chain }, { on := 0, ground := Ground.phase }, { on := 1, ground := Ground.phase }, { on := 2, ground := Ground.phase }, { on := 3, ground := Ground.phase }, { on := 4, ground := Ground.phase }, { on := 5, ground := Ground.phase }, { on := 6, ground := Ground.phase }, { on := 7, ground := Ground.phase }, { on := 8, ground := Ground.phase }, { on := 9, ground := Ground.phase }, { on := 10, ground := Ground.phase }], guard := none }

set_option maxRecDepth 20000 in
set_option maxHeartbeats 16000000 in
theorem dmake_any (V : Vw) (A : Va) (j : Nat) (w : World) (h : Rv w V A) (hH : Hold V 7) (hj : j < V.ts.length) :
    Calls Tryz.prog 12 #[.agg #[.int .i64 V.base, .int .i64 V.pgs, .slice A.ka A.kn A.kc, .slice A.ra A.rn A.rc, .slice A.sa A.sn A.sc, .slice A.ba A.bn A.bc], .int .i64 (j : Int)] w (ImgP w (makeG V j)) := by
  obtain ⟨ka, ra, sa, ba, kn, rn, sn, bn, kc, rc, sc, bc⟩ := A
  obtain ⟨hr, _⟩ := hH.right (by decide) j hj
  obtain ⟨gs, os, la, lc, esa, s0, s1, s2, s3, sI, sm⟩ := h.ts j hj
  have esa : sa = some ⟨gs, os, none⟩ := esa
  subst esa
  have e0 : V.ts[j] = tdD V.ts j := by simp [tdD, List.getD, hj]
  rw [e0] at s0 s1 s2 s3 sI sm
  obtain ⟨td, htd⟩ : ∃ td, tdD V.ts j = td := ⟨_, rfl⟩
  rw [htd] at s0 s1 s2 s3 sI sm hr
  obtain ⟨p, c, s, l⟩ := td
  simp only at s0 s1 s2 s3 sI sm
  have HTD : Hid (tdD V.ts j = ⟨p, c, s, l⟩) := htd
  have hl16 : l.length ≤ 16 := by
    have q1 : l.length ≤ slN c := live_le hr.2
    have q2 : slN c ≤ 16 := (newE_rt hr.1).facts.2.1
    omega
  have RT : Hid (Rt p c s) := newE_rt hr.1
  have HNE : Hid (newE p c s = 0 ∧ okL (slN c) (-1) l = true) := hr
  have HLM : Hid (l.length ≤ maxLen) := by show _ ≤ _; unfold maxLen; omega
  have HVL : Hid (∀ x ∈ l, -9223372036854775808 ≤ x ∧ x ≤ 9223372036854775807) := sI.1
  obtain ⟨D1, hD1, bD1, rD1⟩ := vbox w V ⟨ka, ra, some ⟨gs, os, none⟩, ba, kn, rn, sn, bn, kc, rc, sc, bc⟩
  simp only at hD1 rD1
  have zD1 : D1.heap.size = w.heap.size + 1 := by rw [← hD1]; simp
  obtain ⟨D2, hD2, zD2, rD2, bD2⟩ := ibox 42 D1 0 0 0 none 0 0 0 none 0 0 none 0 0
  rw [zD1] at rD2 zD2
  obtain ⟨E0, hE0, zE0, rE0, bE0⟩ := dbox D2 p c s la l.length lc
  rw [zD2] at rE0 zE0
  have HD1 : Hid (w.alloc (.cells #[.int .i64 V.base, .int .i64 V.pgs, .slice ka kn kc, .slice ra rn rc, .slice (some ⟨gs, os, none⟩) sn sc, .slice ba bn bc] 27) = D1) := hD1
  have HD2 : Hid (D1.alloc (.cells #[.int .i64 0, .int .i64 0, .int .i64 0, .slice none 0 0, .int .i64 0, .slice none 0 0, .slice none 0 0] 42) = D2) := hD2
  have HE0 : Hid (D2.alloc (.cells #[.int .i64 p, .int .i64 c, .int .i64 s, .slice la l.length lc] 33) = E0) := hE0
  have BW2 : Hid (Below w.heap.size w D2) := bD1.trans (bD2.mono (by omega))
  have BE : Hid (Below w.heap.size w E0) := BW2.out.trans (bE0.mono (by omega))
  have ZD2 : Hid (D2.heap.size = w.heap.size + 1 + 1) := zD2
  have ZE : Hid (E0.heap.size = w.heap.size + 3) := by show _ = _; omega
  have b1E : Below D1.heap.size D1 E0 := bD2.trans (bE0.mono (by omega))
  have CV : Hid (∀ wz, Below E0.heap.size E0 wz → wz.cell? ⟨w.heap.size, 0, none⟩ = some (.int .i64 V.base) ∧ wz.cell? ⟨w.heap.size, 2, none⟩ = some (.slice ka kn kc) ∧ wz.cell? ⟨w.heap.size, 3, none⟩ = some (.slice ra rn rc) ∧ wz.cell? ⟨w.heap.size, 4, none⟩ = some (.slice (some ⟨gs, os, none⟩) sn sc) ∧ wz.cell? ⟨w.heap.size, 5, none⟩ = some (.slice ba bn bc) ∧ wz.cell? ⟨w.heap.size + 1 + 1, 3, none⟩ = some (.slice la l.length lc)) := fun wz b =>
    ⟨bcell b (bcell b1E (cell_of_row _ _ 0 _ _ _ rD1)), bcell b (bcell b1E (cell_of_row _ _ 2 _ _ _ rD1)), bcell b (bcell b1E (cell_of_row _ _ 3 _ _ _ rD1)), bcell b (bcell b1E (cell_of_row _ _ 4 _ _ _ rD1)), bcell b (bcell b1E (cell_of_row _ _ 5 _ _ _ rD1)), bcell b (dcell3 rE0)⟩
  have RR : Hid (E0.heap[w.heap.size + 1]? = some (.cells (icells 0 0 0 none 0 0 0 none 0 0 none 0 0) 42 (0, 0))) := by show _ = _; rw [bE0.block _ (row_lt rD2)]; exact rD2
  have v4 := bcell bD2 (cell_of_row _ _ 4 _ _ _ rD1)
  have s0' := bcell BW2.out s0
  have s1' := bcell BW2.out s1
  have s2' := bcell BW2.out s2
  have s3' := bcell BW2.out s3
  have RD0 : Hid (RdT E0 (some ⟨gs, os + j * 4, none⟩) [⟨p, c, s, l⟩]) := fun i hi => by
    have hi : i < 1 := hi
    obtain rfl : i = 0 := by omega
    exact ⟨gs, os + j * 4, la, lc, rfl, bcell BE.out s0, bcell BE.out s1, bcell BE.out s2, bcell BE.out s3, sI.keep BE.out, HLM.out⟩
  have c0 := dcell0 rE0
  have c1 := dcell1 rE0
  have c2 := dcell2 rE0
  have c3 := dcell3 rE0
  have HRV : Hid (Rv E0 V ⟨ka, ra, some ⟨gs, os, none⟩, ba, kn, rn, sn, bn, kc, rc, sc, bc⟩) := h.keep BE.out
  have HIE : Hid (IsI E0 la l) := sI.keep BE.out
  have HH : Hid (Hold V 7) := hH
  have HJ : Hid (j < V.ts.length) := hj
  have SL : (j : Int) < (sn : Int) := by have := h.sl; simp only at this; omega
  have SK : sn ≤ sc ∧ sc ≤ 9223372036854775807 := h.sk
  have KL : V.ks.length = kn := h.kl
  have HRL : Hid (V.rs.length = rn) := h.rl
  have r300 : rn ≤ 300 := by have := h.rz; have := h.rl; simp only at this; omega
  have hib : IsB E0 ba V.bs := h.bs.keep BE.out
  have BLN : V.bs.length = bn := h.bl
  have BK : bn ≤ bc ∧ bc ≤ 9223372036854775807 := h.bk
  have BZ := h.bz
  have BI : Hid (i64 V.base) := h.bi
  clear hD1 bD1 rD1 zD1 hD2 zD2 rD2 bD2 hE0 zE0 rE0 bE0 b1E h hH hj htd hr e0 s0 s1 s2 s3 sI sm
  obtain ⟨je, hje⟩ : ∃ je : Nat, j + 1 = je := ⟨_, rfl⟩
  have wj : IntKind.i64.wrap ((j : Int) + 1) = (je : Int) := by rw [IntKind.wrap_i64]; omega
  have SLR : ∀ w : World, (Instr.slice 24 (.slice (some ⟨gs, os, none⟩) sn sc) (some (.int .i64 (j : Int))) (some (.int .i64 (je : Int))) none).run Tryz.prog w = .ok (.slice (some ⟨gs, os + j * 4, none⟩) 1 (sc - j)) w := fun w => by
    rw [sliceT_run w gs os sn sc j je (by omega) (by omega) (by omega), show je - j = 1 by omega]
  have j0 : (0 : Int) ≤ (j : Int) := by omega
  clear hje
  go_enter Tryz.func12, Tryz.ntmps12
  go_upto_region 1 with (fail)
  rw [HD1.out, HD2.out]
  go_upto_region 2 with (fail)
  rw [HE0.out]
  try rw [ZD2.out]
  go_wp2_with fail
  refine (rof_any p c s la lc l (slN c) true E0 HIE.out HLM.out HNE.out.1 rfl HNE.out.2).mono ?_
  rintro e w1 ⟨b1, ⟨hf, _⟩ | ⟨_, mb, mg, rfl, rf, g1, g2⟩⟩
  · cases hf
  have RF : Hid (Ref w1 mb mg p c s (slN c) (fOf l)) := rf
  have B1 : Hid (Below E0.heap.size E0 w1) := b1
  obtain ⟨v0, v2, v3, v4', v5, d3⟩ := CV.out w1 b1
  clear b1 rf g1 g2 c0 c1 c2 c3 v4 s0' s1' s2' s3'
  go_wp2_with fail
  refine (rcopy_any (some ⟨gs, os + j * 4, none⟩) 1 (sc - j) [⟨p, c, s, l⟩] w1 (RD0.out.keep B1.out) rfl (by omega) (fun t ht => by simp at ht; subst ht; show l.length ≤ _; omega)).mono ?_
  rintro e w2 ⟨a3, c3, rfl, t3, b3⟩
  obtain ⟨gA, la2, lc2, rfl, j0', j1', j2', j3', ol⟩ := told_1 t3
  have I2 : Hid (IsI w2 la2 l) := ownsI_isI HVL.out ol
  have LG2 : Hid (∀ ad, la2 = some ad → E0.heap.size ≤ ad.block) := fun ad e => Nat.le_trans B1.out.size (ownsI_ge ol ad e)
  have B2 : Hid (Below E0.heap.size E0 w2) := B1.out.trans (b3.mono B1.out.size)
  have RF2 : Hid (Ref w2 mb mg p c s (slN c) (fOf l)) := RF.out.keep b3
  obtain ⟨E, hX2, zX2, rX2, bX2⟩ := ibox 42 w2 p c s la2 l.length lc2 0 none 0 0 none 0 0
  have HX2 : Hid (w2.alloc (.cells #[.int .i64 p, .int .i64 c, .int .i64 s, .slice la2 l.length lc2, .int .i64 0, .slice none 0 0, .slice none 0 0] 42) = E) := hX2
  obtain ⟨M, hM⟩ : ∃ M, w2.heap.size = M := ⟨_, rfl⟩
  rw [hM] at rX2
  have HM : Hid (w2.heap.size = M) := hM
  have B2E : Hid (Below w2.heap.size w2 E) := bX2
  have S0 : Hid (MkS 42 E E M p c s la2 l.length lc2 (bsO V (mkO V j 0)) none 0 none 0 (mkO V j 0) (mkB V j 0)) := ⟨rX2, ownsI_none _ _, World.ownsRow_nil _ _ _ _, Tg.refl _ _, row_lt rX2⟩
  have FR : Hid (∀ wz, Tg M E wz → Below w2.heap.size w2 wz) := fun wz t => B2E.out.trans (t.below (by rw [HM.out]; exact Nat.le_refl _) B2E.out.size)
  have FE : Hid (∀ wz, Tg M E wz → Below E0.heap.size E0 wz) := fun wz t => B2.out.trans ((FR.out wz t).mono B2.out.size)
  clear t3 b3 ol hX2 zX2 rX2 bX2 hM v0 v2 v3 v4' v5 d3
  go_upto_region 4 with (fail)
  rw [HX2.out]
  try rw [HM.out]
  clear j0' j1' j2' j3'
  obtain ⟨v0', v2', v3', v4', v5', d3'⟩ := CV.out _ (FE.out E (Tg.refl _ _))
  have LVN : Hid (lvN V j = l.length) := by show (tdD V.ts j).l.length = _; rw [HTD.out]
  go_wp2_with fail
  go_loopw [40] (fun iv wz => ∃ (n : Nat) (oa : Option Addr) (oc : Nat) (ya : Option Addr) (yc : Nat), n ≤ l.length ∧ iv = .int .i64 (n : Nat) ∧ MkS 42 E wz M p c s la2 l.length lc2 (bsO V (mkO V j n)) oa oc ya yc (mkO V j n) (mkB V j n)) (fun iv _ => l.length - lenW iv)
  case atStart => exact ⟨0, none, 0, none, 0, Nat.zero_le _, rfl, S0.out⟩
  case round =>
    clear S0 v0' v2' v3' v4' v5' d3'
    obtain ⟨n, oa, oc, ya, yc, hn, rfl, hS⟩ := hrel
    rename World => wz
    have HS : Hid (MkS 42 E wz M p c s la2 l.length lc2 (bsO V (mkO V j n)) oa oc ya yc (mkO V j n) (mkB V j n)) := hS
    obtain ⟨v0, v2, v3, v4, v5, d3⟩ := CV.out _ (FE.out wz hS.tg)
    clear hS
    by_cases hlt : n < l.length
    · have hnv : n < lvN V j := by rw [LVN.out]; exact hlt
      have HNV : Hid (n < lvN V j) := hnv
      have PI := plV_in HH.out HJ.out hnv
      obtain ⟨y, hy, yl⟩ := lv_slot HH.out HJ.out hnv
      have HYL : l.getD n 0 = (y : Int) := by have := hy; rw [HTD.out] at this; exact this
      have YL : Hid (y < slN c) := by have := yl; rw [HTD.out] at this; exact this
      obtain ⟨X, hX⟩ : ∃ X : Nat, plV V j n = (X : Int) := ⟨(plV V j n).toNat, by omega⟩
      have HX : Hid (256 * p + (y : Int) * szI c s = (X : Int)) := by
        show _ = _
        rw [← hX]
        unfold plV atS
        rw [hy, HTD.out]
      have HXP : Hid (plV V j n = (X : Int)) := hX
      obtain ⟨z, hz⟩ : ∃ z : Nat, (szT V j).toNat = z := ⟨_, rfl⟩
      have sz : szT V j = (z : Int) := by omega
      have SZ : Hid (szT V j = (z : Int)) := sz
      have HSZ : Hid (szI c s = (z : Int)) := by have := sz; unfold szT at this; rw [HTD.out] at this; exact this
      have xz : X + z ≤ bn := by have := PI.2.1; rw [hX, sz, BLN] at this; omega
      have z16 : 16 ≤ z := by have := PI.2.2.1; omega
      have z4 : z ≤ 4096 := by have := PI.2.2.2; omega
      obtain ⟨_, h0 | ⟨lb, lo, rfl, hlb, hlc⟩⟩ := HIE.out.keep (FE.out wz HS.out.tg)
      · rw [h0] at hlt; simp at hlt
      have hcell := hlc n hlt
      rw [HYL] at hcell
      have BLEN : Hid ((mkB V j n).length = n * z) := by show _ = _; rw [mkB_len HH.out HJ.out n (by omega), hz]
      have SLL : Hid ((slbV V j (plV V j n)).length = z) := by show _ = _; rw [slb_len HH.out HJ.out hnv, hz]
      have OLEN : Hid ((mkO V j n).length ≤ 256) := by show _ ≤ _; have := (mkO_placed HH.out HJ.out n (by omega)).2; omega
      have NZ : n * z ≤ 65536 := by
        calc n * z ≤ 16 * 4096 := Nat.mul_le_mul (by omega) z4
          _ = 65536 := by decide
      obtain ⟨BL, hBL⟩ : ∃ BL, (mkB V j n).length = BL := ⟨_, rfl⟩
      have HBL : Hid ((mkB V j n).length = BL) := hBL
      have BL6 : BL ≤ 65536 := by rw [← hBL, BLEN.out]; exact NZ
      obtain ⟨gb, ob, rfl⟩ : ∃ gb ob, ba = some ⟨gb, ob, none⟩ := by
        obtain ⟨_, hh | ⟨gb, ob, e, _⟩⟩ := hib
        · rw [hh] at BLN; simp at BLN; omega
        · exact ⟨gb, ob, e⟩
      have HIB : Hid (IsB E0 (some ⟨gb, ob, none⟩) V.bs) := hib
      clear hy hlb hlc hz sz yl PI hX hBL hib HYL
      go_wp2_with (go_at_call 22; refine (rat_in mb mg (slN c) p c s (fOf l) y _ (RF2.out.keep (FR.out wz HS.out.tg)) RT.out rfl YL.out).mono ?_; rw [HX.out]; rintro e w' ⟨rfl, q9, rfl⟩)
      clear hcell v0 v2 v3 v4 v5 d3
      go_loopw [53] (fun iv wy => ∃ (m : Nat) (oa' : Option Addr) (oc' : Nat), m ≤ rn ∧ iv = .int .i64 (m : Nat) ∧ MkS 42 E wy M p c s la2 l.length lc2 (bsO V (mkO V j n ++ dmO V (plV V j n) (BL : Int) m)) oa' oc' ya yc (mkO V j n ++ dmO V (plV V j n) (BL : Int) m) (mkB V j n)) (fun iv _ => rn - lenW iv)
      case atStart => exact ⟨0, oa, oc, Nat.zero_le _, rfl, by rw [dmO_zero, List.append_nil]; exact HS.out.drewN _⟩
      case round =>
        obtain ⟨m, oa', oc', hm, rfl, hS'⟩ := hrel
        rename World => wy
        have HS' : Hid (MkS 42 E wy M p c s la2 l.length lc2 (bsO V (mkO V j n ++ dmO V (plV V j n) (BL : Int) m)) oa' oc' ya yc (mkO V j n ++ dmO V (plV V j n) (BL : Int) m) (mkB V j n)) := hS'
        obtain ⟨v0, v2, v3, v4, v5, d3⟩ := CV.out _ (FE.out wy hS'.tg)
        clear hS'
        by_cases hml : m < rn
        · have hmr : m < V.rs.length := by rw [HRL.out]; exact hml
          obtain ⟨rb, ro, rfl, q0, q1, q2, q3⟩ := (HRV.out.keep (FE.out wy HS'.out.tg)).rs.at m hmr
          have m0 : (m : Int) < (rn : Int) := by omega
          obtain ⟨R, hR⟩ : ∃ R, rwD V.rs m = R := ⟨_, rfl⟩
          have HRR : Hid (rwD V.rs m = R) := hR
          rw [hR] at q0 q1 q2 q3
          obtain ⟨gen, lv, kdI, pl⟩ := R
          simp only at q0 q1 q2 q3
          obtain ⟨G, hG⟩ : ∃ G, wy.alloc (.cells #[.int .i64 gen, .bool lv, .int .i64 kdI, .int .i64 pl] 73) = G := ⟨_, rfl⟩
          have bG : Below wy.heap.size wy G := by rw [← hG]; exact (Below.refl _ wy).alloc (Nat.le_refl _) _
          have rG : G.heap[wy.heap.size]? = some (.cells #[.int .i64 gen, .bool lv, .int .i64 kdI, .int .i64 pl] 73 (0, 0)) := by rw [← hG]; exact Go.heap_alloc_new wy _
          have HG : Hid (wy.alloc (.cells #[.int .i64 gen, .bool lv, .int .i64 kdI, .int .i64 pl] 73) = G) := hG
          have SG : Hid (MkS 42 E G M p c s la2 l.length lc2 (bsO V (mkO V j n ++ dmO V (plV V j n) (BL : Int) m)) oa' oc' ya yc (mkO V j n ++ dmO V (plV V j n) (BL : Int) m) (mkB V j n)) := HS'.out.keep bG
          obtain ⟨ng, hng⟩ : ∃ ng, wy.heap.size = ng := ⟨_, rfl⟩
          rw [hng] at rG
          have HNG : Hid (wy.heap.size = ng) := hng
          have e1 : G.cell? ⟨ng, 1, none⟩ = some (.bool lv) := cell_of_row _ _ 1 _ _ _ rG
          have e2 : G.cell? ⟨ng, 2, none⟩ = some (.int .i64 kdI) := cell_of_row _ _ 2 _ _ _ rG
          have e3 : G.cell? ⟨ng, 3, none⟩ = some (.int .i64 pl) := cell_of_row _ _ 3 _ _ _ rG
          have SKIP : Hid (¬ (lv = true ∧ pl = (X : Int)) → MkS 42 E G M p c s la2 l.length lc2 (bsO V (mkO V j n ++ dmO V (plV V j n) (BL : Int) (m + 1))) oa' oc' ya yc (mkO V j n ++ dmO V (plV V j n) (BL : Int) (m + 1)) (mkB V j n)) := fun hh => by
            rw [dmO_skip (by rw [HRR.out, HXP.out]; exact hh)]
            exact SG.out
          have HIT : Hid (lv = true → pl = (X : Int) → psAt V (plV V j n) = psOf V m ∧ 0 ≤ kdI ∧ kdI < (V.ks.length : Int) ∧ (knD V.ks kdI.toNat).l = psOf V m ∧ dmO V (plV V j n) (BL : Int) m = [] ∧ dmO V (plV V j n) (BL : Int) (m + 1) = ofAt V (plV V j n) (BL : Int) (psOf V m)) := fun h1 h2 => by
            have l1 : (rwD V.rs m).live = true := by rw [HRR.out]; exact h1
            have l2 : (rwD V.rs m).pl = plV V j n := by rw [HRR.out, HXP.out]; exact h2
            obtain ⟨_, _, a1, a2, _⟩ := HH.out.live (by decide) m hmr l1
            obtain ⟨d1, d2⟩ := dmO_hit HH.out (n := (BL : Int)) hmr l1 l2
            refine ⟨ps_hit HH.out hmr l1 l2, ?_, ?_, ?_, d1, d2⟩
            · rw [HRR.out] at a1; exact a1
            · rw [HRR.out] at a2; exact a2
            · unfold psOf; rw [HRR.out]
          obtain ⟨w0', w2', w3', w4', w5', _⟩ := CV.out _ (FE.out G SG.out.tg)
          clear bG rG hR hng hG
          go_upto_region 11 with (fail)
          rw [HG.out]
          try rw [HNG.out]
          clear q0 q1 q2 q3 v0 v2 v3 v4 v5 d3
          cases lv with
          | false =>
            have NX := SKIP.out (by simp)
            have NXH := Hid.mk' NX
            clear NX
            go_wp2
            go_roundw
            case rel => exact ⟨m + 1, oa', oc', by omega, by congr 1, NXH.out⟩
            case measure => simp [lenW]; omega
          | true =>
            by_cases hp : pl = (X : Int)
            · subst hp
              have hpp : (((X : Nat) : Int) != (X : Int)) = false := by simp
              obtain ⟨i1, i2, i3, i4, i5, i6⟩ := HIT.out rfl rfl
              obtain ⟨kd, rfl⟩ : ∃ kd : Nat, kdI = (kd : Int) := ⟨kdI.toNat, by omega⟩
              rw [Int.toNat_natCast] at i4
              have kdl : kd < V.ks.length := by omega
              obtain ⟨gk, ok, pa, pc, eka, kc0, kc1, pI, pn, pm⟩ := HRV.out.ks kd kdl
              have eka : ka = some ⟨gk, ok, none⟩ := eka
              obtain ⟨ps, hps⟩ : ∃ ps, psOf V m = ps := ⟨_, rfl⟩
              rw [hps] at i1 i4 i6
              have HPS : Hid (psAt V (plV V j n) = ps) := i1
              have HDA : Hid (dmO V (plV V j n) (BL : Int) m = []) := i5
              have HDB : Hid (dmO V (plV V j n) (BL : Int) (m + 1) = ofAt V (plV V j n) (BL : Int) ps) := i6
              rw [show V.ks[kd] = knD V.ks kd from (knD_at kdl).symm, i4] at kc1 pI
              have PII : Hid (IsI E0 pa ps) := pI
              have kc2 := bcell (FE.out G SG.out.tg) kc1
              have kn1 : (kd : Int) < (kn : Int) := by omega
              have PL : Hid (ps.length ≤ 16) := by show _ ≤ _; rw [← HPS.out]; exact (psAt_in HH.out HJ.out HNV.out).2
              have ps16 : ps.length ≤ 16 := PL.out
              clear i1 i2 i3 i4 i5 i6 kc0 kc1 pI pn pm hps kdl
              subst eka
              go_wp2_with fail
              clear w0' w2' w3' w4' w5' kc2 e1 e2 e3 kn1 hpp
              go_loopw [74] (fun iv wx => ∃ (q : Nat) (oa2 : Option Addr) (oc2 : Nat), q ≤ ps.length ∧ iv = .int .i64 (q : Nat) ∧ MkS 42 E wx M p c s la2 l.length lc2 (bsO V (mkO V j n ++ ofAt V (plV V j n) (BL : Int) (ps.take q))) oa2 oc2 ya yc (mkO V j n ++ ofAt V (plV V j n) (BL : Int) (ps.take q)) (mkB V j n)) (fun iv _ => ps.length - lenW iv)
              case atStart => exact ⟨0, oa', oc', Nat.zero_le _, rfl, by have := SG.out; rw [HDA.out] at this; rw [List.take_zero, ofAt_none]; exact this⟩
              case round =>
                obtain ⟨q, oa2, oc2, hq, rfl, hS2⟩ := hrel
                rename World => wx
                have HS2 : Hid (MkS 42 E wx M p c s la2 l.length lc2 (bsO V (mkO V j n ++ ofAt V (plV V j n) (BL : Int) (ps.take q))) oa2 oc2 ya yc (mkO V j n ++ ofAt V (plV V j n) (BL : Int) (ps.take q)) (mkB V j n)) := hS2
                clear hS2
                by_cases hql : q < ps.length
                · have PF := ps_field HH.out HJ.out HNV.out (q := q) (by rw [HPS.out]; exact hql)
                  rw [HPS.out, SZ.out] at PF
                  obtain ⟨f, hf, fz⟩ := PF
                  have HF : Hid (ps.getD q 0 = (f : Int)) := hf
                  obtain ⟨_, h0 | ⟨pb, po, rfl, hpb, hpc⟩⟩ := PII.out.keep (FE.out wx HS2.out.tg)
                  · rw [h0] at hql; simp at hql
                  have pcell := hpc q hql
                  rw [hf] at pcell
                  have f1 : f + 8 ≤ z := by omega
                  obtain ⟨bg, hbg⟩ : ∃ bg : Nat, X + f = bg := ⟨_, rfl⟩
                  obtain ⟨en, hen⟩ : ∃ en : Nat, X + f + 8 = en := ⟨_, rfl⟩
                  have wb : IntKind.i64.wrap ((X : Int) + (f : Int)) = (bg : Int) := by rw [IntKind.wrap_i64]; omega
                  have we : IntKind.i64.wrap ((bg : Int) + 8) = (en : Int) := by rw [IntKind.wrap_i64]; omega
                  have SLB : ∀ w : World, (Instr.slice 25 (.slice (some ⟨gb, ob, none⟩) bn bc) (some (.int .i64 (bg : Int))) (some (.int .i64 (en : Int))) none).run Tryz.prog w = .ok (.slice (some ⟨gb, ob + bg, none⟩) 8 (bc - bg)) w := fun w => by
                    rw [sliceB_run w gb ob bn bc bg en (by omega) (by omega) (by omega), show en - bg = 8 by omega]
                  have IBY : IsB wx (some ⟨gb, ob, none⟩) V.bs := HIB.out.keep (FE.out wx HS2.out.tg)
                  have IBP : Hid (IsB wx (some ⟨gb, ob + bg, none⟩) ((V.bs.drop bg).take 8)) := IBY.cut bg 8 (by omega)
                  have LB8 : Hid (((V.bs.drop bg).take 8).length = 8) := by show _ = _; rw [List.length_take, List.length_drop]; omega
                  have YES : Hid (wordV V.bs (plV V j n + (f : Int)) ≠ 0 → ofAt V (plV V j n) (BL : Int) (ps.take (q + 1)) = ofAt V (plV V j n) (BL : Int) (ps.take q) ++ [(BL : Int) + (f : Int)]) := fun hne => by
                    rw [← HF.out] at hne ⊢
                    exact ofAt_yes hql hne
                  have NO : Hid (wordV V.bs (plV V j n + (f : Int)) = 0 → ofAt V (plV V j n) (BL : Int) (ps.take (q + 1)) = ofAt V (plV V j n) (BL : Int) (ps.take q)) := fun hne => by
                    rw [← HF.out] at hne
                    exact ofAt_no hql hne
                  obtain ⟨v, hv⟩ : ∃ v, wordV V.bs (plV V j n + (f : Int)) = v := ⟨_, rfl⟩
                  rw [hv] at YES NO
                  have RG := rget_any (some ⟨gb, ob + bg, none⟩) (bc - bg) ((V.bs.drop bg).take 8) wx IBP.out (by rw [LB8.out]; unfold maxLen; omega)
                  have GV : getL (((V.bs.drop bg).take 8).take 8) = v := by
                    rw [List.take_take, Nat.min_self, ← hv, HXP.out]
                    unfold wordV
                    rw [show ((X : Int) + (f : Int)).toNat = bg by omega]
                  rw [LB8.out, GV] at RG
                  have HRG : Hid (Calls Tryz.prog 37 #[.slice (some ⟨gb, ob + bg, none⟩) 8 (bc - bg)] wx fun e w' => e = .returned (.int .u64 v) ∧ wx = w') := RG
                  have q1 : (q : Int) < (ps.length : Int) := by omega
                  obtain ⟨v0, v2, v3, v4, v5, d3⟩ := CV.out _ (FE.out wx HS2.out.tg)
                  clear RG GV hv IBY hpc hpb hf hen hbg
                  by_cases h0 : v = 0
                  · subst h0
                    have NX : Hid (MkS 42 E wx M p c s la2 l.length lc2 (bsO V (mkO V j n ++ ofAt V (plV V j n) (BL : Int) (ps.take (q + 1)))) oa2 oc2 ya yc (mkO V j n ++ ofAt V (plV V j n) (BL : Int) (ps.take (q + 1))) (mkB V j n)) := by show MkS _ _ _ _ _ _ _ _ _ _ _ _ _ _ _ _ _; rw [NO.out rfl]; exact HS2.out
                    go_wp2_with (go_at_call 37; refine HRG.out.mono ?_; rintro e w' ⟨rfl, rfl⟩)
                    go_roundw
                    case rel => exact ⟨q + 1, oa2, oc2, by omega, by congr 1, NX.out⟩
                    case measure => simp [lenW]; omega
                  · have hne : (v != 0) = true := bne_iff_ne.2 h0
                    have YS := YES.out h0
                    have ADD := HS2.out.addO ((BL : Int) + (f : Int)) (by omega) (by
                      rw [List.length_append]
                      have : (ofAt V (plV V j n) (BL : Int) (ps.take q)).length ≤ ps.length := by
                        unfold ofAt
                        rw [List.length_map]
                        exact Nat.le_trans (List.length_filter_le _ _) (by rw [List.length_take]; omega)
                      have := OLEN.out
                      omega)
                    have ROW := HS2.out.row
                    rw [HBL.out] at ADD ROW
                    rw [List.append_assoc, ← YS] at ADD
                    obtain ⟨BS, hBS⟩ : ∃ BS, bsO V (mkO V j n ++ ofAt V (plV V j n) (BL : Int) (ps.take q)) = BS := ⟨_, rfl⟩
                    rw [hBS] at ADD ROW
                    have NB : bsO V (mkO V j n ++ ofAt V (plV V j n) (BL : Int) (ps.take (q + 1))) = V.base := by rw [YS, ← List.append_assoc]; exact bsO_more V _ _
                    obtain ⟨OL, hOL⟩ : ∃ OL, (mkO V j n ++ ofAt V (plV V j n) (BL : Int) (ps.take q)).length = OL := ⟨_, rfl⟩
                    rw [hOL] at ADD ROW
                    obtain ⟨a', c', w5, hrun, r2, nx⟩ := ADD
                    have RUN : Hid ((Builtin.append_ #[31, 31] 31 #[.slice oa2 OL oc2, .slice (some ⟨wx.heap.size, 0, none⟩) 1 1]).run Tryz.prog (wx.alloc (.cells #[.int .i64 ((BL : Int) + (f : Int))] 3)) = .ok (.slice a' (OL + 1) c') w5) := hrun
                    have NX : Hid (MkS 42 E ((w5.setCell ⟨M, 5, none⟩ (.slice a' (OL + 1) c')).setCell ⟨M, 4, none⟩ (.int .i64 V.base)) M p c s la2 l.length lc2 (bsO V (mkO V j n ++ ofAt V (plV V j n) (BL : Int) (ps.take (q + 1)))) a' c' ya yc (mkO V j n ++ ofAt V (plV V j n) (BL : Int) (ps.take (q + 1))) (mkB V j n)) := by show MkS _ _ _ _ _ _ _ _ _ _ _ _ _ _ _ _ _; rw [NB]; exact nx.setBs V.base
                    have wr : IntKind.i64.wrap ((BL : Int) + (f : Int)) = (BL : Int) + (f : Int) := by rw [IntKind.wrap_i64]; omega
                    obtain ⟨m0, m1, m2, m3, m4, m5, m6⟩ := icell ROW
                    have fg5 := ithawed r2 5
                    have m5' := (icell r2).c5
                    have nM : w.heap.size ≠ M := by have := HM.out; have := B2.out.size; have := ZE.out; omega
                    have nM' : M ≠ w.heap.size := fun e => nM e.symm
                    have fg4 := ithawed r2 4
                    have m4' := (icell r2).c4
                    have x0 : w5.cell? ⟨w.heap.size, 0, none⟩ = some (.int .i64 V.base) := by
                      rw [← (Only.set M 5 (.slice a' (OL + 1) c') w5).cell (p := ⟨w.heap.size, 0, none⟩) nM]
                      exact (CV.out _ (FE.out _ nx.tg)).1
                    clear hrun nx hOL YS ROW r2 NB hBS
                    go_wp2_with (first
                      | (go_at_call 37; refine HRG.out.mono ?_; rintro e w' ⟨rfl, rfl⟩)
                      | (at_builtin; refine wpList_runi rfl rfl _ _ rfl (.slice oa2 OL oc2) (.slice (some ⟨wx.heap.size, 0, none⟩) 1 1) _ _ rfl rfl RUN.out ?_))
                    go_roundw
                    case rel => exact ⟨q + 1, a', c', by omega, by congr 1, NX.out⟩
                    case measure => simp [lenW]; omega
                · have q1 : ¬ (q : Int) < (ps.length : Int) := by omega
                  have NX : Hid (MkS 42 E wx M p c s la2 l.length lc2 (bsO V (mkO V j n ++ dmO V (plV V j n) (BL : Int) (m + 1))) oa2 oc2 ya yc (mkO V j n ++ dmO V (plV V j n) (BL : Int) (m + 1)) (mkB V j n)) := by
                    have := HS2.out
                    rw [List.take_of_length_le (by omega), ← HDB.out] at this
                    exact this
                  go_wp2
                  go_roundw
                  case rel => exact ⟨m + 1, oa2, oc2, by omega, by congr 1, NX.out⟩
                  case measure => simp [lenW]; omega
            · have hpp : (pl != (X : Int)) = true := bne_iff_ne.2 hp
              have NX := SKIP.out (fun h => hp h.2)
              have NXH := Hid.mk' NX
              clear NX
              go_wp2
              go_roundw
              case rel => exact ⟨m + 1, oa', oc', by omega, by congr 1, NXH.out⟩
              case measure => simp [lenW]; omega
        · have m1 : ¬ (m : Int) < (rn : Int) := by omega
          have em : m = V.rs.length := by have := HRL.out; omega
          have HF : MkS 42 E wy M p c s la2 l.length lc2 (bsO V (mkO V j (n + 1))) oa' oc' ya yc (mkO V j (n + 1)) (mkB V j n) := by
            have := HS'.out
            rw [em, dmO_end] at this
            rw [show mkO V j (n + 1) = mkO V j n ++ ofAt V (plV V j n) (BL : Int) (psAt V (plV V j n)) by rw [← HBL.out]; rfl]
            exact this
          have SFN : Hid (∃ a' c' w5, (Builtin.append_ #[25, 25] 25 #[.slice ya BL yc, .slice (some ⟨gb, ob + X, none⟩) z (bc - X)]).run Tryz.prog wy.drew = .ok (.slice a' (mkB V j n ++ slbV V j (plV V j n)).length c') w5 ∧ w5.heap[M]? = some (.cells (icells p c s la2 l.length lc2 (bsO V (mkO V j (n + 1))) oa' (mkO V j (n + 1)).length oc' ya BL yc) 42 (0, 0)) ∧ Tg M E w5 ∧ MkS 42 E (w5.setCell ⟨M, 6, none⟩ (.slice a' (mkB V j n ++ slbV V j (plV V j n)).length c')) M p c s la2 l.length lc2 (bsO V (mkO V j (n + 1))) oa' oc' a' c' (mkO V j (n + 1)) (mkB V j (n + 1))) := by
            have HFd : MkS 42 E wy.drew M p c s la2 l.length lc2 (bsO V (mkO V j (n + 1))) oa' oc' ya yc (mkO V j (n + 1)) (mkB V j n) := ⟨HF.row, HF.oo, HF.ob, HF.tg.drew, HF.hM⟩
            have IBX : IsB wy.drew (some ⟨gb, ob + X, none⟩) (slbV V j (plV V j n)) := by
              have q := ((HIB.out.keep (FE.out _ HFd.tg))).cut X z (by omega)
              unfold slbV
              rw [HXP.out, Int.toNat_natCast, show (szT V j).toNat = z by have := SZ.out; omega]
              exact q
            obtain ⟨a', c', w5, hrun, r5, nx⟩ := HFd.addB ⟨gb, ob + X, none⟩ (slbV V j (plV V j n)) z (bc - X) SLL.out IBX (by rw [SLL.out, BLEN.out]; omega)
            rw [HBL.out] at hrun r5
            have on : Only M w5 (w5.setCell ⟨M, 6, none⟩ (.slice a' (mkB V j n ++ slbV V j (plV V j n)).length c')) := Only.set M 6 _ w5
            exact ⟨a', c', w5, hrun, r5, ⟨on.os.symm.trans nx.tg.os, on.tape.symm.trans nx.tg.tape, on.output.symm.trans nx.tg.output, by have := nx.tg.size; have := on.size; omega, fun i hi hne => by rw [← on.block i hne]; exact nx.tg.block i hi hne⟩, nx⟩
          obtain ⟨a', c', w5, hrun, r5, t5, nx⟩ := SFN.out
          obtain ⟨NL, hNL⟩ : ∃ NL, (mkB V j n ++ slbV V j (plV V j n)).length = NL := ⟨_, rfl⟩
          rw [hNL] at hrun nx
          obtain ⟨Y0, hY0⟩ : ∃ Y0, wy.drew = Y0 := ⟨_, rfl⟩
          rw [hY0] at hrun
          have HY0 : Hid (wy.drew = Y0) := hY0
          have RUN : Hid ((Builtin.append_ #[25, 25] 25 #[.slice ya BL yc, .slice (some ⟨gb, ob + X, none⟩) z (bc - X)]).run Tryz.prog Y0 = .ok (.slice a' NL c') w5) := hrun
          have NX : Hid (MkS 42 E (w5.setCell ⟨M, 6, none⟩ (.slice a' NL c')) M p c s la2 l.length lc2 (bsO V (mkO V j (n + 1))) oa' oc' a' c' (mkO V j (n + 1)) (mkB V j (n + 1))) := nx
          have TY0 : Tg M E Y0 := by rw [← hY0]; exact HF.tg.drew
          have V5 : Hid (Y0.cell? ⟨w.heap.size, 5, none⟩ = some (.slice (some ⟨gb, ob, none⟩) bn bc)) := (CV.out _ (FE.out _ TY0)).2.2.2.2.1
          have V5b : Hid (w5.cell? ⟨w.heap.size, 5, none⟩ = some (.slice (some ⟨gb, ob, none⟩) bn bc)) := (CV.out _ (FE.out _ t5)).2.2.2.2.1
          have V5c : Hid ((w5.setCell ⟨M, 6, none⟩ (.slice a' NL c')).cell? ⟨w.heap.size, 5, none⟩ = some (.slice (some ⟨gb, ob, none⟩) bn bc)) := (CV.out _ (FE.out _ nx.tg)).2.2.2.2.1
          have RFY : Hid (Ref Y0 mb mg p c s (slN c) (fOf l)) := RF2.out.keep (FR.out _ TY0)
          have RY : Y0.heap[M]? = some (.cells (icells p c s la2 l.length lc2 (bsO V (mkO V j (n + 1))) oa' (mkO V j (n + 1)).length oc' ya BL yc) 42 (0, 0)) := by rw [← hY0, ← HBL.out]; exact HF.row
          have m6 := (icell RY).c6
          have fg6 := ithawed r5 6
          have m6' := (icell r5).c6
          obtain ⟨en, hen⟩ : ∃ en : Nat, X + z = en := ⟨_, rfl⟩
          have wz1 : IntKind.i64.wrap ((X : Int) + (z : Int)) = (en : Int) := by rw [IntKind.wrap_i64]; omega
          have SLB : ∀ w : World, (Instr.slice 25 (.slice (some ⟨gb, ob, none⟩) bn bc) (some (.int .i64 (X : Int))) (some (.int .i64 (en : Int))) none).run Tryz.prog w = .ok (.slice (some ⟨gb, ob + X, none⟩) z (bc - X)) w := fun w => by
            rw [sliceB_run w gb ob bn bc X en (by omega) (by omega) (by omega), show en - X = z by omega]
          clear hrun r5 t5 nx hNL hY0 TY0 RY HF em v0 v2 v3 v4 v5 d3 SFN hen
          go_wp2_with fail
          refine wp_region_held_drew (S := (fun wz => wz.cell? ⟨w.heap.size, 5, none⟩ = some (.slice (some ⟨gb, ob, none⟩) bn bc))) (by kernel_rfl) (by rw [HY0.out]; exact V5.out) (fun _ => ?_)
          rw [HY0.out]
          refine wpAnyH_take (i := 0) (oi := iif0) (v := .pointer (some ⟨M, 6, none⟩)) rfl (by kernel_rfl) (by kernel_rfl) (by kernel_rfl) (fun _ _ _ h => h) (.inl ⟨rfl, by intro wz hz; have hz := hz; unfold iif0; go_simp⟩) V5.out ?_
          simp only [iif0, Act.put, List.setIfInBounds_toArray, List.set_cons_succ, List.set_cons_zero]
          refine wpAnyH_take (i := 2) (oi := iif2) (v := .pointer (some ⟨w.heap.size, 5, none⟩)) rfl (by kernel_rfl) (by kernel_rfl) (by kernel_rfl) (fun _ _ _ h => h) (.inl ⟨rfl, by intro wz hz; have hz := hz; unfold iif2; go_simp⟩) V5.out ?_
          simp only [iif2, Act.put, List.setIfInBounds_toArray, List.set_cons_succ, List.set_cons_zero]
          refine wpAnyH_take (i := 3) (oi := iif3) (v := .slice (some ⟨gb, ob, none⟩) bn bc) rfl (by kernel_rfl) (by kernel_rfl) (by kernel_rfl) (fun _ _ _ h => h) (.inl ⟨rfl, by intro wz hz; have hz := hz; unfold iif3; go_simp⟩) V5.out ?_
          simp only [iif3, Act.put, List.setIfInBounds_toArray, List.set_cons_succ, List.set_cons_zero]
          refine wpAnyH_take (i := 4) (oi := iif4) (v := .int .i64 (X : Int)) rfl (by kernel_rfl) (by kernel_rfl) (by kernel_rfl) (fun _ _ _ h => h) (.inl ⟨rfl, by intro wz hz; have hz := hz; unfold iif4; go_simp⟩) V5.out ?_
          simp only [iif4, Act.put, List.setIfInBounds_toArray, List.set_cons_succ, List.set_cons_zero]
          refine wpAnyH_take (i := 5) (oi := iif5) (v := .int .i64 (X : Int)) rfl (by kernel_rfl) (by kernel_rfl) (by kernel_rfl) (fun _ _ _ h => h) (.inl ⟨rfl, by intro wz hz; have hz := hz; unfold iif5; go_simp⟩) V5.out ?_
          simp only [iif5, Act.put, List.setIfInBounds_toArray, List.set_cons_succ, List.set_cons_zero]
          refine wpAnyH_take (i := 6) (oi := iif6) (v := .pointer (some ⟨mb, 0, none⟩)) rfl (by kernel_rfl) (by kernel_rfl) (by kernel_rfl) (fun _ _ _ h => h) (.inl ⟨rfl, by intro wz hz; have hz := hz; unfold iif6; go_simp⟩) V5.out ?_
          simp only [iif6, Act.put, List.setIfInBounds_toArray, List.set_cons_succ, List.set_cons_zero]
          refine wpAnyH_ready (rs := [1, 7]) (by kernel_rfl) (by simp) ?_
          refine AllReadyH.cons (o := iif1) rfl (fun K hK => ?_) (AllReadyH.cons (o := iif7) rfl (fun K hK => ?_) AllReadyH.nil)
          · unfold iif1
            go_simp
            refine hK.out _ _ V5.out (fun _ => ?_)
            clear hK K
            try simp only [iif1, Act.put, List.setIfInBounds_toArray, List.set_cons_succ, List.set_cons_zero]
            refine wpAnyH_ready (rs := [7]) (by kernel_rfl) (by simp) ?_
            refine AllReadyH.cons (o := iif7) rfl (fun K hK => ?_) AllReadyH.nil
            unfold iif7
            go_simp
            refine (rsize_q mb mg (slN c) p c s (fOf l) (z : Int) Y0 RFY.out HSZ.out).mono ?_
            rintro e w' ⟨rfl, rfl⟩
            go_wp2_with fail
            refine hK.out _ _ V5.out (fun _ => ?_)
            clear hK K
            try simp only [iif7, Act.put, List.setIfInBounds_toArray, List.set_cons_succ, List.set_cons_zero]
            refine wpAnyH_take (i := 8) (oi := iif8) (v := .int .i64 (en : Int)) rfl (by kernel_rfl) (by kernel_rfl) (by kernel_rfl) (fun _ _ _ h => h) (.inl ⟨rfl, by intro wz hz; have hz := hz; unfold iif8; go_simp⟩) V5.out ?_
            simp only [iif8, Act.put, List.setIfInBounds_toArray, List.set_cons_succ, List.set_cons_zero]
            refine wpAnyH_take (i := 9) (oi := iif9) (v := .slice (some ⟨gb, ob + X, none⟩) z (bc - X)) rfl (by kernel_rfl) (by kernel_rfl) (by kernel_rfl) (fun _ _ _ h => h) (.inl ⟨rfl, by intro wz hz; have hz := hz; unfold iif9; go_simp⟩) V5.out ?_
            simp only [iif9, Act.put, List.setIfInBounds_toArray, List.set_cons_succ, List.set_cons_zero]
            refine wpAnyH_ready (rs := [10]) (by kernel_rfl) (by simp) ?_
            refine AllReadyH.cons (o := iif10) rfl (fun K hK => ?_) AllReadyH.nil
            refine step_app rfl _ _ 25 rfl (.slice ya BL yc) (.slice (some ⟨gb, ob + X, none⟩) z (bc - X)) rfl rfl _ _ RUN.out ?_
            refine hK.out _ _ V5b.out (fun _ => ?_)
            clear hK K
            try simp only [iif10, Act.put, List.setIfInBounds_toArray, List.set_cons_succ, List.set_cons_zero]
            refine wpAnyH_take (i := 11) (oi := iif11) (v := .pointer (some ⟨M, 6, none⟩)) rfl (by kernel_rfl) (by kernel_rfl) (by kernel_rfl) (fun _ _ _ h => h) (.inl ⟨rfl, by intro wz hz; have hz := hz; unfold iif11; go_simp⟩) V5b.out ?_
            simp only [iif11, Act.put, List.setIfInBounds_toArray, List.set_cons_succ, List.set_cons_zero]
            refine wpAnyH_ready (rs := [12]) (by kernel_rfl) (by simp) ?_
            refine AllReadyH.cons (o := iif12) rfl (fun K hK => ?_) AllReadyH.nil
            unfold iif12
            go_simp
            refine hK.out _ _ V5c.out (fun _ => ?_)
            clear hK K
            try simp only [iif12, Act.put, List.setIfInBounds_toArray, List.set_cons_succ, List.set_cons_zero]
            refine wpAnyH_done (by kernel_rfl) ?_ _
            go_wp2
            go_roundw
            case rel => exact ⟨n + 1, oa', oc', a', c', by omega, by congr 1, NX.out⟩
            case measure => simp [lenW]; omega
          · unfold iif7
            go_simp
            refine (rsize_q mb mg (slN c) p c s (fOf l) (z : Int) Y0 RFY.out HSZ.out).mono ?_
            rintro e w' ⟨rfl, rfl⟩
            go_wp2_with fail
            refine hK.out _ _ V5.out (fun _ => ?_)
            clear hK K
            try simp only [iif7, Act.put, List.setIfInBounds_toArray, List.set_cons_succ, List.set_cons_zero]
            refine wpAnyH_take (i := 8) (oi := iif8) (v := .int .i64 (en : Int)) rfl (by kernel_rfl) (by kernel_rfl) (by kernel_rfl) (fun _ _ _ h => h) (.inl ⟨rfl, by intro wz hz; have hz := hz; unfold iif8; go_simp⟩) V5.out ?_
            simp only [iif8, Act.put, List.setIfInBounds_toArray, List.set_cons_succ, List.set_cons_zero]
            refine wpAnyH_take (i := 9) (oi := iif9) (v := .slice (some ⟨gb, ob + X, none⟩) z (bc - X)) rfl (by kernel_rfl) (by kernel_rfl) (by kernel_rfl) (fun _ _ _ h => h) (.inl ⟨rfl, by intro wz hz; have hz := hz; unfold iif9; go_simp⟩) V5.out ?_
            simp only [iif9, Act.put, List.setIfInBounds_toArray, List.set_cons_succ, List.set_cons_zero]
            refine wpAnyH_ready (rs := [1]) (by kernel_rfl) (by simp) ?_
            refine AllReadyH.cons (o := iif1) rfl (fun K hK => ?_) AllReadyH.nil
            unfold iif1
            go_simp
            refine hK.out _ _ V5.out (fun _ => ?_)
            clear hK K
            try simp only [iif1, Act.put, List.setIfInBounds_toArray, List.set_cons_succ, List.set_cons_zero]
            refine wpAnyH_ready (rs := [10]) (by kernel_rfl) (by simp) ?_
            refine AllReadyH.cons (o := iif10) rfl (fun K hK => ?_) AllReadyH.nil
            refine step_app rfl _ _ 25 rfl (.slice ya BL yc) (.slice (some ⟨gb, ob + X, none⟩) z (bc - X)) rfl rfl _ _ RUN.out ?_
            refine hK.out _ _ V5b.out (fun _ => ?_)
            clear hK K
            try simp only [iif10, Act.put, List.setIfInBounds_toArray, List.set_cons_succ, List.set_cons_zero]
            refine wpAnyH_take (i := 11) (oi := iif11) (v := .pointer (some ⟨M, 6, none⟩)) rfl (by kernel_rfl) (by kernel_rfl) (by kernel_rfl) (fun _ _ _ h => h) (.inl ⟨rfl, by intro wz hz; have hz := hz; unfold iif11; go_simp⟩) V5b.out ?_
            simp only [iif11, Act.put, List.setIfInBounds_toArray, List.set_cons_succ, List.set_cons_zero]
            refine wpAnyH_ready (rs := [12]) (by kernel_rfl) (by simp) ?_
            refine AllReadyH.cons (o := iif12) rfl (fun K hK => ?_) AllReadyH.nil
            unfold iif12
            go_simp
            refine hK.out _ _ V5c.out (fun _ => ?_)
            clear hK K
            try simp only [iif12, Act.put, List.setIfInBounds_toArray, List.set_cons_succ, List.set_cons_zero]
            refine wpAnyH_done (by kernel_rfl) ?_ _
            go_wp2
            go_roundw
            case rel => exact ⟨n + 1, oa', oc', a', c', by omega, by congr 1, NX.out⟩
            case measure => simp [lenW]; omega
    · have en : n = lvN V j := by rw [LVN.out]; omega
      have n1 : ¬ (n : Int) < (l.length : Int) := by omega
      have HF : Hid (MkS 42 E wz M p c s la2 l.length lc2 (bsO V (mkO V j (lvN V j))) oa oc ya yc (mkO V j (lvN V j)) (mkB V j (lvN V j))) := by show MkS _ _ _ _ _ _ _ _ _ _ _ _ _ _ _ _ _; rw [← en]; exact HS.out
      have IOO : Hid (∀ x ∈ mkO V j (lvN V j), -9223372036854775808 ≤ x ∧ x ≤ 9223372036854775807) := mkO_int HH.out HJ.out _ (Nat.le_refl _)
      obtain ⟨OO, hOO⟩ : ∃ OO, mkO V j (lvN V j) = OO := ⟨_, rfl⟩
      obtain ⟨BB, hBB⟩ : ∃ BB, mkB V j (lvN V j) = BB := ⟨_, rfl⟩
      have MG : Hid (makeG V j = ⟨p, c, s, l, bsO V OO, OO, BB⟩) := by show _ = _; unfold makeG bsO; rw [hOO, hBB, HTD.out]
      rw [hOO] at HF IOO
      rw [hBB] at HF
      obtain ⟨BS, hBS⟩ : ∃ BS, bsO V OO = BS := ⟨_, rfl⟩
      rw [hBS] at HF MG
      clear hOO hBB en hBS v0 v2 v3 v4 v5 d3
      obtain ⟨m0, m1, m2, m3, m4, m5, m6⟩ := icell HF.out.row
      have RW : Hid (wz.heap[w.heap.size + 1]? = some (.cells (icells 0 0 0 none 0 0 0 none 0 0 none 0 0) 42 (0, 0))) := by show _ = _; rw [(FE.out _ HF.out.tg).block _ (row_lt RR.out)]; exact RR.out
      obtain ⟨r0, r1, r2, r3, r4, r5, r6⟩ := icell RW.out
      have fr0 := ithawed RW.out 0
      have fr1 := ithawed RW.out 1
      have fr2 := ithawed RW.out 2
      have fr3 := ithawed RW.out 3
      have fr4 := ithawed RW.out 4
      have fr5 := ithawed RW.out 5
      have fr6 := ithawed RW.out 6
      have on := lay7_only wz (w.heap.size + 1) (.int .i64 p) (.int .i64 c) (.int .i64 s) (.slice la2 l.length lc2) (.int .i64 BS) (.slice oa OO.length oc) (.slice ya BB.length yc)
      obtain ⟨LW, hLW⟩ : ∃ LW, lay7 wz (w.heap.size + 1) (.int .i64 p) (.int .i64 c) (.int .i64 s) (.slice la2 l.length lc2) (.int .i64 BS) (.slice oa OO.length oc) (.slice ya BB.length yc) = LW := ⟨_, rfl⟩
      have rL : LW.heap[w.heap.size + 1]? = some (.cells (icells p c s la2 l.length lc2 (BS) oa OO.length oc ya BB.length yc) 42 (0, 0)) := by rw [← hLW]; exact lay7_row RW.out
      have LV : Hid (LW = (((((((wz.setCell ⟨w.heap.size + 1, 0, none⟩ (.int .i64 p)).setCell ⟨w.heap.size + 1, 1, none⟩ (.int .i64 c)).setCell ⟨w.heap.size + 1, 2, none⟩ (.int .i64 s)).setCell ⟨w.heap.size + 1, 3, none⟩ (.slice la2 l.length lc2)).setCell ⟨w.heap.size + 1, 4, none⟩ (.int .i64 BS)).setCell ⟨w.heap.size + 1, 5, none⟩ (.slice oa OO.length oc)).setCell ⟨w.heap.size + 1, 6, none⟩ (.slice ya BB.length yc))) := by show _ = _; rw [← hLW]; rfl
      rw [hLW] at on
      obtain ⟨u0, u1, u2, u3, u4, u5, u6⟩ := icell rL
      have NE : w.heap.size + 1 < E0.heap.size := by have := ZE.out; omega
      have EE : E0.heap.size ≤ E.heap.size := Nat.le_trans B2.out.size B2E.out.size
      have PO : Hid (ImgP w ⟨p, c, s, l, BS, OO, BB⟩ (.returned (.agg #[.int .i64 p, .int .i64 c, .int .i64 s, .slice la2 l.length lc2, .int .i64 BS, .slice oa OO.length oc, .slice ya BB.length yc])) LW) := ⟨la2, lc2, oa, oc, ya, yc, rfl, (I2.out.keep (FR.out _ HF.out.tg)).tgG (Tg.ofOnly on) (fun ad e => by have := LG2.out ad e; omega), ownsI_isI IOO.out (ownsI_onlyM HF.out.oo on (by omega)), OwnsB.mono (ownsB_onlyM HF.out.ob on (by omega)) (by have := BE.out.size; omega), (fun ad e => by have := LG2.out ad e; have := BE.out.size; omega), (fun ad e => by have := ownsI_ge HF.out.oo ad e; have := BE.out.size; omega), (BE.out.trans ((FE.out _ HF.out.tg).mono BE.out.size)).trans (on.below (show w.heap.size ≤ w.heap.size + 1 by omega))⟩
      clear on hLW rL NE EE
      go_wp2
      rw [← LV.out]
      refine bodyPost_ret (v := .agg #[.int .i64 p, .int .i64 c, .int .i64 s, .slice la2 l.length lc2, .int .i64 BS, .slice oa OO.length oc, .slice ya BB.length yc]) (by simp [results, Tryz.results12, go_sem, u0, u1, u2, u3, u4, u5, u6]) rfl ?_
      rw [MG.out]
      exact PO.out
end Go.Proofs.YtbfamjnnlcopiaaGreatDoor
