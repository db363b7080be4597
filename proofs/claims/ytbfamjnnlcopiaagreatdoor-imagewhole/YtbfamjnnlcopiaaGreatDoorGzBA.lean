/- Layer 17: Live of the document: which bytes lie in live slots. -/
import Derived.Test.YtbfamjnnlcopiaaGreatDoorGzAZ
import Derived.Test.YtbfamjnnlcopiaaGreatDoorGzAP
import Derived.Test.YtbfamjnnlcopiaaGreatDoorGzAQ
import Derived.Deep.RegionLaw
namespace Go.Proofs.YtbfamjnnlcopiaaGreatDoor
open Go.RowKit
set_option linter.unusedVariables false
set_option maxRecDepth 4000

/-- Truths in a block. -/
def RowT (w : World) (g : Nat) (f : Nat → Bool) (n : Nat) : Prop := w.heap[g]? = some (.cells (cellsT f n).toArray 4 (0, 0))
theorem RowT.lt {w : World} {g n : Nat} {f : Nat → Bool} (h : RowT w g f n) : g < w.heap.size := (Array.getElem?_eq_some_iff.1 h).1
theorem RowT.keep {w w' : World} {g n : Nat} {f : Nat → Bool} (h : RowT w g f n) (b : Below w.heap.size w w') : RowT w' g f n := by
  unfold RowT; rw [b.block g h.lt]; exact h
theorem RowT.at {w : World} {g n : Nat} {f : Nat → Bool} (h : RowT w g f n) (i : Nat) (hi : i < n) : w.cell? ⟨g, i, none⟩ = some (.bool (f i)) := by
  rw [cell_of_row _ _ i _ _ _ h]; simpa using cellsT_at f n i hi
theorem RowT.set {w : World} {g n : Nat} {f : Nat → Bool} (h : RowT w g f n) (i : Nat) : RowT (w.setCell ⟨g, i, none⟩ (.bool true)) g (fun k => f k || decide (k = i)) n := by
  have h1 := heap_setCell_same w g i _ _ (.bool true) h
  show (World.setCell _ _ _).heap[g]? = _
  rw [h1]
  congr 2
  apply Array.ext'
  simp only [Array.toList_setIfInBounds]
  apply List.ext_getElem
  · simp [cellsT]
  · intro k h1 h2
    simp only [cellsT, List.getElem_set, List.getElem_map, List.getElem_range]
    by_cases e : i = k
    · simp [e]
    · rw [if_neg e]
      have : decide (k = i) = false := decide_eq_false (fun q => e q.symm)
      rw [this, Bool.or_false]
theorem Ref.tg {w w' : World} {g mb mg n : Nat} {p c s : Int} {f : Nat → Bool} (h : Ref w mb mg p c s n f) (t : Tg g w w') (h1 : mb ≠ g) (h2 : mg ≠ g) : Ref w' mb mg p c s n f :=
  ⟨by rw [t.block mb h.lt.1 h1]; exact h.box, by rw [t.block mg h.lt.2 h2]; exact h.row⟩
theorem rowT_fun {w : World} {g n : Nat} {f f' : Nat → Bool} (h : RowT w g f n) (e : ∀ k, f k = f' k) : RowT w g f' n := by
  have : f = f' := funext e
  rw [← this]; exact h

set_option maxRecDepth 20000 in
set_option maxHeartbeats 8000000 in
theorem dlive_any (V : Vw) (A : Va) (w : World) (h : Rv w V A) (hH : Hold V 7) :
    Calls Tryz.prog 41 #[.agg #[.int .i64 V.base, .int .i64 V.pgs, .slice A.ka A.kn A.kc, .slice A.ra A.rn A.rc, .slice A.sa A.sn A.sc, .slice A.ba A.bn A.bc]] w fun e w' => ∃ g, e = .returned (.slice (some ⟨g, 0, none⟩) V.bs.length V.bs.length) ∧ RowT w' g (lvT V V.ts.length) V.bs.length ∧ w.heap.size ≤ g ∧ Below w.heap.size w w' := by
  obtain ⟨ka, ra, sa, ba, kn, rn, sn, bn, kc, rc, sc, bc⟩ := A
  obtain ⟨D1, hD1, bD1, rD1⟩ := vbox w V ⟨ka, ra, sa, ba, kn, rn, sn, bn, kc, rc, sc, bc⟩
  simp only at hD1 rD1
  have HD1 : Hid (w.alloc (.cells #[.int .i64 V.base, .int .i64 V.pgs, .slice ka kn kc, .slice ra rn rc, .slice sa sn sc, .slice ba bn bc] 27) = D1) := hD1
  have BD : Hid (Below w.heap.size w D1) := bD1
  have HRV : Hid (Rv D1 V ⟨ka, ra, sa, ba, kn, rn, sn, bn, kc, rc, sc, bc⟩) := h.keep bD1
  have SNL : Hid (V.ts.length = sn) := h.sl
  have BLN : Hid (V.bs.length = bn) := h.bl
  have b16 : bn ≤ 16384 := by have := h.bz; have := h.bl; simp only at this; omega
  have t64 : sn ≤ 64 := by have := h.tz; have := h.sl; simp only at this; omega
  have HH : Hid (Hold V 7) := hH
  have c4 : D1.cell? ⟨w.heap.size, 4, none⟩ = some (.slice sa sn sc) := cell_of_row _ _ 4 _ _ _ rD1
  have c5 : D1.cell? ⟨w.heap.size, 5, none⟩ = some (.slice ba bn bc) := cell_of_row _ _ 5 _ _ _ rD1
  have MK : ∀ w : World, (Instr.makeSlice 81 (.int .i64 (bn : Nat)) (.int .i64 (bn : Nat))).run Tryz.prog w = .ok (.slice (some ⟨w.heap.size, 0, none⟩) bn bn) (w.alloc (.cells (cellsT (fun _ => false) bn).toArray 4)) := fun w => make_T w bn (by omega)
  obtain ⟨E, hE⟩ : ∃ E, D1.alloc (.cells (cellsT (fun _ => false) bn).toArray 4) = E := ⟨_, rfl⟩
  have HE : Hid (D1.alloc (.cells (cellsT (fun _ => false) bn).toArray 4) = E) := hE
  have bE : Below D1.heap.size D1 E := by rw [← hE]; exact (Below.refl _ D1).alloc (Nat.le_refl _) _
  have d4 : E.cell? ⟨w.heap.size, 4, none⟩ = some (.slice sa sn sc) := bcell bE c4
  obtain ⟨g, hg⟩ : ∃ g, D1.heap.size = g := ⟨_, rfl⟩
  have HG : Hid (D1.heap.size = g) := hg
  have R0 : Hid (RowT E g (lvT V 0) bn) := by
    show E.heap[g]? = _
    rw [← hE, ← hg, Go.heap_alloc_new D1 _]
    rfl
  have BE : Hid (Below D1.heap.size D1 E) := bE
  have FE : Hid (∀ wz, Tg g E wz → Below D1.heap.size D1 wz) := fun wz t => BE.out.trans (t.below (by rw [HG.out]; exact Nat.le_refl _) BE.out.size)
  have WG : Hid (w.heap.size ≤ g) := by show _ ≤ _; rw [← hg]; exact bD1.size
  clear h hH hD1 bD1 rD1 hE bE hg
  go_enter Tryz.func41, Tryz.ntmps41
  go_upto_region 1 with (fail)
  rw [HD1.out]
  go_upto_region 2 with (fail)
  rw [HE.out]
  try rw [HG.out]
  go_wp2_with fail
  go_loopw [20] (fun iv wz => ∃ k : Nat, k ≤ sn ∧ iv = .int .i64 (k : Nat) ∧ RowT wz g (lvT V k) bn ∧ Tg g E wz) (fun iv _ => sn - lenW iv)
  case atStart => exact ⟨0, Nat.zero_le _, rfl, R0.out, Tg.refl _ _⟩
  case round =>
    clear R0 d4 c4 c5
    obtain ⟨k, hk, rfl, hR, hTg⟩ := hrel
    rename World => wz
    have RZ : Hid (RowT wz g (lvT V k) bn) := hR
    have TZ : Hid (Tg g E wz) := hTg
    clear hR hTg
    by_cases hkn : k < sn
    · have hkl : k < V.ts.length := by rw [SNL.out]; exact hkn
      have HKL : Hid (k < V.ts.length) := hkl
      have k0 : (k : Int) < (sn : Int) := by omega
      obtain ⟨hr, _⟩ := HH.out.right (by decide) k hkl
      obtain ⟨gs, os, la, lc, esa, s0, s1, s2, s3, sI, sm⟩ := (HRV.out.keep (FE.out wz TZ.out)).ts k hkl
      have esa : sa = some ⟨gs, os, none⟩ := esa
      subst esa
      have e0 : V.ts[k]'hkl = tdD V.ts k := (tdD_at hkl).symm
      rw [e0] at s0 s1 s2 s3 sI sm
      obtain ⟨td, htd⟩ : ∃ td, tdD V.ts k = td := ⟨_, rfl⟩
      rw [htd] at s0 s1 s2 s3 sI sm hr
      obtain ⟨p, c, s, l⟩ := td
      simp only at s0 s1 s2 s3 sI sm
      have HTD : Hid (tdD V.ts k = ⟨p, c, s, l⟩) := htd
      have RT : Hid (Rt p c s) := newE_rt hr.1
      have HNE : Hid (newE p c s = 0 ∧ okL (slN c) (-1) l = true) := hr
      have l16 : l.length ≤ 16 := by
        have q1 : l.length ≤ slN c := live_le hr.2
        have q2 : slN c ≤ 16 := (newE_rt hr.1).facts.2.1
        omega
      have HLM : Hid (l.length ≤ maxLen) := by show _ ≤ _; unfold maxLen; omega
      have LVN : Hid (lvN V k = l.length) := by show (tdD V.ts k).l.length = _; rw [HTD.out]
      obtain ⟨z, hz⟩ : ∃ z : Nat, (szT V k).toNat = z := ⟨_, rfl⟩
      have z0 : 0 ≤ szT V k := by
        have rt : Rt p c s := newE_rt hr.1
        obtain ⟨f1, f2, f3, f4, f5, f6, f7, f8, f9, f10, f11⟩ := rt.facts
        unfold szT
        rw [HTD.out]
        show 0 ≤ szI c s
        omega
      have SZ : Hid (szT V k = (z : Int)) := by show _ = _; omega
      have HSZ : Hid (szI c s = (z : Int)) := by have := SZ.out; unfold szT at this; rw [HTD.out] at this; exact this
      obtain ⟨D, hD, zD, rD, bD⟩ := dbox wz p c s la l.length lc
      have HD : Hid (wz.alloc (.cells #[.int .i64 p, .int .i64 c, .int .i64 s, .slice la l.length lc] 33) = D) := hD
      have BZ : Hid (Below wz.heap.size wz D) := bD
      have ID : Hid (IsI D la l) := sI.keep bD
      have LAG : Hid (l = [] ∨ ∀ ad, la = some ad → ad.block ≠ g) := by
        obtain ⟨gs', os', la', lc', esa', s0', s1', s2', s3', sI', sm'⟩ := HRV.out.ts k hkl
        rw [show V.ts[k]'hkl = tdD V.ts k from (tdD_at hkl).symm, HTD.out] at s3' sI'
        have esa' : (some ⟨gs, os, none⟩ : Option Addr) = some ⟨gs', os', none⟩ := esa'
        cases esa'
        have q := bcell (FE.out wz TZ.out) s3'
        rw [q] at s3
        cases s3
        obtain ⟨_, q1 | ⟨b, o, e, q2, _⟩⟩ := sI'
        · exact .inl q1
        · refine .inr fun ad e' => ?_
          rw [e] at e'
          cases e'
          have := HG.out
          show b ≠ g
          omega
      obtain ⟨ng, hng⟩ : ∃ ng, wz.heap.size = ng := ⟨_, rfl⟩
      rw [hng] at rD
      have HNG : Hid (wz.heap.size = ng) := hng
      have e0' := dcell0 rD
      have e1 := dcell1 rD
      have e2 := dcell2 rD
      have e3 := dcell3 rD
      have RD3 : Hid (D.cell? ⟨ng, 3, none⟩ = some (.slice la l.length lc)) := e3
      clear hD zD bD rD hng hr htd e0 sI sm hz z0
      go_upto_region 5 with (fail)
      rw [HD.out]
      try rw [HNG.out]
      clear s0 s1 s2 s3
      go_wp2_with fail
      refine (rof_any p c s la lc l (slN c) true D ID.out HLM.out HNE.out.1 rfl HNE.out.2).mono ?_
      rintro e w1 ⟨b1, ⟨hf, _⟩ | ⟨_, mb, mg, rfl, rf, g1, g2⟩⟩
      · cases hf
      have RF : Hid (Ref w1 mb mg p c s (slN c) (fOf l)) := rf
      have BZ1 : Hid (Below wz.heap.size wz w1) := BZ.out.trans (b1.mono BZ.out.size)
      have NG : Hid (mb ≠ g ∧ mg ≠ g) := by
        have q1 := RZ.out.lt
        have q2 := BZ.out.size
        show _ ∧ _
        omega
      have R1 : Hid (RowT w1 g (lvU V k 0) bn) := by show RowT _ _ _ _; rw [lvU_zero]; exact RZ.out.keep BZ1.out
      have T1 : Hid (Tg g E w1) := TZ.out.trans (Tg.ofBelow BZ1.out)
      have I1 : Hid (IsI w1 la l) := ID.out.keep b1
      have e3' := bcell b1 RD3.out
      clear b1 rf g1 g2 e0' e1 e2 e3
      go_wp2_with fail
      clear e3'
      go_loopw [32] (fun iv wy => ∃ n : Nat, n ≤ l.length ∧ iv = .int .i64 (n : Nat) ∧ RowT wy g (lvU V k n) bn ∧ Tg g w1 wy) (fun iv _ => l.length - lenW iv)
      case atStart => exact ⟨0, Nat.zero_le _, rfl, R1.out, Tg.refl _ _⟩
      case round =>
        clear R1
        obtain ⟨n, hn, rfl, hR, hTg⟩ := hrel
        rename World => wy
        have RY : Hid (RowT wy g (lvU V k n) bn) := hR
        have TY : Hid (Tg g w1 wy) := hTg
        clear hR hTg
        by_cases hlt : n < l.length
        · have hnv : n < lvN V k := by rw [LVN.out]; exact hlt
          have PI := plV_in HH.out HKL.out hnv
          obtain ⟨y, hy, yl⟩ := lv_slot HH.out HKL.out hnv
          have HYL : l.getD n 0 = (y : Int) := by have := hy; rw [HTD.out] at this; exact this
          have YL : Hid (y < slN c) := by have := yl; rw [HTD.out] at this; exact this
          obtain ⟨X, hX⟩ : ∃ X : Nat, plV V k n = (X : Int) := ⟨(plV V k n).toNat, by omega⟩
          have HX : Hid (256 * p + (y : Int) * szI c s = (X : Int)) := by
            show _ = _
            rw [← hX]
            unfold plV atS
            rw [hy, HTD.out]
          have HXP : Hid (plV V k n = (X : Int)) := hX
          have xz : X + z ≤ bn := by have := PI.2.1; rw [hX, SZ.out, BLN.out] at this; omega
          obtain ⟨_, h0 | ⟨lb, lo, rfl, hlb, hlc⟩⟩ := I1.out
          · rw [h0] at hlt; simp at hlt
          have hcell : wy.cell? ⟨lb, lo + n, none⟩ = some (.int .i64 (y : Int)) := by
            rcases LAG.out with q | q
            · rw [q] at hlt; simp at hlt
            · have q1 := hlc n hlt
              rw [HYL] at q1
              rw [World.cell?_of_block (TY.out.block lb hlb (q _ rfl))]
              exact q1
          have n0 : (n : Int) < (l.length : Int) := by omega
          clear hy hlb hlc yl PI hX HYL
          go_wp2_with (go_at_call 22; refine (rat_in mb mg (slN c) p c s (fOf l) y _ (RF.out.tg TY.out NG.out.1 NG.out.2) RT.out rfl YL.out).mono ?_; rw [HX.out]; rintro e w' ⟨rfl, q9, rfl⟩)
          clear hcell
          go_loopw [12] (fun iv wx => ∃ i : Nat, X ≤ i ∧ i ≤ X + z ∧ iv = .int .i64 (i : Nat) ∧ RowT wx g (fun t => lvU V k n t || decide (X ≤ t ∧ t < i)) bn ∧ Tg g w1 wx) (fun iv _ => X + z - lenW iv)
          case atStart => exact ⟨X, Nat.le_refl _, by omega, rfl, rowT_fun RY.out (fun t => by rw [decide_eq_false (by omega), Bool.or_false]), TY.out.drewN _⟩
          case round =>
            obtain ⟨i, i0, i1, rfl, hR, hTg⟩ := hrel
            rename World => wx
            have RX : Hid (RowT wx g (fun t => lvU V k n t || decide (X ≤ t ∧ t < i)) bn) := hR
            have TX : Hid (Tg g w1 wx) := hTg
            clear hR hTg
            have wxz : IntKind.i64.wrap ((X : Int) + (z : Int)) = (X : Int) + (z : Int) := by rw [IntKind.wrap_i64]; omega
            by_cases hi : i < X + z
            · have j0 : (i : Int) < (X : Int) + (z : Int) := by omega
              have j1 : (i : Int) < (bn : Int) := by omega
              have j2 : (0 : Int) ≤ (i : Int) := by omega
              have cc := RX.out.at i (by omega)
              have ff : wx.frozen? ⟨g, i, none⟩ = false := frozen_of_row _ _ i _ _ RX.out
              have NX : Hid (RowT (wx.setCell ⟨g, i, none⟩ (.bool true)) g (fun t => lvU V k n t || decide (X ≤ t ∧ t < i + 1)) bn) := rowT_fun (RX.out.set i) (fun t => by
                rw [Bool.or_assoc]
                congr 1
                by_cases q : t = i
                · subst q
                  rw [decide_eq_true (p := t = t) rfl, Bool.or_true, decide_eq_true (by omega)]
                · rw [decide_eq_false q, Bool.or_false]
                  congr 1
                  apply propext
                  omega)
              have NT : Hid (Tg g w1 (wx.setCell ⟨g, i, none⟩ (.bool true))) := TX.out.trans (Tg.ofOnly (Only.set g i _ wx))
              have w1' : IntKind.i64.wrap ((i : Int) + 1) = (i : Int) + 1 := by rw [IntKind.wrap_i64]; omega
              go_wp2_with (go_at_call 20; refine (rsize_q mb mg (slN c) p c s (fOf l) (z : Int) _ (RF.out.tg TX.out NG.out.1 NG.out.2) HSZ.out).mono ?_; rintro e w' ⟨rfl, rfl⟩)
              go_roundw
              case rel => exact ⟨i + 1, by omega, by omega, by first | rfl | (congr 1), NX.out, NT.out⟩
              case measure => simp [lenW]; omega
            · have j0 : ¬ (i : Int) < (X : Int) + (z : Int) := by omega
              have ei : i = X + z := by omega
              have NX : Hid (RowT wx g (lvU V k (n + 1)) bn) := rowT_fun RX.out (fun t => by
                rw [lvU_more]
                show (lvU V k n t || _) = (lvU V k n t || _)
                congr 1
                unfold inSl
                rw [HXP.out, SZ.out, ei]
                congr 1
                apply propext
                omega)
              clear ei
              go_wp2_with (go_at_call 20; refine (rsize_q mb mg (slN c) p c s (fOf l) (z : Int) _ (RF.out.tg TX.out NG.out.1 NG.out.2) HSZ.out).mono ?_; rintro e w' ⟨rfl, rfl⟩)
              go_roundw
              case rel => exact ⟨n + 1, by omega, by first | rfl | (congr 1), NX.out, TX.out⟩
              case measure => simp [lenW]; omega
        · have n0 : ¬ (n : Int) < (l.length : Int) := by omega
          have en : n = lvN V k := by rw [LVN.out]; omega
          have NX : Hid (RowT wy g (lvT V (k + 1)) bn) := by show RowT _ _ _ _; rw [← lvU_end, ← en]; exact RY.out
          have NT : Hid (Tg g E wy) := T1.out.trans TY.out
          clear en
          go_wp2
          go_roundw
          case rel => exact ⟨k + 1, by omega, by first | rfl | (congr 1), NX.out, NT.out⟩
          case measure => simp [lenW]; omega
    · have k0 : ¬ (k : Int) < (sn : Int) := by omega
      have ek : k = V.ts.length := by have := SNL.out; omega
      have RN : Hid (RowT wz g (lvT V V.ts.length) bn) := by show RowT _ _ _ _; rw [← ek]; exact RZ.out
      have BZ : Hid (Below w.heap.size w wz) := BD.out.trans ((FE.out wz TZ.out).mono BD.out.size)
      clear ek
      go_wp2
      go_ret
      exact ⟨g, by rw [BLN.out]; first | rfl | simp, by rw [BLN.out]; exact RN.out, WG.out, BZ.out⟩
end Go.Proofs.YtbfamjnnlcopiaaGreatDoor

/- Bytes at the beginning of a block: read, set, cleared, laid into; Clone of bytes. -/
namespace Go.Proofs.YtbfamjnnlcopiaaGreatDoor
open Go.RowKit
set_option linter.unusedVariables false
set_option maxRecDepth 4000

/-- A block that begins with these bytes. -/
def Byk (w : World) (g : Nat) (l : List Int) : Prop := ∃ cur, w.heap[g]? = some (.cells cur 5 (0, 0)) ∧ cur.toList.take l.length = cellsB l
theorem Byk.lt {w : World} {g : Nat} {l : List Int} (h : Byk w g l) : g < w.heap.size := by
  obtain ⟨cur, h, _⟩ := h; exact hlt h
theorem Byk.at {cur : Array Value} {l : List Int} (h : cur.toList.take l.length = cellsB l) (i : Nat) (hi : i < l.length) : cur[i]? = some (.int .u8 (l.getD i 0)) := by
  have e := cellsB_at l i hi
  rw [← h, List.getElem?_take_of_lt hi] at e
  simpa using e
theorem Byk.size {cur : Array Value} {l : List Int} (h : cur.toList.take l.length = cellsB l) : l.length ≤ cur.size := by
  have := congrArg List.length h
  rw [cellsB_len, List.length_take] at this
  have e : cur.toList.length = cur.size := Array.length_toList
  omega
theorem Byk.cell {w : World} {g : Nat} {l : List Int} (h : Byk w g l) (i : Nat) (hi : i < l.length) : w.cell? ⟨g, i, none⟩ = some (.int .u8 (l.getD i 0)) := by
  obtain ⟨cur, h, k⟩ := h
  rw [cell_of_row w g i _ _ _ h]; exact Byk.at k i hi
theorem Byk.thawed {w : World} {g : Nat} {l : List Int} (h : Byk w g l) (i : Nat) : w.frozen? ⟨g, i, none⟩ = false := by
  obtain ⟨cur, h, k⟩ := h; exact frozen_of_row w g i _ 5 h
theorem Byk.same {w w' : World} {g : Nat} {l : List Int} (h : Byk w g l) (hb : ∀ o, w.heap[g]? = some o → w'.heap[g]? = some o) : Byk w' g l := by
  obtain ⟨cur, h, k⟩ := h; exact ⟨cur, hb _ h, k⟩
theorem Byk.keep {w w' : World} {g : Nat} {l : List Int} (h : Byk w g l) (hb : Below w.heap.size w w') : Byk w' g l := h.same (fun o ho => by rw [hb.block g (hlt ho)]; exact ho)
theorem Byk.part {w : World} {g : Nat} {l : List Int} (h : Byk w g l) (hb : AllB l) (o k : Nat) (hf : o + k ≤ l.length) : IsB w (some ⟨g, o, none⟩) ((l.drop o).take k) := by
  refine ⟨(hb.drop o).take k, .inr ⟨g, o, rfl, h.lt, fun i hi => ?_⟩⟩
  simp at hi
  rw [h.cell (o + i) (by omega)]
  simp [List.getD_eq_getElem?_getD, List.getElem?_drop, show i < k by omega]
theorem Byk.isB {w : World} {g : Nat} {l : List Int} (h : Byk w g l) (hb : AllB l) : IsB w (some ⟨g, 0, none⟩) l :=
  ⟨hb, .inr ⟨g, 0, rfl, h.lt, fun i hi => by rw [Nat.zero_add]; exact h.cell i hi⟩⟩
theorem Byk.set {w : World} {g : Nat} {l : List Int} (h : Byk w g l) (i : Nat) (v : Int) (hi : i < l.length) : Byk (w.setCell ⟨g, i, none⟩ (.int .u8 v)) g (l.set i v) := by
  obtain ⟨cur, h, k⟩ := h
  refine ⟨cur.setIfInBounds i (.int .u8 v), heap_setCell_same w g i _ _ (.int .u8 v) h, ?_⟩
  rw [List.length_set, Array.toList_setIfInBounds, List.take_set, k]
  simp [cellsB, List.map_set]
theorem OwnsB.bk {w : World} {base g : Nat} {l : List Int} {cap : Nat} (h : OwnsB w base (some ⟨g, 0, none⟩) l cap) : Byk w g l := by
  obtain ⟨h0, ⟨h1, _⟩ | ⟨g', c', cur, h1, _, h2, h3, h4, h5, h6⟩⟩ := h
  · cases h1
  · cases h1
    rw [Nat.mul_one] at h6
    exact ⟨cur, h2, h6⟩
theorem OwnsB.kind {w : World} {base : Nat} {a : Option Addr} {l : List Int} {cap : Nat} (h : OwnsB w base a l cap) : ∀ g, ob a = some g → base ≤ g ∧ ∃ cur, w.heap[g]? = some (.cells cur 5 (0, 0)) := fun g hg => by
  obtain ⟨h0, ⟨h1, _⟩ | ⟨g', c', cur, h1, hb, h2, _⟩⟩ := h
  · have : a = none := by injection h1
    subst this; cases hg
  · cases h1
    cases hg
    exact ⟨hb, cur, h2⟩
theorem OwnsB.same {w w' : World} {base : Nat} {a : Option Addr} {l : List Int} {cap : Nat} (h : OwnsB w base a l cap) (he : ∀ g o, ob a = some g → w.heap[g]? = some o → w'.heap[g]? = some o) : OwnsB w' base a l cap := by
  obtain ⟨h0, h1 | ⟨g', c', cur, h1, hb, h2, h3⟩⟩ := h
  · exact ⟨h0, .inl h1⟩
  · cases h1
    exact ⟨h0, .inr ⟨g', _, cur, rfl, hb, he g' _ rfl h2, h3⟩⟩
theorem OwnsB.put {w w' : World} {base g : Nat} {l l' : List Int} {cap : Nat} (h : OwnsB w base (some ⟨g, 0, none⟩) l cap) (k : ∀ cur : Array Value, w.heap[g]? = some (.cells cur 5 (0, 0)) → ∃ cur' : Array Value, w'.heap[g]? = some (.cells cur' 5 (0, 0)) ∧ cur'.size = cur.size) (hb : Byk w' g l') (hl : l'.length = l.length) : OwnsB w' base (some ⟨g, 0, none⟩) l' cap := by
  obtain ⟨h0, ⟨h1, _⟩ | ⟨g', c', cur, h1, hB, h2, h3, h4, h5, h6⟩⟩ := h
  · cases h1
  · cases h1
    obtain ⟨cur', k1, k2⟩ := k cur h2
    obtain ⟨cur2, k3, k4⟩ := hb
    rw [k1] at k3
    cases k3
    refine ⟨by simp, .inr ⟨g, cap, cur', by rw [hl], hB, k1, by omega, h4, by omega, ?_⟩⟩
    rw [Nat.mul_one]
    exact k4
theorem OwnsB.set {w : World} {base g : Nat} {l : List Int} {cap : Nat} (h : OwnsB w base (some ⟨g, 0, none⟩) l cap) (i : Nat) (v : Int) (hi : i < l.length) : OwnsB (w.setCell ⟨g, i, none⟩ (.int .u8 v)) base (some ⟨g, 0, none⟩) (l.set i v) cap :=
  h.put (fun cur hc => ⟨_, heap_setCell_same w g i _ _ (.int .u8 v) hc, by simp⟩) (h.bk.set i v hi) (by simp)
end Go.Proofs.YtbfamjnnlcopiaaGreatDoor

/- Calls and clear in a walk. -/
namespace Go.Proofs.YtbfamjnnlcopiaaGreatDoor
open Go.RowKit
set_option linter.unusedVariables false
set_option maxRecDepth 4000

theorem enter_run (f : Nat) (vs : Array Value) (w : World) (hf : (match Tryz.prog.funcs[f]? with | some fn => !(fn.name == "runtime.NumGoroutine") && !fn.body.isNone | none => false) = true) : (callFunc f vs).run Tryz.prog w = .ok (.enter f vs) w := by
  unfold callFunc
  simp only [Sem.run_bind, go_sem]
  cases hq : Tryz.prog.funcs[f]? with
  | none => rw [hq] at hf; cases hf
  | some fn =>
    rw [hq] at hf
    simp at hf
    simp [hf.1, hq]
    intro h
    rw [h] at hf
    simp at hf
/-- A call of a Go function by its contract, in a region that draws. -/
theorem step_call {ops : Array Oper} {o : Oper} {a : Act} {K : Act → World → Prop} {Q : Exit → Act → World → Prop} {E : Prop} {w : World} (hgd : o.guard = none) (f : Nat) (xs : List Operand) (ts : Array TypeId)
    (ho : o.op = .call { callee := .value (.func f), args := xs.toArray, argTypes := ts }) (vs : List Value) (hx : xs.map a.eval = vs) (R : Ending → World → Prop) (C : Calls Tryz.prog f vs.toArray w R)
    (hf : (match Tryz.prog.funcs[f]? with | some fn => !(fn.name == "runtime.NumGoroutine") && !fn.body.isNone | none => false) = true) (h : ∀ e w', R e w' → ∃ v, e = .returned v ∧ K (a.put o.dst v) w') :
    if Region.wanted o (yielded ops a.tmps) = true then Oper.wp Tryz.prog o a w K Q else E := by
  have hw : Region.wanted o (yielded ops a.tmps) = true := by simp [Region.wanted, hgd]
  rw [if_pos hw]
  subst hx
  obtain ⟨dst, op, type, pos, after, guard⟩ := o
  simp only at ho
  subst ho
  unfold Oper.wp
  have e1 : execOp a.eval { dst, op := .call { callee := .value (.func f), args := xs.toArray, argTypes := ts }, type, pos, after, guard } = callFunc f (#[] ++ xs.toArray.map a.eval ++ #[]) := rfl
  rw [e1, show (#[] : Array Value) ++ xs.toArray.map a.eval ++ #[] = (xs.map a.eval).toArray from by simp, enter_run f _ w hf]
  refine C.mono ?_
  intro e w' hR
  obtain ⟨v, rfl, hK⟩ := h e w' hR
  exact hK

theorem kind_ne {w : World} {g k : Nat} {c d : Array Value} {t u : TypeId} (h : w.heap[g]? = some (.cells c t (0, 0))) (k' : w.heap[k]? = some (.cells d u (0, 0))) (ht : t ≠ u) : g ≠ k := fun e => by
  subst e; rw [h] at k'; cases k'; exact ht rfl
end Go.Proofs.YtbfamjnnlcopiaaGreatDoor

/- Rows of objects of one's own. -/
namespace Go.Proofs.YtbfamjnnlcopiaaGreatDoor
open Go.RowKit
set_option linter.unusedVariables false
set_option maxRecDepth 4000

/-- An object, and where its lists lie. -/
structure Rob extends Ob where
  (ba : Option Addr) (bk : Nat) (ha : Option Addr) (hk : Nat)
def Rob.cs (r : Rob) : List Value := [.int .u64 (r.h : Nat), .int .i64 r.k, .slice r.ba r.b.length r.bk, .slice r.ha r.t.length r.hk]
theorem Rob.cs_at : ∀ (rs : List Rob) (i : Nat) (h : i < rs.length), (rs.flatMap Rob.cs)[i * 4]? = some (.int .u64 (rs[i].h : Nat)) ∧ (rs.flatMap Rob.cs)[i * 4 + 1]? = some (.int .i64 rs[i].k) ∧ (rs.flatMap Rob.cs)[i * 4 + 2]? = some (.slice rs[i].ba rs[i].b.length rs[i].bk) ∧ (rs.flatMap Rob.cs)[i * 4 + 3]? = some (.slice rs[i].ha rs[i].t.length rs[i].hk)
  | r :: rs, 0, _ => ⟨rfl, rfl, rfl, rfl⟩
  | r :: rs, i + 1, h => by
    have := Rob.cs_at rs i (by simpa using h)
    rw [show (i + 1) * 4 = i * 4 + 4 by omega]
    exact this
/-- An object more behind a row of one's own. -/
theorem appO_run (t ts : TypeId) (hu : Tryz.prog.underlying ts = some (.slice t)) (hI : (Tryz.prog.info? t).map (fun i => (i.zero, i.size, i.bytes)) = some (some (.agg #[.int .u64 0, .int .i64 0, .slice none 0 0, .slice none 0 0]), 4, 64)) (B : Nat) (w : World) (hB : B ≤ w.heap.size) (a : Option Addr) (n c : Nat) (rs : List Rob) (h : w.ownsRow B t 4 (.slice a n c) n (rs.flatMap Rob.cs)) (q : Nat) (r : Rob) (u : TypeId) (hq : w.heap[q]? = some (.cells r.cs.toArray u (0, 0))) (hn : n ≤ 100000) :
    ∃ a' c' w', (Builtin.append_ #[ts, ts] ts #[.slice a n c, .slice (some ⟨q, 0, none⟩) 1 1]).run Tryz.prog w = .ok (.slice a' (n + 1) c') w' ∧ w'.ownsRow B t 4 (.slice a' (n + 1) c') (n + 1) ((rs ++ [r]).flatMap Rob.cs) ∧ Tu (fun k => ob a = some k) w w' := by
  obtain ⟨i0, hi, hz0, hz2, hz3⟩ := info_parts hI
  obtain ⟨v', w', hr, h2, h3, _, _⟩ := run_append_own_at (P := Tryz.prog) w B ts ts t i0 _ 4 64 hu hi hz0 hz2 hz3 rfl (by decide) (.slice a n c) n (rs.flatMap Rob.cs) h ⟨q, 0, none⟩ 1 1 r.cs rfl (fun j u' hj => by
      rw [show (⟨q, 0, none⟩ : Addr).add j = ⟨q, j, none⟩ by simp [Addr.add]; exact fun h => h.symm, cell_of_row w q j _ _ _ hq]
      show (r.cs.toArray)[j]? = some u'
      rw [List.getElem?_toArray]; exact hj) (by intro u' hu'; simp [Rob.cs] at hu'; rcases hu' with rfl | rfl | rfl | rfl <;> rfl) (by unfold maxLen; omega) (by omega) hB
  obtain ⟨a', c', rfl⟩ := howns_form h2
  rw [ob_own] at h3
  refine ⟨a', c', w', hr, ?_, Tu.grown h3 (fun g hg => hg)⟩
  have e : (rs ++ [r]).flatMap Rob.cs = rs.flatMap Rob.cs ++ r.cs := by simp [List.flatMap_append]
  rw [e]
  exact h2
/-- Objects of one's own, each with bytes and handles of its own. -/
def Tob (w : World) (B : Nat) (t : TypeId) (v : Value) (os : List Ob) : Prop := ∃ rs : List Rob, rs.map Rob.toOb = os ∧ w.ownsRow B t 4 v os.length (rs.flatMap Rob.cs) ∧ ∀ r ∈ rs, OwnsB w B r.ba r.b r.bk ∧ Oh w B r.ha r.t r.hk ∧ AllB r.b ∧ r.ba ≠ none
theorem Tob.nil (w : World) (B : Nat) (t : TypeId) : Tob w B t (.slice none 0 0) [] := ⟨[], rfl, World.ownsRow_nil _ _ _ _, fun r h => by cases h⟩
theorem Tob.keep {w w' : World} {B : Nat} {t : TypeId} {v : Value} {os : List Ob} (h : Tob w B t v os) (hb : Below w.heap.size w w') : Tob w' B t v os := by
  obtain ⟨rs, e1, e2, e3⟩ := h
  exact ⟨rs, e1, ownsRow_keepB e2 hb, fun r hr => ⟨(e3 r hr).1.keep hb, (e3 r hr).2.1.keep hb, (e3 r hr).2.2⟩⟩
theorem Tob.mono {w : World} {B B' : Nat} {t : TypeId} {v : Value} {os : List Ob} (h : Tob w B t v os) (hb : B' ≤ B) : Tob w B' t v os := by
  obtain ⟨rs, e1, ⟨k0, k1 | ⟨g, c, cur, k1, k2, k3⟩⟩, e3⟩ := h
  · exact ⟨rs, e1, ⟨k0, .inl k1⟩, fun r hr => ⟨(e3 r hr).1.mono hb, (e3 r hr).2.1.mono hb, (e3 r hr).2.2⟩⟩
  · exact ⟨rs, e1, ⟨k0, .inr ⟨g, c, cur, k1, by omega, k3⟩⟩, fun r hr => ⟨(e3 r hr).1.mono hb, (e3 r hr).2.1.mono hb, (e3 r hr).2.2⟩⟩
theorem row_kind {w : World} {B : Nat} {t : TypeId} {a : Option Addr} {n c s : Nat} {xs : List Value} (h : w.ownsRow B t s (.slice a n c) n xs) : ∀ g, ob a = some g → B ≤ g ∧ ∃ cur, w.heap[g]? = some (.cells cur t (0, 0)) := fun g hg => by
  obtain ⟨_, ⟨h1, _⟩ | ⟨g', c', cur, h1, hb, h2, _⟩⟩ := h
  · have : a = none := by injection h1
    subst this; cases hg
  · cases h1
    cases hg
    exact ⟨hb, cur, h2⟩
theorem Tob.more (t ts : TypeId) (hu : Tryz.prog.underlying ts = some (.slice t)) (hI : (Tryz.prog.info? t).map (fun i => (i.zero, i.size, i.bytes)) = some (some (.agg #[.int .u64 0, .int .i64 0, .slice none 0 0, .slice none 0 0]), 4, 64)) (ht5 : t ≠ 5) (htH : t ≠ 163) {B : Nat} {w : World} (hB : B ≤ w.heap.size) {a : Option Addr} {n c : Nat} {os : List Ob} (h : Tob w B t (.slice a n c) os) (hl : os.length = n) (r : Rob) (h1 : OwnsB w B r.ba r.b r.bk) (h2 : Oh w B r.ha r.t r.hk) (h3 : AllB r.b) (h4 : r.ba ≠ none) (hn : n ≤ 100000) :
    ∃ a' c' w', (Builtin.append_ #[ts, ts] ts #[.slice a n c, .slice (some ⟨w.heap.size, 0, none⟩) 1 1]).run Tryz.prog (w.alloc (.cells r.cs.toArray t)) = .ok (.slice a' (n + 1) c') w' ∧ Tob w' B t (.slice a' (n + 1) c') (os ++ [r.toOb]) ∧ Below B w w' := by
  subst hl
  have b : Below w.heap.size w (w.alloc (.cells r.cs.toArray t)) := (Below.refl _ w).alloc (Nat.le_refl _) _
  obtain ⟨rs, e1, e2, e3⟩ := h.keep b
  obtain ⟨a', c', w', hr, o1, u1⟩ := appO_run t ts hu hI B _ (Nat.le_trans hB b.size) a _ c rs e2 w.heap.size r t (Go.heap_alloc_new w _) hn
  have hk := row_kind e2
  refine ⟨a', c', w', hr, ⟨rs ++ [r], by rw [List.map_append, e1]; rfl, by rw [List.length_append]; exact o1, fun q hq => ?_⟩, ?_⟩
  · have key : ∀ q : Rob, OwnsB (w.alloc (.cells r.cs.toArray t)) B q.ba q.b q.bk → Oh (w.alloc (.cells r.cs.toArray t)) B q.ha q.t q.hk → OwnsB w' B q.ba q.b q.bk ∧ Oh w' B q.ha q.t q.hk := fun q q1 q2 => by
      refine ⟨q1.same (fun g o hg ho => ?_), q2.same (fun g o hg ho => ?_)⟩
      · obtain ⟨_, cur, hc⟩ := q1.kind g hg
        refine u1.block g o ho (fun e => ?_)
        obtain ⟨_, cur2, hc2⟩ := hk g e
        exact kind_ne hc2 hc ht5 rfl
      · obtain ⟨cur, hc⟩ := q2.kind g hg
        refine u1.block g o ho (fun e => ?_)
        obtain ⟨_, cur2, hc2⟩ := hk g e
        exact kind_ne hc2 hc htH rfl
    rcases List.mem_append.1 hq with k | k
    · have := e3 q k
      exact ⟨(key q this.1 this.2.1).1, (key q this.1 this.2.1).2, this.2.2⟩
    · obtain rfl : q = r := by simpa using k
      exact ⟨(key q (h1.keep b) (h2.keep b)).1, (key q (h1.keep b) (h2.keep b)).2, h3, h4⟩
  · exact ((Below.refl _ w).alloc hB _).trans (u1.below (fun i e => (hk i e).1) (Nat.le_trans hB b.size))
theorem isH_of {w : World} {B : Nat} {a : Option Addr} {l : List Nat} {c : Nat} (h : Oh w B a l c) : IsH w a l ∧ l.length ≤ 9223372036854775807 := by
  refine ⟨?_, Nat.le_trans h.len.1 h.len.2⟩
  by_cases e : l = []
  · exact .inl e
  · obtain ⟨g, ea, hb, hs, _⟩ := h.cells 0 (by rcases l with _ | ⟨x, l⟩; exact absurd rfl e; simp)
    refine .inr ⟨g, ea, hs, fun i hi => ?_⟩
    obtain ⟨g', ea', _, _, hc⟩ := h.cells i hi
    rw [ea] at ea'
    cases ea'
    exact hc
theorem Tob.rd {w : World} {B : Nat} {t : TypeId} {a : Option Addr} {n c : Nat} {os : List Ob} (h : Tob w B t (.slice a n c) os) : RdO w a os := by
  obtain ⟨rs, e1, e2, e3⟩ := h
  intro i hi
  have hl : rs.length = os.length := by rw [← e1, List.length_map]
  have hi' : i < rs.length := by omega
  have eo : os[i] = rs[i].toOb := by subst e1; simp
  obtain ⟨c0, c1, c2, c3⟩ := Rob.cs_at rs i hi'
  obtain ⟨r1, r2, r3, _⟩ := e3 rs[i] (List.getElem_mem hi')
  obtain ⟨_, ⟨h1, h0⟩ | ⟨g, c', cur, h1, hb, h2, h3, h4, h5, h6⟩⟩ := e2
  · omega
  · cases h1
    have hc : ∀ j v, j < os.length * 4 → (rs.flatMap Rob.cs)[j]? = some v → w.cell? ⟨g, j, none⟩ = some v := fun j v hj hv => by
      rw [cell_of_row _ _ j _ _ _ h2, ← Array.getElem?_toList]
      rw [← h6, List.getElem?_take_of_lt hj] at hv
      exact hv
    refine ⟨g, 0, rs[i].ba, rs[i].bk, rs[i].ha, rs[i].hk, rfl, ?_, ?_, ?_, ?_, ?_, ?_, ?_⟩
    · rw [Nat.zero_add, eo]; exact hc _ _ (by omega) c0
    · rw [Nat.zero_add, eo]; exact hc _ _ (by omega) c1
    · rw [Nat.zero_add, eo]; exact hc _ _ (by omega) c2
    · rw [Nat.zero_add, eo]; exact hc _ _ (by omega) c3
    · rw [eo]; exact ownsB_isB r3 r1
    · rw [eo]; exact (isH_of r2).1
    · rw [eo]; exact (isH_of r2).2
end Go.Proofs.YtbfamjnnlcopiaaGreatDoor

/- The document's Equal, of two views that read alike. -/
namespace Go.Proofs.YtbfamjnnlcopiaaGreatDoor
open Go.RowKit
set_option linter.unusedVariables false
set_option maxRecDepth 4000

end Go.Proofs.YtbfamjnnlcopiaaGreatDoor
