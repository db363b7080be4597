/- Layer 17: own, and the document's Same. -/
import Derived.Test.YtbfamjnnlcopiaaDoorIgI
import Derived.Test.YtbfamjnnlcopiaaDoorGsC
import Derived.Test.YtbfamjnnlcopiaaDoorGtI
namespace Go.Proofs.YtbfamjnnlcopiaaDoor
open Go.RowKit
set_option linter.unusedVariables false
set_option maxRecDepth 4000

set_option maxRecDepth 20000 in
set_option maxHeartbeats 4000000 in
theorem own_any17 (p c s base : Int) (la oa ba : Option Addr) (ln lc on oc bn bc : Nat) (w : World) :
    Calls Tryd.prog 11 #[.agg #[.int .i64 p, .int .i64 c, .int .i64 s, .slice la ln lc, .int .i64 base, .slice oa on oc, .slice ba bn bc]] w fun e w' => e = .returned (.agg #[.int .i64 p, .int .i64 c, .int .i64 s, .slice la ln lc, .int .i64 base, .slice oa on oc, .slice ba bn bc]) ∧ Below w.heap.size w w' := by
  obtain ⟨D, hD, zD, rD, bD⟩ := ibox 29 w p c s la ln lc base oa on oc ba bn bc
  have HD : Hid (w.alloc (.cells #[.int .i64 p, .int .i64 c, .int .i64 s, .slice la ln lc, .int .i64 base, .slice oa on oc, .slice ba bn bc] 29) = D) := hD
  obtain ⟨E, hE, zE, rE, bE⟩ := ibox 34 D 0 0 0 none 0 0 0 none 0 0 none 0 0
  have HE : Hid (D.alloc (.cells #[.int .i64 0, .int .i64 0, .int .i64 0, .slice none 0 0, .int .i64 0, .slice none 0 0, .slice none 0 0] 34) = E) := hE
  rw [zD] at rE
  obtain ⟨c0, c1, c2, c3, c4, c5, c6⟩ := (icell rD).keep bE
  obtain ⟨g0, g1, g2, g3, g4, g5, g6⟩ := icell rE
  have f0 := ithawed rE 0
  have f1 := ithawed rE 1
  have f2 := ithawed rE 2
  have f3 := ithawed rE 3
  have f4 := ithawed rE 4
  have f5 := ithawed rE 5
  have f6 := ithawed rE 6
  have rL := lay7_row (p := p) (c := c) (s := s) (la := la) (ln := ln) (lc := lc) (base := base) (oa := oa) (on := on) (oc := oc) (ba := ba) (bn := bn) (bc := bc) rE
  have bL := (bD.trans (bE.mono (by omega))).trans ((lay7_only E (w.heap.size + 1) (.int .i64 p) (.int .i64 c) (.int .i64 s) (.slice la ln lc) (.int .i64 base) (.slice oa on oc) (.slice ba bn bc)).below (show w.heap.size ≤ w.heap.size + 1 by omega))
  have LV : Hid (lay7 E (w.heap.size + 1) (.int .i64 p) (.int .i64 c) (.int .i64 s) (.slice la ln lc) (.int .i64 base) (.slice oa on oc) (.slice ba bn bc) = (((((((E.setCell ⟨w.heap.size + 1, 0, none⟩ (.int .i64 p)).setCell ⟨w.heap.size + 1, 1, none⟩ (.int .i64 c)).setCell ⟨w.heap.size + 1, 2, none⟩ (.int .i64 s)).setCell ⟨w.heap.size + 1, 3, none⟩ (.slice la ln lc)).setCell ⟨w.heap.size + 1, 4, none⟩ (.int .i64 base)).setCell ⟨w.heap.size + 1, 5, none⟩ (.slice oa on oc)).setCell ⟨w.heap.size + 1, 6, none⟩ (.slice ba bn bc))) := rfl
  obtain ⟨LW, hLW⟩ : ∃ LW, lay7 E (w.heap.size + 1) (.int .i64 p) (.int .i64 c) (.int .i64 s) (.slice la ln lc) (.int .i64 base) (.slice oa on oc) (.slice ba bn bc) = LW := ⟨_, rfl⟩
  rw [hLW] at rL bL LV
  obtain ⟨u0, u1, u2, u3, u4, u5, u6⟩ := icell rL
  have BL : Hid (Below w.heap.size w LW) := bL
  clear hD zD rD bD hE zE rE bE hLW bL rL
  go_enter Tryd.func11, Tryd.ntmps11
  go_upto_region 1 with (fail)
  rw [HD.out, HE.out]
  go_wp2
  rw [← LV.out]
  refine bodyPost_ret (v := .agg #[.int .i64 p, .int .i64 c, .int .i64 s, .slice la ln lc, .int .i64 base, .slice oa on oc, .slice ba bn bc]) (by simp [results, Tryd.results11, go_sem, u0, u1, u2, u3, u4, u5, u6]) rfl ⟨rfl, BL.out⟩

set_option maxRecDepth 20000 in
set_option maxHeartbeats 4000000 in
/-- The document's Same of two images that read alike. -/
theorem dsame_true (p c s base : Int) (la oa ba la' oa' ba' : Option Addr) (lc oc bc lc' oc' bc' : Nat) (live offs bytes : List Int) (w : World) (hL : IsI w la live) (hL' : IsI w la' live) (hO : IsI w oa offs) (hO' : IsI w oa' offs) (hB : IsB w ba bytes) (hB' : IsB w ba' bytes) (hml : live.length ≤ maxLen) (hmo : offs.length ≤ maxLen) :
    Calls Tryd.prog 10 #[.agg #[.int .i64 p, .int .i64 c, .int .i64 s, .slice la live.length lc, .int .i64 base, .slice oa offs.length oc, .slice ba bytes.length bc], .agg #[.int .i64 p, .int .i64 c, .int .i64 s, .slice la' live.length lc', .int .i64 base, .slice oa' offs.length oc', .slice ba' bytes.length bc']] w fun e w' => e = .returned (.bool true) ∧ Below w.heap.size w w' := by
  obtain ⟨D, hD, zD, rD, bD⟩ := ibox 34 w p c s la live.length lc base oa offs.length oc ba bytes.length bc
  have HD : Hid (w.alloc (.cells #[.int .i64 p, .int .i64 c, .int .i64 s, .slice la live.length lc, .int .i64 base, .slice oa offs.length oc, .slice ba bytes.length bc] 34) = D) := hD
  obtain ⟨E, hE, zE, rE, bE⟩ := ibox 34 D p c s la' live.length lc' base oa' offs.length oc' ba' bytes.length bc'
  have HE : Hid (D.alloc (.cells #[.int .i64 p, .int .i64 c, .int .i64 s, .slice la' live.length lc', .int .i64 base, .slice oa' offs.length oc', .slice ba' bytes.length bc'] 34) = E) := hE
  rw [zD] at rE
  have BE : Hid (Below w.heap.size w E) := bD.trans (bE.mono (by omega))
  have C1 : Hid (Ic E w.heap.size p c s la live.length lc base oa offs.length oc ba bytes.length bc) := (icell rD).keep bE
  have C2 : Hid (Ic E (w.heap.size + 1) p c s la' live.length lc' base oa' offs.length oc' ba' bytes.length bc') := icell rE
  obtain ⟨c0, c1, c2, c3, c4, c5, c6⟩ := C1.out
  obtain ⟨g0, g1, g2, g3, g4, g5, g6⟩ := C2.out
  have L1 : Hid (IsI E la live) := hL.keep BE.out
  have L2 : Hid (IsI E la' live) := hL'.keep BE.out
  have O1 : Hid (IsI E oa offs) := hO.keep BE.out
  have O2 : Hid (IsI E oa' offs) := hO'.keep BE.out
  have Y1 : Hid (IsB E ba bytes) := hB.keep BE.out
  have Y2 : Hid (IsB E ba' bytes) := hB'.keep BE.out
  have HML : Hid (live.length ≤ maxLen) := hml
  have HMO : Hid (offs.length ≤ maxLen) := hmo
  clear hD zD rD bD hE zE rE bE hL hL' hO hO' hB hB' hml hmo
  go_enter Tryd.func10, Tryd.ntmps10
  go_upto_region 1 with (fail)
  rw [HD.out, HE.out]
  go_wp2_with fail
  refine (same_true p c s la la' _ _ lc lc' live E L1.out L2.out rfl rfl HML.out).mono ?_
  rintro e w1 ⟨rfl, b1⟩
  have B1 : Hid (Below E.heap.size E w1) := b1
  obtain ⟨d0, d1, d2, d3, d4, d5, d6⟩ := C1.out.keep b1
  obtain ⟨k0, k1, k2, k3, k4, k5, k6⟩ := C2.out.keep b1
  clear b1 c0 c1 c2 c3 c4 c5 c6 g0 g1 g2 g3 g4 g5 g6
  go_wp2_with fail
  refine (ints_any oa oa' _ _ oc oc' offs offs w1 (O1.out.keep B1.out) (O2.out.keep B1.out) rfl rfl HMO.out HMO.out).mono ?_
  rw [show decide (offs = offs) = true from decide_eq_true rfl]
  rintro e w2 ⟨rfl, b2⟩
  have B2 : Hid (Below E.heap.size E w2) := B1.out.trans (b2.mono B1.out.size)
  have j6 := (C1.out.keep B2.out).c6
  have i6 := (C2.out.keep B2.out).c6
  clear b2 d0 d1 d2 d3 d4 d5 d6 k0 k1 k2 k3 k4 k5 k6
  go_wp2_with fail
  refine (rsame_true ba ba' _ _ bc bc' bytes w2 (Y1.out.keep B2.out) (Y2.out.keep B2.out) rfl rfl).mono ?_
  rintro e w2' ⟨rfl, rfl⟩
  go_wp2
  go_ret
  exact ⟨rfl, BE.out.trans (B2.out.mono BE.out.size)⟩
end Go.Proofs.YtbfamjnnlcopiaaDoor
