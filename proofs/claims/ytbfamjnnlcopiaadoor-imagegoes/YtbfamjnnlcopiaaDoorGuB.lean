/- Layer 17: Move of the document, its two refusals. -/
import Derived.Test.YtbfamjnnlcopiaaDoorGuC
import Derived.Test.YtbfamjnnlcopiaaDoorIgT
import Derived.Test.YtbfamjnnlcopiaaDoorJrRoI
import Derived.Test.YtbfamjnnlcopiaaDoorIgI
namespace Go.Proofs.YtbfamjnnlcopiaaDoor
open Go.RowKit
set_option linter.unusedVariables false
set_option maxRecDepth 4000

set_option maxRecDepth 20000 in
set_option maxHeartbeats 8000000 in
theorem dmove_form (p c s base : Int) (la oa ba : Option Addr) (lc oc bc : Nat) (live offs bytes : List Int) (t n : Int) (w : World) (hR : rightG ⟨p, c, s, live, base, offs, bytes⟩ = false)
    (hL : IsI w la live) (hO : IsI w oa offs) (hml : live.length ≤ maxLen) (hmo : offs.length ≤ maxLen) (hmb : bytes.length ≤ maxLen) :
    Calls Tryd.prog 8 #[.agg #[.int .i64 p, .int .i64 c, .int .i64 s, .slice la live.length lc, .int .i64 base, .slice oa offs.length oc, .slice ba bytes.length bc], .int .i64 t, .int .i64 n] w fun e w' => e = .returned (.tuple #[.agg #[.int .i64 0, .int .i64 0, .int .i64 0, .slice none 0 0, .int .i64 0, .slice none 0 0, .slice none 0 0], .int .i64 4]) ∧ Below w.heap.size w w' := by
  obtain ⟨D, hD, zD, rD, bD⟩ := ibox 34 w p c s la live.length lc base oa offs.length oc ba bytes.length bc
  have HD : Hid (w.alloc (.cells #[.int .i64 p, .int .i64 c, .int .i64 s, .slice la live.length lc, .int .i64 base, .slice oa offs.length oc, .slice ba bytes.length bc] 34) = D) := hD
  obtain ⟨E, hE, zE, rE, bE⟩ := ibox 34 D 0 0 0 none 0 0 0 none 0 0 none 0 0
  have HE : Hid (D.alloc (.cells #[.int .i64 0, .int .i64 0, .int .i64 0, .slice none 0 0, .int .i64 0, .slice none 0 0, .slice none 0 0] 34) = E) := hE
  rw [zD] at rE zE
  have BE : Hid (Below w.heap.size w E) := bD.trans (bE.mono (by omega))
  have RE : Hid (E.heap[w.heap.size + 1]? = some (.cells (icells 0 0 0 none 0 0 0 none 0 0 none 0 0) 34 (0, 0))) := rE
  have ZE : Hid (E.heap.size = w.heap.size + 1 + 1) := zE
  have LE : Hid (IsI E la live) := hL.keep BE.out
  have OE : Hid (IsI E oa offs) := hO.keep BE.out
  have CE : Hid (Ic E w.heap.size p c s la live.length lc base oa offs.length oc ba bytes.length bc) := (icell rD).keep bE
  obtain ⟨c0, c1, c2, c3, c4, c5, c6⟩ := (icell rD).keep bE
  have HML : Hid (live.length ≤ maxLen) := hml
  have HMO : Hid (offs.length ≤ maxLen) := hmo
  have HMB : Hid (bytes.length ≤ maxLen) := hmb
  have H : Hid (rightG ⟨p, c, s, live, base, offs, bytes⟩ = false) := hR
  clear hD zD rD bD hL hO hml hmo hmb hR hE zE rE bE
  go_enter Tryd.func8, Tryd.ntmps8
  go_upto_region 1 with (fail)
  rw [HD.out, HE.out]
  go_wp2_with fail
  refine (dright_any p c s base la oa ba _ lc _ oc _ bc live offs bytes false _ rfl rfl rfl H.out LE.out OE.out HML.out HMO.out HMB.out).mono ?_
  rintro e w1 ⟨rfl, b1⟩
  have B1 : Hid (Below w.heap.size w w1) := BE.out.trans (b1.mono BE.out.size)
  have BE1 : Hid (Below E.heap.size E w1) := b1
  have RES : Hid (w1.heap[w.heap.size + 1]? = some (.cells (icells 0 0 0 none 0 0 0 none 0 0 none 0 0) 34 (0, 0))) := by show _ = _; rw [b1.block (w.heap.size + 1) (by have := ZE.out; omega)]; exact RE.out
  clear b1 c0 c1 c2 c3 c4 c5 c6
  have rR : w1.heap[w.heap.size + 1]? = some (.cells (icells 0 0 0 none 0 0 0 none 0 0 none 0 0) 34 (0, 0)) := RES.out
  obtain ⟨g0, g1, g2, g3, g4, g5, g6⟩ := icell rR
  have f00 := ithawed rR 0
  have f01 := ithawed rR 1
  have f02 := ithawed rR 2
  have f03 := ithawed rR 3
  have f04 := ithawed rR 4
  have f05 := ithawed rR 5
  have f06 := ithawed rR 6
  have rL := lay7_row (p := 0) (c := 0) (s := 0) (la := none) (ln := 0) (lc := 0) (base := 0) (oa := none) (on := 0) (oc := 0) (ba := none) (bn := 0) (bc := 0) rR
  have on := lay7_only w1 (w.heap.size + 1) (.int .i64 0) (.int .i64 0) (.int .i64 0) (.slice none 0 0) (.int .i64 0) (.slice none 0 0) (.slice none 0 0)
  have bL := B1.out.trans (on.below (show w.heap.size ≤ w.heap.size + 1 by omega))
  have LV : Hid (lay7 w1 (w.heap.size + 1) (.int .i64 0) (.int .i64 0) (.int .i64 0) (.slice none 0 0) (.int .i64 0) (.slice none 0 0) (.slice none 0 0) = (((((((w1.setCell ⟨w.heap.size + 1, 0, none⟩ (.int .i64 0)).setCell ⟨w.heap.size + 1, 1, none⟩ (.int .i64 0)).setCell ⟨w.heap.size + 1, 2, none⟩ (.int .i64 0)).setCell ⟨w.heap.size + 1, 3, none⟩ (.slice none 0 0)).setCell ⟨w.heap.size + 1, 4, none⟩ (.int .i64 0)).setCell ⟨w.heap.size + 1, 5, none⟩ (.slice none 0 0)).setCell ⟨w.heap.size + 1, 6, none⟩ (.slice none 0 0))) := rfl
  obtain ⟨LW, hLW⟩ : ∃ LW, lay7 w1 (w.heap.size + 1) (.int .i64 0) (.int .i64 0) (.int .i64 0) (.slice none 0 0) (.int .i64 0) (.slice none 0 0) (.slice none 0 0) = LW := ⟨_, rfl⟩
  rw [hLW] at rL bL LV
  obtain ⟨u0, u1, u2, u3, u4, u5, u6⟩ := icell rL
  have BL : Hid (Below w.heap.size w LW) := bL
  clear hLW rL bL on
  go_wp2
  rw [← LV.out]
  refine bodyPost_ret (v := .tuple #[.agg #[.int .i64 0, .int .i64 0, .int .i64 0, .slice none 0 0, .int .i64 0, .slice none 0 0, .slice none 0 0], .int .i64 4]) (by simp [results, Tryd.results8, go_sem, u0, u1, u2, u3, u4, u5, u6]) rfl ⟨rfl, BL.out⟩
set_option maxRecDepth 20000 in
set_option maxHeartbeats 8000000 in
theorem dmove_arg (p c s base : Int) (la oa ba : Option Addr) (lc oc bc : Nat) (live offs bytes : List Int) (t n : Int) (w : World) (hR : rightG ⟨p, c, s, live, base, offs, bytes⟩ = true)
    (hL : IsI w la live) (hO : IsI w oa offs) (hml : live.length ≤ maxLen) (hmo : offs.length ≤ maxLen) (hmb : bytes.length ≤ maxLen) (hA : ¬ goesA t n) :
    Calls Tryd.prog 8 #[.agg #[.int .i64 p, .int .i64 c, .int .i64 s, .slice la live.length lc, .int .i64 base, .slice oa offs.length oc, .slice ba bytes.length bc], .int .i64 t, .int .i64 n] w fun e w' => e = .returned (.tuple #[.agg #[.int .i64 0, .int .i64 0, .int .i64 0, .slice none 0 0, .int .i64 0, .slice none 0 0, .slice none 0 0], .int .i64 2]) ∧ Below w.heap.size w w' := by
  obtain ⟨D, hD, zD, rD, bD⟩ := ibox 34 w p c s la live.length lc base oa offs.length oc ba bytes.length bc
  have HD : Hid (w.alloc (.cells #[.int .i64 p, .int .i64 c, .int .i64 s, .slice la live.length lc, .int .i64 base, .slice oa offs.length oc, .slice ba bytes.length bc] 34) = D) := hD
  obtain ⟨E, hE, zE, rE, bE⟩ := ibox 34 D 0 0 0 none 0 0 0 none 0 0 none 0 0
  have HE : Hid (D.alloc (.cells #[.int .i64 0, .int .i64 0, .int .i64 0, .slice none 0 0, .int .i64 0, .slice none 0 0, .slice none 0 0] 34) = E) := hE
  rw [zD] at rE zE
  have BE : Hid (Below w.heap.size w E) := bD.trans (bE.mono (by omega))
  have RE : Hid (E.heap[w.heap.size + 1]? = some (.cells (icells 0 0 0 none 0 0 0 none 0 0 none 0 0) 34 (0, 0))) := rE
  have ZE : Hid (E.heap.size = w.heap.size + 1 + 1) := zE
  have LE : Hid (IsI E la live) := hL.keep BE.out
  have OE : Hid (IsI E oa offs) := hO.keep BE.out
  have CE : Hid (Ic E w.heap.size p c s la live.length lc base oa offs.length oc ba bytes.length bc) := (icell rD).keep bE
  obtain ⟨c0, c1, c2, c3, c4, c5, c6⟩ := (icell rD).keep bE
  have HML : Hid (live.length ≤ maxLen) := hml
  have HMO : Hid (offs.length ≤ maxLen) := hmo
  have HMB : Hid (bytes.length ≤ maxLen) := hmb
  have H : Hid (rightG ⟨p, c, s, live, base, offs, bytes⟩ = true) := hR
  clear hD zD rD bD hL hO hml hmo hmb hR hE zE rE bE
  go_enter Tryd.func8, Tryd.ntmps8
  go_upto_region 1 with (fail)
  rw [HD.out, HE.out]
  go_wp2_with fail
  refine (dright_any p c s base la oa ba _ lc _ oc _ bc live offs bytes true _ rfl rfl rfl H.out LE.out OE.out HML.out HMO.out HMB.out).mono ?_
  rintro e w1 ⟨rfl, b1⟩
  have B1 : Hid (Below w.heap.size w w1) := BE.out.trans (b1.mono BE.out.size)
  have BE1 : Hid (Below E.heap.size E w1) := b1
  have RES : Hid (w1.heap[w.heap.size + 1]? = some (.cells (icells 0 0 0 none 0 0 0 none 0 0 none 0 0) 34 (0, 0))) := by show _ = _; rw [b1.block (w.heap.size + 1) (by have := ZE.out; omega)]; exact RE.out
  clear b1 c0 c1 c2 c3 c4 c5 c6
  cases hg : decide (goodR t)
  · have HG : Hid (decide (goodR t) = false) := hg
    clear hg hA
    have rR : w1.heap[w.heap.size + 1]? = some (.cells (icells 0 0 0 none 0 0 0 none 0 0 none 0 0) 34 (0, 0)) := RES.out
    obtain ⟨g0, g1, g2, g3, g4, g5, g6⟩ := icell rR
    have f00 := ithawed rR 0
    have f01 := ithawed rR 1
    have f02 := ithawed rR 2
    have f03 := ithawed rR 3
    have f04 := ithawed rR 4
    have f05 := ithawed rR 5
    have f06 := ithawed rR 6
    have rL := lay7_row (p := 0) (c := 0) (s := 0) (la := none) (ln := 0) (lc := 0) (base := 0) (oa := none) (on := 0) (oc := 0) (ba := none) (bn := 0) (bc := 0) rR
    have on := lay7_only w1 (w.heap.size + 1) (.int .i64 0) (.int .i64 0) (.int .i64 0) (.slice none 0 0) (.int .i64 0) (.slice none 0 0) (.slice none 0 0)
    have bL := B1.out.trans (on.below (show w.heap.size ≤ w.heap.size + 1 by omega))
    have LV : Hid (lay7 w1 (w.heap.size + 1) (.int .i64 0) (.int .i64 0) (.int .i64 0) (.slice none 0 0) (.int .i64 0) (.slice none 0 0) (.slice none 0 0) = (((((((w1.setCell ⟨w.heap.size + 1, 0, none⟩ (.int .i64 0)).setCell ⟨w.heap.size + 1, 1, none⟩ (.int .i64 0)).setCell ⟨w.heap.size + 1, 2, none⟩ (.int .i64 0)).setCell ⟨w.heap.size + 1, 3, none⟩ (.slice none 0 0)).setCell ⟨w.heap.size + 1, 4, none⟩ (.int .i64 0)).setCell ⟨w.heap.size + 1, 5, none⟩ (.slice none 0 0)).setCell ⟨w.heap.size + 1, 6, none⟩ (.slice none 0 0))) := rfl
    obtain ⟨LW, hLW⟩ : ∃ LW, lay7 w1 (w.heap.size + 1) (.int .i64 0) (.int .i64 0) (.int .i64 0) (.slice none 0 0) (.int .i64 0) (.slice none 0 0) (.slice none 0 0) = LW := ⟨_, rfl⟩
    rw [hLW] at rL bL LV
    obtain ⟨u0, u1, u2, u3, u4, u5, u6⟩ := icell rL
    have BL : Hid (Below w.heap.size w LW) := bL
    clear hLW rL bL on
    go_wp2_with (go_at_call 23; refine (rgood_of t false _ HG.out).mono ?_; rintro e w3 ⟨rfl, rfl⟩)
    rw [← LV.out]
    refine bodyPost_ret (v := .tuple #[.agg #[.int .i64 0, .int .i64 0, .int .i64 0, .slice none 0 0, .int .i64 0, .slice none 0 0, .slice none 0 0], .int .i64 2]) (by simp [results, Tryd.results8, go_sem, u0, u1, u2, u3, u4, u5, u6]) rfl ⟨rfl, BL.out⟩
  have HG : Hid (decide (goodR t) = true) := hg
  by_cases n0 : n < 0
  · clear hg hA
    have rR : w1.heap[w.heap.size + 1]? = some (.cells (icells 0 0 0 none 0 0 0 none 0 0 none 0 0) 34 (0, 0)) := RES.out
    obtain ⟨g0, g1, g2, g3, g4, g5, g6⟩ := icell rR
    have f00 := ithawed rR 0
    have f01 := ithawed rR 1
    have f02 := ithawed rR 2
    have f03 := ithawed rR 3
    have f04 := ithawed rR 4
    have f05 := ithawed rR 5
    have f06 := ithawed rR 6
    have rL := lay7_row (p := 0) (c := 0) (s := 0) (la := none) (ln := 0) (lc := 0) (base := 0) (oa := none) (on := 0) (oc := 0) (ba := none) (bn := 0) (bc := 0) rR
    have on := lay7_only w1 (w.heap.size + 1) (.int .i64 0) (.int .i64 0) (.int .i64 0) (.slice none 0 0) (.int .i64 0) (.slice none 0 0) (.slice none 0 0)
    have bL := B1.out.trans (on.below (show w.heap.size ≤ w.heap.size + 1 by omega))
    have LV : Hid (lay7 w1 (w.heap.size + 1) (.int .i64 0) (.int .i64 0) (.int .i64 0) (.slice none 0 0) (.int .i64 0) (.slice none 0 0) (.slice none 0 0) = (((((((w1.setCell ⟨w.heap.size + 1, 0, none⟩ (.int .i64 0)).setCell ⟨w.heap.size + 1, 1, none⟩ (.int .i64 0)).setCell ⟨w.heap.size + 1, 2, none⟩ (.int .i64 0)).setCell ⟨w.heap.size + 1, 3, none⟩ (.slice none 0 0)).setCell ⟨w.heap.size + 1, 4, none⟩ (.int .i64 0)).setCell ⟨w.heap.size + 1, 5, none⟩ (.slice none 0 0)).setCell ⟨w.heap.size + 1, 6, none⟩ (.slice none 0 0))) := rfl
    obtain ⟨LW, hLW⟩ : ∃ LW, lay7 w1 (w.heap.size + 1) (.int .i64 0) (.int .i64 0) (.int .i64 0) (.slice none 0 0) (.int .i64 0) (.slice none 0 0) (.slice none 0 0) = LW := ⟨_, rfl⟩
    rw [hLW] at rL bL LV
    obtain ⟨u0, u1, u2, u3, u4, u5, u6⟩ := icell rL
    have BL : Hid (Below w.heap.size w LW) := bL
    clear hLW rL bL on
    go_wp2_with (go_at_call 23; refine (rgood_of t true _ HG.out).mono ?_; rintro e w3 ⟨rfl, rfl⟩)
    rw [← LV.out]
    refine bodyPost_ret (v := .tuple #[.agg #[.int .i64 0, .int .i64 0, .int .i64 0, .slice none 0 0, .int .i64 0, .slice none 0 0, .slice none 0 0], .int .i64 2]) (by simp [results, Tryd.results8, go_sem, u0, u1, u2, u3, u4, u5, u6]) rfl ⟨rfl, BL.out⟩
  have n1 : 1048576 < n := by
    refine Int.not_le.1 fun q => hA ⟨of_decide_eq_true hg, by omega, q⟩
  clear hg hA
  have rR : w1.heap[w.heap.size + 1]? = some (.cells (icells 0 0 0 none 0 0 0 none 0 0 none 0 0) 34 (0, 0)) := RES.out
  obtain ⟨g0, g1, g2, g3, g4, g5, g6⟩ := icell rR
  have f00 := ithawed rR 0
  have f01 := ithawed rR 1
  have f02 := ithawed rR 2
  have f03 := ithawed rR 3
  have f04 := ithawed rR 4
  have f05 := ithawed rR 5
  have f06 := ithawed rR 6
  have rL := lay7_row (p := 0) (c := 0) (s := 0) (la := none) (ln := 0) (lc := 0) (base := 0) (oa := none) (on := 0) (oc := 0) (ba := none) (bn := 0) (bc := 0) rR
  have on := lay7_only w1 (w.heap.size + 1) (.int .i64 0) (.int .i64 0) (.int .i64 0) (.slice none 0 0) (.int .i64 0) (.slice none 0 0) (.slice none 0 0)
  have bL := B1.out.trans (on.below (show w.heap.size ≤ w.heap.size + 1 by omega))
  have LV : Hid (lay7 w1 (w.heap.size + 1) (.int .i64 0) (.int .i64 0) (.int .i64 0) (.slice none 0 0) (.int .i64 0) (.slice none 0 0) (.slice none 0 0) = (((((((w1.setCell ⟨w.heap.size + 1, 0, none⟩ (.int .i64 0)).setCell ⟨w.heap.size + 1, 1, none⟩ (.int .i64 0)).setCell ⟨w.heap.size + 1, 2, none⟩ (.int .i64 0)).setCell ⟨w.heap.size + 1, 3, none⟩ (.slice none 0 0)).setCell ⟨w.heap.size + 1, 4, none⟩ (.int .i64 0)).setCell ⟨w.heap.size + 1, 5, none⟩ (.slice none 0 0)).setCell ⟨w.heap.size + 1, 6, none⟩ (.slice none 0 0))) := rfl
  obtain ⟨LW, hLW⟩ : ∃ LW, lay7 w1 (w.heap.size + 1) (.int .i64 0) (.int .i64 0) (.int .i64 0) (.slice none 0 0) (.int .i64 0) (.slice none 0 0) (.slice none 0 0) = LW := ⟨_, rfl⟩
  rw [hLW] at rL bL LV
  obtain ⟨u0, u1, u2, u3, u4, u5, u6⟩ := icell rL
  have BL : Hid (Below w.heap.size w LW) := bL
  clear hLW rL bL on
  go_wp2_with (go_at_call 23; refine (rgood_of t true _ HG.out).mono ?_; rintro e w3 ⟨rfl, rfl⟩)
  rw [← LV.out]
  refine bodyPost_ret (v := .tuple #[.agg #[.int .i64 0, .int .i64 0, .int .i64 0, .slice none 0 0, .int .i64 0, .slice none 0 0, .slice none 0 0], .int .i64 2]) (by simp [results, Tryd.results8, go_sem, u0, u1, u2, u3, u4, u5, u6]) rfl ⟨rfl, BL.out⟩
end Go.Proofs.YtbfamjnnlcopiaaDoor

/- Layer 17: Move of the code, its two refusals. -/
namespace Go.Proofs.YtbfamjnnlcopiaaDoor
open Go.RowKit
set_option linter.unusedVariables false
set_option maxRecDepth 4000

set_option maxRecDepth 20000 in
set_option maxHeartbeats 8000000 in
theorem imove_form (p c s base : Int) (la oa ba : Option Addr) (lc oc bc : Nat) (live offs bytes : List Int) (t n : Int) (w : World) (hR : rightG ⟨p, c, s, live, base, offs, bytes⟩ = false)
    (hL : IsI w la live) (hO : IsI w oa offs) (hml : live.length ≤ maxLen) (hmo : offs.length ≤ maxLen) (hmb : bytes.length ≤ maxLen) (hT : Tabs w) (hp : i64' p) :
    Calls Tryd.prog 6 #[.agg #[.int .i64 p, .int .i64 c, .int .i64 s, .slice la live.length lc, .int .i64 base, .slice oa offs.length oc, .slice ba bytes.length bc], .int .i64 t, .int .i64 n] w fun e w' => e = .returned (.tuple #[.agg #[.int .i64 0, .int .i64 0, .int .i64 0, .slice none 0 0, .int .i64 0, .slice none 0 0, .slice none 0 0], .int .i64 4]) ∧ Below w.heap.size w w' := by
  obtain ⟨D, hD, zD, rD, bD⟩ := ibox 29 w p c s la live.length lc base oa offs.length oc ba bytes.length bc
  have HD : Hid (w.alloc (.cells #[.int .i64 p, .int .i64 c, .int .i64 s, .slice la live.length lc, .int .i64 base, .slice oa offs.length oc, .slice ba bytes.length bc] 29) = D) := hD
  obtain ⟨E, hE, zE, rE, bE⟩ := ibox 29 D 0 0 0 none 0 0 0 none 0 0 none 0 0
  have HE : Hid (D.alloc (.cells #[.int .i64 0, .int .i64 0, .int .i64 0, .slice none 0 0, .int .i64 0, .slice none 0 0, .slice none 0 0] 29) = E) := hE
  rw [zD] at rE zE
  have BE : Hid (Below w.heap.size w E) := bD.trans (bE.mono (by omega))
  have RE : Hid (E.heap[w.heap.size + 1]? = some (.cells (icells 0 0 0 none 0 0 0 none 0 0 none 0 0) 29 (0, 0))) := rE
  have ZE : Hid (E.heap.size = w.heap.size + 1 + 1) := zE
  have LE : Hid (IsI E la live) := hL.keep BE.out
  have OE : Hid (IsI E oa offs) := hO.keep BE.out
  have TE : Hid (Tabs E) := hT.keep BE.out
  have HP : Hid (i64' p) := hp
  have CE : Hid (Ic E w.heap.size p c s la live.length lc base oa offs.length oc ba bytes.length bc) := (icell rD).keep bE
  obtain ⟨c0, c1, c2, c3, c4, c5, c6⟩ := (icell rD).keep bE
  have HML : Hid (live.length ≤ maxLen) := hml
  have HMO : Hid (offs.length ≤ maxLen) := hmo
  have HMB : Hid (bytes.length ≤ maxLen) := hmb
  have H : Hid (rightG ⟨p, c, s, live, base, offs, bytes⟩ = false) := hR
  clear hD zD rD bD hL hO hml hmo hmb hR hE zE rE bE
  go_enter Tryd.func6, Tryd.ntmps6
  go_upto_region 1 with (fail)
  rw [HD.out, HE.out]
  go_wp2_with fail
  refine (iright_any p c s base la oa ba _ lc _ oc _ bc live offs bytes false _ rfl rfl rfl H.out TE.out LE.out OE.out HML.out HMO.out HMB.out HP.out).mono ?_
  rintro e w1 ⟨rfl, b1⟩
  have B1 : Hid (Below w.heap.size w w1) := BE.out.trans (b1.mono BE.out.size)
  have BE1 : Hid (Below E.heap.size E w1) := b1
  have RES : Hid (w1.heap[w.heap.size + 1]? = some (.cells (icells 0 0 0 none 0 0 0 none 0 0 none 0 0) 29 (0, 0))) := by show _ = _; rw [b1.block (w.heap.size + 1) (by have := ZE.out; omega)]; exact RE.out
  clear b1 c0 c1 c2 c3 c4 c5 c6
  have rR : w1.heap[w.heap.size + 1]? = some (.cells (icells 0 0 0 none 0 0 0 none 0 0 none 0 0) 29 (0, 0)) := RES.out
  obtain ⟨g0, g1, g2, g3, g4, g5, g6⟩ := icell rR
  have f00 := ithawed rR 0
  have f01 := ithawed rR 1
  have f02 := ithawed rR 2
  have f03 := ithawed rR 3
  have f04 := ithawed rR 4
  have f05 := ithawed rR 5
  have f06 := ithawed rR 6
  have rL := lay7_row (p := 0) (c := 0) (s := 0) (la := none) (ln := 0) (lc := 0) (base := 0) (oa := none) (on := 0) (oc := 0) (ba := none) (bn := 0) (bc := 0) rR
  have on := lay7_only w1 (w.heap.size + 1) (.int .i64 0) (.int .i64 0) (.int .i64 0) (.slice none 0 0) (.int .i64 0) (.slice none 0 0) (.slice none 0 0)
  have bL := B1.out.trans (on.below (show w.heap.size ≤ w.heap.size + 1 by omega))
  have LV : Hid (lay7 w1 (w.heap.size + 1) (.int .i64 0) (.int .i64 0) (.int .i64 0) (.slice none 0 0) (.int .i64 0) (.slice none 0 0) (.slice none 0 0) = (((((((w1.setCell ⟨w.heap.size + 1, 0, none⟩ (.int .i64 0)).setCell ⟨w.heap.size + 1, 1, none⟩ (.int .i64 0)).setCell ⟨w.heap.size + 1, 2, none⟩ (.int .i64 0)).setCell ⟨w.heap.size + 1, 3, none⟩ (.slice none 0 0)).setCell ⟨w.heap.size + 1, 4, none⟩ (.int .i64 0)).setCell ⟨w.heap.size + 1, 5, none⟩ (.slice none 0 0)).setCell ⟨w.heap.size + 1, 6, none⟩ (.slice none 0 0))) := rfl
  obtain ⟨LW, hLW⟩ : ∃ LW, lay7 w1 (w.heap.size + 1) (.int .i64 0) (.int .i64 0) (.int .i64 0) (.slice none 0 0) (.int .i64 0) (.slice none 0 0) (.slice none 0 0) = LW := ⟨_, rfl⟩
  rw [hLW] at rL bL LV
  obtain ⟨u0, u1, u2, u3, u4, u5, u6⟩ := icell rL
  have BL : Hid (Below w.heap.size w LW) := bL
  clear hLW rL bL on
  go_wp2
  rw [← LV.out]
  refine bodyPost_ret (v := .tuple #[.agg #[.int .i64 0, .int .i64 0, .int .i64 0, .slice none 0 0, .int .i64 0, .slice none 0 0, .slice none 0 0], .int .i64 4]) (by simp [results, Tryd.results6, go_sem, u0, u1, u2, u3, u4, u5, u6]) rfl ⟨rfl, BL.out⟩
set_option maxRecDepth 20000 in
set_option maxHeartbeats 8000000 in
theorem imove_arg (p c s base : Int) (la oa ba : Option Addr) (lc oc bc : Nat) (live offs bytes : List Int) (t n : Int) (w : World) (hR : rightG ⟨p, c, s, live, base, offs, bytes⟩ = true)
    (hL : IsI w la live) (hO : IsI w oa offs) (hml : live.length ≤ maxLen) (hmo : offs.length ≤ maxLen) (hmb : bytes.length ≤ maxLen) (hT : Tabs w) (hp : i64' p) (hA : ¬ goesA t n) :
    Calls Tryd.prog 6 #[.agg #[.int .i64 p, .int .i64 c, .int .i64 s, .slice la live.length lc, .int .i64 base, .slice oa offs.length oc, .slice ba bytes.length bc], .int .i64 t, .int .i64 n] w fun e w' => e = .returned (.tuple #[.agg #[.int .i64 0, .int .i64 0, .int .i64 0, .slice none 0 0, .int .i64 0, .slice none 0 0, .slice none 0 0], .int .i64 2]) ∧ Below w.heap.size w w' := by
  obtain ⟨D, hD, zD, rD, bD⟩ := ibox 29 w p c s la live.length lc base oa offs.length oc ba bytes.length bc
  have HD : Hid (w.alloc (.cells #[.int .i64 p, .int .i64 c, .int .i64 s, .slice la live.length lc, .int .i64 base, .slice oa offs.length oc, .slice ba bytes.length bc] 29) = D) := hD
  obtain ⟨E, hE, zE, rE, bE⟩ := ibox 29 D 0 0 0 none 0 0 0 none 0 0 none 0 0
  have HE : Hid (D.alloc (.cells #[.int .i64 0, .int .i64 0, .int .i64 0, .slice none 0 0, .int .i64 0, .slice none 0 0, .slice none 0 0] 29) = E) := hE
  rw [zD] at rE zE
  have BE : Hid (Below w.heap.size w E) := bD.trans (bE.mono (by omega))
  have RE : Hid (E.heap[w.heap.size + 1]? = some (.cells (icells 0 0 0 none 0 0 0 none 0 0 none 0 0) 29 (0, 0))) := rE
  have ZE : Hid (E.heap.size = w.heap.size + 1 + 1) := zE
  have LE : Hid (IsI E la live) := hL.keep BE.out
  have OE : Hid (IsI E oa offs) := hO.keep BE.out
  have TE : Hid (Tabs E) := hT.keep BE.out
  have HP : Hid (i64' p) := hp
  have CE : Hid (Ic E w.heap.size p c s la live.length lc base oa offs.length oc ba bytes.length bc) := (icell rD).keep bE
  obtain ⟨c0, c1, c2, c3, c4, c5, c6⟩ := (icell rD).keep bE
  have HML : Hid (live.length ≤ maxLen) := hml
  have HMO : Hid (offs.length ≤ maxLen) := hmo
  have HMB : Hid (bytes.length ≤ maxLen) := hmb
  have H : Hid (rightG ⟨p, c, s, live, base, offs, bytes⟩ = true) := hR
  clear hD zD rD bD hL hO hml hmo hmb hR hE zE rE bE
  go_enter Tryd.func6, Tryd.ntmps6
  go_upto_region 1 with (fail)
  rw [HD.out, HE.out]
  go_wp2_with fail
  refine (iright_any p c s base la oa ba _ lc _ oc _ bc live offs bytes true _ rfl rfl rfl H.out TE.out LE.out OE.out HML.out HMO.out HMB.out HP.out).mono ?_
  rintro e w1 ⟨rfl, b1⟩
  have B1 : Hid (Below w.heap.size w w1) := BE.out.trans (b1.mono BE.out.size)
  have BE1 : Hid (Below E.heap.size E w1) := b1
  have RES : Hid (w1.heap[w.heap.size + 1]? = some (.cells (icells 0 0 0 none 0 0 0 none 0 0 none 0 0) 29 (0, 0))) := by show _ = _; rw [b1.block (w.heap.size + 1) (by have := ZE.out; omega)]; exact RE.out
  clear b1 c0 c1 c2 c3 c4 c5 c6
  cases hg : decide (goodR t)
  · have HG : Hid (decide (goodR t) = false) := hg
    clear hg hA
    have rR : w1.heap[w.heap.size + 1]? = some (.cells (icells 0 0 0 none 0 0 0 none 0 0 none 0 0) 29 (0, 0)) := RES.out
    obtain ⟨g0, g1, g2, g3, g4, g5, g6⟩ := icell rR
    have f00 := ithawed rR 0
    have f01 := ithawed rR 1
    have f02 := ithawed rR 2
    have f03 := ithawed rR 3
    have f04 := ithawed rR 4
    have f05 := ithawed rR 5
    have f06 := ithawed rR 6
    have rL := lay7_row (p := 0) (c := 0) (s := 0) (la := none) (ln := 0) (lc := 0) (base := 0) (oa := none) (on := 0) (oc := 0) (ba := none) (bn := 0) (bc := 0) rR
    have on := lay7_only w1 (w.heap.size + 1) (.int .i64 0) (.int .i64 0) (.int .i64 0) (.slice none 0 0) (.int .i64 0) (.slice none 0 0) (.slice none 0 0)
    have bL := B1.out.trans (on.below (show w.heap.size ≤ w.heap.size + 1 by omega))
    have LV : Hid (lay7 w1 (w.heap.size + 1) (.int .i64 0) (.int .i64 0) (.int .i64 0) (.slice none 0 0) (.int .i64 0) (.slice none 0 0) (.slice none 0 0) = (((((((w1.setCell ⟨w.heap.size + 1, 0, none⟩ (.int .i64 0)).setCell ⟨w.heap.size + 1, 1, none⟩ (.int .i64 0)).setCell ⟨w.heap.size + 1, 2, none⟩ (.int .i64 0)).setCell ⟨w.heap.size + 1, 3, none⟩ (.slice none 0 0)).setCell ⟨w.heap.size + 1, 4, none⟩ (.int .i64 0)).setCell ⟨w.heap.size + 1, 5, none⟩ (.slice none 0 0)).setCell ⟨w.heap.size + 1, 6, none⟩ (.slice none 0 0))) := rfl
    obtain ⟨LW, hLW⟩ : ∃ LW, lay7 w1 (w.heap.size + 1) (.int .i64 0) (.int .i64 0) (.int .i64 0) (.slice none 0 0) (.int .i64 0) (.slice none 0 0) (.slice none 0 0) = LW := ⟨_, rfl⟩
    rw [hLW] at rL bL LV
    obtain ⟨u0, u1, u2, u3, u4, u5, u6⟩ := icell rL
    have BL : Hid (Below w.heap.size w LW) := bL
    clear hLW rL bL on
    go_wp2_with (go_at_call 16; refine (good_of t false _ HG.out).mono ?_; rintro e w3 ⟨rfl, rfl⟩)
    rw [← LV.out]
    refine bodyPost_ret (v := .tuple #[.agg #[.int .i64 0, .int .i64 0, .int .i64 0, .slice none 0 0, .int .i64 0, .slice none 0 0, .slice none 0 0], .int .i64 2]) (by simp [results, Tryd.results6, go_sem, u0, u1, u2, u3, u4, u5, u6]) rfl ⟨rfl, BL.out⟩
  have HG : Hid (decide (goodR t) = true) := hg
  by_cases n0 : n < 0
  · clear hg hA
    have rR : w1.heap[w.heap.size + 1]? = some (.cells (icells 0 0 0 none 0 0 0 none 0 0 none 0 0) 29 (0, 0)) := RES.out
    obtain ⟨g0, g1, g2, g3, g4, g5, g6⟩ := icell rR
    have f00 := ithawed rR 0
    have f01 := ithawed rR 1
    have f02 := ithawed rR 2
    have f03 := ithawed rR 3
    have f04 := ithawed rR 4
    have f05 := ithawed rR 5
    have f06 := ithawed rR 6
    have rL := lay7_row (p := 0) (c := 0) (s := 0) (la := none) (ln := 0) (lc := 0) (base := 0) (oa := none) (on := 0) (oc := 0) (ba := none) (bn := 0) (bc := 0) rR
    have on := lay7_only w1 (w.heap.size + 1) (.int .i64 0) (.int .i64 0) (.int .i64 0) (.slice none 0 0) (.int .i64 0) (.slice none 0 0) (.slice none 0 0)
    have bL := B1.out.trans (on.below (show w.heap.size ≤ w.heap.size + 1 by omega))
    have LV : Hid (lay7 w1 (w.heap.size + 1) (.int .i64 0) (.int .i64 0) (.int .i64 0) (.slice none 0 0) (.int .i64 0) (.slice none 0 0) (.slice none 0 0) = (((((((w1.setCell ⟨w.heap.size + 1, 0, none⟩ (.int .i64 0)).setCell ⟨w.heap.size + 1, 1, none⟩ (.int .i64 0)).setCell ⟨w.heap.size + 1, 2, none⟩ (.int .i64 0)).setCell ⟨w.heap.size + 1, 3, none⟩ (.slice none 0 0)).setCell ⟨w.heap.size + 1, 4, none⟩ (.int .i64 0)).setCell ⟨w.heap.size + 1, 5, none⟩ (.slice none 0 0)).setCell ⟨w.heap.size + 1, 6, none⟩ (.slice none 0 0))) := rfl
    obtain ⟨LW, hLW⟩ : ∃ LW, lay7 w1 (w.heap.size + 1) (.int .i64 0) (.int .i64 0) (.int .i64 0) (.slice none 0 0) (.int .i64 0) (.slice none 0 0) (.slice none 0 0) = LW := ⟨_, rfl⟩
    rw [hLW] at rL bL LV
    obtain ⟨u0, u1, u2, u3, u4, u5, u6⟩ := icell rL
    have BL : Hid (Below w.heap.size w LW) := bL
    clear hLW rL bL on
    go_wp2_with (go_at_call 16; refine (good_of t true _ HG.out).mono ?_; rintro e w3 ⟨rfl, rfl⟩)
    rw [← LV.out]
    refine bodyPost_ret (v := .tuple #[.agg #[.int .i64 0, .int .i64 0, .int .i64 0, .slice none 0 0, .int .i64 0, .slice none 0 0, .slice none 0 0], .int .i64 2]) (by simp [results, Tryd.results6, go_sem, u0, u1, u2, u3, u4, u5, u6]) rfl ⟨rfl, BL.out⟩
  have n1 : 1048576 < n := by
    refine Int.not_le.1 fun q => hA ⟨of_decide_eq_true hg, by omega, q⟩
  clear hg hA
  have rR : w1.heap[w.heap.size + 1]? = some (.cells (icells 0 0 0 none 0 0 0 none 0 0 none 0 0) 29 (0, 0)) := RES.out
  obtain ⟨g0, g1, g2, g3, g4, g5, g6⟩ := icell rR
  have f00 := ithawed rR 0
  have f01 := ithawed rR 1
  have f02 := ithawed rR 2
  have f03 := ithawed rR 3
  have f04 := ithawed rR 4
  have f05 := ithawed rR 5
  have f06 := ithawed rR 6
  have rL := lay7_row (p := 0) (c := 0) (s := 0) (la := none) (ln := 0) (lc := 0) (base := 0) (oa := none) (on := 0) (oc := 0) (ba := none) (bn := 0) (bc := 0) rR
  have on := lay7_only w1 (w.heap.size + 1) (.int .i64 0) (.int .i64 0) (.int .i64 0) (.slice none 0 0) (.int .i64 0) (.slice none 0 0) (.slice none 0 0)
  have bL := B1.out.trans (on.below (show w.heap.size ≤ w.heap.size + 1 by omega))
  have LV : Hid (lay7 w1 (w.heap.size + 1) (.int .i64 0) (.int .i64 0) (.int .i64 0) (.slice none 0 0) (.int .i64 0) (.slice none 0 0) (.slice none 0 0) = (((((((w1.setCell ⟨w.heap.size + 1, 0, none⟩ (.int .i64 0)).setCell ⟨w.heap.size + 1, 1, none⟩ (.int .i64 0)).setCell ⟨w.heap.size + 1, 2, none⟩ (.int .i64 0)).setCell ⟨w.heap.size + 1, 3, none⟩ (.slice none 0 0)).setCell ⟨w.heap.size + 1, 4, none⟩ (.int .i64 0)).setCell ⟨w.heap.size + 1, 5, none⟩ (.slice none 0 0)).setCell ⟨w.heap.size + 1, 6, none⟩ (.slice none 0 0))) := rfl
  obtain ⟨LW, hLW⟩ : ∃ LW, lay7 w1 (w.heap.size + 1) (.int .i64 0) (.int .i64 0) (.int .i64 0) (.slice none 0 0) (.int .i64 0) (.slice none 0 0) (.slice none 0 0) = LW := ⟨_, rfl⟩
  rw [hLW] at rL bL LV
  obtain ⟨u0, u1, u2, u3, u4, u5, u6⟩ := icell rL
  have BL : Hid (Below w.heap.size w LW) := bL
  clear hLW rL bL on
  go_wp2_with (go_at_call 16; refine (good_of t true _ HG.out).mono ?_; rintro e w3 ⟨rfl, rfl⟩)
  rw [← LV.out]
  refine bodyPost_ret (v := .tuple #[.agg #[.int .i64 0, .int .i64 0, .int .i64 0, .slice none 0 0, .int .i64 0, .slice none 0 0, .slice none 0 0], .int .i64 2]) (by simp [results, Tryd.results6, go_sem, u0, u1, u2, u3, u4, u5, u6]) rfl ⟨rfl, BL.out⟩
end Go.Proofs.YtbfamjnnlcopiaaDoor
