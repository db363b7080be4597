/- Layer 17: ref and great of the law's images. -/
import Derived.Test.YtbfamjnnlcopiaaDoorIgT
import Derived.Test.YtbfamjnnlcopiaaDoorIgO
namespace Go.Proofs.YtbfamjnnlcopiaaDoor
open Go.RowKit
set_option linter.unusedVariables false
set_option maxRecDepth 4000

set_option maxRecDepth 20000 in
set_option maxHeartbeats 8000000 in
theorem ref_any (p c s base : Int) (la oa ba : Option Addr) (lc oc bc : Nat) (live offs bytes : List Int) (w : World) (hL : IsI w la live) (hO : IsI w oa offs) (hB : IsB w ba bytes) (hlv : live.length ≤ 17592186044416) (hof : offs.length ≤ 17592186044416) (hby : bytes.length ≤ 140737488355328) :
    Calls Tryd.prog 9 #[.agg #[.int .i64 p, .int .i64 c, .int .i64 s, .slice la live.length lc, .int .i64 base, .slice oa offs.length oc, .slice ba bytes.length bc]] w (TheirsP w p c s base live offs bytes) := by
  obtain ⟨D, hD, zD, rD, bD⟩ := ibox 27 w p c s la live.length lc base oa offs.length oc ba bytes.length bc
  have HD : Hid (w.alloc (.cells #[.int .i64 p, .int .i64 c, .int .i64 s, .slice la live.length lc, .int .i64 base, .slice oa offs.length oc, .slice ba bytes.length bc] 27) = D) := hD
  obtain ⟨E, hE, zE, rE, bE⟩ := ibox 34 D 0 0 0 none 0 0 0 none 0 0 none 0 0
  have HE : Hid (D.alloc (.cells #[.int .i64 0, .int .i64 0, .int .i64 0, .slice none 0 0, .int .i64 0, .slice none 0 0, .slice none 0 0] 34) = E) := hE
  rw [zD] at rE zE
  have RE : Hid (E.heap[w.heap.size + 1]? = some (.cells (icells 0 0 0 none 0 0 0 none 0 0 none 0 0) 34 (0, 0))) := rE
  have ZE : Hid (E.heap.size = w.heap.size + 1 + 1) := zE
  have BWE : Hid (Below w.heap.size w E) := bD.trans (bE.mono (by omega))
  obtain ⟨c0, c1, c2, c3, c4, c5, c6⟩ := (icell rD).keep bE
  have IL : Hid (IsI E la live) := hL.keep BWE.out
  have IO : Hid (IsI E oa offs) := hO.keep BWE.out
  have IB : Hid (IsB E ba bytes) := hB.keep BWE.out
  clear hD zD rD bD hE zE rE bE hL hO hB
  go_enter Tryd.func9, Tryd.ntmps9
  go_upto_region 1 with (fail)
  rw [HD.out, HE.out]
  go_wp2_with fail
  refine (theirs_any p c s base la oa ba lc oc bc live offs bytes E IL.out IO.out IB.out hlv hof hby).mono ?_
  rintro e w2 ⟨la2, lc2, oa2, oc2, gb, bc2, rfl, iL, fL, iO, iB, b2⟩
  have IL2 : Hid (IsI w2 la2 live) := iL
  have FL2 : Hid (∀ ad, la2 = some ad → E.heap.size ≤ ad.block) := fL
  have IO2 : Hid (OwnsI w2 E.heap.size oa2 offs oc2) := iO
  have IB2 : Hid (OwnsB w2 E.heap.size (some ⟨gb, 0, none⟩) bytes bc2) := iB
  have B2 : Hid (Below E.heap.size E w2) := b2
  clear c0 c1 c2 c3 c4 c5 c6 iL fL iO iB b2
  go_wp2_with fail
  refine (own_any17 p c s base la2 oa2 (some ⟨gb, 0, none⟩) _ lc2 _ oc2 _ bc2 w2).mono ?_
  rintro e w3 ⟨rfl, b3⟩
  have B3 : Hid (Below E.heap.size E w3) := B2.out.trans (b3.mono B2.out.size)
  have rR : w3.heap[w.heap.size + 1]? = some (.cells (icells 0 0 0 none 0 0 0 none 0 0 none 0 0) 34 (0, 0)) := by rw [B3.out.block (w.heap.size + 1) (by have := ZE.out; omega)]; exact RE.out
  obtain ⟨m0, m1, m2, m3, m4, m5, m6⟩ := icell rR
  have f00 := ithawed rR 0
  have f01 := ithawed rR 1
  have f02 := ithawed rR 2
  have f03 := ithawed rR 3
  have f04 := ithawed rR 4
  have f05 := ithawed rR 5
  have f06 := ithawed rR 6
  have rL := lay7_row (p := p) (c := c) (s := s) (la := la2) (ln := live.length) (lc := lc2) (base := base) (oa := oa2) (on := offs.length) (oc := oc2) (ba := some ⟨gb, 0, none⟩) (bn := bytes.length) (bc := bc2) rR
  have onL := lay7_only w3 (w.heap.size + 1) (.int .i64 p) (.int .i64 c) (.int .i64 s) (.slice la2 live.length lc2) (.int .i64 base) (.slice oa2 offs.length oc2) (.slice (some ⟨gb, 0, none⟩) bytes.length bc2)
  have NR : w.heap.size + 1 < E.heap.size := by have := ZE.out; omega
  have bL := (BWE.out.trans (B3.out.mono BWE.out.size)).trans (onL.below (show w.heap.size ≤ w.heap.size + 1 by omega))
  have iL : IsI (lay7 w3 (w.heap.size + 1) (.int .i64 p) (.int .i64 c) (.int .i64 s) (.slice la2 live.length lc2) (.int .i64 base) (.slice oa2 offs.length oc2) (.slice (some ⟨gb, 0, none⟩) bytes.length bc2)) la2 live := (IL2.out.keep b3).tgG (Tg.ofOnly onL) (fun ad e => by have := FL2.out ad e; omega)
  have fL : ∀ ad, la2 = some ad → w.heap.size ≤ ad.block := fun ad e => by have := FL2.out ad e; omega
  have iO : OwnsI (lay7 w3 (w.heap.size + 1) (.int .i64 p) (.int .i64 c) (.int .i64 s) (.slice la2 live.length lc2) (.int .i64 base) (.slice oa2 offs.length oc2) (.slice (some ⟨gb, 0, none⟩) bytes.length bc2)) w.heap.size oa2 offs oc2 := OwnsI.tg (IO2.out.keep b3) (Tg.ofOnly onL) NR |>.mono (by omega)
  have iB : OwnsB (lay7 w3 (w.heap.size + 1) (.int .i64 p) (.int .i64 c) (.int .i64 s) (.slice la2 live.length lc2) (.int .i64 base) (.slice oa2 offs.length oc2) (.slice (some ⟨gb, 0, none⟩) bytes.length bc2)) w.heap.size (some ⟨gb, 0, none⟩) bytes bc2 := (ownsB_only (IB2.out.keep b3) onL (fun ad e => by have := ownsB_ge IB2.out ad e; omega)).mono (by omega)
  have LV : Hid (lay7 w3 (w.heap.size + 1) (.int .i64 p) (.int .i64 c) (.int .i64 s) (.slice la2 live.length lc2) (.int .i64 base) (.slice oa2 offs.length oc2) (.slice (some ⟨gb, 0, none⟩) bytes.length bc2) = (((((((w3.setCell ⟨w.heap.size + 1, 0, none⟩ (.int .i64 p)).setCell ⟨w.heap.size + 1, 1, none⟩ (.int .i64 c)).setCell ⟨w.heap.size + 1, 2, none⟩ (.int .i64 s)).setCell ⟨w.heap.size + 1, 3, none⟩ (.slice la2 live.length lc2)).setCell ⟨w.heap.size + 1, 4, none⟩ (.int .i64 base)).setCell ⟨w.heap.size + 1, 5, none⟩ (.slice oa2 offs.length oc2)).setCell ⟨w.heap.size + 1, 6, none⟩ (.slice (some ⟨gb, 0, none⟩) bytes.length bc2))) := rfl
  obtain ⟨LW, hLW⟩ : ∃ LW, lay7 w3 (w.heap.size + 1) (.int .i64 p) (.int .i64 c) (.int .i64 s) (.slice la2 live.length lc2) (.int .i64 base) (.slice oa2 offs.length oc2) (.slice (some ⟨gb, 0, none⟩) bytes.length bc2) = LW := ⟨_, rfl⟩
  rw [hLW] at rL bL LV iL iO iB
  obtain ⟨u0, u1, u2, u3, u4, u5, u6⟩ := icell rL
  have POST : Hid (TheirsP w p c s base live offs bytes (.returned (.agg #[.int .i64 p, .int .i64 c, .int .i64 s, .slice la2 live.length lc2, .int .i64 base, .slice oa2 offs.length oc2, .slice (some ⟨gb, 0, none⟩) bytes.length bc2])) LW) := ⟨la2, lc2, oa2, oc2, gb, bc2, rfl, iL, fL, iO, iB, bL⟩
  clear hLW rL bL iL iO iB onL fL b3
  go_wp2
  rw [← LV.out]
  refine bodyPost_ret (v := .agg #[.int .i64 p, .int .i64 c, .int .i64 s, .slice la2 live.length lc2, .int .i64 base, .slice oa2 offs.length oc2, .slice (some ⟨gb, 0, none⟩) bytes.length bc2]) (by simp [results, Tryd.results9, go_sem, u0, u1, u2, u3, u4, u5, u6]) rfl POST.out

/-- Is an image more than is looked at? -/
def greatB (live offs bytes : List Int) : Bool := decide (100 < live.length ∨ 1000 < offs.length ∨ 10000 < bytes.length)
set_option maxRecDepth 20000 in
set_option maxHeartbeats 2000000 in
theorem great_any17 (p c s base : Int) (la oa ba : Option Addr) (lc oc bc : Nat) (live offs bytes : List Int) (v : Bool) (w : World) (hv : greatB live offs bytes = v) (hml : live.length ≤ maxLen) (hmo : offs.length ≤ maxLen) (hmb : bytes.length ≤ maxLen) :
    Calls Tryd.prog 5 #[.agg #[.int .i64 p, .int .i64 c, .int .i64 s, .slice la live.length lc, .int .i64 base, .slice oa offs.length oc, .slice ba bytes.length bc]] w fun e w' => e = .returned (.bool v) ∧ Below w.heap.size w w' := by
  obtain ⟨D, hD, zD, rD, bD⟩ := ibox 27 w p c s la live.length lc base oa offs.length oc ba bytes.length bc
  have HD : Hid (w.alloc (.cells #[.int .i64 p, .int .i64 c, .int .i64 s, .slice la live.length lc, .int .i64 base, .slice oa offs.length oc, .slice ba bytes.length bc] 27) = D) := hD
  obtain ⟨c0, c1, c2, c3, c4, c5, c6⟩ := icell rD
  have BD : Hid (Below w.heap.size w D) := bD
  unfold maxLen at hml hmo hmb
  obtain ⟨n1, h1⟩ : ∃ n1, live.length = n1 := ⟨_, rfl⟩
  obtain ⟨n2, h2⟩ : ∃ n2, offs.length = n2 := ⟨_, rfl⟩
  obtain ⟨n3, h3⟩ : ∃ n3, bytes.length = n3 := ⟨_, rfl⟩
  unfold greatB at hv
  rw [h1, h2, h3] at hv HD
  rw [h1] at c3 hml
  rw [h2] at c5 hmo
  rw [h3] at c6 hmb
  rw [h1, h2, h3]
  clear hD zD rD bD h1 h2 h3
  by_cases a1 : 100 < n1
  · have HV : Hid (v = true) := by show _ = _; rw [← hv]; exact decide_eq_true (.inl a1)
    have k1 : (100 : Int) < (n1 : Int) := by omega
    clear hv
    go_enter Tryd.func5, Tryd.ntmps5
    go_upto_region 1 with (fail)
    rw [HD.out]
    go_wp2
    go_ret
    exact ⟨ret_bool HV.out.symm, BD.out⟩
  · have k1 : ¬ ((100 : Int) < (n1 : Int)) := by omega
    by_cases a2 : 1000 < n2
    · have HV : Hid (v = true) := by show _ = _; rw [← hv]; exact decide_eq_true (.inr (.inl a2))
      have k2 : (1000 : Int) < (n2 : Int) := by omega
      clear hv
      go_enter Tryd.func5, Tryd.ntmps5
      go_upto_region 1 with (fail)
      rw [HD.out]
      go_wp2
      go_ret
      exact ⟨ret_bool HV.out.symm, BD.out⟩
    · have k2 : ¬ ((1000 : Int) < (n2 : Int)) := by omega
      by_cases a3 : 10000 < n3
      · have HV : Hid (v = true) := by show _ = _; rw [← hv]; exact decide_eq_true (.inr (.inr a3))
        have k3 : (10000 : Int) < (n3 : Int) := by omega
        clear hv
        go_enter Tryd.func5, Tryd.ntmps5
        go_upto_region 1 with (fail)
        rw [HD.out]
        go_wp2
        go_ret
        exact ⟨ret_bool HV.out.symm, BD.out⟩
      · have HV : Hid (v = false) := by show _ = _; rw [← hv]; exact decide_eq_false (by omega)
        have k3 : ¬ ((10000 : Int) < (n3 : Int)) := by omega
        clear hv
        go_enter Tryd.func5, Tryd.ntmps5
        go_upto_region 1 with (fail)
        rw [HD.out]
        go_wp2
        go_ret
        exact ⟨ret_bool HV.out.symm, BD.out⟩
end Go.Proofs.YtbfamjnnlcopiaaDoor
