/- Layer 17: own, and the document's Same. -/
import Derived.Test.YtbfamjnnlcopiaaGreatDoorGzAV
import Derived.Test.YtbfamjnnlcopiaaGreatDoorGzAF
import Derived.Test.YtbfamjnnlcopiaaGreatDoorGzAI
import Derived.Test.YtbfamjnnlcopiaaGreatDoorGzAS
import Derived.Test.YtbfamjnnlcopiaaGreatDoorGzAJ
import Derived.Test.YtbfamjnnlcopiaaGreatDoorGzAH
import Derived.Lib.AppendZeros
namespace Go.Proofs.YtbfamjnnlcopiaaGreatDoor
open Go.RowKit
set_option linter.unusedVariables false
set_option maxRecDepth 4000

set_option maxRecDepth 20000 in
set_option maxHeartbeats 4000000 in
theorem own_any17 (p c s base : Int) (la oa ba : Option Addr) (ln lc on oc bn bc : Nat) (w : World) :
    Calls Tryz.prog 11 #[.agg #[.int .i64 p, .int .i64 c, .int .i64 s, .slice la ln lc, .int .i64 base, .slice oa on oc, .slice ba bn bc]] w fun e w' => e = .returned (.agg #[.int .i64 p, .int .i64 c, .int .i64 s, .slice la ln lc, .int .i64 base, .slice oa on oc, .slice ba bn bc]) ∧ Below w.heap.size w w' := by
  obtain ⟨D, hD, zD, rD, bD⟩ := ibox 35 w p c s la ln lc base oa on oc ba bn bc
  have HD : Hid (w.alloc (.cells #[.int .i64 p, .int .i64 c, .int .i64 s, .slice la ln lc, .int .i64 base, .slice oa on oc, .slice ba bn bc] 35) = D) := hD
  obtain ⟨E, hE, zE, rE, bE⟩ := ibox 42 D 0 0 0 none 0 0 0 none 0 0 none 0 0
  have HE : Hid (D.alloc (.cells #[.int .i64 0, .int .i64 0, .int .i64 0, .slice none 0 0, .int .i64 0, .slice none 0 0, .slice none 0 0] 42) = E) := hE
  rw [zD] at rE
  obtain ⟨c0, c1, c2, c3, c4, c5, c6⟩ := (icell rD).keep bE
  obtain ⟨g0, g1, g2, g3, g4, g5, g6⟩ := icell rE
  have f0 := ithawed rE 0
  have f1 := ithawed rE 1
  have f2 := ithawed rE 2
  have f3 := ithawed rE 3
  have f4 := ithawed rE 4
  have f5 := ithawed rE 5
  have f6 := ithawed rE 6
  have rL := lay7_row (p := p) (c := c) (s := s) (la := la) (ln := ln) (lc := lc) (base := base) (oa := oa) (on := on) (oc := oc) (ba := ba) (bn := bn) (bc := bc) rE
  have bL := (bD.trans (bE.mono (by omega))).trans ((lay7_only E (w.heap.size + 1) (.int .i64 p) (.int .i64 c) (.int .i64 s) (.slice la ln lc) (.int .i64 base) (.slice oa on oc) (.slice ba bn bc)).below (show w.heap.size ≤ w.heap.size + 1 by omega))
  have LV : Hid (lay7 E (w.heap.size + 1) (.int .i64 p) (.int .i64 c) (.int .i64 s) (.slice la ln lc) (.int .i64 base) (.slice oa on oc) (.slice ba bn bc) = (((((((E.setCell ⟨w.heap.size + 1, 0, none⟩ (.int .i64 p)).setCell ⟨w.heap.size + 1, 1, none⟩ (.int .i64 c)).setCell ⟨w.heap.size + 1, 2, none⟩ (.int .i64 s)).setCell ⟨w.heap.size + 1, 3, none⟩ (.slice la ln lc)).setCell ⟨w.heap.size + 1, 4, none⟩ (.int .i64 base)).setCell ⟨w.heap.size + 1, 5, none⟩ (.slice oa on oc)).setCell ⟨w.heap.size + 1, 6, none⟩ (.slice ba bn bc))) := rfl
  obtain ⟨LW, hLW⟩ : ∃ LW, lay7 E (w.heap.size + 1) (.int .i64 p) (.int .i64 c) (.int .i64 s) (.slice la ln lc) (.int .i64 base) (.slice oa on oc) (.slice ba bn bc) = LW := ⟨_, rfl⟩
  rw [hLW] at rL bL LV
  obtain ⟨u0, u1, u2, u3, u4, u5, u6⟩ := icell rL
  have BL : Hid (Below w.heap.size w LW) := bL
  clear hD zD rD bD hE zE rE bE hLW bL rL
  go_enter Tryz.func11, Tryz.ntmps11
  go_upto_region 1 with (fail)
  rw [HD.out, HE.out]
  go_wp2
  rw [← LV.out]
  refine bodyPost_ret (v := .agg #[.int .i64 p, .int .i64 c, .int .i64 s, .slice la ln lc, .int .i64 base, .slice oa on oc, .slice ba bn bc]) (by simp [results, Tryz.results11, go_sem, u0, u1, u2, u3, u4, u5, u6]) rfl ⟨rfl, BL.out⟩

set_option maxRecDepth 20000 in
set_option maxHeartbeats 4000000 in
/-- The document's Same of two images that read alike. -/
theorem dsame_true (p c s base : Int) (la oa ba la' oa' ba' : Option Addr) (lc oc bc lc' oc' bc' : Nat) (live offs bytes : List Int) (w : World) (hL : IsI w la live) (hL' : IsI w la' live) (hO : IsI w oa offs) (hO' : IsI w oa' offs) (hB : IsB w ba bytes) (hB' : IsB w ba' bytes) (hml : live.length ≤ maxLen) (hmo : offs.length ≤ maxLen) :
    Calls Tryz.prog 10 #[.agg #[.int .i64 p, .int .i64 c, .int .i64 s, .slice la live.length lc, .int .i64 base, .slice oa offs.length oc, .slice ba bytes.length bc], .agg #[.int .i64 p, .int .i64 c, .int .i64 s, .slice la' live.length lc', .int .i64 base, .slice oa' offs.length oc', .slice ba' bytes.length bc']] w fun e w' => e = .returned (.bool true) ∧ Below w.heap.size w w' := by
  obtain ⟨D, hD, zD, rD, bD⟩ := ibox 42 w p c s la live.length lc base oa offs.length oc ba bytes.length bc
  have HD : Hid (w.alloc (.cells #[.int .i64 p, .int .i64 c, .int .i64 s, .slice la live.length lc, .int .i64 base, .slice oa offs.length oc, .slice ba bytes.length bc] 42) = D) := hD
  obtain ⟨E, hE, zE, rE, bE⟩ := ibox 42 D p c s la' live.length lc' base oa' offs.length oc' ba' bytes.length bc'
  have HE : Hid (D.alloc (.cells #[.int .i64 p, .int .i64 c, .int .i64 s, .slice la' live.length lc', .int .i64 base, .slice oa' offs.length oc', .slice ba' bytes.length bc'] 42) = E) := hE
  rw [zD] at rE
  have BE : Hid (Below w.heap.size w E) := bD.trans (bE.mono (by omega))
  have C1 : Hid (Ic E w.heap.size p c s la live.length lc base oa offs.length oc ba bytes.length bc) := (icell rD).keep bE
  have C2 : Hid (Ic E (w.heap.size + 1) p c s la' live.length lc' base oa' offs.length oc' ba' bytes.length bc') := icell rE
  obtain ⟨c0, c1, c2, c3, c4, c5, c6⟩ := C1.out
  obtain ⟨g0, g1, g2, g3, g4, g5, g6⟩ := C2.out
  have L1 : Hid (IsI E la live) := hL.keep BE.out
  have L2 : Hid (IsI E la' live) := hL'.keep BE.out
  have O1 : Hid (IsI E oa offs) := hO.keep BE.out
  have O2 : Hid (IsI E oa' offs) := hO'.keep BE.out
  have Y1 : Hid (IsB E ba bytes) := hB.keep BE.out
  have Y2 : Hid (IsB E ba' bytes) := hB'.keep BE.out
  have HML : Hid (live.length ≤ maxLen) := hml
  have HMO : Hid (offs.length ≤ maxLen) := hmo
  clear hD zD rD bD hE zE rE bE hL hL' hO hO' hB hB' hml hmo
  go_enter Tryz.func10, Tryz.ntmps10
  go_upto_region 1 with (fail)
  rw [HD.out, HE.out]
  go_wp2_with fail
  refine (same_true p c s la la' _ _ lc lc' live E L1.out L2.out rfl rfl HML.out).mono ?_
  rintro e w1 ⟨rfl, b1⟩
  have B1 : Hid (Below E.heap.size E w1) := b1
  obtain ⟨d0, d1, d2, d3, d4, d5, d6⟩ := C1.out.keep b1
  obtain ⟨k0, k1, k2, k3, k4, k5, k6⟩ := C2.out.keep b1
  clear b1 c0 c1 c2 c3 c4 c5 c6 g0 g1 g2 g3 g4 g5 g6
  go_wp2_with fail
  refine (ints_any oa oa' _ _ oc oc' offs offs w1 (O1.out.keep B1.out) (O2.out.keep B1.out) rfl rfl HMO.out HMO.out).mono ?_
  rw [show decide (offs = offs) = true from decide_eq_true rfl]
  rintro e w2 ⟨rfl, b2⟩
  have B2 : Hid (Below E.heap.size E w2) := B1.out.trans (b2.mono B1.out.size)
  have j6 := (C1.out.keep B2.out).c6
  have i6 := (C2.out.keep B2.out).c6
  clear b2 d0 d1 d2 d3 d4 d5 d6 k0 k1 k2 k3 k4 k5 k6
  go_wp2_with fail
  refine (rsame_true ba ba' _ _ bc bc' bytes w2 (Y1.out.keep B2.out) (Y2.out.keep B2.out) rfl rfl).mono ?_
  rintro e w2' ⟨rfl, rfl⟩
  go_wp2
  go_ret
  exact ⟨rfl, BE.out.trans (B2.out.mono BE.out.size)⟩
end Go.Proofs.YtbfamjnnlcopiaaGreatDoor

/- Layer 17: the bytes of the set of a span's live slots, as the code makes them. -/
namespace Go.Proofs.YtbfamjnnlcopiaaGreatDoor
open Go.RowKit
set_option linter.unusedVariables false
set_option maxRecDepth 4000

/-- A set in new memory. -/
structure Lv (w0 wr : World) (b g n : Nat) (f : Nat → Bool) : Prop where
  set : SetAt wr b g n f
  low : Below w0.heap.size w0 wr
  gg : w0.heap.size ≤ g
theorem isB_of_isL {w : World} {a : Option Addr} {l : List Int} (h : IsL w .u8 a l) (hb : AllB l) : IsB w a l := ⟨hb, h⟩

set_option maxRecDepth 20000 in
set_option maxHeartbeats 2000000 in
theorem ilive_any (p c s : Int) (a : Option Addr) (n k : Nat) (l : List Int) (w : World) (hn : n = l.length) (hT : Tabs w) (hI : IsI w a l) (hm : l.length ≤ maxLen) (h : spOk p c s l = true) :
    Calls Tryz.prog 48 #[.agg #[.int .i64 p, .int .i64 c, .int .i64 s, .slice a n k]] w fun e w' => ∃ g, e = .returned (.slice (some ⟨g, 0, none⟩) ((slN c + 7) / 8) ((slN c + 7) / 8)) ∧ IsB w' (some ⟨g, 0, none⟩) (bitsG c l) ∧ Below w.heap.size w w' := by
  subst hn
  obtain ⟨D, hD, zD, rD, bD⟩ := dbox w p c s a l.length k
  have HD : Hid (w.alloc (.cells #[.int .i64 p, .int .i64 c, .int .i64 s, .slice a l.length k] 33) = D) := hD
  have BD : Hid (Below w.heap.size w D) := bD
  have TD : Hid (Tabs D) := hT.keep bD
  have ID : Hid (IsI D a l) := hI.keep bD
  have HIW : Hid (IsI w a l) := hI
  have RD : Hid (D.heap[w.heap.size]? = some (.cells (dcells p c s a l.length k) 33 (0, 0))) := rD
  have c0 := dcell0 rD
  have c1 := dcell1 rD
  have c2 := dcell2 rD
  have c3 := dcell3 rD
  have HM : Hid (l.length ≤ maxLen) := hm
  obtain ⟨k1, k2⟩ := spOk_iff.1 h
  have RT : Hid (Rt p c s) := newE_rt k1
  have HF : Hid (bitsG c l = bysL (fOf l) ((slN c + 7) / 8)) := rfl
  obtain ⟨N, hN⟩ : ∃ N, slN c = N := ⟨_, rfl⟩
  have HN : Hid (slN c = N) := hN
  have n16 : N ≤ 16 := by have := RT.out.facts.2.1; omega
  rw [hN] at k2
  have OK : Hid (okL N (-1) l = true) := k2
  have HCL : Hid (clampN (N : Nat) = N) := by show _ = _; rw [clampN, if_neg (by omega), if_neg (by omega)]; omega
  have H : Hid (spOk p c s l = true) := h
  rw [hN]
  unfold maxLen at hm
  clear hD zD rD bD hT hI h k1 k2 hN
  go_enter Tryz.func48, Tryz.ntmps48
  go_upto_region 1 with (fail)
  rw [HD.out]
  go_wp2_with (first
    | (go_at_call 61; refine (iof_yes p c s a l.length k l D rfl TD.out ID.out HM.out H.out).mono ?_; rintro e w1 ⟨sb, b, g, rfl, s1⟩; have S1 : Hid (Spn D w1 sb b g p c s (fOf l)) := s1; have d3 := bcell s1.low (dcell3 RD.out); clear s1)
    | (go_at_call 78; refine (slots_rt sb p c s _ S1.out.at'.box (TD.out.keep S1.out.low).1 RT.out N HN.out).mono ?_; rintro e w' ⟨rfl, rfl⟩)
    | (go_at_call 77; refine (snew_any _ _).mono ?_; rw [HCL.out]; rintro e w2 ⟨rfl, hw2⟩; have L2 : Hid (Lv D w2 (w1.heap.size + 1) w1.heap.size N (fOf (l.take 0))) := (by show Lv _ _ _ _ _ _; rw [← hw2, List.take_zero, fOf_nil]; exact ⟨newW_at w1 N (by omega), S1.out.low.trans ((newW_below w1 N).mono S1.out.low.size), S1.out.low.size⟩); have e3 : w2.cell? ⟨w.heap.size, 3, none⟩ = some (.slice a l.length k) := (by rw [← hw2]; exact bcell (newW_below w1 N) d3); clear hw2))
  obtain ⟨B, hB⟩ : ∃ B, w1.heap.size + 1 = B := ⟨_, rfl⟩
  obtain ⟨G, hG⟩ : ∃ G, w1.heap.size = G := ⟨_, rfl⟩
  rw [hB, hG] at L2
  rw [hB]
  clear hB hG
  go_loopw [19] (fun iv wr => ∃ (k : Nat) (t : Int), k ≤ l.length ∧ iv = .int .i64 (k : Nat) ∧ (∀ i : Nat, fOf (l.take k) i = true → (i : Int) ≤ t) ∧ -1 ≤ t ∧ okL N t (l.drop k) = true ∧ Lv D wr B G N (fOf (l.take k))) (fun iv _ => l.length - (intOf iv).toNat)
  case atStart => exact ⟨0, -1, Nat.zero_le _, rfl, fun i hi => by simp [fOf] at hi, by omega, OK.out, L2.out⟩
  case round =>
    clear L2 e3
    obtain ⟨j, t, hj, rfl, hA, t0, hO, hS⟩ := hrel
    rename World => wr
    have HA : Hid (∀ i : Nat, fOf (l.take j) i = true → (i : Int) ≤ t) := hA
    have HO : Hid (okL N t (l.drop j) = true) := hO
    have HS : Hid (Lv D wr B G N (fOf (l.take j))) := hS
    clear hA hO hS
    by_cases hlt : j < l.length
    · obtain ⟨hin, h0 | ⟨ba, off, rfl, hba, hc⟩⟩ := ID.out
      · rw [h0] at hlt; simp at hlt
      have hcell := (HS.out.low.cell (p := ⟨ba, off + j, none⟩) hba).trans (hc j hlt)
      have ST := HO.out
      rw [okL_step N t l j hlt, Bool.and_eq_true, decide_eq_true_eq] at ST
      have FM : Hid (0 ≤ l.getD j 0 → (fun x => if x = (l.getD j 0).toNat then true else fOf (l.take j) x) = fOf (l.take (j + 1))) := fun h0 => fOf_more l j hlt h0
      obtain ⟨x, hx⟩ : ∃ x, l.getD j 0 = x := ⟨_, rfl⟩
      rw [hx] at hcell ST FM
      obtain ⟨⟨x0, x1⟩, hO2⟩ := ST
      obtain ⟨y, rfl⟩ : ∃ y : Nat, x = y := ⟨x.toNat, by omega⟩
      have hp : isP N (y : Int) = true := isP_true.2 (by omega)
      have T : Hid (turn N (fOf (l.take j)) (y : Int) true = fOf (l.take (j + 1))) := by
        show _ = _
        rw [← FM.out (by omega)]
        funext z; rw [← turn_put hp z]; rfl
      have NA : Hid (∀ i : Nat, fOf (l.take (j + 1)) i = true → (i : Int) ≤ (y : Int)) := fun i hi => by
        rw [← FM.out (by omega)] at hi
        by_cases e : i = y
        · omega
        · have hi : (if i = (Int.toNat (y : Int)) then true else fOf (l.take j) i) = true := hi
          rw [if_neg (by simpa using e)] at hi
          have := HA.out i hi
          omega
      have NO : Hid (okL N (y : Int) (l.drop (j + 1)) = true) := hO2
      have y1 : (y : Int) ≤ 16 := by omega
      clear hx hc hin hba hp hO2 x0 x1
      go_wp2_with (go_at_call 79; refine (sadd_any B G N (fOf (l.take j)) (y : Int) wr HS.out.set).mono ?_; rw [T.out]; rintro e w5 ⟨rfl, s5, o5⟩; have S5 : Hid (Lv D w5 B G N (fOf (l.take (j + 1)))) := ⟨s5, HS.out.low.trans (o5.below HS.out.gg), HS.out.gg⟩; clear s5 o5)
      go_roundw
      case rel => exact ⟨j + 1, (y : Int), by omega, by go_num, NA.out, by omega, NO.out, S5.out⟩
      case measure => simp [intOf]; omega
    · have F : Hid (Lv D wr B G N (fOf l)) := by have q := HS.out; rw [List.take_of_length_le (by omega)] at q; exact q
      go_wp2_with (go_at_call 80; refine (sbytes_any B G N (fOf l) _ F.out.set).mono ?_; rintro e w5 ⟨rfl, f5, b5⟩; have I5 : Hid (IsB w5 (some ⟨wr.heap.size, 0, none⟩) (bysL (fOf l) ((N + 7) / 8))) := isB_of_isL f5.isL (bys_byte _ _); have B5 : Hid (Below w.heap.size w w5) := BD.out.trans ((F.out.low.trans (b5.mono F.out.low.size)).mono BD.out.size); clear f5 b5)
      go_ret
      exact ⟨wr.heap.size, rfl, (by rw [HF.out, HN.out]; exact I5.out), B5.out⟩
end Go.Proofs.YtbfamjnnlcopiaaGreatDoor

/- Layer 17: slices.Grow of nothing, and slices.Concat. -/
namespace Go.Proofs.YtbfamjnnlcopiaaGreatDoor
open Go.RowKit
set_option linter.unusedVariables false
set_option maxRecDepth 4000

theorem zeroC_B (n : Nat) : Builtin.zeroCells #[.int .u8 0] n = (cellsB (List.replicate n 0)).toArray := by
  apply Array.toList_inj.1
  rw [zeroCells_B]
set_option maxHeartbeats 1000000 in
theorem igrow_any (n : Nat) (w : World) (hn : n ≤ 1000000) :
    Calls Tryz.prog 75 #[.slice none 0 0, .int .i64 (n : Nat)] w fun e w' => ∃ a' c', e = .returned (.slice a' 0 c') ∧ OwnsB w' w.heap.size a' [] c' ∧ Below w.heap.size w w' := by
  rcases Nat.eq_zero_or_pos n with rfl | hpos
  · go_enter Tryz.func75, Tryz.ntmps75
    go_wp2
    go_ret
    exact ⟨none, 0, rfl, World.ownsRow_nil _ _ _ _, Below.refl _ _⟩
  · obtain ⟨i0, hi0, hz0, hs0, hb0⟩ := info_parts Tryz.info5
    have hG1 : n ≤ grownCap w n 0 5 := grownCap_ge w _ _ _
    have hGm := grownCap_le_maxLen w n 0 5 (by unfold maxLen; omega)
    have hrz : ∀ ty, (Builtin.append_ #[25, 3] ty #[.slice none 0 0, .int .i64 (n : Nat)]).run Tryz.prog w = .ok (.slice (some ⟨w.heap.size, 0, none⟩) n (grownCap w n 0 5)) (w.drew.alloc (.cells ((cellsB (List.replicate n 0)).toArray ++ (cellsB (List.replicate (grownCap w n 0 5 - n) 0)).toArray) 5)) := fun ty => by
      have h := Lib.run_append_nil_zeros w 25 3 ty 5 i0 _ .i64 .i64 Tryz.underlying25 Tryz.underlying3 hi0 hz0 n hpos (by rw [hs0]; omega) (by omega) (by rw [hb0]; omega)
      rw [h]
      simp only [Value.cells, zeroC_B]
    obtain ⟨G, hG⟩ : ∃ G, grownCap w n 0 5 = G := ⟨_, rfl⟩
    rw [hG] at hrz hG1 hGm
    obtain ⟨wz, hwz⟩ : ∃ wz, w.drew.alloc (.cells ((cellsB (List.replicate n 0)).toArray ++ (cellsB (List.replicate (G - n) 0)).toArray) 5) = wz := ⟨_, rfl⟩
    have BN : Hid (Below w.heap.size w wz) := by show Below _ _ _; rw [← hwz]; exact (Below.refl _ w).drew.alloc (Nat.le_refl _) _
    have RN : Hid (OwnsB wz w.heap.size (some ⟨w.heap.size, 0, none⟩) [] G) := by
      show OwnsB _ _ _ _ _
      rw [← hwz]
      refine ⟨rfl, .inr ⟨w.heap.size, G, _, rfl, Nat.le_refl _, Go.heap_alloc_new w.drew _, by show 0 ≤ G; omega, hGm, ?_, rfl⟩⟩
      simp [cellsB_len]; omega
    rw [hwz] at hrz
    have RZ : Hid (∀ ty, (Builtin.append_ #[25, 3] ty #[.slice none 0 0, .int .i64 (n : Nat)]).run Tryz.prog w = .ok (.slice (some ⟨w.heap.size, 0, none⟩) n G) wz) := hrz
    have h1 : ¬ ((n : Int) < 0) := by omega
    have h4 : (0 : Int) < (n : Int) := by omega
    have h5 : (n : Int) > 0 := by omega
    unfold maxLen at hGm
    clear hrz hG hwz hi0 hz0 hs0 hb0
    go_enter Tryz.func75, Tryz.ntmps75
    go_wp2_with (at_builtin; refine Lib.wpList_append_run _ rfl _ _ _ _ rfl _ _ rfl rfl _ _ (RZ.out _) ?_)
    all_goals (go_ret; exact ⟨_, G, rfl, RN.out, BN.out⟩)

/-- A piece: a slice of bytes. -/
structure Pc where
  a : Option Addr
  c : Nat
  l : List Int
/-- The pieces up to one, joined. -/
def sumP (ps : List Pc) (k : Nat) : List Int := (ps.take k).flatMap (·.l)
theorem sumP_succ (ps : List Pc) (k : Nat) (h : k < ps.length) : sumP ps (k + 1) = sumP ps k ++ ps[k].l := by
  unfold sumP
  rw [List.take_succ_eq_append_getElem h, List.flatMap_append]
  simp
theorem sumP_le (ps : List Pc) (k : Nat) : (sumP ps k).length ≤ (sumP ps ps.length).length := by
  have e : sumP ps ps.length = sumP ps k ++ (ps.drop k).flatMap (·.l) := by
    unfold sumP
    rw [List.take_length, ← List.flatMap_append, List.take_append_drop]
  rw [e, List.length_append]
  omega
/-- Pieces that can be read. -/
structure IsS (w : World) (g : Nat) (ps : List Pc) : Prop where
  cell : ∀ i (h : i < ps.length), w.cell? ⟨g, i, none⟩ = some (.slice ps[i].a ps[i].l.length ps[i].c)
  byte : ∀ i (h : i < ps.length), IsB w ps[i].a ps[i].l
  nil : ∀ i (h : i < ps.length), ps[i].a = none → ps[i].l = [] ∧ ps[i].c = 0
theorem IsS.keep {w w' : World} {g : Nat} {ps : List Pc} (h : IsS w g ps) (hb : Below w.heap.size w w') : IsS w' g ps :=
  ⟨fun i hi => bcell hb (h.cell i hi), fun i hi => (h.byte i hi).keep hb, h.nil⟩

set_option maxRecDepth 20000 in
set_option maxHeartbeats 2000000 in
theorem concat_any (g n k : Nat) (ps : List Pc) (w : World) (hn : n = ps.length) (h : IsS w g ps) (hl : ps.length ≤ 100) (hs : (sumP ps ps.length).length ≤ 1000000) :
    Calls Tryz.prog 46 #[.slice (some ⟨g, 0, none⟩) n k] w fun e w' => ∃ a' c', e = .returned (.slice a' (sumP ps ps.length).length c') ∧ OwnsB w' w.heap.size a' (sumP ps ps.length) c' ∧ Below w.heap.size w w' := by
  have H : Hid (IsS w g ps) := h
  have HN : Hid (n = ps.length) := hn
  have n1 : n ≤ 100 := by omega
  have SL : Hid (∀ j, (sumP ps j).length ≤ 1000000) := fun j => Nat.le_trans (sumP_le ps j) hs
  clear h hn hl hs
  go_enter Tryz.func46, Tryz.ntmps46
  go_wp2
  go_loopw [3, 11] (fun sv iv wr => ∃ (j z : Nat), j ≤ n ∧ iv = .int .i64 (j : Nat) ∧ sv = .int .i64 (z : Nat) ∧ z = (sumP ps j).length ∧ w = wr) (fun _ iv _ => n - (intOf iv).toNat)
  case atStart => exact ⟨0, 0, Nat.zero_le _, rfl, rfl, rfl, rfl⟩
  case round =>
    obtain ⟨j, z, hj, rfl, rfl, hz, rfl⟩ := hrel
    have z1 : z ≤ 1000000 := by rw [hz]; exact SL.out j
    have HZ : Hid (z = (sumP ps j).length) := hz
    clear hz
    by_cases hlt : j < n
    · have hjp : j < ps.length := by have := HN.out; omega
      have hcell0 := H.out.cell j hjp
      have E := sumP_succ ps j hjp
      obtain ⟨y, hy⟩ : ∃ y, ps[j] = y := ⟨_, rfl⟩
      rw [hy] at hcell0 E
      obtain ⟨ya, yc, yl⟩ := y
      have hcell : w.cell? ⟨g, j, none⟩ = some (.slice ya yl.length yc) := hcell0
      obtain ⟨yn, hyn⟩ : ∃ yn, yl.length = yn := ⟨_, rfl⟩
      rw [hyn] at hcell
      have E2 : Hid (z + yn = (sumP ps (j + 1)).length) := by show _ = _; rw [E, List.length_append, ← HZ.out]; show z + yn = z + yl.length; rw [hyn]
      have z2 : z + yn ≤ 1000000 := by rw [E2.out]; exact SL.out _
      clear E hy hyn hcell0
      go_wp2
      go_roundw
      case rel => exact ⟨j + 1, z + yn, by omega, by go_num, by go_num, E2.out, trivial⟩
      case measure => simp [intOf]; omega
    · obtain rfl : j = n := by omega
      go_wp2_with fail
      refine (igrow_any z _ z1).mono ?_
      rintro e w1 ⟨a1, c1, rfl, o1, b1⟩
      have O1 : Hid (OwnsB w1 w.heap.size a1 [] c1) := o1
      have B1 : Hid (Below w.heap.size w w1) := b1
      clear o1 b1
      go_wp2
      go_loopw [6, 27] (fun sv iv wr => ∃ (i : Nat) (a' : Option Addr) (c' : Nat), i ≤ j ∧ iv = .int .i64 (i : Nat) ∧ sv = .slice a' (sumP ps i).length c' ∧ OwnsB wr w.heap.size a' (sumP ps i) c' ∧ Below w.heap.size w wr) (fun _ iv _ => j - (intOf iv).toNat)
      case atStart => exact ⟨0, a1, c1, Nat.zero_le _, rfl, rfl, O1.out, B1.out⟩
      case round =>
        clear O1 B1
        obtain ⟨i, a2, c2, hi, rfl, rfl, o2, b2⟩ := hrel
        rename World => wr
        have O2 : Hid (OwnsB wr w.heap.size a2 (sumP ps i) c2) := o2
        have B2 : Hid (Below w.heap.size w wr) := b2
        have zz := b2.size
        clear o2 b2
        have s0 := SL.out i
        by_cases hlt : i < j
        · have hjp : i < ps.length := by have := HN.out; omega
          have hcell0 := (H.out.keep B2.out).cell i hjp
          have hby := (H.out.keep B2.out).byte i hjp
          have hnl := H.out.nil i hjp
          have E := sumP_succ ps i hjp
          obtain ⟨y, hy⟩ : ∃ y, ps[i] = y := ⟨_, rfl⟩
          rw [hy] at hcell0 E hby hnl
          obtain ⟨ya, yc, yl⟩ := y
          have hcell : wr.cell? ⟨g, i, none⟩ = some (.slice ya yl.length yc) := hcell0
          have HB : Hid (IsB wr ya yl) := hby
          have HNL : Hid (ya = none → yl = [] ∧ yc = 0) := hnl
          have EH : Hid (sumP ps (i + 1) = sumP ps i ++ yl) := E
          have s1 := SL.out (i + 1)
          rw [E, List.length_append] at s1
          have s1 : (sumP ps i).length + yl.length ≤ 1000000 := s1
          clear E hy hby hnl hjp hcell0
          go_wp2_with (at_builtin; refine rwpList_app rfl _ _ rfl w.heap.size zz a2 (sumP ps i) c2 rfl O2.out ya yl yc rfl HB.out HNL.out (by omega) ?_; rw [← EH.out]; intro a3 c3 w3 o3 b3; have O3 : Hid (OwnsB w3 w.heap.size a3 (sumP ps (i + 1)) c3) := o3; have B3 : Hid (Below w.heap.size w w3) := B2.out.trans b3; clear o3 b3)
          go_roundw
          case rel => exact ⟨i + 1, a3, c3, by omega, by go_num, rfl, O3.out, B3.out⟩
          case measure => simp [intOf]; omega
        · obtain rfl : i = j := by omega
          go_wp2
          go_ret
          have HN' := HN.out
          subst HN'
          exact ⟨a2, c2, rfl, O2.out, B2.out⟩
end Go.Proofs.YtbfamjnnlcopiaaGreatDoor
