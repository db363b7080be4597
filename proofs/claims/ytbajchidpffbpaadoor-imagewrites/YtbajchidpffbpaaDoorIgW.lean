/- The walk of ImageWrites. -/
import Derived.Test.YtbajchidpffbpaaDoorIgU
import Derived.Test.YtbajchidpffbpaaDoorIgL
import Derived.Test.YtbajchidpffbpaaDoorIgQ
namespace Go.Proofs.YtbajchidpffbpaaDoor
open Go.RowKit
set_option linter.unusedVariables false
set_option maxRecDepth 4000

theorem err_zero {m : Im} (h : errG m = 0) : rightG m = true := by
  unfold errG at h
  by_cases c : rightG m = true
  · exact c
  · rw [if_neg c] at h; omega

set_option maxRecDepth 20000 in
set_option maxHeartbeats 16000000 in
theorem imageWrites_any (p c s base : Int) (la oa ba : Option Addr) (lc oc bc : Nat) (live offs bytes : List Int) (w : World) (hL : IsI w la live) (hO : IsI w oa offs) (hB : IsB w ba bytes) (hlv : live.length ≤ 17592186044416) (hof : offs.length ≤ 17592186044416) (hby : bytes.length ≤ 140737488355328) (hp : i64' p) (hT : Tabs w) :
    Calls Tryd.prog 3 #[.agg #[.int .i64 p, .int .i64 c, .int .i64 s, .slice la live.length lc, .int .i64 base, .slice oa offs.length oc, .slice ba bytes.length bc]] w fun e w' => e = .returned (.bool true) ∧ Below w.heap.size w w' := by
  obtain ⟨D, hD, zD, rD, bD⟩ := ibox 27 w p c s la live.length lc base oa offs.length oc ba bytes.length bc
  have HD : Hid (w.alloc (.cells #[.int .i64 p, .int .i64 c, .int .i64 s, .slice la live.length lc, .int .i64 base, .slice oa offs.length oc, .slice ba bytes.length bc] 27) = D) := hD
  have BD : Hid (Below w.heap.size w D) := bD
  have TD : Hid (Tabs D) := hT.keep bD
  have LD : Hid (IsI D la live) := hL.keep bD
  have OD : Hid (IsI D oa offs) := hO.keep bD
  have YD : Hid (IsB D ba bytes) := hB.keep bD
  have CD : Hid (Ic D w.heap.size p c s la live.length lc base oa offs.length oc ba bytes.length bc) := icell rD
  have HML : Hid (live.length ≤ maxLen) := by show _ ≤ _; unfold maxLen; omega
  have HMO : Hid (offs.length ≤ maxLen) := by show _ ≤ _; unfold maxLen; omega
  have HMB : Hid (bytes.length ≤ maxLen) := by show _ ≤ _; unfold maxLen; omega
  have HP : Hid (i64' p) := hp
  have HL1 : Hid (live.length ≤ 17592186044416) := hlv
  have HO1 : Hid (offs.length ≤ 17592186044416) := hof
  have HY1 : Hid (bytes.length ≤ 140737488355328) := hby
  have AY : Hid (AllB bytes) := hB.1
  have NK : Hid (∀ wz, Below D.heap.size D wz → wz.cell? ⟨w.heap.size, 0, none⟩ = some (.int .i64 p) ∧ wz.cell? ⟨w.heap.size, 1, none⟩ = some (.int .i64 c) ∧ wz.cell? ⟨w.heap.size, 2, none⟩ = some (.int .i64 s) ∧ wz.cell? ⟨w.heap.size, 3, none⟩ = some (.slice la live.length lc) ∧ wz.cell? ⟨w.heap.size, 4, none⟩ = some (.int .i64 base) ∧ wz.cell? ⟨w.heap.size, 5, none⟩ = some (.slice oa offs.length oc) ∧ wz.cell? ⟨w.heap.size, 6, none⟩ = some (.slice ba bytes.length bc)) := fun wz b => by
    obtain ⟨j0, j1, j2, j3, j4, j5, j6⟩ := CD.out.keep b
    exact ⟨j0, j1, j2, j3, j4, j5, j6⟩
  obtain ⟨v, hv⟩ : ∃ v, greatB live offs bytes = v := ⟨_, rfl⟩
  have HV : Hid (greatB live offs bytes = v) := hv
  obtain ⟨X, hX⟩ : ∃ X, outG ⟨p, c, s, live, base, offs, bytes⟩ = X := ⟨_, rfl⟩
  have HX : Hid (outG ⟨p, c, s, live, base, offs, bytes⟩ = X) := hX
  obtain ⟨er, her⟩ : ∃ er, errG ⟨p, c, s, live, base, offs, bytes⟩ = er := ⟨_, rfl⟩
  have HER : Hid (errG ⟨p, c, s, live, base, offs, bytes⟩ = er) := her
  have AX : Hid (AllB X) := by show AllB _; rw [← hX]; exact out_byte _ hB.1
  have XL : X.length ≤ 90000 := by rw [← hX]; exact out_len _
  obtain ⟨r, hr⟩ : ∃ r, rightG ⟨p, c, s, live, base, offs, bytes⟩ = r := ⟨_, rfl⟩
  have HR : Hid (rightG ⟨p, c, s, live, base, offs, bytes⟩ = r) := hr
  obtain ⟨Z, hZ⟩ : ∃ Z, sizeG p c s live = Z := ⟨_, rfl⟩
  have HZ : Hid (sizeG p c s live = Z) := hZ
  have z0 : 0 ≤ Z := by rw [← hZ]; exact (size_range p c s live).1
  have z1 : Z ≤ 4096 := by rw [← hZ]; exact (size_range p c s live).2
  obtain ⟨c0, c1, c2, c3, c4, c5, c6⟩ := CD.out
  clear hD zD rD bD hL hO hB hp hT hv hX her hr hZ hlv hof hby
  go_enter Tryd.func3, Tryd.ntmps3
  go_upto_region 1 with (fail)
  rw [HD.out]
  go_wp2_with fail
  refine (alive_any17 _ TD.out).mono ?_
  rintro e w1 ⟨rfl, b1⟩
  have B1 : Hid (Below D.heap.size D w1) := b1
  obtain ⟨d0, d1, d2, d3, d4, d5, d6⟩ := CD.out.keep b1
  clear b1 c0 c1 c2 c3 c4 c5 c6
  go_wp2_with fail
  refine (great_any17 p c s base la oa ba lc oc bc live offs bytes v _ HV.out HML.out HMO.out HMB.out).mono ?_
  rintro e w2 ⟨rfl, b2⟩
  have B2 : Hid (Below D.heap.size D w2) := B1.out.trans (b2.mono B1.out.size)
  obtain ⟨e0, e1, e2, e3, e4, e5, e6⟩ := CD.out.keep B2.out
  clear b2 d0 d1 d2 d3 d4 d5 d6
  cases v
  rotate_left
  · go_wp2
    go_ret
    exact ⟨rfl, BD.out.trans (B2.out.mono BD.out.size)⟩
  go_wp2_with fail
  refine (theirs_any p c s base la oa ba lc oc bc live offs bytes _ (LD.out.keep B2.out) (OD.out.keep B2.out) (YD.out.keep B2.out) HL1.out HO1.out HY1.out).mono ?_
  rintro e w3 ⟨la3, lc3, oa3, oc3, gb3, bc3, rfl, iL, _, iO, iB, b3⟩
  have B3 : Hid (Below D.heap.size D w3) := B2.out.trans (b3.mono B2.out.size)
  have IL3 : Hid (IsI w3 la3 live) := iL
  have IO3 : Hid (IsI w3 oa3 offs) := ownsI_isI OD.out.1 iO
  have IB3 : Hid (IsB w3 (some ⟨gb3, 0, none⟩) bytes) := ownsB_isB AY.out iB
  clear iL iO iB b3
  go_wp2_with fail
  refine (ibody_any p c s base la3 oa3 (some ⟨gb3, 0, none⟩) lc3 oc3 bc3 live offs bytes w3 (TD.out.keep B3.out) IL3.out IO3.out IB3.out (fun h => by cases h) HML.out HMO.out HMB.out HP.out).mono ?_
  rw [HX.out, HER.out]
  rintro e w4 ⟨a4, k4, rfl, o4, b4⟩
  have B4 : Hid (Below D.heap.size D w4) := B3.out.trans (b4.mono B3.out.size)
  have I4 : Hid (IsB w4 a4 X) := ownsB_isB AX.out o4
  have M4 : Hid (a4 = none → X = []) := fun h => ((rownsB_isL o4).2.2 h).1
  obtain ⟨f0, f1, f2, f3, f4, f5, f6⟩ := CD.out.keep B4.out
  clear o4 b4 e0 e1 e2 e3 e4 e5 e6
  go_wp2_with fail
  refine (ref_any p c s base la oa ba lc oc bc live offs bytes _ (LD.out.keep B4.out) (OD.out.keep B4.out) (YD.out.keep B4.out) HL1.out HO1.out HY1.out).mono ?_
  rintro e w5 ⟨la5, lc5, oa5, oc5, gb5, bc5, rfl, iL, _, iO, iB, b5⟩
  have B45 : Hid (Below w4.heap.size w4 w5) := b5
  have B5 : Hid (Below D.heap.size D w5) := B4.out.trans (b5.mono B4.out.size)
  have IL5 : Hid (IsI w5 la5 live) := iL
  have IO5 : Hid (IsI w5 oa5 offs) := ownsI_isI OD.out.1 iO
  have IB5 : Hid (IsB w5 (some ⟨gb5, 0, none⟩) bytes) := ownsB_isB AY.out iB
  clear iL iO iB b5 f0 f1 f2 f3 f4 f5 f6
  go_wp2_with fail
  refine (dbody_any p c s base la5 oa5 (some ⟨gb5, 0, none⟩) lc5 oc5 bc5 live offs bytes w5 IL5.out IO5.out IB5.out (fun h => by cases h) HML.out HMO.out HMB.out).mono ?_
  rw [HX.out, HER.out]
  rintro e w6 ⟨a6, k6, rfl, o6, b6⟩
  have B46 : Hid (Below w4.heap.size w4 w6) := B45.out.trans (b6.mono B45.out.size)
  have B6 : Hid (Below D.heap.size D w6) := B5.out.trans (b6.mono B5.out.size)
  have I6 : Hid (IsB w6 a6 X) := ownsB_isB AX.out o6
  have J6 : Hid (IsB w6 a4 X) := I4.out.keep B46.out
  clear o6 b6
  go_wp2_with fail
  go_region_held3 (fun wz => wz.cell? ⟨w.heap.size, 0, none⟩ = some (.int .i64 p) ∧ wz.cell? ⟨w.heap.size, 1, none⟩ = some (.int .i64 c) ∧ wz.cell? ⟨w.heap.size, 2, none⟩ = some (.int .i64 s) ∧ wz.cell? ⟨w.heap.size, 3, none⟩ = some (.slice la live.length lc) ∧ wz.cell? ⟨w.heap.size, 4, none⟩ = some (.int .i64 base) ∧ wz.cell? ⟨w.heap.size, 5, none⟩ = some (.slice oa offs.length oc) ∧ wz.cell? ⟨w.heap.size, 6, none⟩ = some (.slice ba bytes.length bc))
    (with_reducible first | exact NK.out _ B12.out | exact NK.out _ B11.out | exact NK.out _ B10.out | exact NK.out _ B9.out | exact NK.out _ B8.out | exact NK.out _ B7.out | exact NK.out _ (Below.toDrew B6.out) | fail)
    (first
    | (go_at_call 16; have z11 := B11.out; refine (dsize_any p c s la _ lc live Z _ rfl HZ.out (LD.out.keep B11.out) HML.out).mono ?_; rintro e w12 ⟨rfl, b12⟩; have B12 : Hid (Below D.heap.size D w12) := B11.out.trans (b12.mono B11.out.size); have J12 : Hid (IsB w12 a4 X) := J11.out.keep b12; clear b12)
    | (go_at_call 15; have z10 := B10.out; refine (isize_any p c s la _ lc live Z _ rfl HZ.out (TD.out.keep B10.out) (LD.out.keep B10.out) HML.out HP.out).mono ?_; rintro e w11 ⟨rfl, b11⟩; have B11 : Hid (Below D.heap.size D w11) := B10.out.trans (b11.mono B10.out.size); have J11 : Hid (IsB w11 a4 X) := J10.out.keep b11; clear b11)
    | (go_at_call 14; have z9 := B9.out; refine (dright_any p c s base la9 oa9 (some ⟨gb9, 0, none⟩) _ lc9 _ oc9 _ bc9 live offs bytes r _ rfl rfl rfl HR.out IL9.out IO9.out HML.out HMO.out HMB.out).mono ?_; rintro e w10 ⟨rfl, b10⟩; have B10 : Hid (Below D.heap.size D w10) := B9.out.trans (b10.mono B9.out.size); have J10 : Hid (IsB w10 a4 X) := J9.out.keep b10; clear b10)
    | (go_at_call 11; have z8 := B8.out; refine (ref_any p c s base la oa ba lc oc bc live offs bytes _ (LD.out.keep B8.out) (OD.out.keep B8.out) (YD.out.keep B8.out) HL1.out HO1.out HY1.out).mono ?_; rintro e w9 ⟨la9, lc9, oa9, oc9, gb9, bc9, rfl, iL, _, iO, iB, b9⟩; have B9 : Hid (Below D.heap.size D w9) := B8.out.trans (b9.mono B8.out.size); have IL9 : Hid (IsI w9 la9 live) := iL; have IO9 : Hid (IsI w9 oa9 offs) := ownsI_isI OD.out.1 iO; have J9 : Hid (IsB w9 a4 X) := J8.out.keep b9; clear iL iO iB b9)
    | (go_at_call 13; have z7 := B7.out; refine (iright_any p c s base la7 oa7 (some ⟨gb7, 0, none⟩) _ lc7 _ oc7 _ bc7 live offs bytes r _ rfl rfl rfl HR.out (TD.out.keep B7.out) IL7.out IO7.out HML.out HMO.out HMB.out HP.out).mono ?_; rintro e w8 ⟨rfl, b8⟩; have B8 : Hid (Below D.heap.size D w8) := B7.out.trans (b8.mono B7.out.size); have J8 : Hid (IsB w8 a4 X) := J7.out.keep b8; clear b8)
    | (go_at_call 9; refine (theirs_any p c s base la oa ba lc oc bc live offs bytes _ (LD.out.keep (Below.toDrew B6.out)) (OD.out.keep (Below.toDrew B6.out)) (YD.out.keep (Below.toDrew B6.out)) HL1.out HO1.out HY1.out).mono ?_; rintro e w7 ⟨la7, lc7, oa7, oc7, gb7, bc7, rfl, iL, _, iO, iB, b7⟩; have B67 : Hid (Below w6.heap.size w6 w7) := Below.ofDrew b7; have B7 : Hid (Below D.heap.size D w7) := B6.out.trans (B67.out.mono B6.out.size); have IL7 : Hid (IsI w7 la7 live) := iL; have IO7 : Hid (IsI w7 oa7 offs) := ownsI_isI OD.out.1 iO; have J7 : Hid (IsB w7 a4 X) := J6.out.keep B67.out; clear iL iO iB b7)
    | (go_at_call 12; refine (rsame_true a4 a6 _ _ k4 k6 X _ J6.out.drew I6.out.drew rfl rfl).mono ?_; rintro e w6' ⟨rfl, rfl⟩))
  have BW : Hid (Below w.heap.size w w12) := BD.out.trans (B12.out.mono BD.out.size)
  by_cases h0 : er = 0
  rotate_left
  · have hne : (er != 0) = true := bne_iff_ne.2 h0
    go_wp2
    go_ret
    exact ⟨rfl, BW.out⟩
  · subst h0
    have RR := err_zero HER.out
    have RB : Hid (readG X = (⟨p, c, s, live, base, offs, bytes⟩, 0)) := by show _ = _; rw [← HX.out, (out_ok RR).1]; exact read_backG RR
    clear RR
    go_wp2_with fail
    refine (iread_any a4 k4 X _ J12.out (by omega) M4.out (TD.out.keep B12.out)).mono ?_
    rintro e w13 ⟨m, er', lg, kg, og, ko, bg, kb, hR', rfl, iL, iO, iF, b13, q16, q81, q40, qp, qa⟩
    rw [RB.out] at hR'
    simp only [Prod.mk.injEq] at hR'
    obtain ⟨rfl, rfl⟩ := hR'
    obtain ⟨X13, eX, zX, rX, bX⟩ := ibox 32 w13 p c s lg live.length kg base og offs.length ko bg bytes.length kb
    have EX : Hid (w13.alloc (.cells #[.int .i64 p, .int .i64 c, .int .i64 s, .slice lg live.length kg, .int .i64 base, .slice og offs.length ko, .slice bg bytes.length kb] 32) = X13) := eX
    have B13 : Hid (Below D.heap.size D X13) := B12.out.trans ((b13.mono B12.out.size).trans (bX.mono (by have := b13.size; have := B12.out.size; omega)))
    obtain ⟨N, hN⟩ : ∃ N, w13.heap.size = N := ⟨_, rfl⟩
    rw [hN] at rX
    have CX : Hid (Ic X13 N p c s lg live.length kg base og offs.length ko bg bytes.length kb) := icell rX
    have IL13 : Hid (IsI X13 lg live) := IsI.keep iL bX
    have IO13 : Hid (IsI X13 og offs) := IsI.keep iO bX
    have IB13 : Hid (IsB X13 bg bytes) := (freshB_isB iF qa).keep bX
    have NK2 : Hid (∀ wz, Below X13.heap.size X13 wz → (wz.cell? ⟨w.heap.size, 0, none⟩ = some (.int .i64 p) ∧ wz.cell? ⟨w.heap.size, 1, none⟩ = some (.int .i64 c) ∧ wz.cell? ⟨w.heap.size, 2, none⟩ = some (.int .i64 s) ∧ wz.cell? ⟨w.heap.size, 3, none⟩ = some (.slice la live.length lc) ∧ wz.cell? ⟨w.heap.size, 4, none⟩ = some (.int .i64 base) ∧ wz.cell? ⟨w.heap.size, 5, none⟩ = some (.slice oa offs.length oc) ∧ wz.cell? ⟨w.heap.size, 6, none⟩ = some (.slice ba bytes.length bc)) ∧ (wz.cell? ⟨N, 0, none⟩ = some (.int .i64 p) ∧ wz.cell? ⟨N, 1, none⟩ = some (.int .i64 c) ∧ wz.cell? ⟨N, 2, none⟩ = some (.int .i64 s) ∧ wz.cell? ⟨N, 3, none⟩ = some (.slice lg live.length kg) ∧ wz.cell? ⟨N, 4, none⟩ = some (.int .i64 base) ∧ wz.cell? ⟨N, 5, none⟩ = some (.slice og offs.length ko) ∧ wz.cell? ⟨N, 6, none⟩ = some (.slice bg bytes.length kb))) := fun wz b => by
      obtain ⟨j0, j1, j2, j3, j4, j5, j6⟩ := CD.out.keep (B13.out.trans (b.mono B13.out.size))
      obtain ⟨k0, k1, k2, k3, k4, k5, k6⟩ := CX.out.keep b
      exact ⟨⟨j0, j1, j2, j3, j4, j5, j6⟩, ⟨k0, k1, k2, k3, k4, k5, k6⟩⟩
    clear iL iO iF b13 q16 q81 q40 qp qa eX zX rX bX
    go_upto_region 12 with (fail)
    rw [EX.out]
    go_wp2_with fail
    go_region_held3 (fun wz => (wz.cell? ⟨w.heap.size, 0, none⟩ = some (.int .i64 p) ∧ wz.cell? ⟨w.heap.size, 1, none⟩ = some (.int .i64 c) ∧ wz.cell? ⟨w.heap.size, 2, none⟩ = some (.int .i64 s) ∧ wz.cell? ⟨w.heap.size, 3, none⟩ = some (.slice la live.length lc) ∧ wz.cell? ⟨w.heap.size, 4, none⟩ = some (.int .i64 base) ∧ wz.cell? ⟨w.heap.size, 5, none⟩ = some (.slice oa offs.length oc) ∧ wz.cell? ⟨w.heap.size, 6, none⟩ = some (.slice ba bytes.length bc)) ∧ (wz.cell? ⟨N, 0, none⟩ = some (.int .i64 p) ∧ wz.cell? ⟨N, 1, none⟩ = some (.int .i64 c) ∧ wz.cell? ⟨N, 2, none⟩ = some (.int .i64 s) ∧ wz.cell? ⟨N, 3, none⟩ = some (.slice lg live.length kg) ∧ wz.cell? ⟨N, 4, none⟩ = some (.int .i64 base) ∧ wz.cell? ⟨N, 5, none⟩ = some (.slice og offs.length ko) ∧ wz.cell? ⟨N, 6, none⟩ = some (.slice bg bytes.length kb)))
      (with_reducible first | exact NK2.out _ B16.out | exact NK2.out _ B15.out | exact NK2.out _ B14.out | exact NK2.out _ (Below.toDrew (Below.refl _ X13)) | fail)
      (first
      | (go_at_call 18; have z15 := B15.out; refine (dsame_true p c s base lg og bg la15 oa15 (some ⟨gb15, 0, none⟩) kg ko kb lc15 oc15 bc15 live offs bytes _ (IL13.out.keep B15.out) IL15.out (IO13.out.keep B15.out) IO15.out (IB13.out.keep B15.out) IB15.out HML.out HMO.out).mono ?_; rintro e w16 ⟨rfl, b16⟩; have B16 : Hid (Below X13.heap.size X13 w16) := B15.out.trans (b16.mono B15.out.size); clear b16)
      | (go_at_call 11; have z14 := B14.out; refine (ref_any p c s base la oa ba lc oc bc live offs bytes _ ((LD.out.keep B13.out).keep B14.out) ((OD.out.keep B13.out).keep B14.out) ((YD.out.keep B13.out).keep B14.out) HL1.out HO1.out HY1.out).mono ?_; rintro e w15 ⟨la15, lc15, oa15, oc15, gb15, bc15, rfl, iL, _, iO, iB, b15⟩; have B15 : Hid (Below X13.heap.size X13 w15) := B14.out.trans (b15.mono B14.out.size); have IL15 : Hid (IsI w15 la15 live) := iL; have IO15 : Hid (IsI w15 oa15 offs) := ownsI_isI OD.out.1 iO; have IB15 : Hid (IsB w15 (some ⟨gb15, 0, none⟩) bytes) := ownsB_isB AY.out iB; clear iL iO iB b15)
      | (go_at_call 19; refine (own_any17 p c s base lg og bg _ kg _ ko _ kb _).mono ?_; rintro e w14 ⟨rfl, b14⟩; have B14 : Hid (Below X13.heap.size X13 w14) := Below.ofDrew b14; clear b14))
    go_wp2
    go_ret
    exact ⟨rfl, BD.out.trans ((B13.out.trans (B16.out.mono B13.out.size)).mono BD.out.size)⟩
end Go.Proofs.YtbajchidpffbpaaDoor
