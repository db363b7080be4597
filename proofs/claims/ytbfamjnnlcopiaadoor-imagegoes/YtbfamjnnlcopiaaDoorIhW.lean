/- The walk of ImageGoes. -/
import Derived.Test.YtbfamjnnlcopiaaDoorIhF
import Derived.Test.YtbfamjnnlcopiaaDoorIhJ
import Derived.Test.YtbfamjnnlcopiaaDoorIgU
import Derived.Test.YtbfamjnnlcopiaaDoorIgK
namespace Go.Proofs.YtbfamjnnlcopiaaDoor
open Go.RowKit
set_option linter.unusedVariables false
set_option maxRecDepth 4000

theorem move_parts {m q : Im} {t n er : Int} (h : moveG m t n = (q, er)) : q.live.length ≤ m.live.length ∧ q.offs.length ≤ m.offs.length ∧ (er = 0 → m.offs ≠ [] → q.p = m.p ∧ q.live = m.live ∧ q.offs = m.offs ∧ q.bytes.length = m.bytes.length) := by
  by_cases h1 : rightG m = true
  · by_cases h2 : goesA t n
    · by_cases h3 : m.offs = []
      · rw [move_none h1 h2 h3] at h
        cases h
        exact ⟨Nat.le_refl _, Nat.zero_le _, fun _ q => absurd h3 q⟩
      · by_cases h4 : applyE m.bytes m.offs m.base t n = 0
        · rw [move_ok h1 h2 h3 h4] at h
          cases h
          obtain ⟨ha, hr, hn, he⟩ := apply_zero h4
          refine ⟨Nat.le_refl _, Nat.le_refl _, fun _ _ => ⟨rfl, rfl, rfl, ?_⟩⟩
          show (applyB m.bytes m.offs m.base t n).length = _
          rw [he]
          exact goT_len _ _ (right_in hr).1
        · rw [move_addr h1 h2 h3 h4] at h
          cases h
          exact ⟨Nat.zero_le _, Nat.zero_le _, fun q => absurd q h4⟩
    · rw [move_arg h1 h2] at h
      cases h
      exact ⟨Nat.zero_le _, Nat.zero_le _, fun q => absurd q (by decide)⟩
  · rw [move_form (by simpa using h1)] at h
    cases h
    exact ⟨Nat.zero_le _, Nat.zero_le _, fun q => absurd q (by decide)⟩

set_option maxRecDepth 20000 in
set_option maxHeartbeats 16000000 in
theorem imageGoes_any (p c s base : Int) (la oa ba : Option Addr) (lc oc bc : Nat) (live offs bytes : List Int) (t n : Int) (w : World) (hL : IsI w la live) (hO : IsI w oa offs) (hB : IsB w ba bytes) (hlv : live.length ≤ 17592186044416) (hof : offs.length ≤ 17592186044416) (hby : bytes.length ≤ 140737488355328) (hp : i64' p) (hT : Tabs w) :
    Calls Tryd.prog 3 #[.agg #[.int .i64 p, .int .i64 c, .int .i64 s, .slice la live.length lc, .int .i64 base, .slice oa offs.length oc, .slice ba bytes.length bc], .int .i64 t, .int .i64 n] w fun e w' => e = .returned (.bool true) ∧ Below w.heap.size w w' := by
  obtain ⟨D, hD, zD, rD, bD⟩ := ibox 27 w p c s la live.length lc base oa offs.length oc ba bytes.length bc
  have HD : Hid (w.alloc (.cells #[.int .i64 p, .int .i64 c, .int .i64 s, .slice la live.length lc, .int .i64 base, .slice oa offs.length oc, .slice ba bytes.length bc] 27) = D) := hD
  have BD : Hid (Below w.heap.size w D) := bD
  have TD : Hid (Tabs D) := hT.keep bD
  have LD : Hid (IsI D la live) := hL.keep bD
  have OD : Hid (IsI D oa offs) := hO.keep bD
  have YD : Hid (IsB D ba bytes) := hB.keep bD
  have CD : Hid (Ic D w.heap.size p c s la live.length lc base oa offs.length oc ba bytes.length bc) := icell rD
  have HML : Hid (live.length ≤ maxLen) := by show _ ≤ _; unfold maxLen; omega
  have HMO : Hid (offs.length ≤ maxLen) := by show _ ≤ _; unfold maxLen; omega
  have HMB : Hid (bytes.length ≤ maxLen) := by show _ ≤ _; unfold maxLen; omega
  have HP : Hid (i64' p) := hp
  have HL1 : Hid (live.length ≤ 17592186044416) := hlv
  have HO1 : Hid (offs.length ≤ 17592186044416) := hof
  have HY1 : Hid (bytes.length ≤ 140737488355328) := hby
  have AY : Hid (AllB bytes) := hB.1
  have VL : Hid (∀ x ∈ live, -9223372036854775808 ≤ x ∧ x ≤ 9223372036854775807) := hL.1
  obtain ⟨v, hv⟩ : ∃ v, greatB live offs bytes = v := ⟨_, rfl⟩
  have HV : Hid (greatB live offs bytes = v) := hv
  obtain ⟨⟨⟨P, C, S, LV, BA, OF, BY⟩, er⟩, hq⟩ : ∃ q, moveG ⟨p, c, s, live, base, offs, bytes⟩ t n = q := ⟨_, rfl⟩
  have HQ : Hid (moveG ⟨p, c, s, live, base, offs, bytes⟩ t n = (⟨P, C, S, LV, BA, OF, BY⟩, er)) := hq
  have QP : Hid (LV.length ≤ live.length ∧ OF.length ≤ offs.length ∧ (er = 0 → offs ≠ [] → P = p ∧ LV = live ∧ OF = offs ∧ BY.length = bytes.length)) := move_parts hq
  have HLV : Hid (LV.length ≤ maxLen) := Nat.le_trans QP.out.1 HML.out
  have HOF : Hid (OF.length ≤ maxLen) := Nat.le_trans QP.out.2.1 HMO.out
  obtain ⟨c0, c1, c2, c3, c4, c5, c6⟩ := CD.out
  clear hD zD rD bD hL hO hB hp hT hv hq hlv hof hby
  go_enter Tryd.func3, Tryd.ntmps3
  go_upto_region 1 with (fail)
  rw [HD.out]
  go_wp2_with fail
  refine (alive_any17 _ TD.out).mono ?_
  rintro e w1 ⟨rfl, b1⟩
  have B1 : Hid (Below D.heap.size D w1) := b1
  obtain ⟨d0, d1, d2, d3, d4, d5, d6⟩ := CD.out.keep b1
  clear b1 c0 c1 c2 c3 c4 c5 c6
  go_wp2_with fail
  refine (great_any17 p c s base la oa ba lc oc bc live offs bytes v _ HV.out HML.out HMO.out HMB.out).mono ?_
  rintro e w2 ⟨rfl, b2⟩
  have B2 : Hid (Below D.heap.size D w2) := B1.out.trans (b2.mono B1.out.size)
  obtain ⟨e0, e1, e2, e3, e4, e5, e6⟩ := CD.out.keep B2.out
  clear b2 d0 d1 d2 d3 d4 d5 d6
  cases v
  rotate_left
  · go_wp2
    go_ret
    exact ⟨rfl, BD.out.trans (B2.out.mono BD.out.size)⟩
  go_wp2_with fail
  refine (theirs_any p c s base la oa ba lc oc bc live offs bytes _ (LD.out.keep B2.out) (OD.out.keep B2.out) (YD.out.keep B2.out) HL1.out HO1.out HY1.out).mono ?_
  rintro e w3 ⟨la3, lc3, oa3, oc3, gb3, bc3, rfl, iL, _, iO, iB, b3⟩
  have B3 : Hid (Below D.heap.size D w3) := B2.out.trans (b3.mono B2.out.size)
  have IL3 : Hid (IsI w3 la3 live) := iL
  have IO3 : Hid (IsI w3 oa3 offs) := ownsI_isI OD.out.1 iO
  have IB3 : Hid (IsB w3 (some ⟨gb3, 0, none⟩) bytes) := ownsB_isB AY.out iB
  have IC3 : Hid (bytes.length ≤ bc3) := ownsB_cap iB
  clear iL iO iB b3 e0 e1 e2 e3 e4 e5 e6
  go_wp2_with fail
  refine (imove_any p c s base la3 oa3 (some ⟨gb3, 0, none⟩) lc3 oc3 bc3 live offs bytes t n w3 IL3.out IO3.out IB3.out HL1.out HO1.out HY1.out IC3.out (TD.out.keep B3.out) HP.out).mono ?_
  unfold MoveC
  rw [HQ.out]
  dsimp only
  rintro e w4 ⟨la4, lc4, oa4, oc4, ba4, bc4, rfl, iL, iO, iB, iC, b4⟩
  obtain ⟨X4, eX, zX, rX, bX⟩ := ibox 29 w4 P C S la4 LV.length lc4 BA oa4 OF.length oc4 ba4 BY.length bc4
  have EX : Hid (w4.alloc (.cells #[.int .i64 P, .int .i64 C, .int .i64 S, .slice la4 LV.length lc4, .int .i64 BA, .slice oa4 OF.length oc4, .slice ba4 BY.length bc4] 29) = X4) := eX
  have B4 : Hid (Below D.heap.size D X4) := B3.out.trans ((b4.mono B3.out.size).trans (bX.mono (by have := b4.size; have := B3.out.size; omega)))
  obtain ⟨N4, hN⟩ : ∃ N, w4.heap.size = N := ⟨_, rfl⟩
  rw [hN] at rX
  have HN4 : Hid (w4.heap.size = N4) := hN
  have CX4 : Hid (Ic X4 N4 P C S la4 LV.length lc4 BA oa4 OF.length oc4 ba4 BY.length bc4) := icell rX
  have IL4 : Hid (IsI X4 la4 LV) := IsI.keep iL bX
  have IO4 : Hid (IsI X4 oa4 OF) := IsI.keep iO bX
  have IB4 : Hid (IsB X4 ba4 BY) := IsB.keep iB bX
  have IC4 : Hid (BY.length ≤ bc4) := iC
  clear iL iO iB iC b4 eX zX rX bX hN
  go_upto_region 6 with (fail)
  rw [EX.out]
  try rw [HN4.out]
  obtain ⟨f0, f1, f2, f3, f4, f5, f6⟩ := CD.out.keep B4.out
  go_wp2_with fail
  refine (ref_any p c s base la oa ba lc oc bc live offs bytes _ (LD.out.keep B4.out) (OD.out.keep B4.out) (YD.out.keep B4.out) HL1.out HO1.out HY1.out).mono ?_
  rintro e w5 ⟨la5, lc5, oa5, oc5, gb5, bc5, rfl, iL, _, iO, iB, b5⟩
  have B45 : Hid (Below X4.heap.size X4 w5) := b5
  have B5 : Hid (Below D.heap.size D w5) := B4.out.trans (b5.mono B4.out.size)
  have IL5 : Hid (IsI w5 la5 live) := iL
  have IO5 : Hid (IsI w5 oa5 offs) := ownsI_isI OD.out.1 iO
  have IB5 : Hid (IsB w5 (some ⟨gb5, 0, none⟩) bytes) := ownsB_isB AY.out iB
  have IC5 : Hid (bytes.length ≤ bc5) := ownsB_cap iB
  clear iL iO iB b5 f0 f1 f2 f3 f4 f5 f6
  go_wp2_with fail
  refine (dmove_any p c s base la5 oa5 (some ⟨gb5, 0, none⟩) lc5 oc5 bc5 live offs bytes t n w5 IL5.out IO5.out IB5.out HL1.out HO1.out HY1.out IC5.out).mono ?_
  unfold MoveD
  rw [HQ.out]
  dsimp only
  rintro e w6 ⟨la6, lc6, oa6, oc6, ba6, bc6, rfl, iL, iO, iB, b6⟩
  obtain ⟨X6, eX, zX, rX, bX⟩ := ibox 34 w6 P C S la6 LV.length lc6 BA oa6 OF.length oc6 ba6 BY.length bc6
  have EX6 : Hid (w6.alloc (.cells #[.int .i64 P, .int .i64 C, .int .i64 S, .slice la6 LV.length lc6, .int .i64 BA, .slice oa6 OF.length oc6, .slice ba6 BY.length bc6] 34) = X6) := eX
  have B46 : Hid (Below X4.heap.size X4 X6) := B45.out.trans ((b6.mono B45.out.size).trans (bX.mono (by have := b6.size; have := B45.out.size; omega)))
  have B6 : Hid (Below D.heap.size D X6) := B4.out.trans (B46.out.mono B4.out.size)
  obtain ⟨N6, hN⟩ : ∃ N, w6.heap.size = N := ⟨_, rfl⟩
  rw [hN] at rX
  have HN6 : Hid (w6.heap.size = N6) := hN
  have CX6 : Hid (Ic X6 N6 P C S la6 LV.length lc6 BA oa6 OF.length oc6 ba6 BY.length bc6) := icell rX
  have IL6 : Hid (IsI X6 la6 LV) := IsI.keep iL bX
  have IO6 : Hid (IsI X6 oa6 OF) := IsI.keep iO bX
  have IB6 : Hid (IsB X6 ba6 BY) := IsB.keep iB bX
  have IL46 : Hid (IsI X6 la4 LV) := IsI.keep IL4.out B46.out
  have IO46 : Hid (IsI X6 oa4 OF) := IsI.keep IO4.out B46.out
  have IB46 : Hid (IsB X6 ba4 BY) := IsB.keep IB4.out B46.out
  have NK7 : Hid (∀ wz, Below X6.heap.size X6 wz → (wz.cell? ⟨N4, 0, none⟩ = some (.int .i64 P) ∧ wz.cell? ⟨N4, 1, none⟩ = some (.int .i64 C) ∧ wz.cell? ⟨N4, 2, none⟩ = some (.int .i64 S) ∧ wz.cell? ⟨N4, 3, none⟩ = some (.slice la4 LV.length lc4) ∧ wz.cell? ⟨N4, 4, none⟩ = some (.int .i64 BA) ∧ wz.cell? ⟨N4, 5, none⟩ = some (.slice oa4 OF.length oc4) ∧ wz.cell? ⟨N4, 6, none⟩ = some (.slice ba4 BY.length bc4)) ∧ (wz.cell? ⟨N6, 0, none⟩ = some (.int .i64 P) ∧ wz.cell? ⟨N6, 1, none⟩ = some (.int .i64 C) ∧ wz.cell? ⟨N6, 2, none⟩ = some (.int .i64 S) ∧ wz.cell? ⟨N6, 3, none⟩ = some (.slice la6 LV.length lc6) ∧ wz.cell? ⟨N6, 4, none⟩ = some (.int .i64 BA) ∧ wz.cell? ⟨N6, 5, none⟩ = some (.slice oa6 OF.length oc6) ∧ wz.cell? ⟨N6, 6, none⟩ = some (.slice ba6 BY.length bc6))) := fun wz b => by
    obtain ⟨j0, j1, j2, j3, j4, j5, j6⟩ := CX4.out.keep (B46.out.trans (b.mono B46.out.size))
    obtain ⟨k0, k1, k2, k3, k4, k5, k6⟩ := CX6.out.keep b
    exact ⟨⟨j0, j1, j2, j3, j4, j5, j6⟩, ⟨k0, k1, k2, k3, k4, k5, k6⟩⟩
  clear iL iO iB b6 eX zX rX bX hN
  go_upto_region 7 with (fail)
  rw [EX6.out]
  try rw [HN6.out]
  have he : (er != er) = false := by simp
  go_wp2_with fail
  go_region_held3 (fun wz => (wz.cell? ⟨N4, 0, none⟩ = some (.int .i64 P) ∧ wz.cell? ⟨N4, 1, none⟩ = some (.int .i64 C) ∧ wz.cell? ⟨N4, 2, none⟩ = some (.int .i64 S) ∧ wz.cell? ⟨N4, 3, none⟩ = some (.slice la4 LV.length lc4) ∧ wz.cell? ⟨N4, 4, none⟩ = some (.int .i64 BA) ∧ wz.cell? ⟨N4, 5, none⟩ = some (.slice oa4 OF.length oc4) ∧ wz.cell? ⟨N4, 6, none⟩ = some (.slice ba4 BY.length bc4)) ∧ (wz.cell? ⟨N6, 0, none⟩ = some (.int .i64 P) ∧ wz.cell? ⟨N6, 1, none⟩ = some (.int .i64 C) ∧ wz.cell? ⟨N6, 2, none⟩ = some (.int .i64 S) ∧ wz.cell? ⟨N6, 3, none⟩ = some (.slice la6 LV.length lc6) ∧ wz.cell? ⟨N6, 4, none⟩ = some (.int .i64 BA) ∧ wz.cell? ⟨N6, 5, none⟩ = some (.slice oa6 OF.length oc6) ∧ wz.cell? ⟨N6, 6, none⟩ = some (.slice ba6 BY.length bc6)))
    (with_reducible first | exact NK7.out _ B8.out | exact NK7.out _ B7.out | exact NK7.out _ (Below.toDrew (Below.refl _ X6)) | fail)
    (first
    | (go_at_call 10; have z7 := B7.out; refine (dsame_true P C S BA la4 oa4 ba4 la6 oa6 ba6 lc4 oc4 bc4 lc6 oc6 bc6 LV OF BY _ (IL46.out.keep B7.out) (IL6.out.keep B7.out) (IO46.out.keep B7.out) (IO6.out.keep B7.out) (IB46.out.keep B7.out) (IB6.out.keep B7.out) HLV.out HOF.out).mono ?_; rintro e w8 ⟨rfl, b8⟩; have B8 : Hid (Below X6.heap.size X6 w8) := B7.out.trans (b8.mono B7.out.size); clear b8)
    | (go_at_call 11; refine (own_any17 P C S BA la4 oa4 ba4 _ lc4 _ oc4 _ bc4 _).mono ?_; rintro e w7 ⟨rfl, b7⟩; have B7 : Hid (Below X6.heap.size X6 w7) := Below.ofDrew b7; clear b7))
  clear he
  have BW8 : Hid (Below D.heap.size D w8) := B6.out.trans (B8.out.mono B6.out.size)
  have BW : Hid (Below w.heap.size w w8) := BD.out.trans (BW8.out.mono BD.out.size)
  by_cases h0 : er = 0
  rotate_left
  · have hne : (er != 0) = true := bne_iff_ne.2 h0
    go_wp2
    go_ret
    exact ⟨rfl, BW.out⟩
  subst h0
  obtain ⟨f0, f1, f2, f3, f4, f5, f6⟩ := CD.out.keep BW8.out
  by_cases ho : offs = []
  · have q0 : ((offs.length : Int) == 0) = true := by rw [ho]; rfl
    have q1 : (offs.length : Int) = 0 := by rw [ho]; rfl
    have q2 : offs.length = 0 := by rw [ho]; rfl
    clear ho
    go_wp2
    go_ret
    exact ⟨rfl, BW.out⟩
  obtain ⟨eP, eL, eO, eB⟩ := QP.out.2.2 rfl ho
  have HB2 : Hid (moveG ⟨P, C, S, LV, BA, OF, BY⟩ base n = (⟨p, c, s, live, base, offs, bytes⟩, 0)) := by
    have q := move_back (m := ⟨p, c, s, live, base, offs, bytes⟩) (t := t) (n := n) AY.out (by rw [HQ.out]) ho
    rw [HQ.out] at q
    exact q
  have HP2 : Hid (i64' P) := by show i64' P; rw [eP]; exact HP.out
  have HLV2 : Hid (LV.length ≤ 17592186044416) := by show _ ≤ _; rw [eL]; exact HL1.out
  have HOF2 : Hid (OF.length ≤ 17592186044416) := by show _ ≤ _; rw [eO]; exact HO1.out
  have HBY2 : Hid (BY.length ≤ 140737488355328) := by show _ ≤ _; rw [eB]; exact HY1.out
  have q0 : ((offs.length : Int) == 0) = false := by have := List.length_pos_iff.2 ho; simp; omega
  have q1 : ¬ (offs.length : Int) = 0 := by have := List.length_pos_iff.2 ho; omega
  clear eP eL eO eB ho
  obtain ⟨g0, g1, g2, g3, g4, g5, g6⟩ := CX4.out.keep (B46.out.trans (B8.out.mono B46.out.size))
  go_wp2_with fail
  refine (imove_any P C S BA la4 oa4 ba4 lc4 oc4 bc4 LV OF BY base n w8 (IL46.out.keep B8.out) (IO46.out.keep B8.out) (IB46.out.keep B8.out) HLV2.out HOF2.out HBY2.out IC4.out (TD.out.keep BW8.out) HP2.out).mono ?_
  unfold MoveC
  rw [HB2.out]
  dsimp only
  rintro e w9 ⟨la9, lc9, oa9, oc9, ba9, bc9, rfl, iL, iO, iB, iC, b9⟩
  obtain ⟨X9, eX, zX, rX, bX⟩ := ibox 29 w9 p c s la9 live.length lc9 base oa9 offs.length oc9 ba9 bytes.length bc9
  have EX9 : Hid (w9.alloc (.cells #[.int .i64 p, .int .i64 c, .int .i64 s, .slice la9 live.length lc9, .int .i64 base, .slice oa9 offs.length oc9, .slice ba9 bytes.length bc9] 29) = X9) := eX
  have B9 : Hid (Below D.heap.size D X9) := BW8.out.trans ((b9.mono BW8.out.size).trans (bX.mono (by have := b9.size; have := BW8.out.size; omega)))
  obtain ⟨N9, hN⟩ : ∃ N, w9.heap.size = N := ⟨_, rfl⟩
  rw [hN] at rX
  have HN9 : Hid (w9.heap.size = N9) := hN
  have CX9 : Hid (Ic X9 N9 p c s la9 live.length lc9 base oa9 offs.length oc9 ba9 bytes.length bc9) := icell rX
  have IL9 : Hid (IsI X9 la9 live) := IsI.keep iL bX
  have IO9 : Hid (IsI X9 oa9 offs) := IsI.keep iO bX
  have IB9 : Hid (IsB X9 ba9 bytes) := IsB.keep iB bX
  have NK12 : Hid (∀ wz, Below X9.heap.size X9 wz → (wz.cell? ⟨w.heap.size, 0, none⟩ = some (.int .i64 p) ∧ wz.cell? ⟨w.heap.size, 1, none⟩ = some (.int .i64 c) ∧ wz.cell? ⟨w.heap.size, 2, none⟩ = some (.int .i64 s) ∧ wz.cell? ⟨w.heap.size, 3, none⟩ = some (.slice la live.length lc) ∧ wz.cell? ⟨w.heap.size, 4, none⟩ = some (.int .i64 base) ∧ wz.cell? ⟨w.heap.size, 5, none⟩ = some (.slice oa offs.length oc) ∧ wz.cell? ⟨w.heap.size, 6, none⟩ = some (.slice ba bytes.length bc)) ∧ (wz.cell? ⟨N9, 0, none⟩ = some (.int .i64 p) ∧ wz.cell? ⟨N9, 1, none⟩ = some (.int .i64 c) ∧ wz.cell? ⟨N9, 2, none⟩ = some (.int .i64 s) ∧ wz.cell? ⟨N9, 3, none⟩ = some (.slice la9 live.length lc9) ∧ wz.cell? ⟨N9, 4, none⟩ = some (.int .i64 base) ∧ wz.cell? ⟨N9, 5, none⟩ = some (.slice oa9 offs.length oc9) ∧ wz.cell? ⟨N9, 6, none⟩ = some (.slice ba9 bytes.length bc9))) := fun wz b => by
    obtain ⟨j0, j1, j2, j3, j4, j5, j6⟩ := CD.out.keep (B9.out.trans (b.mono B9.out.size))
    obtain ⟨k0, k1, k2, k3, k4, k5, k6⟩ := CX9.out.keep b
    exact ⟨⟨j0, j1, j2, j3, j4, j5, j6⟩, ⟨k0, k1, k2, k3, k4, k5, k6⟩⟩
  clear iL iO iB iC b9 eX zX rX bX hN f0 f1 f2 f3 f4 f5 f6 g0 g1 g2 g3 g4 g5 g6 q0 q1
  go_upto_region 12 with (fail)
  rw [EX9.out]
  try rw [HN9.out]
  go_wp2_with fail
  go_region_held3 (fun wz => (wz.cell? ⟨w.heap.size, 0, none⟩ = some (.int .i64 p) ∧ wz.cell? ⟨w.heap.size, 1, none⟩ = some (.int .i64 c) ∧ wz.cell? ⟨w.heap.size, 2, none⟩ = some (.int .i64 s) ∧ wz.cell? ⟨w.heap.size, 3, none⟩ = some (.slice la live.length lc) ∧ wz.cell? ⟨w.heap.size, 4, none⟩ = some (.int .i64 base) ∧ wz.cell? ⟨w.heap.size, 5, none⟩ = some (.slice oa offs.length oc) ∧ wz.cell? ⟨w.heap.size, 6, none⟩ = some (.slice ba bytes.length bc)) ∧ (wz.cell? ⟨N9, 0, none⟩ = some (.int .i64 p) ∧ wz.cell? ⟨N9, 1, none⟩ = some (.int .i64 c) ∧ wz.cell? ⟨N9, 2, none⟩ = some (.int .i64 s) ∧ wz.cell? ⟨N9, 3, none⟩ = some (.slice la9 live.length lc9) ∧ wz.cell? ⟨N9, 4, none⟩ = some (.int .i64 base) ∧ wz.cell? ⟨N9, 5, none⟩ = some (.slice oa9 offs.length oc9) ∧ wz.cell? ⟨N9, 6, none⟩ = some (.slice ba9 bytes.length bc9)))
    (with_reducible first | exact NK12.out _ B16.out | exact NK12.out _ B15.out | exact NK12.out _ B14.out | exact NK12.out _ (Below.toDrew (Below.refl _ X9)) | fail)
    (first
    | (go_at_call 10; have z15 := B15.out; refine (dsame_true p c s base la9 oa9 ba9 la15 oa15 (some ⟨gb15, 0, none⟩) lc9 oc9 bc9 lc15 oc15 bc15 live offs bytes _ (IL9.out.keep B15.out) IL15.out (IO9.out.keep B15.out) IO15.out (IB9.out.keep B15.out) IB15.out HML.out HMO.out).mono ?_; rintro e w16 ⟨rfl, b16⟩; have B16 : Hid (Below X9.heap.size X9 w16) := B15.out.trans (b16.mono B15.out.size); clear b16)
    | (go_at_call 9; have z14 := B14.out; refine (ref_any p c s base la oa ba lc oc bc live offs bytes _ ((LD.out.keep B9.out).keep B14.out) ((OD.out.keep B9.out).keep B14.out) ((YD.out.keep B9.out).keep B14.out) HL1.out HO1.out HY1.out).mono ?_; rintro e w15 ⟨la15, lc15, oa15, oc15, gb15, bc15, rfl, iL, _, iO, iB, b15⟩; have B15 : Hid (Below X9.heap.size X9 w15) := B14.out.trans (b15.mono B14.out.size); have IL15 : Hid (IsI w15 la15 live) := iL; have IO15 : Hid (IsI w15 oa15 offs) := ownsI_isI OD.out.1 iO; have IB15 : Hid (IsB w15 (some ⟨gb15, 0, none⟩) bytes) := ownsB_isB AY.out iB; clear iL iO iB b15)
    | (go_at_call 11; refine (own_any17 p c s base la9 oa9 ba9 _ lc9 _ oc9 _ bc9 _).mono ?_; rintro e w14 ⟨rfl, b14⟩; have B14 : Hid (Below X9.heap.size X9 w14) := Below.ofDrew b14; clear b14))
  go_wp2
  go_ret
  exact ⟨rfl, BD.out.trans ((B9.out.trans (B16.out.mono B9.out.size)).mono BD.out.size)⟩
end Go.Proofs.YtbfamjnnlcopiaaDoor
