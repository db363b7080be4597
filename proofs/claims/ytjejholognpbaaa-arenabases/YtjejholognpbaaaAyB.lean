/- What the law ArenaBases goes through. -/
import Derived.Test.YtjejholognpbaaaAyT
namespace Go.Proofs.Ytjejholognpbaaa
open Go.RowKit
set_option linter.unusedVariables false

set_option maxHeartbeats 8000000 in
set_option maxRecDepth 20000 in
theorem arenaBases_any (n m : Nat) (a : Option Addr) (cap : Nat) (cs : List Cl) (w : World) (hn : n < 4294967296) (hm : m < 4294967296) (hC : IsC w a cs) (hl : cs.length ≤ maxLen) (hY : ∀ x ∈ cs, x.b.length ≤ 140737488355328) :
    Calls Try.prog 6 #[.int .u32 (n : Nat), .int .u32 (m : Nat), .slice a cs.length cap] w fun e w' => e = .returned (.bool true) ∧ Below w.heap.size w w' := by
  have HC : Hid (IsC w a cs) := hC
  have HY : Hid (∀ x ∈ cs, x.b.length ≤ 140737488355328) := hY
  unfold maxLen at hl
  obtain ⟨BX, hBX⟩ : ∃ B, baseN n = B := ⟨_, rfl⟩
  have EBX : Hid (baseN n = BX) := hBX
  have GX : Hid (goodR BX) := by show goodR _; rw [← hBX]; exact baseN_good hn
  obtain ⟨BY, hBY⟩ : ∃ B, baseN m = B := ⟨_, rfl⟩
  have EBY : Hid (baseN m = BY) := hBY
  have GY : Hid (goodR BY) := by show goodR _; rw [← hBY]; exact baseN_good hm
  obtain ⟨Z, hZ⟩ : ∃ Z : List Int, List.replicate (4 * 256) 0 = Z := ⟨_, rfl⟩
  have EZ : Hid (List.replicate (4 * 256) 0 = Z) := hZ
  clear hBX hBY hZ hC hY
  go_enter Try.func6, Try.ntmps6
  go_wp2_with fail
  refine (alive_any _).mono ?_
  rintro e w1 ⟨rfl, b1⟩
  have B1 : Hid (Below w.heap.size w w1) := b1
  clear b1
  go_wp2_with (go_at_call 11; refine (lbase_any n _ hn).mono ?_; rw [EBX.out]; rintro e w' ⟨rfl, rfl⟩)
  refine (new_any BX 4 _ (by decide) (by decide) GX.out).mono ?_
  rw [EZ.out]
  rintro e w2 ⟨rfl, i2, b2, s2⟩
  obtain ⟨pb, hpb⟩ : ∃ pb, w1.heap.size + 1 = pb := ⟨_, rfl⟩
  obtain ⟨pg, hpg⟩ : ∃ pg, w1.heap.size = pg := ⟨_, rfl⟩
  have I2 : Hid (IsA w2 pb pg BX Z) := by show IsA _ _ _ _ _; rw [← hpb, ← hpg]; exact i2
  have B2 : Hid (Below w.heap.size w w2) := B1.out.trans (b2.mono B1.out.size)
  have G2 : Hid (w.heap.size ≤ pg ∧ pg < w2.heap.size ∧ pb < w2.heap.size) := by have := B1.out.size; show _ ∧ _; omega
  rw [hpb]
  clear i2 b2 s2 hpb hpg
  go_wp2_with (go_at_call 11; refine (lbase_any m _ hm).mono ?_; rw [EBY.out]; rintro e w' ⟨rfl, rfl⟩)
  refine (new_any BY 4 _ (by decide) (by decide) GY.out).mono ?_
  rw [EZ.out]
  rintro e w3 ⟨rfl, i3, b3, s3⟩
  obtain ⟨qb, hmb⟩ : ∃ mb, w2.heap.size + 1 = mb := ⟨_, rfl⟩
  obtain ⟨qg, hmg⟩ : ∃ mg, w2.heap.size = mg := ⟨_, rfl⟩
  have P3 : Hid (Tw w w3 pb pg qb qg BX BY Z) := by
    obtain ⟨g1, g2, g3⟩ := G2.out
    have hz := B2.out.size
    refine ⟨I2.out.keep b3, ?_, B2.out.trans (b3.mono hz), g1, by omega, by omega, by omega, by omega⟩
    rw [← hmb, ← hmg]; exact i3
  rw [hmb]
  clear i3 b3 s3 hmb hmg G2
  go_wp2
  go_loopw [11] (fun iv wr => ∃ (i : Nat) (l : List Int), i ≤ cs.length ∧ i ≤ 200 ∧ iv = .int .i64 (i : Nat) ∧ Tw w wr pb pg qb qg BX BY l) (fun iv _ => 200 - (intOf iv).toNat)
  case atStart => exact ⟨0, Z, Nat.zero_le _, Nat.zero_le _, rfl, P3.out⟩
  case round =>
    clear P3 I2 B2 B1
    obtain ⟨i, l, hi, hi2, rfl, hP⟩ := hrel
    rename World => wr
    have HP : Hid (Tw w wr pb pg qb qg BX BY l) := hP
    clear hP
    by_cases hlt : i < cs.length
    · by_cases hlt2 : i < 200
      · obtain ⟨h0 | ⟨ba, off, rfl, hba, hc⟩, hbody⟩ := HC.out
        · rw [h0] at hlt; simp at hlt
        · have hq := hc i hlt
          have hok := hbody cs[i] (List.getElem_mem hlt)
          have hyl := HY.out cs[i] (List.getElem_mem hlt)
          obtain ⟨q, hqq⟩ : ∃ q, cs[i] = q := ⟨_, rfl⟩
          rw [hqq] at hq hok hyl
          have OW : Hid (ClOk w q ∧ q.b.length ≤ 140737488355328) := ⟨hok, hyl⟩
          obtain ⟨c0, c1, c2, c3, c4, c5, c6⟩ := hq.keep HP.out.low
          have hlt' : (i : Int) < (cs.length : Int) := by omega
          have hltb : (i : Int) < 200 := by omega
          clear hc hbody hq hok hyl hqq
          obtain ⟨X1, hX1⟩ : ∃ z, (ansX l q.kd (q.x.tmod 2000) (q.y.tmod 2000) q.k q.x q.b).1 = z := ⟨_, rfl⟩
          obtain ⟨X2, hX2⟩ : ∃ z, (ansX l q.kd (q.x.tmod 2000) (q.y.tmod 2000) q.k q.x q.b).2.1 = z := ⟨_, rfl⟩
          obtain ⟨X3, hX3⟩ : ∃ z, (ansX l q.kd (q.x.tmod 2000) (q.y.tmod 2000) q.k q.x q.b).2.2 = z := ⟨_, rfl⟩
          obtain ⟨V, hV⟩ : ∃ z, ansW l q.kd (q.x.tmod 2000) = z := ⟨_, rfl⟩
          obtain ⟨R, hR⟩ : ∃ z, ansB l q.kd (q.x.tmod 2000) q.k = z := ⟨_, rfl⟩
          obtain ⟨L, hL⟩ : ∃ z, ansL l q.kd (q.x.tmod 2000) (q.y.tmod 2000) q.k q.v q.b = z := ⟨_, rfl⟩
          have EX1 : Hid ((ansX l q.kd (q.x.tmod 2000) (q.y.tmod 2000) q.k q.x q.b).1 = X1) := hX1
          have EX2 : Hid ((ansX l q.kd (q.x.tmod 2000) (q.y.tmod 2000) q.k q.x q.b).2.1 = X2) := hX2
          have EX3 : Hid ((ansX l q.kd (q.x.tmod 2000) (q.y.tmod 2000) q.k q.x q.b).2.2 = X3) := hX3
          have EV : Hid (ansW l q.kd (q.x.tmod 2000) = V) := hV
          have ER : Hid (ansB l q.kd (q.x.tmod 2000) q.k = R) := hR
          have EL : Hid (ansL l q.kd (q.x.tmod 2000) (q.y.tmod 2000) q.k q.v q.b = L) := hL
          have RA : Hid (AllB R) := by show AllB _; rw [← hR]; exact HP.out.isA.all.ansB _ _ _
          have OKw : Hid (∀ wz, Below w.heap.size w wz → CallOk wz q.x q.y q.k q.v q.a q.b) := fun wz hz => ⟨OW.out.1.x, OW.out.1.y, OW.out.1.k, OW.out.1.v0, OW.out.1.v1, OW.out.1.isB.keep hz, OW.out.2⟩
          obtain ⟨wz, hwz⟩ : ∃ wz, wr.alloc (.cells #[.int .i64 q.kd, .int .i64 q.x, .int .i64 q.y, .int .i64 q.k, .int .u64 q.v, .slice q.a q.b.length q.c, .bool true] 39) = wz := ⟨_, rfl⟩
          have BW : Hid (Below wr.heap.size wr wz) := by show Below _ _ _; rw [← hwz]; exact (Below.refl _ wr).alloc (Nat.le_refl _) _
          have HW : Hid (Tw w wz pb pg qb qg BX BY l) := HP.out.keep BW.out
          have SZ : Hid (wz.heap.size = wr.heap.size + 1) := by show _ = _; rw [← hwz]; simp
          obtain ⟨cb, hcb⟩ : ∃ cb, wr.heap.size = cb := ⟨_, rfl⟩
          have CW : Hid (ClAt wz cb 0 ⟨q.kd, q.x, q.y, q.k, q.v, q.a, q.c, q.b, true⟩) := by show ClAt _ _ _ _; rw [← hwz, ← hcb]; exact ClAt.of_alloc wr ⟨q.kd, q.x, q.y, q.k, q.v, q.a, q.c, q.b, true⟩
          have CL : Hid (cb < wz.heap.size) := by have := SZ.out; show _ < _; omega
          have CPG : Hid (cb ≠ pg) := by have := HP.out.isA.row.lt; show _ ≠ _; omega
          have CQG : Hid (cb ≠ qg) := by have := HP.out.isM.row.lt; show _ ≠ _; omega
          have PGN : Hid (wz.heap.size ≠ pg) := by have := HW.out.isA.row.lt; show _ ≠ _; omega
          have KA : Hid (∀ wy, Below wz.heap.size wz wy → IsA wy pb pg BX l ∧ CallOk wy q.x q.y q.k q.v q.a q.b) := fun wy hz => ⟨HW.out.isA.keep hz, OKw.out wy (HW.out.low.trans (hz.mono HW.out.low.size))⟩
          have D0 : Hid (Below wz.heap.size wz wz.drew) := ⟨rfl, rfl, rfl, Nat.le_refl _, fun _ _ => rfl⟩
          have nb1 : cb ≠ wz.heap.size := by have := CL.out; omega
          have nb2 : wz.heap.size ≠ cb := fun e => nb1 e.symm
          clear hX1 hX2 hX3 hV hR hL
          go_upto_region 12 with (fail)
          clear hwz hcb c0 c1 c2 c3 c4 c5 c6
          go_cut [13, 14, 15] from 39 to 85 (fun pv vv bv wx => ∃ (p : Nat) (ra : Option Addr), pv = .pointer (some ⟨p, 0, none⟩) ∧ vv = .int .u64 V ∧ bv = .slice ra R.length R.length ∧ TM w wz wx pb pg qb qg cb p ⟨q.kd, q.x, q.y, q.k, q.v, q.a, q.c, q.b, true⟩ ra BX BY l L R X1 X2 X3)
          case first =>
            obtain ⟨c0, c1, c2, c3, c4, c5, c6⟩ := CW.out
            go_region_held3 (fun w' => w'.cell? ⟨cb, 0, none⟩ = some (.int .i64 q.kd) ∧ w'.cell? ⟨cb, 1, none⟩ = some (.int .i64 q.x) ∧ w'.cell? ⟨cb, 2, none⟩ = some (.int .i64 q.y) ∧ w'.cell? ⟨cb, 3, none⟩ = some (.int .i64 q.k) ∧ w'.cell? ⟨cb, 4, none⟩ = some (.int .u64 q.v) ∧ w'.cell? ⟨cb, 5, none⟩ = some (.slice q.a q.b.length q.c) ∧ w'.cell? ⟨cb, 6, none⟩ = some (.bool true)) (first | assumption | exact ⟨by assumption, by assumption, by assumption, by assumption, by assumption, by assumption, by assumption⟩ | go_keep)
              (first
                | (go_at_call 11; refine (lbase_any n _ hn).mono ?_; rw [EBX.out]; rintro e w' ⟨rfl, rfl⟩)
                | (go_at_call 13; refine (do_any pb pg q.c BX q.kd q.x q.y q.k q.v true l q.b q.a _ (KA.out _ (by exact D0.out)).1 (KA.out _ (by exact D0.out)).2).mono ?_; simp only [offO_near]; rw [EX1.out, EX2.out, EX3.out, EV.out, ER.out, EL.out]; rintro e w5 ⟨ra, rfl, g5, i5, t5⟩; have M5 : Hid (TM0 w wz w5 pb pg qb qg cb ⟨q.kd, q.x, q.y, q.k, q.v, q.a, q.c, q.b, true⟩ ra BX BY l L R) := HW.out.m0 (by exact D0.out) i5 t5 g5 CW.out CPG.out; obtain ⟨p0, p1, p2, p3, p4, p5, p6⟩ := M5.out.cl; clear g5 i5 t5)
                | (go_at_call 13; refine (do_any pb pg q.c BX q.kd q.x q.y q.k q.v true l q.b q.a _ (KA.out _ (by exact D0.out.alloc (Nat.le_refl _) _)).1 (KA.out _ (by exact D0.out.alloc (Nat.le_refl _) _)).2).mono ?_; simp only [offO_near]; rw [EX1.out, EX2.out, EX3.out, EV.out, ER.out, EL.out]; rintro e w5 ⟨ra, rfl, g5, i5, t5⟩; have M5 : Hid (TM0 w wz w5 pb pg qb qg cb ⟨q.kd, q.x, q.y, q.k, q.v, q.a, q.c, q.b, true⟩ ra BX BY l L R) := HW.out.m0 (by exact D0.out.alloc (Nat.le_refl _) _) i5 t5 g5 CW.out CPG.out; have A5 := (Arr.of_alloc wz.drew 0 0 0).tg t5 PGN.out; have A5H : Hid (Arr w5 wz.heap.size 0 0 0) := A5; have a0 : w5.cell? ⟨wz.heap.size, 0, none⟩ = some (.int .i64 0) := A5.c0; have a1 : w5.cell? ⟨wz.heap.size, 1, none⟩ = some (.int .i64 0) := A5.c1; have a2 : w5.cell? ⟨wz.heap.size, 2, none⟩ = some (.int .i64 0) := A5.c2; have z0 : w5.frozen? ⟨wz.heap.size, 0, none⟩ = false := A5.thawed 0; have z1 : w5.frozen? ⟨wz.heap.size, 1, none⟩ = false := A5.thawed 1; have z2 : w5.frozen? ⟨wz.heap.size, 2, none⟩ = false := A5.thawed 2; clear A5; obtain ⟨p0, p1, p2, p3, p4, p5, p6⟩ := M5.out.cl; clear g5 i5 t5))
            · go_wp2_with fail
              go_meet
              exact ⟨w5.heap.size, ra, rfl, rfl, rfl, M5.out.after ((Below.refl _ w5).alloc (Nat.le_refl _) _) (Arr.of_alloc w5 X1 X2 X3)⟩
            all_goals
              go_wp2_with fail
              go_meet
              exact ⟨wz.heap.size, ra, rfl, rfl, rfl, M5.out.ahead HW.out A5H.out (Only.set3 _ _ _ _ _) (A5H.out.set X1 X2 X3) (Nat.le_refl _) CL.out⟩
          case rest =>
            obtain ⟨p, ra, rfl, rfl, rfl, hM⟩ := hcut
            have HM : Hid (TM w wz wc pb pg qb qg cb p ⟨q.kd, q.x, q.y, q.k, q.v, q.a, q.c, q.b, true⟩ ra BX BY l L R X1 X2 X3) := hM
            have KB : Hid (∀ wy, Below wc.heap.size wc wy → IsA wy qb qg BY l ∧ CallOk wy q.x q.y q.k q.v q.a q.b) := fun wy hz => ⟨HM.out.isM.keep hz, OKw.out wy (HM.out.low.trans (hz.mono HM.out.low.size))⟩
            have D1 : Hid (Below wc.heap.size wc wc.drew) := ⟨rfl, rfl, rfl, Nat.le_refl _, fun _ _ => rfl⟩
            have QGN : Hid (wc.heap.size ≠ qg) := by have := HM.out.isM.row.lt; show _ ≠ _; omega
            have LT : Hid (pb < wc.heap.size ∧ pg < wc.heap.size ∧ qb < wc.heap.size ∧ qg < wc.heap.size) := ⟨HM.out.isA.lt, HM.out.isA.row.lt, HM.out.isM.lt, HM.out.isM.row.lt⟩
            have nb3 : cb ≠ wc.heap.size := by have := CL.out; have := HM.out.sz; omega
            have nb4 : wc.heap.size ≠ cb := fun e => nb3 e.symm
            clear hM nb1 nb2
            go_upto_region 13 with (fail)
            go_cut [16, 17, 18] from 39 to 85 (fun pv vv bv wx => ∃ (p2 : Nat) (rb : Option Addr), pv = .pointer (some ⟨p2, 0, none⟩) ∧ vv = .int .u64 V ∧ bv = .slice rb R.length R.length ∧ TF w wx pb pg qb qg p p2 ra rb BX BY L R X1 X2 X3)
            case first =>
              obtain ⟨c0, c1, c2, c3, c4, c5, c6⟩ := HM.out.cl
              go_region_held3 (fun w' => w'.cell? ⟨cb, 0, none⟩ = some (.int .i64 q.kd) ∧ w'.cell? ⟨cb, 1, none⟩ = some (.int .i64 q.x) ∧ w'.cell? ⟨cb, 2, none⟩ = some (.int .i64 q.y) ∧ w'.cell? ⟨cb, 3, none⟩ = some (.int .i64 q.k) ∧ w'.cell? ⟨cb, 4, none⟩ = some (.int .u64 q.v) ∧ w'.cell? ⟨cb, 5, none⟩ = some (.slice q.a q.b.length q.c) ∧ w'.cell? ⟨cb, 6, none⟩ = some (.bool true)) (first | assumption | exact ⟨by assumption, by assumption, by assumption, by assumption, by assumption, by assumption, by assumption⟩ | go_keep)
                (first
                  | (go_at_call 11; refine (lbase_any m _ hm).mono ?_; rw [EBY.out]; rintro e w' ⟨rfl, rfl⟩)
                  | (go_at_call 13; refine (do_any qb qg q.c BY q.kd q.x q.y q.k q.v true l q.b q.a _ (KB.out _ (by exact D1.out)).1 (KB.out _ (by exact D1.out)).2).mono ?_; simp only [offO_near]; rw [EX1.out, EX2.out, EX3.out, EV.out, ER.out, EL.out]; rintro e w5 ⟨rb, rfl, g5, i5, t5⟩; have M5 : Hid (TF0 w wc w5 pb pg qb qg p ra rb BX BY L R X1 X2 X3) := HM.out.f0 HW.out RA.out (by exact D1.out) i5 t5 g5; obtain ⟨p0, p1, p2, p3, p4, p5, p6⟩ := (HM.out.cl.keep (by exact D1.out)).tg t5 CQG.out; clear g5 i5 t5)
                  | (go_at_call 13; refine (do_any qb qg q.c BY q.kd q.x q.y q.k q.v true l q.b q.a _ (KB.out _ (by exact D1.out.alloc (Nat.le_refl _) _)).1 (KB.out _ (by exact D1.out.alloc (Nat.le_refl _) _)).2).mono ?_; simp only [offO_near]; rw [EX1.out, EX2.out, EX3.out, EV.out, ER.out, EL.out]; rintro e w5 ⟨rb, rfl, g5, i5, t5⟩; have M5 : Hid (TF0 w wc w5 pb pg qb qg p ra rb BX BY L R X1 X2 X3) := HM.out.f0 HW.out RA.out (by exact D1.out.alloc (Nat.le_refl _) _) i5 t5 g5; obtain ⟨p0, p1, p2, p3, p4, p5, p6⟩ := (HM.out.cl.keep (by exact D1.out.alloc (Nat.le_refl _) _)).tg t5 CQG.out; have A5 := (Arr.of_alloc wc.drew 0 0 0).tg t5 QGN.out; have A5H : Hid (Arr w5 wc.heap.size 0 0 0) := A5; have a0 : w5.cell? ⟨wc.heap.size, 0, none⟩ = some (.int .i64 0) := A5.c0; have a1 : w5.cell? ⟨wc.heap.size, 1, none⟩ = some (.int .i64 0) := A5.c1; have a2 : w5.cell? ⟨wc.heap.size, 2, none⟩ = some (.int .i64 0) := A5.c2; have z0 : w5.frozen? ⟨wc.heap.size, 0, none⟩ = false := A5.thawed 0; have z1 : w5.frozen? ⟨wc.heap.size, 1, none⟩ = false := A5.thawed 1; have z2 : w5.frozen? ⟨wc.heap.size, 2, none⟩ = false := A5.thawed 2; clear A5; clear g5 i5 t5))
              · go_wp2_with fail
                go_meet
                exact ⟨w5.heap.size, rb, rfl, rfl, rfl, M5.out.after RA.out ((Below.refl _ w5).alloc (Nat.le_refl _) _) (Arr.of_alloc w5 X1 X2 X3)⟩
              all_goals
                go_wp2_with fail
                go_meet
                exact ⟨wc.heap.size, rb, rfl, rfl, rfl, M5.out.ahead RA.out HM.out.low.size LT.out A5H.out (Only.set3 _ _ _ _ _) (A5H.out.set X1 X2 X3) (Nat.le_refl _)⟩
            case rest =>
              obtain ⟨p2, rb, rfl, rfl, rfl, hF⟩ := hcut
              rename World => wf
              have HF : Hid (TF w wf pb pg qb qg p p2 ra rb BX BY L R X1 X2 X3) := hF
              have a0 := hF.arr.c0
              have a1 := hF.arr.c1
              have a2 := hF.arr.c2
              have e0 := hF.arr2.c0
              have e1 := hF.arr2.c1
              have e2 := hF.arr2.c2
              have nq3 : ∀ (w : World) (x y z : Int), (binOp .neq 33 (.agg #[.int .i64 x, .int .i64 y, .int .i64 z]) (.agg #[.int .i64 x, .int .i64 y, .int .i64 z])).run Try.prog w = .ok (.bool false) w := neq3
              clear hF
              go_wp2_with (go_at_call 15; refine (same_true _ _ _ _ _ _ R _ HF.out.ga HF.out.gb rfl rfl).mono ?_; rintro e w' ⟨rfl, rfl⟩)
              go_roundw
              case rel => exact ⟨i + 1, L, by omega, by omega, by go_num, HF.out.tw⟩
              case measure => simp [intOf]; omega
      · obtain rfl : i = 200 := by omega
        have hlt' : (200 : Int) < (cs.length : Int) := by omega
        go_wp2_with fail
        refine (bytes_any pb pg BX l _ HP.out.isA).mono ?_
        rintro e w7 ⟨ra, rfl, g7, b7⟩
        have I7 : Hid (IsA w7 qb qg BY l) := HP.out.isM.keep b7
        have S7 : Hid (IsB w7 ra l) := g7.isB HP.out.isA.all
        have B7 : Hid (Below w.heap.size w w7) := HP.out.low.trans (b7.mono HP.out.low.size)
        clear g7 b7
        go_wp2_with fail
        refine (bytes_any qb qg BY l _ I7.out).mono ?_
        rintro e w8 ⟨rb, rfl, g8, b8⟩
        have S8 : Hid (IsB w8 ra l) := S7.out.keep b8
        have T8 : Hid (IsB w8 rb l) := g8.isB HP.out.isA.all
        have B8 : Hid (Below w.heap.size w w8) := B7.out.trans (b8.mono B7.out.size)
        clear g8 b8
        go_wp2_with (go_at_call 15; refine (same_true _ _ _ _ _ _ l _ S8.out T8.out rfl rfl).mono ?_; rintro e w' ⟨rfl, rfl⟩)
        go_ret
        exact ⟨rfl, B8.out⟩
    · obtain rfl : i = cs.length := by omega
      go_wp2_with fail
      refine (bytes_any pb pg BX l _ HP.out.isA).mono ?_
      rintro e w7 ⟨ra, rfl, g7, b7⟩
      have I7 : Hid (IsA w7 qb qg BY l) := HP.out.isM.keep b7
      have S7 : Hid (IsB w7 ra l) := g7.isB HP.out.isA.all
      have B7 : Hid (Below w.heap.size w w7) := HP.out.low.trans (b7.mono HP.out.low.size)
      clear g7 b7
      go_wp2_with fail
      refine (bytes_any qb qg BY l _ I7.out).mono ?_
      rintro e w8 ⟨rb, rfl, g8, b8⟩
      have S8 : Hid (IsB w8 ra l) := S7.out.keep b8
      have T8 : Hid (IsB w8 rb l) := g8.isB HP.out.isA.all
      have B8 : Hid (Below w.heap.size w w8) := B7.out.trans (b8.mono B7.out.size)
      clear g8 b8
      go_wp2_with (go_at_call 15; refine (same_true _ _ _ _ _ _ l _ S8.out T8.out rfl rfl).mono ?_; rintro e w' ⟨rfl, rfl⟩)
      go_ret
      exact ⟨rfl, B8.out⟩
end Go.Proofs.Ytjejholognpbaaa
