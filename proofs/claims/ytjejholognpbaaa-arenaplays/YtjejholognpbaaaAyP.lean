/- What the law ArenaPlays goes through. -/
import Derived.Test.YtjejholognpbaaaAyS
namespace Go.Proofs.Ytjejholognpbaaa
open Go.RowKit
set_option linter.unusedVariables false

set_option maxHeartbeats 8000000 in
set_option maxRecDepth 20000 in
theorem arenaPlays_any (n m : Nat) (a : Option Addr) (cap : Nat) (cs : List Cl) (w : World) (hn : n < 4294967296) (hm : m < 256) (hC : IsC w a cs) (hl : cs.length ≤ maxLen) (hY : ∀ x ∈ cs, x.b.length ≤ 140737488355328) :
    Calls Try.prog 3 #[.int .u32 (n : Nat), .int .u8 (m : Nat), .slice a cs.length cap] w fun e w' => e = .returned (.bool true) ∧ Below w.heap.size w w' := by
  have HC : Hid (IsC w a cs) := hC
  have HY : Hid (∀ x ∈ cs, x.b.length ≤ 140737488355328) := hY
  unfold maxLen at hl
  obtain ⟨B, hB⟩ : ∃ B, baseN n = B := ⟨_, rfl⟩
  have EB : Hid (baseN n = B) := hB
  have HG : Hid (goodR B) := by show goodR _; rw [← hB]; exact baseN_good hn
  obtain ⟨K, hK⟩ : ∃ K, 1 + m % 8 = K := ⟨_, rfl⟩
  have eK : 1 + (m : Int) % 8 = (K : Int) := by omega
  have k1 : 1 ≤ K := by omega
  have k2 : K ≤ 8 := by omega
  obtain ⟨Z, hZ⟩ : ∃ Z : List Int, List.replicate (K * 256) 0 = Z := ⟨_, rfl⟩
  have EZ : Hid (List.replicate (K * 256) 0 = Z) := hZ
  have ZL : Hid (Z.length = K * 256) := by show _ = _; rw [← hZ]; exact List.length_replicate
  clear hB hZ hC hY hK
  go_enter Try.func3, Try.ntmps3
  go_wp2_with fail
  refine (alive_any _).mono ?_
  rintro e w1 ⟨rfl, b1⟩
  have B1 : Hid (Below w.heap.size w w1) := b1
  clear b1
  go_wp2_with (go_at_call 11; refine (lbase_any n _ hn).mono ?_; rw [EB.out]; rintro e w' ⟨rfl, rfl⟩)
  refine (new_any B K _ k1 (by omega) HG.out).mono ?_
  rw [EZ.out]
  rintro e w2 ⟨rfl, i2, b2, s2⟩
  obtain ⟨pb, hpb⟩ : ∃ pb, w1.heap.size + 1 = pb := ⟨_, rfl⟩
  obtain ⟨pg, hpg⟩ : ∃ pg, w1.heap.size = pg := ⟨_, rfl⟩
  have I2 : Hid (IsA w2 pb pg B Z) := by show IsA _ _ _ _ _; rw [← hpb, ← hpg]; exact i2
  have B2 : Hid (Below w.heap.size w w2) := B1.out.trans (b2.mono B1.out.size)
  have G2 : Hid (w.heap.size ≤ pg ∧ pg < w2.heap.size ∧ pb < w2.heap.size) := by have := B1.out.size; show _ ∧ _; omega
  rw [hpb]
  clear i2 b2 s2 hpb hpg
  go_wp2_with (go_at_call 11; refine (lbase_any n _ hn).mono ?_; rw [EB.out]; rintro e w' ⟨rfl, rfl⟩)
  refine (rnew_any B K _ k1 (by omega) HG.out).mono ?_
  rw [EZ.out]
  rintro e w3 ⟨rfl, i3, b3, s3⟩
  obtain ⟨mb, hmb⟩ : ∃ mb, w2.heap.size + 1 = mb := ⟨_, rfl⟩
  obtain ⟨mg, hmg⟩ : ∃ mg, w2.heap.size = mg := ⟨_, rfl⟩
  have P3 : Hid (Pl w w3 pb pg mb mg B Z) := by
    obtain ⟨g1, g2, g3⟩ := G2.out
    have hz := B2.out.size
    refine ⟨I2.out.keep b3, ?_, B2.out.trans (b3.mono hz), g1, by omega, by omega, by omega, by omega⟩
    rw [← hmb, ← hmg]; exact i3
  rw [hmb]
  clear i3 b3 s3 hmb hmg G2
  go_wp2
  go_loopw [12] (fun iv wr => ∃ (i : Nat) (l : List Int), i ≤ cs.length ∧ i ≤ 200 ∧ iv = .int .i64 (i : Nat) ∧ l.length = K * 256 ∧ Pl w wr pb pg mb mg B l) (fun iv _ => 200 - (intOf iv).toNat)
  case atStart => exact ⟨0, Z, Nat.zero_le _, Nat.zero_le _, rfl, ZL.out, P3.out⟩
  case round =>
    clear P3 I2 B2 B1
    obtain ⟨i, l, hi, hi2, rfl, hll, hP⟩ := hrel
    rename World => wr
    have HP : Hid (Pl w wr pb pg mb mg B l) := hP
    have HLL : Hid (l.length = K * 256) := hll
    clear hP hll
    by_cases hlt : i < cs.length
    · by_cases hlt2 : i < 200
      · obtain ⟨h0 | ⟨ba, off, rfl, hba, hc⟩, hbody⟩ := HC.out
        · rw [h0] at hlt; simp at hlt
        · have hq := hc i hlt
          have hok := hbody cs[i] (List.getElem_mem hlt)
          have hyl := HY.out cs[i] (List.getElem_mem hlt)
          obtain ⟨q, hqq⟩ : ∃ q, cs[i] = q := ⟨_, rfl⟩
          rw [hqq] at hq hok hyl
          have QW : Hid (ClAt w ba (off + i * 7) q) := hq
          have OW : Hid (ClOk w q ∧ q.b.length ≤ 140737488355328) := ⟨hok, hyl⟩
          have HBA : Hid (ba < w.heap.size) := hba
          obtain ⟨c0, c1, c2, c3, c4, c5, c6⟩ := hq.keep HP.out.low
          have hlt' : (i : Int) < (cs.length : Int) := by omega
          have hltb : (i : Int) < 200 := by omega
          clear hc hbody hq hok hyl hqq
          obtain ⟨X1, hX1⟩ : ∃ z, (ansX l q.kd (offO B q.x q.nr) (offO B q.y q.nr) q.k q.x q.b).1 = z := ⟨_, rfl⟩
          obtain ⟨X2, hX2⟩ : ∃ z, (ansX l q.kd (offO B q.x q.nr) (offO B q.y q.nr) q.k q.x q.b).2.1 = z := ⟨_, rfl⟩
          obtain ⟨X3, hX3⟩ : ∃ z, (ansX l q.kd (offO B q.x q.nr) (offO B q.y q.nr) q.k q.x q.b).2.2 = z := ⟨_, rfl⟩
          obtain ⟨V, hV⟩ : ∃ z, ansW l q.kd (offO B q.x q.nr) = z := ⟨_, rfl⟩
          obtain ⟨R, hR⟩ : ∃ z, ansB l q.kd (offO B q.x q.nr) q.k = z := ⟨_, rfl⟩
          obtain ⟨L, hL⟩ : ∃ z, ansL l q.kd (offO B q.x q.nr) (offO B q.y q.nr) q.k q.v q.b = z := ⟨_, rfl⟩
          have EX1 : Hid ((ansX l q.kd (offO B q.x q.nr) (offO B q.y q.nr) q.k q.x q.b).1 = X1) := hX1
          have EX2 : Hid ((ansX l q.kd (offO B q.x q.nr) (offO B q.y q.nr) q.k q.x q.b).2.1 = X2) := hX2
          have EX3 : Hid ((ansX l q.kd (offO B q.x q.nr) (offO B q.y q.nr) q.k q.x q.b).2.2 = X3) := hX3
          have EV : Hid (ansW l q.kd (offO B q.x q.nr) = V) := hV
          have ER : Hid (ansB l q.kd (offO B q.x q.nr) q.k = R) := hR
          have EL : Hid (ansL l q.kd (offO B q.x q.nr) (offO B q.y q.nr) q.k q.v q.b = L) := hL
          have RA : Hid (AllB R ∧ R.length ≤ 1048576) := by
            refine ⟨by rw [← hR]; exact HP.out.isA.all.ansB _ _ _, ?_⟩
            have h1 := ansB_len l q.kd (offO B q.x q.nr) q.k
            have h2 := HP.out.isA.len
            rw [hR] at h1
            omega
          have LL : Hid (L.length = K * 256) := by show _ = _; rw [← hL, ansL_len]; exact HLL.out
          have OKw : Hid (∀ wz, Below w.heap.size w wz → CallOk wz q.x q.y q.k q.v q.a q.b) := fun wz hz => ⟨OW.out.1.x, OW.out.1.y, OW.out.1.k, OW.out.1.v0, OW.out.1.v1, OW.out.1.isB.keep hz, OW.out.2⟩
          have KA : Hid (∀ wz, Below wr.heap.size wr wz → IsA wz pb pg B l ∧ CallOk wz q.x q.y q.k q.v q.a q.b) := fun wz hz => ⟨HP.out.isA.keep hz, OKw.out wz (HP.out.low.trans (hz.mono HP.out.low.size))⟩
          have D0 : Hid (Below wr.heap.size wr wr.drew) := ⟨rfl, rfl, rfl, Nat.le_refl _, fun _ _ => rfl⟩
          have NQ : Hid (∀ ad, q.a = some ad → q.b = [] ∨ ad.block < w.heap.size) := fun ad hd => by
            obtain ⟨_, e | ⟨b', o', e, hs, _⟩⟩ := OW.out.1.isB
            · exact .inl e
            · rw [e] at hd; cases hd; exact .inr hs
          have PGN : Hid (wr.heap.size ≠ pg) := by have := HP.out.isA.row.lt; show _ ≠ _; omega
          have nb1 : ba ≠ wr.heap.size := by have := HP.out.low.size; have := HBA.out; omega
          have nb2 : wr.heap.size ≠ ba := fun e => nb1 e.symm
          clear hX1 hX2 hX3 hV hR hL
          go_upto_region 11 with (fail)
          go_cut [13, 14, 15] from 47 to 106 (fun pv vv bv wx => ∃ (p : Nat) (ra : Option Addr), pv = .pointer (some ⟨p, 0, none⟩) ∧ vv = .int .u64 V ∧ bv = .slice ra R.length R.length ∧ Mid w wr wx pb pg mb mg p ra B l L R X1 X2 X3)
          case first =>
            go_region_held3 (fun w' => w'.cell? ⟨ba, off + i * 7, none⟩ = some (.int .i64 q.kd) ∧ w'.cell? ⟨ba, off + i * 7 + 1, none⟩ = some (.int .i64 q.x) ∧ w'.cell? ⟨ba, off + i * 7 + 2, none⟩ = some (.int .i64 q.y) ∧ w'.cell? ⟨ba, off + i * 7 + 3, none⟩ = some (.int .i64 q.k) ∧ w'.cell? ⟨ba, off + i * 7 + 4, none⟩ = some (.int .u64 q.v) ∧ w'.cell? ⟨ba, off + i * 7 + 5, none⟩ = some (.slice q.a q.b.length q.c) ∧ w'.cell? ⟨ba, off + i * 7 + 6, none⟩ = some (.bool q.nr)) (first | assumption | exact ⟨by assumption, by assumption, by assumption, by assumption, by assumption, by assumption, by assumption⟩ | go_keep)
              (first
                | (go_at_call 11; refine (lbase_any n _ hn).mono ?_; rw [EB.out]; rintro e w' ⟨rfl, rfl⟩)
                | (go_at_call 13; refine (do_any pb pg q.c B q.kd q.x q.y q.k q.v q.nr l q.b q.a _ (KA.out _ (by exact D0.out)).1 (KA.out _ (by exact D0.out)).2).mono ?_; rw [EX1.out, EX2.out, EX3.out, EV.out, ER.out, EL.out]; rintro e w5 ⟨ra, rfl, g5, i5, t5⟩; have M5 : Hid (Mid0 w wr w5 pb pg mb mg ra B l L R) := HP.out.mid0 (by exact D0.out) i5 t5 g5; obtain ⟨p0, p1, p2, p3, p4, p5, p6⟩ := QW.out.keep M5.out.low; clear g5 i5 t5)
                | (go_at_call 13; refine (do_any pb pg q.c B q.kd q.x q.y q.k q.v q.nr l q.b q.a _ (KA.out _ (by exact D0.out.alloc (Nat.le_refl _) _)).1 (KA.out _ (by exact D0.out.alloc (Nat.le_refl _) _)).2).mono ?_; rw [EX1.out, EX2.out, EX3.out, EV.out, ER.out, EL.out]; rintro e w5 ⟨ra, rfl, g5, i5, t5⟩; have M5 : Hid (Mid0 w wr w5 pb pg mb mg ra B l L R) := HP.out.mid0 (by exact D0.out.alloc (Nat.le_refl _) _) i5 t5 g5; have A5 := (Arr.of_alloc wr.drew 0 0 0).tg t5 PGN.out; have A5H : Hid (Arr w5 wr.heap.size 0 0 0) := A5; have a0 : w5.cell? ⟨wr.heap.size, 0, none⟩ = some (.int .i64 0) := A5.c0; have a1 : w5.cell? ⟨wr.heap.size, 1, none⟩ = some (.int .i64 0) := A5.c1; have a2 : w5.cell? ⟨wr.heap.size, 2, none⟩ = some (.int .i64 0) := A5.c2; have z0 : w5.frozen? ⟨wr.heap.size, 0, none⟩ = false := A5.thawed 0; have z1 : w5.frozen? ⟨wr.heap.size, 1, none⟩ = false := A5.thawed 1; have z2 : w5.frozen? ⟨wr.heap.size, 2, none⟩ = false := A5.thawed 2; clear A5; obtain ⟨p0, p1, p2, p3, p4, p5, p6⟩ := QW.out.keep M5.out.low; clear g5 i5 t5))
            · go_wp2_with fail
              go_meet
              exact ⟨w5.heap.size, ra, rfl, rfl, rfl, M5.out.after ((Below.refl _ w5).alloc (Nat.le_refl _) _) (Arr.of_alloc w5 X1 X2 X3)⟩
            all_goals
              go_wp2_with fail
              go_meet
              exact ⟨wr.heap.size, ra, rfl, rfl, rfl, M5.out.ahead HP.out A5H.out (Only.set3 _ _ _ _ _) (A5H.out.set X1 X2 X3) (Nat.le_refl _)⟩
          case rest =>
            obtain ⟨p, ra, rfl, rfl, rfl, hM⟩ := hcut
            clear c0 c1 c2 c3 c4 c5 c6
            have HM : Hid (Mid w wr wc pb pg mb mg p ra B l L R X1 X2 X3) := hM
            obtain ⟨c0, c1, c2, c3, c4, c5, c6⟩ := QW.out.keep hM.low
            have NE : Hid (q.b = [] ∨ ∀ ad, q.a = some ad → ad.block ≠ mg) := by
              by_cases he : q.b = []
              · exact .inl he
              · refine .inr fun ad hd => ?_
                have h1 := HP.out.gm
                rcases NQ.out ad hd with h2 | h2
                · exact absurd h2 he
                · omega
            clear hM
            go_wp2_with fail
            refine (want_any mb mg q.c B q.kd q.x q.y q.k q.v q.nr l q.b q.a _ HM.out.isM (OKw.out _ HM.out.low) NE.out).mono ?_
            rw [EX1.out, EX2.out, EX3.out, EV.out, ER.out, EL.out]
            rintro e w6 ⟨rb, rc, rfl, g6, i6, t6⟩
            obtain ⟨w7, hw7⟩ : ∃ w7, w6.alloc (.cells #[.int .i64 X1, .int .i64 X2, .int .i64 X3] 33) = w7 := ⟨_, rfl⟩
            have F7 : Hid (Fin w wr w7 pb pg mb mg p ra rb B L R X1 X2 X3) := by
              show Fin _ _ _ _ _ _ _ _ _ _ _ _ _ _ _ _
              rw [← hw7]
              exact (HM.out.fin HP.out i6 t6 g6).keep ((Below.refl _ w6).alloc (Nat.le_refl _) _)
            have A7 : Arr w7 w6.heap.size X1 X2 X3 := by rw [← hw7]; exact Arr.of_alloc w6 X1 X2 X3
            have a0 := A7.c0
            have a1 := A7.c1
            have a2 := A7.c2
            have e0 := F7.out.arr.c0
            have e1 := F7.out.arr.c1
            have e2 := F7.out.arr.c2
            have nq3 : ∀ (w : World) (x y z : Int), (binOp .neq 33 (.agg #[.int .i64 x, .int .i64 y, .int .i64 z]) (.agg #[.int .i64 x, .int .i64 y, .int .i64 z])).run Try.prog w = .ok (.bool false) w := neq3
            clear g6 i6 t6 A7
            go_wp2_with (go_at_call 15; refine (same_true _ _ _ _ _ _ R _ (F7.out.got.isB RA.out.1) F7.out.isB rfl rfl).mono ?_; rintro e w' ⟨rfl, rfl⟩)
            have N7 : Hid (Inn w wr w7 pb pg mb mg ra B L R.length) := ⟨F7.out.pl, R, rfl, RA.out.1, F7.out.got⟩
            have rl := RA.out.2
            clear F7 a0 a1 a2 e0 e1 e2 hw7 nq3 c0 c1 c2 c3 c4 c5 c6 HM
            go_loopw [95] (fun jv wx => ∃ j : Nat, j ≤ R.length ∧ jv = .int .i64 (j : Nat) ∧ Inn w wr wx pb pg mb mg ra B L R.length) (fun jv _ => R.length - (intOf jv).toNat)
            case atStart => exact ⟨0, Nat.zero_le _, rfl, N7.out⟩
            case round =>
              clear N7
              obtain ⟨j, hj, rfl, hN⟩ := hrel
              rename World => wx
              have HN : Hid (Inn w wr wx pb pg mb mg ra B L R.length) := hN
              by_cases hjl : j < R.length
              · obtain ⟨g9, R9, rfl, hg9, hr9, hl9, ha9⟩ := hN.row (by omega)
                have cj := hr9.cell j (by omega)
                have zj := hr9.thawed j
                have bd := ha9.at j
                obtain ⟨y, hy⟩ : ∃ y, R9.getD j 0 = y := ⟨_, rfl⟩
                rw [hy] at cj bd
                obtain ⟨bd0, bd1⟩ := bd
                have hjl' : (j : Int) < (R.length : Int) := by omega
                have HS : Hid (∀ v, 0 ≤ v ∧ v ≤ 255 → Inn w wr (wx.setCell ⟨g9, j, none⟩ (.int .u8 v)) pb pg mb mg (some ⟨g9, 0, none⟩) B L R.length) := fun v hv => HN.out.set HP.out hg9 hr9 hl9 ha9 hv
                clear hN hr9 hl9 ha9 hy hg9
                go_wp2
                go_roundw
                case rel => exact ⟨j + 1, by omega, by go_num, HS.out _ (by omega)⟩
                case measure => simp [intOf]; omega
              · obtain rfl : j = R.length := by omega
                clear hN
                go_wp2
                go_roundw
                case rel => exact ⟨i + 1, L, by omega, by omega, by go_num, LL.out, HN.out.pl⟩
                case measure => simp [intOf]; omega
      · obtain rfl : i = 200 := by omega
        have hlt' : (200 : Int) < (cs.length : Int) := by omega
        have I9 : Hid (IsA wr pb pg B l) := HP.out.isA
        go_wp2_with fail
        refine (bytes_any pb pg B l _ I9.out).mono ?_
        rintro e w8 ⟨ra, rfl, g8, b8⟩
        have I8 : Hid (IsA w8 pb pg B l) := I9.out.keep b8
        have M8 : Hid (IsM w8 mb mg B l) := HP.out.isM.keep b8
        have B8 : Hid (Below w.heap.size w w8) := HP.out.low.trans (b8.mono HP.out.low.size)
        have S8 : Hid (IsB w8 ra l) := g8.isB HP.out.isA.all
        have T8 : Hid (IsB w8 (some ⟨mg, 0, none⟩) l) := M8.out.row.isB HP.out.isA.all
        have c0 := M8.out.cell0
        have c1 := M8.out.cell1
        have h1 := M8.out.lo
        have h2 := M8.out.hi
        have h3 := M8.out.len
        have e1 : (B == B) = true := by simp
        have e2 : ((K : Int) == (K : Int)) = true := by simp
        have e3 : (B + (l.length : Int) == B + (l.length : Int)) = true := by simp
        have g1 : IntKind.i64.wrap (B + (l.length : Int)) = B + (l.length : Int) := by rw [IntKind.wrap_i64]; omega
        have g2 : IntKind.i64.wrap (l.length : Int) = (l.length : Int) := by rw [IntKind.wrap_i64]; omega
        clear g8 b8 I9
        go_wp2_with fail
        go_quiet ((first
          | (go_at_call 17; exact Calls.quiet_of_same (base_q pb pg B l _ (I8.out.drewN _)))
          | (go_at_call 18; exact Calls.quiet_of_same (pages_q pb pg K B l _ (I8.out.drewN _) HLL.out))
          | (go_at_call 19; exact Calls.quiet_of_same (end_q pb pg B l _ (I8.out.drewN _)))
          | (go_at_call 15; exact Calls.quiet_of_same (same_q _ _ _ _ _ _ l _ (S8.out.drewN _) (T8.out.drewN _) rfl rfl))))
        go_wp2
        go_ret
        exact ⟨rfl, below_drewN B8.out _⟩
    · obtain rfl : i = cs.length := by omega
      have I9 : Hid (IsA wr pb pg B l) := HP.out.isA
      go_wp2_with fail
      refine (bytes_any pb pg B l _ I9.out).mono ?_
      rintro e w8 ⟨ra, rfl, g8, b8⟩
      have I8 : Hid (IsA w8 pb pg B l) := I9.out.keep b8
      have M8 : Hid (IsM w8 mb mg B l) := HP.out.isM.keep b8
      have B8 : Hid (Below w.heap.size w w8) := HP.out.low.trans (b8.mono HP.out.low.size)
      have S8 : Hid (IsB w8 ra l) := g8.isB HP.out.isA.all
      have T8 : Hid (IsB w8 (some ⟨mg, 0, none⟩) l) := M8.out.row.isB HP.out.isA.all
      have c0 := M8.out.cell0
      have c1 := M8.out.cell1
      have h1 := M8.out.lo
      have h2 := M8.out.hi
      have h3 := M8.out.len
      have e1 : (B == B) = true := by simp
      have e2 : ((K : Int) == (K : Int)) = true := by simp
      have e3 : (B + (l.length : Int) == B + (l.length : Int)) = true := by simp
      have g1 : IntKind.i64.wrap (B + (l.length : Int)) = B + (l.length : Int) := by rw [IntKind.wrap_i64]; omega
      have g2 : IntKind.i64.wrap (l.length : Int) = (l.length : Int) := by rw [IntKind.wrap_i64]; omega
      clear g8 b8 I9
      go_wp2_with fail
      go_quiet ((first
        | (go_at_call 17; exact Calls.quiet_of_same (base_q pb pg B l _ (I8.out.drewN _)))
        | (go_at_call 18; exact Calls.quiet_of_same (pages_q pb pg K B l _ (I8.out.drewN _) HLL.out))
        | (go_at_call 19; exact Calls.quiet_of_same (end_q pb pg B l _ (I8.out.drewN _)))
        | (go_at_call 15; exact Calls.quiet_of_same (same_q _ _ _ _ _ _ l _ (S8.out.drewN _) (T8.out.drewN _) rfl rfl))))
      go_wp2
      go_ret
      exact ⟨rfl, below_drewN B8.out _⟩
end Go.Proofs.Ytjejholognpbaaa
