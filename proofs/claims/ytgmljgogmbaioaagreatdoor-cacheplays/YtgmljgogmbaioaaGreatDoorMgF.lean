/- The walk of the law CachePlays. -/
import Derived.Test.YtgmljgogmbaioaaGreatDoorMgDE
import Derived.Test.YtgmljgogmbaioaaGreatDoorKaTU
namespace Go.Proofs.YtgmljgogmbaioaaGreatDoor
open Go.RowKit
set_option linter.unusedVariables false
set_option maxRecDepth 4000

theorem IsC.at {w : World} {a : Option Addr} {n : Nat} {kd xx kk : Nat → Int} (h : IsC w a n kd xx kk) (i : Nat) (hi : i < n) : ∃ b off, a = some ⟨b, off, none⟩ ∧ w.cell? ⟨b, off + i * 3, none⟩ = some (.int .i64 (kd i)) ∧ w.cell? ⟨b, off + i * 3 + 1, none⟩ = some (.int .i64 (xx i)) ∧ w.cell? ⟨b, off + i * 3 + 2, none⟩ = some (.int .i64 (kk i)) ∧ (-9223372036854775808 ≤ xx i ∧ xx i ≤ 9223372036854775807) ∧ -9223372036854775808 ≤ kk i ∧ kk i ≤ 9223372036854775807 := by
  obtain ⟨h0, h1 | ⟨b, off, e, _, hc⟩⟩ := h
  · omega
  · obtain ⟨c0, c1, c2⟩ := hc i hi
    exact ⟨b, off, e, c0, c1, c2, (h0 i hi).1, (h0 i hi).2⟩
set_option maxRecDepth 20000 in
set_option maxHeartbeats 4000000 in
theorem cachePlays_any (p q : Int) (a : Option Addr) (n cap : Nat) (kd xx kk : Nat → Int) (w : World) (hT : Tabs w) (hp : 0 ≤ p ∧ p < 256) (hq : 0 ≤ q ∧ q < 256) (hS : IsC w a n kd xx kk) (hn : n ≤ 9223372036854775807) :
    Calls Tryz.prog 3 #[.agg #[.int .u8 p, .int .u8 q], .slice a n cap] w fun e w' => e = .returned (.bool true) ∧ Below w.heap.size w w' := by
  obtain ⟨P, hP⟩ : ∃ P : Nat, (P : Int) = 1 + p % 32 := ⟨(1 + p % 32).toNat, by omega⟩
  obtain ⟨W, hW⟩ : ∃ W : Nat, (W : Int) = 1 + q % 8 := ⟨(1 + q % 8).toNat, by omega⟩
  have HT : Hid (Tabs w) := hT
  have HS : Hid (IsC w a n kd xx kk) := hS
  have HP : Hid ((P : Int) = 1 + p % 32) := hP
  have HW : Hid ((W : Int) = 1 + q % 8) := hW
  have HRG : Hid (P ≤ 4096 ∧ 1 ≤ P ∧ 1 ≤ W ∧ W ≤ 8) := by show _ ∧ _; omega
  have two : Hid (2 ≤ w.heap.size) := by have := hT.2.1; show 2 ≤ _; omega
  have hW8 : W ≤ 8 := by omega
  obtain ⟨D, hD⟩ : ∃ D, w.alloc (.cells #[.int .u8 p, .int .u8 q] 23) = D := ⟨_, rfl⟩
  have HD : Hid (w.alloc (.cells #[.int .u8 p, .int .u8 q] 23) = D) := hD
  have BD : Hid (Below w.heap.size w D) := by show Below _ _ _; rw [← hD]; exact (Below.refl _ w).alloc (Nat.le_refl _) _
  have RD : Hid (D.heap[w.heap.size]? = some (.cells #[.int .u8 p, .int .u8 q] 23 (0, 0))) := by show _ = _; rw [← hD]; exact Go.heap_alloc_new w _
  clear hT hS hD hP hW
  go_enter Tryz.func3, Tryz.ntmps3
  go_wp2_with fail
  (try rw [HD.out])
  refine (kalive_any _ (HT.out.keep BD.out)).mono ?_
  rintro e w1 ⟨rfl, b1⟩
  have B1 : Hid (Below w.heap.size w w1) := BD.out.trans (b1.mono BD.out.size)
  have X1 : Hid (w1.heap[w.heap.size]? = some (.cells #[.int .u8 p, .int .u8 q] 23 (0, 0))) := bblock b1 RD.out
  have d0 : w1.cell? ⟨w.heap.size, 0, none⟩ = some (.int .u8 p) := cell_of_row _ _ 0 _ _ _ X1.out
  have d1 : w1.cell? ⟨w.heap.size, 1, none⟩ = some (.int .u8 q) := cell_of_row _ _ 1 _ _ _ X1.out
  clear b1 RD
  go_wp2_with fail
  go_region_held3 (fun w' => w'.cell? ⟨w.heap.size, 0, none⟩ = some (.int .u8 p) ∧ w'.cell? ⟨w.heap.size, 1, none⟩ = some (.int .u8 q)) (first | exact ⟨z0, z1⟩ | exact ⟨r0, r1⟩ | exact ⟨k0, k1⟩ | exact ⟨d0, d1⟩)
    ((first
    | (go_at_call 10; refine (knew_any P W _ ((HT.out.keep B1.out).keep B3.out) ⟨HRG.out.2.1, HRG.out.1⟩ ⟨HRG.out.2.2.1, HRG.out.2.2.2⟩).mono ?_; rintro e w4 ⟨cb, rfl, hB⟩; have HB : Hid (Born w3 cb P W [] w4) := hB; have z0 := bcell hB.2 r0; have z1 := bcell hB.2 r1; clear hB)
    | (go_at_call 12; refine (sworkers_any p q _ hq).mono ?_; rw [← HW.out]; rintro e w3 ⟨rfl, b3⟩; have B3 : Hid (Below w1.heap.size w1 w3) := B2.out.trans (b3.mono B2.out.size); have r0 := bcell b3 k0; have r1 := bcell b3 k1; clear b3)
    | (go_at_call 11; refine (spages_any p q _ hp).mono ?_; rw [← HP.out]; rintro e w2 ⟨rfl, b2⟩; have B2 : Hid (Below w1.heap.size w1 w2) := Below.ofDrew b2; have k0 := bcell B2.out d0; have k1 := bcell B2.out d1; clear b2)))
  have B3w : Hid (Below w.heap.size w w3) := B1.out.trans (B3.out.mono B1.out.size)
  have X3 : Hid (w3.heap[w.heap.size]? = some (.cells #[.int .u8 p, .int .u8 q] 23 (0, 0))) := bblock B3.out X1.out
  have TW3 : Hid (2 ≤ w3.heap.size) := Nat.le_trans two.out B3w.out.size
  clear d0 d1 k0 k1 r0 r1 B2
  go_wp2_with fail
  go_region_held3 (fun w' => w'.cell? ⟨w.heap.size, 0, none⟩ = some (.int .u8 p) ∧ w'.cell? ⟨w.heap.size, 1, none⟩ = some (.int .u8 q)) (first | exact ⟨y0, y1⟩ | exact ⟨t0, t1⟩ | exact ⟨u0, u1⟩ | exact ⟨z0, z1⟩)
    ((first
    | (have g6 := B6; go_at_call 13; refine (mfrom_nil P W _ (Nat.le_trans TW3.out (Nat.le_trans HB.out.2.size B6.out.size)) ⟨HRG.out.2.1, HRG.out.1⟩ ⟨HRG.out.2.2.1, HRG.out.2.2.2⟩).mono ?_; rintro e w7 ⟨rb, rfl, hR⟩; have HR : Hid (BornR w6 rb P W [] w7) := hR; have y0 := bcell hR.2 t0; have y1 := bcell hR.2 t1; clear hR)
    | (have g5 := B5; go_at_call 12; refine (sworkers_any p q _ hq).mono ?_; rw [← HW.out]; rintro e w6 ⟨rfl, b6⟩; have B6 : Hid (Below w4.heap.size w4 w6) := B5.out.trans (b6.mono B5.out.size); have t0 := bcell b6 u0; have t1 := bcell b6 u1; clear b6)
    | (go_at_call 11; refine (spages_any p q _ hp).mono ?_; rw [← HP.out]; rintro e w5 ⟨rfl, b5⟩; have B5 : Hid (Below w4.heap.size w4 w5) := Below.ofDrew b5; have u0 := bcell B5.out z0; have u1 := bcell B5.out z1; clear b5)))
  obtain ⟨E, hE⟩ : ∃ E, w7.alloc (.cells #[.slice none 0 0] 34) = E := ⟨_, rfl⟩
  have HE : Hid (w7.alloc (.cells #[.slice none 0 0] 34) = E) := hE
  obtain ⟨L0, M0, duo0⟩ := duo_new HB.out w6 B6.out HR.out TW3.out ⟨HRG.out.2.1, HRG.out.1⟩ ⟨HRG.out.2.2.1, HRG.out.2.2.2⟩ E hE
  obtain ⟨tb, htb⟩ : ∃ tb, w7.heap.size = tb := ⟨_, rfl⟩
  rw [htb] at duo0
  have DU0 : Hid (Duo w3 E L0 M0 cb rb tb P W [] [] none [] 0 0) := duo0
  have HTB : Hid (w7.heap.size = tb) := htb
  have XC : Hid (∀ w', Below w3.heap.size w3 w' → w'.cell? ⟨w.heap.size, 0, none⟩ = some (.int .u8 p) ∧ w'.cell? ⟨w.heap.size, 1, none⟩ = some (.int .u8 q)) := fun w' hb => ⟨bcell hb (cell_of_row _ _ 0 _ _ _ X3.out), bcell hb (cell_of_row _ _ 1 _ _ _ X3.out)⟩
  have SC : Hid (∀ w', Below w3.heap.size w3 w' → IsC w' a n kd xx kk) := fun w' hb => (HS.out.keep B3w.out).keep hb
  clear duo0 hE htb y0 y1 t0 t1 u0 u1 z0 z1 B5 B6 HB HR
  obtain ⟨LM, hLM⟩ : ∃ LM, min n 120 = LM := ⟨_, rfl⟩
  have hL1 : LM ≤ n := by omega
  have hL2 : LM ≤ 120 := by omega
  have HLM : Hid (min n 120 = LM) := hLM
  clear hLM
  go_upto_region 8 with (fail)
  (try rw [HE.out])
  (try rw [HTB.out])
  go_wp2_with fail
  go_loopw [10] (fun iv wr => ∃ (i : Nat) (L M : Nat → Nat) (m : List Sg) (ta : Option Addr) (tl : List Int) (tn tc : Nat), i ≤ LM ∧ iv = .int .i64 (i : Nat) ∧ Duo w3 wr L M cb rb tb P W m m ta tl tn tc ∧ tn ≤ i) (fun iv _ => LM - lenW iv)
  case atStart => exact ⟨0, L0, M0, [], none, [], 0, 0, Nat.zero_le _, rfl, DU0.out, Nat.le_refl _⟩
  case round =>
    obtain ⟨i, L, M, m, ta, tl, tn, tc, hi, rfl, hDU, htn⟩ := hrel
    rename World => wr
    have DU : Hid (Duo w3 wr L M cb rb tb P W m m ta tl tn tc) := hDU
    by_cases hiL : i < LM
    · have hin : i < n := by omega
      obtain ⟨b, off, rfl, s0, s1, s2, sx, sk⟩ := (SC.out wr hDU.bel).at i hin
      obtain ⟨K, hK⟩ : ∃ K, kd i = K := ⟨_, rfl⟩
      obtain ⟨X, hX⟩ : ∃ X, xx i = X := ⟨_, rfl⟩
      obtain ⟨Y, hY⟩ : ∃ Y, kk i = Y := ⟨_, rfl⟩
      rw [hK] at s0
      rw [hX] at s1 sx
      rw [hY] at s2 sk
      have SX : Hid (∀ w', Below w3.heap.size w3 w' → w'.cell? ⟨b, off + i * 3 + 1, none⟩ = some (.int .i64 X)) := fun w' hb => by
        obtain ⟨b', off', e, _, q1, _⟩ := (SC.out w' hb).at i hin
        cases e
        rw [q1, hX]
      have i0 : (i : Int) < (n : Int) := by omega
      have i1 : (i : Int) < 120 := by omega
      have i2 : (i : Int).tmod 8 = ((i % 8 : Nat) : Int) := by rw [Int.tmod_eq_emod_of_nonneg (by omega)]; omega
      have htn' : tn < 1000000 := by omega
      clear hDU hK hX hY
      go_wp2_with fail
      refine (do_any w3 _ L M cb rb tb P W m ta tl tn tc K X Y DU.out sx sk htn').mono ?_
      rintro e wa ⟨rfl, L', M', m', ta', tl', tn', tc', da, hta⟩
      have DA : Hid (Duo w3 wa L' M' cb rb tb P W m' m' ta' tl' tn' tc') := da
      have x1 := SX.out wa da.bel
      clear da
      go_wp2_with fail
      refine (msame_any w3 _ L' M' cb rb tb P W m' ta' tl' tn' tc' X _ DA.out).mono ?_
      rintro e wb ⟨rfl, bb⟩
      obtain ⟨L2, M2, db⟩ := DA.out.read bb
      have DB : Hid (Duo w3 wb L2 M2 cb rb tb P W m' m' ta' tl' tn' tc') := db
      clear bb db
      go_wp2
      go_roundw
      case rel => exact ⟨i + 1, L2, M2, m', ta', tl', tn', tc', by omega, by congr 1, DB.out, by omega⟩
      case measure => simp [lenW]; omega
    · obtain rfl : i = LM := by omega
      have DU2 : Hid (∃ L M, Duo w3 wr L M cb rb tb P W m m ta tl tn tc) := ⟨L, M, hDU⟩
      have hout : ¬ ((i : Int) < (n : Int)) ∨ ((i : Int) < (n : Int) ∧ ¬ ((i : Int) < 120)) := by have := HLM.out; omega
      clear hDU hiL
      rcases hout with h0 | ⟨h0, h1⟩
      · skip
        go_wp2_with fail
        go_loopw [11] (fun iv wa => ∃ (t : Nat) (L M : Nat → Nat), t ≤ W + 2 ∧ iv = .int .i64 ((t : Int) - 1) ∧ Duo w3 wa L M cb rb tb P W m m ta tl tn tc) (fun iv _ => (W + 1 - intOf iv).toNat)
        case atStart =>
          obtain ⟨L, M, d⟩ := DU2.out
          exact ⟨0, L, M, Nat.zero_le _, rfl, d⟩
        case round =>
          obtain ⟨t, La, Ma, ht, rfl, hda⟩ := hrel
          rename World => wa
          have DA : Hid (Duo w3 wa La Ma cb rb tb P W m m ta tl tn tc) := hda
          obtain ⟨x0, x1⟩ := XC.out wa hda.bel
          clear hda
          go_wp2_with fail
          refine (sworkers_any p q _ hq).mono ?_
          rw [← HW.out]
          rintro e wb ⟨rfl, bb⟩
          obtain ⟨Lb, Mb, db⟩ := DA.out.read bb
          have DB : Hid (Duo w3 wb Lb Mb cb rb tb P W m m ta tl tn tc) := db
          clear bb db x0 x1
          by_cases htW : t ≤ W + 1
          · have t0 : (t : Int) - 1 ≤ (W : Int) := by omega
            have wt : IntKind.i64.wrap ((t : Int) - 1 + 1) = (t : Int) := by rw [IntKind.wrap_i64]; omega
            go_wp2_with fail
            go_loopw [12] (fun kv wc => ∃ (j : Nat) (L M : Nat → Nat), j ≤ 10 ∧ kv = .int .i64 ((j : Int) - 1) ∧ Duo w3 wc L M cb rb tb P W m m ta tl tn tc) (fun kv _ => (9 - intOf kv).toNat)
            case atStart => exact ⟨0, Lb, Mb, Nat.zero_le _, rfl, DB.out⟩
            case round =>
              obtain ⟨j, Lc, Mc, hj, rfl, hdc⟩ := hrel
              rename World => wc
              have DC : Hid (Duo w3 wc Lc Mc cb rb tb P W m m ta tl tn tc) := hdc
              clear hdc
              by_cases hj9 : j ≤ 9
              · have j0 : (j : Int) - 1 ≤ 8 := by omega
                have wj : IntKind.i64.wrap ((j : Int) - 1 + 1) = (j : Int) := by rw [IntKind.wrap_i64]; omega
                go_wp2_with fail
                refine (msame_any w3 _ Lc Mc cb rb tb P W m ta tl tn tc ((t : Int) - 1) ((j : Int) - 1) DC.out).mono ?_
                rintro e wd ⟨rfl, bd⟩
                obtain ⟨Ld, Md, dd⟩ := DC.out.read bd
                have DD : Hid (Duo w3 wd Ld Md cb rb tb P W m m ta tl tn tc) := dd
                clear bd dd
                go_wp2
                go_roundw
                case rel => exact ⟨j + 1, Ld, Md, by omega, by congr 1; omega, DD.out⟩
                case measure => simp [intOf]; omega
              · obtain rfl : j = 10 := by omega
                have j0 : ¬ (((10 : Nat) : Int) - 1 ≤ 8) := by omega
                go_wp2
                go_roundw
                case rel => exact ⟨t + 1, Lc, Mc, by omega, by congr 1; omega, DC.out⟩
                case measure => simp [intOf]; omega
          · have t0 : ¬ ((t : Int) - 1 ≤ (W : Int)) := by omega
            have FIN : Hid (Below w.heap.size w wb) := B3w.out.trans (DB.out.bel.mono B3w.out.size)
            go_wp2
            go_ret
            exact ⟨rfl, FIN.out⟩
      · skip
        go_wp2_with fail
        go_loopw [11] (fun iv wa => ∃ (t : Nat) (L M : Nat → Nat), t ≤ W + 2 ∧ iv = .int .i64 ((t : Int) - 1) ∧ Duo w3 wa L M cb rb tb P W m m ta tl tn tc) (fun iv _ => (W + 1 - intOf iv).toNat)
        case atStart =>
          obtain ⟨L, M, d⟩ := DU2.out
          exact ⟨0, L, M, Nat.zero_le _, rfl, d⟩
        case round =>
          obtain ⟨t, La, Ma, ht, rfl, hda⟩ := hrel
          rename World => wa
          have DA : Hid (Duo w3 wa La Ma cb rb tb P W m m ta tl tn tc) := hda
          obtain ⟨x0, x1⟩ := XC.out wa hda.bel
          clear hda
          go_wp2_with fail
          refine (sworkers_any p q _ hq).mono ?_
          rw [← HW.out]
          rintro e wb ⟨rfl, bb⟩
          obtain ⟨Lb, Mb, db⟩ := DA.out.read bb
          have DB : Hid (Duo w3 wb Lb Mb cb rb tb P W m m ta tl tn tc) := db
          clear bb db x0 x1
          by_cases htW : t ≤ W + 1
          · have t0 : (t : Int) - 1 ≤ (W : Int) := by omega
            have wt : IntKind.i64.wrap ((t : Int) - 1 + 1) = (t : Int) := by rw [IntKind.wrap_i64]; omega
            go_wp2_with fail
            go_loopw [12] (fun kv wc => ∃ (j : Nat) (L M : Nat → Nat), j ≤ 10 ∧ kv = .int .i64 ((j : Int) - 1) ∧ Duo w3 wc L M cb rb tb P W m m ta tl tn tc) (fun kv _ => (9 - intOf kv).toNat)
            case atStart => exact ⟨0, Lb, Mb, Nat.zero_le _, rfl, DB.out⟩
            case round =>
              obtain ⟨j, Lc, Mc, hj, rfl, hdc⟩ := hrel
              rename World => wc
              have DC : Hid (Duo w3 wc Lc Mc cb rb tb P W m m ta tl tn tc) := hdc
              clear hdc
              by_cases hj9 : j ≤ 9
              · have j0 : (j : Int) - 1 ≤ 8 := by omega
                have wj : IntKind.i64.wrap ((j : Int) - 1 + 1) = (j : Int) := by rw [IntKind.wrap_i64]; omega
                go_wp2_with fail
                refine (msame_any w3 _ Lc Mc cb rb tb P W m ta tl tn tc ((t : Int) - 1) ((j : Int) - 1) DC.out).mono ?_
                rintro e wd ⟨rfl, bd⟩
                obtain ⟨Ld, Md, dd⟩ := DC.out.read bd
                have DD : Hid (Duo w3 wd Ld Md cb rb tb P W m m ta tl tn tc) := dd
                clear bd dd
                go_wp2
                go_roundw
                case rel => exact ⟨j + 1, Ld, Md, by omega, by congr 1; omega, DD.out⟩
                case measure => simp [intOf]; omega
              · obtain rfl : j = 10 := by omega
                have j0 : ¬ (((10 : Nat) : Int) - 1 ≤ 8) := by omega
                go_wp2
                go_roundw
                case rel => exact ⟨t + 1, Lc, Mc, by omega, by congr 1; omega, DC.out⟩
                case measure => simp [intOf]; omega
          · have t0 : ¬ ((t : Int) - 1 ≤ (W : Int)) := by omega
            have FIN : Hid (Below w.heap.size w wb) := B3w.out.trans (DB.out.bel.mono B3w.out.size)
            go_wp2
            go_ret
            exact ⟨rfl, FIN.out⟩
end Go.Proofs.YtgmljgogmbaioaaGreatDoor
