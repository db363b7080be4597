/- The walk of SpanBack, going on: of a span that may be. -/
import Derived.Test.YtmahgdjbgkeecaaDoorSxE
namespace Go.Proofs.YtmahgdjbgkeecaaDoor
open Go.RowKit
set_option linter.unusedVariables false

theorem field3 (p c s : Int) (a : Option Addr) (n k : Nat) (w : World) : (Instr.field 24 (.agg #[.int .i64 p, .int .i64 c, .int .i64 s, .slice a n k]) 3).run Tryd.prog w = .ok (.slice a n k) w := by kernel_rfl

set_option maxRecDepth 20000 in
set_option maxHeartbeats 8000000 in
theorem back_ok (p c s : Int) (l : List Int) (a : Option Addr) (k : Nat) (a1 : Option Addr) (cap1 len1 : Nat) (kd xx : Nat → Int) (w : World) (hT : Tabs w) (hI : IsI w a l) (hnil : a = none → l = [] ∧ k = 0) (hm : l.length ≤ maxLen) (hlen : l.length ≤ 17592186044416) (hx : newE p c s = 0) (hl : okL (slN c) (-1) l = true) (hC : IsC w a1 len1 kd xx) (hm1 : len1 ≤ maxLen) :
    Calls Tryd.prog 5 #[.agg #[.int .i64 p, .int .i64 c, .int .i64 s, .slice a l.length k], .slice a1 len1 cap1] w fun e w' => e = .returned (.bool true) ∧ Below w.heap.size w w' := by
  obtain ⟨D, hD, zD, rD, bD⟩ := dbox w p c s a l.length k
  have HD : Hid (w.alloc (.cells #[.int .i64 p, .int .i64 c, .int .i64 s, .slice a l.length k] 24) = D) := hD
  have BD : Hid (Below w.heap.size w D) := bD
  have TD : Hid (Tabs D) := hT.keep bD
  have ID : Hid (IsI D a l) := hI.keep bD
  have RD : Hid (D.heap[w.heap.size]? = some (.cells (dcells p c s a l.length k) 24 (0, 0))) := rD
  have HX : Hid (newE p c s = 0) := hx
  have HL : Hid (okL (slN c) (-1) l = true) := hl
  have LS : Hid (lsL (fOf l) (slN c) = l) := ls_of hl
  have HC : Hid (IsC w a1 len1 kd xx) := hC
  have HN : Hid (a = none → l = [] ∧ k = 0) := hnil
  have HT : Hid (Tabs w) := hT
  unfold maxLen at hm1
  clear hD zD rD bD hT hI hx hl hnil hC
  go_enter Tryd.func5, Tryd.ntmps5
  go_upto_region 1 with (fail)
  rw [HD.out]
  go_wp2_with fail
  refine (alive_any D TD.out).mono ?_
  rintro e w1 ⟨rfl, b1⟩
  have B1 : Hid (Below w.heap.size w w1) := BD.out.trans (b1.mono BD.out.size)
  have T1 : Hid (Tabs w1) := TD.out.keep b1
  have I1 : Hid (IsI w1 a l) := ID.out.keep b1
  have R1 : Hid (w1.heap[w.heap.size]? = some (.cells (dcells p c s a l.length k) 24 (0, 0))) := bblock b1 RD.out
  obtain ⟨a2, c2, w2, hrun2, o2, n2, b2⟩ := appi_any w1 a l k I1.out HN.out hlen
  have O2 : Hid (OwnsI w2 w1.heap.size a2 l c2) := o2
  have B2 : Hid (Below w.heap.size w w2) := B1.out.trans (b2.mono B1.out.size)
  have I2 : Hid (IsI w2 a l) := I1.out.keep b2
  have R2 : Hid (w2.heap[w.heap.size]? = some (.cells (dcells p c s a l.length k) 24 (0, 0))) := bblock b2 R1.out
  have T2 : Hid (Tabs w2) := T1.out.keep b2
  have q13 : (w1.alloc (.cells #[] 3)).cell? ⟨w.heap.size, 3, none⟩ = some (.slice a l.length k) := bcell ((Below.refl _ w1).alloc (Nat.le_refl _) _) (dcell3 R1.out)
  clear b1 o2 b2 n2
  go_upto_region 4 with (at_builtin; refine wpList_runi rfl rfl _ _ rfl _ _ _ _ rfl rfl hrun2 ?_)
  obtain ⟨a3, c3, w3, hrun3, o3, n3, b3⟩ := appi_any w2 a l k I2.out HN.out hlen
  have R3 : Hid (w3.heap[w.heap.size]? = some (.cells (dcells p c s a l.length k) 24 (0, 0))) := bblock b3 R2.out
  have q23 : (w2.alloc (.cells #[] 3)).cell? ⟨w.heap.size, 3, none⟩ = some (.slice a l.length k) := bcell ((Below.refl _ w2).alloc (Nat.le_refl _) _) (dcell3 R2.out)
  have q33 := dcell3 R3.out
  have z33 := dthawed R3.out 3
  obtain ⟨V, hV⟩ : ∃ V, w3.setCell ⟨w.heap.size, 3, none⟩ (.slice a3 l.length c3) = V := ⟨_, rfl⟩
  have HV : Hid (w3.setCell ⟨w.heap.size, 3, none⟩ (.slice a3 l.length c3) = V) := hV
  have RV : Hid (V.heap[w.heap.size]? = some (.cells (dcells p c s a3 l.length c3) 24 (0, 0))) := by show _ = _; rw [← hV, heap_put R3.out]; simp [dcells]
  have OV : Hid (OwnsI V w2.heap.size a3 l c3) := by show OwnsI _ _ _ _ _; rw [← hV]; exact ownsRow_setCell_below o3 (a := ⟨w.heap.size, 3, none⟩) (show w.heap.size < w2.heap.size from (Array.getElem?_eq_some_iff.1 R2.out).1) _
  have BV : Hid (Below w.heap.size w V) := by show Below _ _ _; rw [← hV]; exact (B2.out.trans (b3.mono B2.out.size)).setCell (Nat.le_refl _) _
  have onV : Only w.heap.size w3 V := by rw [← hV]; exact Only.set _ _ _ _
  have TV : Hid (Tabs V) := HT.out.keep BV.out
  have LV : Hid (IsI V a2 l) := ((ownsI_isI I1.out.all O2.out).keep b3).on onV (fun ad hd => by have h1 := (O2.out.parts.2.2.2 ad hd).1; have h2 := (Array.getElem?_eq_some_iff.1 R1.out).1; omega)
  have v0 := dcell0 RV.out
  have v1 := dcell1 RV.out
  have v2 := dcell2 RV.out
  have v3 := dcell3 RV.out
  have P2 : Hid (∀ ad, a2 = some ad → ad.block < w2.heap.size) := fun ad hd => (O2.out.parts.2.2.2 ad hd).2.1
  have ZZ : Hid (w.heap.size ≤ w2.heap.size) := B2.out.size
  clear o3 n3 b3 onV hV
  go_upto_region 5 with (at_builtin; refine wpList_runi rfl rfl _ _ rfl _ _ _ _ rfl rfl hrun3 ?_)
  rw [HV.out]
  go_wp2_with fail
  refine (of_ok p c s a3 c3 l V TV.out (ownsI_isI I1.out.all OV.out) hm HX.out HL.out).mono ?_
  rintro e w4 ⟨sb, b, g, rfl, s4⟩
  have S4 : Hid (Spn V w4 sb b g p c s (fOf l)) := s4
  have R4 : Hid (w4.heap[w.heap.size]? = some (.cells (dcells p c s a3 l.length c3) 24 (0, 0))) := bblock s4.low RV.out
  have O4 : Hid (OwnsI w4 w2.heap.size a3 l c3) := OV.out.keep s4.low
  have I4 : Hid (IsI w4 a3 l) := (ownsI_isI I1.out.all OV.out).keep s4.low
  have L4 : Hid (IsI w4 a2 l) := LV.out.keep s4.low
  have T4 : Hid (Tabs w4) := TV.out.keep s4.low
  have x0 := dcell0 R4.out
  have x1 := dcell1 R4.out
  have x2 := dcell2 R4.out
  have x3 := dcell3 R4.out
  clear s4
  go_wp2_with fail
  go_region_held3 (fun w' => w'.cell? ⟨w.heap.size, 0, none⟩ = some (.int .i64 p) ∧ w'.cell? ⟨w.heap.size, 1, none⟩ = some (.int .i64 c) ∧ w'.cell? ⟨w.heap.size, 2, none⟩ = some (.int .i64 s) ∧ w'.cell? ⟨w.heap.size, 3, none⟩ = some (.slice a3 l.length c3)) (first | exact ⟨z0, z1, z2, z3⟩ | exact ⟨y0, y1, y2, y3⟩ | exact ⟨x0, x1, x2, x3⟩)
    (first
      | (go_at_call 16; refine (data_any sb b g p c s (fOf l) _ S4.out.at'.drew T4.out.2 l LS.out).mono ?_; rintro e w5 ⟨a5, c5, rfl, o5, b5⟩; have B5 : Hid (Below w4.heap.size w4 w5) := Below.ofDrew b5; have O5 : Hid (OwnsI w5 w4.heap.size a5 l c5) := OwnsI.ofDrew o5; have y0 := bcell B5.out x0; have y1 := bcell B5.out x1; have y2 := bcell B5.out x2; have y3 := bcell B5.out x3; clear o5 b5)
      | (go_at_call 15; refine (same_true p c s a5 a3 _ _ c5 c3 l _ (ownsI_isI I4.out.all O5.out) (I4.out.keep B5.out) rfl rfl hm).mono ?_; rintro e w6 ⟨rfl, b6⟩; have B6 : Hid (Below w4.heap.size w4 w6) := B5.out.trans (b6.mono B5.out.size); have z0 := bcell B6.out x0; have z1 := bcell B6.out x1; have z2 := bcell B6.out x2; have z3 := bcell B6.out x3; clear b6))
  have K0 : Hid (Bk w w6 sb b g p c s (fOf l) w.heap.size w2.heap.size a3 c3 l l a2) := by
    have hs := S4.out
    refine ⟨(hs.keep B6.out).back BV.out, bblock B6.out R4.out, O4.out.keep B6.out, ZZ.out, rfl, L4.out.keep B6.out, fun ad hd => ?_, .inr fun ad ad2 hd hd2 => ?_⟩
    · have h1 := (OV.out.parts.2.2.2 ad hd).2.1
      have := hs.gs
      have := hs.gb
      have := hs.gg
      exact ⟨by omega, by omega, by omega⟩
    · have h1 := (OV.out.parts.2.2.2 ad hd).1
      have h2 := P2.out ad2 hd2
      omega
  have LA : Hid (AllI l) := I4.out.all
  clear x0 x1 x2 x3 y0 y1 y2 y3 z0 z1 z2 v0 v1 v2 v3 q13 q23 q33 z33
  go_wp2
  go_loopw [48] (fun iv wr => ∃ (i : Nat) (mx : List Int), i ≤ l.length ∧ iv = .int .i64 (i : Nat) ∧ Bk w wr sb b g p c s (fOf l) w.heap.size w2.heap.size a3 c3 mx l a2) (fun iv _ => l.length - (intOf iv).toNat)
  case atStart => exact ⟨0, l, Nat.zero_le _, rfl, K0.out⟩
  case round =>
    obtain ⟨i, mx, hi, rfl, hK⟩ := hrel
    rename World => wr
    have K1 : Hid (Bk w wr sb b g p c s (fOf l) w.heap.size w2.heap.size a3 c3 mx l a2) := hK
    clear K0 z3
    by_cases hlt : i < l.length
    · have i3 := dcell3 hK.box
      obtain ⟨gx, v, rfl, _, hc, hz, _⟩ := hK.own.num i (by rw [hK.len]; exact hlt)
      have NX : Hid (Bk w (wr.setCell ⟨gx, i, none⟩ (.int .i64 (-1))) sb b g p c s (fOf l) w.heap.size w2.heap.size (some ⟨gx, 0, none⟩) c3 (mx.set i (-1)) l a2) := hK.turn i hlt (-1)
      clear hK
      go_wp2
      go_roundw
      case rel => exact ⟨i + 1, _, by omega, by go_num, NX.out⟩
      case measure => simp [intOf]; omega
    · obtain rfl : i = l.length := by omega
      clear hK
      go_wp2_with fail
      refine (data_any sb b g p c s (fOf l) wr K1.out.sp.at' (HT.out.keep K1.out.sp.low).2 l LS.out).mono ?_
      rintro e w7 ⟨a7, c7, rfl, o7, b7⟩
      obtain ⟨E, hE, zE, rE, bE⟩ := dbox w7 0 0 0 none 0 0
      obtain ⟨F, hF⟩ : ∃ F, lay4 E w7.heap.size p c s (.slice a7 l.length c7) = F := ⟨_, rfl⟩
      have RF : Hid (F.heap[w7.heap.size]? = some (.cells (dcells p c s a7 l.length c7) 24 (0, 0))) := by show _ = _; rw [← hF]; exact lay4_row rE
      have BF : Hid (Below w7.heap.size w7 F) := by show Below _ _ _; rw [← hF]; exact lay4_below bE (Nat.le_refl _)
      have K2 : Hid (Bk w F sb b g p c s (fOf l) w7.heap.size wr.heap.size a7 c7 l l a2) := by
        have hs := K1.out.sp.at'
        refine ⟨(K1.out.sp.keep b7).keep BF.out, RF.out, o7.keep BF.out, K1.out.sp.low.size, rfl, (K1.out.live.keep b7).keep BF.out, fun ad hd => ?_, ?_⟩
        · have h1 := (o7.parts.2.2.2 ad hd).1
          have := hs.lt
          have := hs.set.hb
          have := hs.set.hg
          exact ⟨by omega, by omega, by omega⟩
        · by_cases h0 : l = []
          · exact .inl h0
          · refine .inr fun ad ad2 hd hd2 => ?_
            have h1 := (o7.parts.2.2.2 ad hd).1
            have h2 := K1.out.live.lt h0 ad2 hd2
            omega
      have e0 := dcell0 rE
      have e1 := dcell1 rE
      have e2 := dcell2 rE
      have e3 := dcell3 rE
      have t0 := dthawed rE 0
      have t1 := dthawed rE 1
      have t2 := dthawed rE 2
      have t3 := dthawed rE 3
      have f3 := dcell3 RF.out
      unfold lay4 at hF
      clear o7 b7 zE rE bE
      go_wp2
      go_loopw [61] (fun iv wz => ∃ (i : Nat) (mx : List Int), i ≤ l.length ∧ iv = .int .i64 (i : Nat) ∧ Bk w wz sb b g p c s (fOf l) w7.heap.size wr.heap.size a7 c7 mx l a2) (fun iv _ => l.length - (intOf iv).toNat)
      case atStart => exact ⟨0, l, Nat.zero_le _, rfl, K2.out⟩
      case round =>
        obtain ⟨i, mz, hi, rfl, hK⟩ := hrel
        rename World => wz
        have K3 : Hid (Bk w wz sb b g p c s (fOf l) w7.heap.size wr.heap.size a7 c7 mz l a2) := hK
        clear K2 f3 e0 e1 e2 e3 t0 t1 t2 t3
        by_cases hlt : i < l.length
        · have i3 := dcell3 hK.box
          obtain ⟨gx, v, rfl, _, hc, hz, _⟩ := hK.own.num i (by rw [hK.len]; exact hlt)
          have NX : Hid (Bk w (wz.setCell ⟨gx, i, none⟩ (.int .i64 (-1))) sb b g p c s (fOf l) w7.heap.size wr.heap.size (some ⟨gx, 0, none⟩) c7 (mz.set i (-1)) l a2) := hK.turn i hlt (-1)
          clear hK
          go_wp2
          go_roundw
          case rel => exact ⟨i + 1, _, by omega, by go_num, NX.out⟩
          case measure => simp [intOf]; omega
        · obtain rfl : i = l.length := by omega
          clear hK
          go_wp2_with fail
          refine (data_any sb b g p c s (fOf l) wz K3.out.sp.at' (HT.out.keep K3.out.sp.low).2 l LS.out).mono ?_
          rintro e w9 ⟨a9, c9, rfl, o9, b9⟩
          have I9 : Hid (IsI w9 a9 l) := ownsI_isI LA.out o9
          have L9 : Hid (IsI w9 a2 l) := K3.out.live.keep b9
          have S9 : Hid (Spn w w9 sb b g p c s (fOf l)) := K3.out.sp.keep b9
          have hfd := field3 p c s a9 l.length c9
          clear o9 b9
          go_wp2_with fail
          refine (ints_true a9 a2 _ _ c9 c2 l w9 I9.out L9.out rfl rfl hm).mono ?_
          rintro e w10 ⟨rfl, b10⟩
          have S10 : Hid (Spn w w10 sb b g p c s (fOf l)) := S9.out.keep b10
          clear b10
          go_wp2
          go_loopw [11] (fun iv wy => ∃ (i : Nat) (f : Nat → Bool), i ≤ len1 ∧ i ≤ 100 ∧ iv = .int .i64 (i : Nat) ∧ Spn w wy sb b g p c s f) (fun iv _ => 100 - (intOf iv).toNat)
          case atStart => exact ⟨0, _, Nat.zero_le _, Nat.zero_le _, rfl, S10.out⟩
          case round =>
            obtain ⟨i, f, hi, hi2, rfl, hS⟩ := hrel
            rename World => wy
            have SY : Hid (Spn w wy sb b g p c s f) := hS
            have TY : Hid (Tabs wy) := HT.out.keep hS.low
            clear hS S10
            by_cases hgo : i < len1 ∧ i < 100
            · obtain ⟨g1, g2⟩ := hgo
              obtain ⟨hrg, h0 | ⟨ba, off, rfl, hba, hc⟩⟩ := HC.out
              · omega
              obtain ⟨k0, k1⟩ := hc i g1
              have r1 := hrg i g1
              obtain ⟨v0, hv0⟩ : ∃ v, kd i = v := ⟨_, rfl⟩
              obtain ⟨v1, hv1⟩ : ∃ v, xx i = v := ⟨_, rfl⟩
              rw [hv0] at k0
              rw [hv1] at k1 r1
              have d0 := (SY.out.low.cell (p := ⟨ba, off + i * 2, none⟩) hba).trans k0
              have d1 := (SY.out.low.cell (p := ⟨ba, off + i * 2 + 1, none⟩) hba).trans k1
              have g1' : (i : Int) < (len1 : Int) := by omega
              have g2' : (i : Int) < 100 := by omega
              clear hc hrg hv0 hv1 k0 k1 hba
              by_cases hk : v0 = 1
              · subst hk
                go_wp2_with (go_at_call 28; refine (take_any sb b g p c s f wy SY.out.at' TY.out.2).mono ?_; rintro e wx ⟨r, ok, f', rfl, _, s1, o1⟩; have SX : Hid (Spn w wx sb b g p c s f') := SY.out.next s1 o1; clear s1 o1)
                go_roundw
                case rel => exact ⟨i + 1, f', by omega, by omega, by go_num, SX.out⟩
                case measure => simp [intOf]; omega
              · have hq : (v0 == 1) = false := beq_eq_false_iff_ne.2 hk
                go_wp2_with (go_at_call 29; refine (give_any sb b g p c s f v1 wy SY.out.at').mono ?_; rintro e wx ⟨rfl, s1, o1⟩; have SX : Hid (Spn w wx sb b g p c s (turn (slN c) f v1 false)) := SY.out.next s1 o1; clear s1 o1)
                go_roundw
                case rel => exact ⟨i + 1, _, by omega, by omega, by go_num, SX.out⟩
                case measure => simp [intOf]; omega
            · have hst : ¬ (i : Int) < (len1 : Int) ∨ ((i : Int) < (len1 : Int) ∧ ¬ (i : Int) < 100) := by omega
              have NF : Hid (slN c ≤ 65536) := SY.out.at'.set.few
              obtain ⟨m, hmm⟩ : ∃ m, lsL f (slN c) = m := ⟨_, rfl⟩
              have HM : Hid (lsL f (slN c) = m) := hmm
              have MA : Hid (∀ y ∈ m, -9223372036854775808 ≤ y ∧ y ≤ 9223372036854775807) := by show ∀ y ∈ m, _; rw [← hmm]; exact ls_all f _ NF.out
              have ML : Hid (m.length ≤ maxLen) := by show m.length ≤ maxLen; rw [← hmm]; exact ls_short f _ NF.out
              have MO : Hid (okL (slN c) (-1) m = true) := by show _ = _; rw [← hmm]; exact ls_ok f _
              have MS : Hid (lsL (fOf m) (slN c) = m) := ls_of MO.out
              clear hgo hmm
              rcases hst with hst | ⟨hst, hst2⟩
              all_goals
                go_wp2_with fail
                refine (data_any sb b g p c s f wy SY.out.at' TY.out.2 m HM.out).mono ?_
                rintro e w11 ⟨a11, c11, rfl, o11, b11⟩
                have S11 : Hid (Spn w w11 sb b g p c s f) := SY.out.keep b11
                have T11 : Hid (Tabs w11) := TY.out.keep b11
                have I11 : Hid (IsI w11 a11 m) := ownsI_isI MA.out o11
                clear o11 b11
                go_wp2_with fail
                refine (of_ok p c s a11 c11 m w11 T11.out I11.out ML.out HX.out MO.out).mono ?_
                rintro e w12 ⟨sb2, b2, g2, rfl, s12⟩
                have Q12 : Hid (SpanAt w12 sb2 b2 g2 p c s (fOf m)) := s12.at'
                have S12 : Hid (Spn w w12 sb b g p c s f) := S11.out.keep s12.low
                have T12 : Hid (Tabs w12) := T11.out.keep s12.low
                clear s12
                go_wp2_with fail
                refine (data_any sb2 b2 g2 p c s (fOf m) w12 Q12.out T12.out.2 m MS.out).mono ?_
                rintro e w13 ⟨a13, c13, rfl, o13, b13⟩
                have O13 : Hid (OwnsI w13 w12.heap.size a13 m c13) := o13
                have S13 : Hid (Spn w w13 sb b g p c s f) := S12.out.keep b13
                have T13 : Hid (Tabs w13) := T12.out.keep b13
                clear o13 b13
                go_wp2_with fail
                refine (data_any sb b g p c s f w13 S13.out.at' T13.out.2 m HM.out).mono ?_
                rintro e w14 ⟨a14, c14, rfl, o14, b14⟩
                have O14 : Hid (OwnsI w14 w13.heap.size a14 m c14) := o14
                have K14 : Hid (Below w13.heap.size w13 w14) := b14
                have S14 : Hid (Spn w w14 sb b g p c s f) := S13.out.keep b14
                clear o14 b14
                go_wp2_with fail
                refine (same_own p c s a13 a14 c13 c14 _ _ m w13 w14 MA.out ML.out O13.out O14.out K14.out).mono ?_
                rintro e w15 ⟨rfl, b15⟩
                have B15 : Hid (Below w.heap.size w w15) := (S14.out.keep b15).low
                clear b15
                go_wp2
                go_ret
                exact ⟨rfl, B15.out⟩

theorem spanBack_any (p c s : Int) (l : List Int) (a : Option Addr) (k : Nat) (a1 : Option Addr) (cap1 len1 : Nat) (kd xx : Nat → Int) (w : World) (hT : Tabs w) (hp : -9223372036854775808 ≤ p ∧ p ≤ 9223372036854775807) (hI : IsI w a l) (hnil : a = none → l = [] ∧ k = 0) (hm : l.length ≤ maxLen) (hlen : l.length ≤ 17592186044416) (hC : IsC w a1 len1 kd xx) (hm1 : len1 ≤ maxLen) :
    Calls Tryd.prog 5 #[.agg #[.int .i64 p, .int .i64 c, .int .i64 s, .slice a l.length k], .slice a1 len1 cap1] w fun e w' => e = .returned (.bool true) ∧ Below w.heap.size w w' := by
  by_cases h0 : newE p c s = 0
  · cases hl : okL (slN c) (-1) l
    · exact back_fail p c s l a k a1 cap1 len1 w hT hp hI hnil hm hlen 4 (by decide) (.inr ⟨h0, hl, rfl⟩)
    · exact back_ok p c s l a k a1 cap1 len1 kd xx w hT hI hnil hm hlen h0 hl hC hm1
  · exact back_fail p c s l a k a1 cap1 len1 w hT hp hI hnil hm hlen _ h0 (.inl ⟨rfl, h0⟩)
end Go.Proofs.YtmahgdjbgkeecaaDoor
