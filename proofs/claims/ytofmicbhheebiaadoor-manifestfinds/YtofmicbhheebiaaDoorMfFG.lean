/- Layer 21: the walk of ManifestFinds. -/
import Derived.Test.YtofmicbhheebiaaDoorGzAJ
import Derived.Test.YtofmicbhheebiaaDoorMfEC
import Derived.Test.YtofmicbhheebiaaDoorGzAI
namespace Go.Proofs.YtofmicbhheebiaaDoor
open Go.RowKit Go.Maps
set_option linter.unusedVariables false
set_option maxRecDepth 4000

theorem neqQ (m : Mn) : ∀ w : World, (binOp .neq 51 m.v m.v).run Tryd.prog w = .ok (.bool false) w := fun w => by
  have e := inM 51 w m m (by kernel_rfl) (by kernel_rfl) (by kernel_rfl)
  rw [eqM_iff.2 rfl] at e
  unfold Mn.v at e ⊢
  rw [run_neq_struct, e]
  rfl
theorem errRef (w : World) : ErrIs w refE 1 (-1) := .inr ⟨by decide, by decide, .inl ⟨rfl, rfl, rfl⟩⟩
theorem errNil (w : World) : ErrIs w .nilIface 0 (-1) := .inl ⟨rfl, rfl, rfl⟩
theorem errFlt {w : World} {b : Nat} (h : FltAt w b 0 14) : ErrIs w (fltE b) 14 0 := .inr ⟨by decide, by decide, .inr ⟨b, rfl, h⟩⟩

set_option maxRecDepth 20000 in
set_option maxHeartbeats 8000000 in
/-- ManifestFinds. -/
theorem manifestFinds_any (aa ab : Option Addr) (ca cb s : Nat) (la lb : List Int) (ar : Bool) (w : World) (hT : ErrT w) (hA : IsB w aa la) (hB : IsB w ab lb) (hs : s < 256) :
    Calls Tryd.prog 3 #[.agg #[.slice aa la.length ca, .slice ab lb.length cb, .int .u8 (s : Nat), .bool ar]] w fun e w' => e = .returned (.bool true) ∧ Below w.heap.size w w' := by
  obtain ⟨D, hD⟩ : ∃ D, w.alloc (.cells #[.slice aa la.length ca, .slice ab lb.length cb, .int .u8 (s : Nat), .bool ar] 24) = D := ⟨_, rfl⟩
  have rD : D.heap[w.heap.size]? = some (.cells #[.slice aa la.length ca, .slice ab lb.length cb, .int .u8 (s : Nat), .bool ar] 24 (0, 0)) := by rw [← hD]; exact Go.heap_alloc_new w _
  have BD : Hid (Below w.heap.size w D) := by show Below _ _ _; rw [← hD]; exact (Below.refl _ w).alloc (Nat.le_refl _) _
  have LD : w.heap.size < D.heap.size := (Array.getElem?_eq_some_iff.1 rD).1
  have HD : Hid _ := hD
  have C4 : Hid (∀ w' : World, Below D.heap.size D w' → w'.cell? ⟨w.heap.size, 0, none⟩ = some (.slice aa la.length ca) ∧ w'.cell? ⟨w.heap.size, 1, none⟩ = some (.slice ab lb.length cb) ∧ w'.cell? ⟨w.heap.size, 2, none⟩ = some (.int .u8 (s : Nat)) ∧ w'.cell? ⟨w.heap.size, 3, none⟩ = some (.bool ar)) := fun w' bb => by
    have q : w'.heap[w.heap.size]? = _ := (bb.block _ LD).trans rD
    exact ⟨cell_of_row _ _ 0 _ _ _ q, cell_of_row _ _ 1 _ _ _ q, cell_of_row _ _ 2 _ _ _ q, cell_of_row _ _ 3 _ _ _ q⟩
  have ET : Hid (∀ w' : World, Below D.heap.size D w' → ErrT w') := fun w' bb => (hT.keep BD.out).keep bb
  have IA : Hid (∀ w' : World, Below D.heap.size D w' → IsB w' aa la) := fun w' bb => (hA.keep BD.out).keep bb
  have IB : Hid (∀ w' : World, Below D.heap.size D w' → IsB w' ab lb) := fun w' bb => (hB.keep BD.out).keep bb
  have LA : Hid (la.length = la.length) := rfl
  obtain ⟨N, hN⟩ : ∃ N, 8 + s = N := ⟨_, rfl⟩
  have n8 : 8 ≤ N := by omega
  have nb : N ≤ 65536 := by omega
  have ws : IntKind.i64.wrap (s : Int) = (s : Int) := by rw [IntKind.wrap_i64]; omega
  have wN : IntKind.i64.wrap (8 + (s : Int)) = (N : Int) := by rw [IntKind.wrap_i64]; omega
  have wN1 : IntKind.i64.wrap ((N : Int) - 1) = (N : Int) - 1 := by rw [IntKind.wrap_i64]; omega
  obtain ⟨na, hna⟩ : ∃ n, la.length = n := ⟨_, rfl⟩
  obtain ⟨nbl, hnb⟩ : ∃ n, lb.length = n := ⟨_, rfl⟩
  have HNA : Hid (na = la.length) := hna.symm
  have HNB : Hid (nbl = lb.length) := hnb.symm
  rw [hna, hnb] at HD C4
  rw [hna, hnb]
  clear hD rD LD hT hA hB hN hna hnb hs
  go_enter Tryd.func3, Tryd.ntmps3
  go_upto_region 1 with (fail)
  rw [HD.out]
  go_wp2_with fail
  refine Calls.mono (alive21 _) ?_
  rintro e w1 ⟨rfl, b1⟩
  have B1 : Hid (Below D.heap.size D w1) := b1
  obtain ⟨c0, c1, c2, c3⟩ := C4.out w1 b1
  clear b1
  go_wp2_with fail
  refine (new_fit N w1 n8 nb).mono ?_
  rintro e w2 ⟨rfl, hw2⟩
  have D2 : Hid (IsD w2 w1.heap.size (w1.heap.size + 2) 0 (newD N)) := by show IsD _ _ _ _ _; rw [← hw2]; exact newW_is w1 _ N (Nat.le_refl _) nb
  have B2 : Hid (Below w1.heap.size w1 w2) := by show Below _ _ _; rw [← hw2]; exact newW_below w1 N
  obtain ⟨b, hb⟩ : ∃ b, w1.heap.size + 2 = b := ⟨_, rfl⟩
  rw [hb] at D2 ⊢
  clear hw2 hb c0 c1 c2 c3
  go_wp2_with fail
  refine (rnew_fit N w2 n8 nb).mono ?_
  rintro e w3 ⟨as0, cc0, gs, rfl, m3⟩
  have P3 : Hid (Pl w1 w3 b w2.heap.size 0 (fun _ => True) (newD N)) := ⟨D2.out.keep m3.below, m3.done nb B2.out.size (fun _ _ => trivial), Nat.le_refl _, Nat.le_refl _, B2.out.trans (m3.below.mono B2.out.size)⟩
  obtain ⟨br, hbr⟩ : ∃ br, w2.heap.size = br := ⟨_, rfl⟩
  rw [hbr] at P3 ⊢
  clear m3 hbr
  have QD : Hid (∀ w', Below w1.heap.size w1 w' → Below D.heap.size D w') := fun w' bb => B1.out.trans (bb.mono B1.out.size)
  obtain ⟨c0, c1, c2, c3⟩ := C4.out w3 (QD.out _ P3.out.low)
  -- the first slot
  go_wp2_with fail
  refine (P3.out.wrote (by omega) 0 aa na ca la HNA.out (fun w' bb => IA.out w' (QD.out w' bb))).mono ?_
  rintro e w4 ⟨⟨r4, rfl⟩, i4, t4, q4, b4⟩
  have W4 := P3.out.wrote2 (by omega) 0 aa na ca la HNA.out (fun w' bb => IA.out w' (QD.out w' bb)) i4 t4 q4 b4
  clear c0 c1 c2 c3
  obtain ⟨c0, c1, c2, c3⟩ := C4.out w4 (QD.out _ b4)
  have W4H : Hid _ := W4
  clear W4 i4 t4 q4 b4
  go_wp2_with fail
  refine Calls.mono W4H.out ?_
  rintro e w5 ⟨⟨r5, rfl⟩, p5⟩
  have K1 := wr_calm (d := newD N) rfl rfl 0 la
  obtain ⟨d1, hd1⟩ : ∃ d, writeD (newD N) 0 la = d := ⟨_, rfl⟩
  rw [hd1] at p5 K1
  have P5 : Hid (Pl w1 w5 b br 1 (fun _ => True) d1) := p5
  clear c0 c1 c2 c3 p5 hd1
  obtain ⟨c0, c1, c2, c3⟩ := C4.out w5 (QD.out _ P5.out.low)
  -- the second slot
  go_wp2_with fail
  refine (P5.out.wrote (by omega) ((N : Int) - 1) ab nbl cb lb HNB.out (fun w' bb => IB.out w' (QD.out w' bb))).mono ?_
  rintro e w6 ⟨⟨r6, rfl⟩, i6, t6, q6, b6⟩
  have W6 := P5.out.wrote2 (by omega) ((N : Int) - 1) ab nbl cb lb HNB.out (fun w' bb => IB.out w' (QD.out w' bb)) i6 t6 q6 b6
  clear c0 c1 c2 c3
  obtain ⟨c0, c1, c2, c3⟩ := C4.out w6 (QD.out _ b6)
  have W6H : Hid _ := W6
  clear W6 i6 t6 q6 b6
  go_wp2_with fail
  refine Calls.mono W6H.out ?_
  rintro e w7 ⟨⟨r7, rfl⟩, p7⟩
  have K2 := wr_calm (d := d1) K1.2.1 K1.2.2 ((N : Int) - 1) lb
  rw [K1.1] at K2
  obtain ⟨d2, hd2⟩ : ∃ d, writeD d1 ((N : Int) - 1) lb = d := ⟨_, rfl⟩
  rw [hd2] at p7 K2
  have P7 : Hid (Pl w1 w7 b br 2 (fun _ => True) d2) := p7
  have KN : Hid (d2.n = N) := K2.1
  have KD : Hid (d2.down = false) := K2.2.1
  clear c0 c1 c2 c3 p7 hd2 K1 K2
  obtain ⟨c0, c1, c2, c3⟩ := C4.out w7 (QD.out _ P7.out.low)
  have BW : Hid (Below w.heap.size w w1) := BD.out.trans (B1.out.mono BD.out.size)
  cases ar with
  | true =>
    go_wp2_with fail
    refine P7.out.armed.mono ?_
    rintro e w8 ⟨rfl, i8, t8, q8, b8⟩
    have A8 : Hid _ := P7.out.armed2 i8 t8 q8 b8
    clear i8 t8 q8 b8
    go_wp2_with fail
    refine Calls.mono A8.out ?_
    rintro e w9 ⟨rfl, p9⟩
    have P9 : Hid (Pl w1 w9 b br 3 (fun _ => True) (armD d2 1)) := p9
    clear p9
    go_wp2_with fail
    refine (P9.out.flushed (by omega)).mono ?_
    rintro e w10 ⟨⟨r10, rfl⟩, i10, t10, q10, b10⟩
    have F10 : Hid _ := P9.out.flushed2 (by omega) i10 t10 q10 b10
    clear i10 t10 q10 b10
    go_wp2_with fail
    refine Calls.mono F10.out ?_
    rintro e w11 ⟨⟨r11, rfl⟩, p11⟩
    have K3 := arm_falls KD.out
    obtain ⟨d3, hd3⟩ : ∃ d, flushD (armD d2 1) = d := ⟨_, rfl⟩
    rw [hd3] at p11 K3
    have P11 : Hid (Pl w1 w11 b br 4 (fun _ => True) d3) := p11
    have K3H : Hid (d3.n = N ∧ d3.down = true) := ⟨K3.1.trans KN.out, K3.2⟩
    clear p11 hd3 K3 c0 c1 c2 c3
    go_wp2_with fail
    refine (mfind_down w1.heap.size b 4 d3 w11 P11.out.isD K3H.out.2 (by rw [K3H.out.1]; exact n8) (by rw [K3H.out.1]; exact nb)).mono ?_
    rintro e w12 ⟨bb, rfl, f12, b12⟩
    have P12 : Hid (Pl w1 w12 b br 4 (fun _ => True) d3) := P11.out.keep b12
    have E12 : Hid (ErrIs w12 (fltE bb) 14 0) := errFlt f12
    clear f12 b12
    go_wp2_with fail
    refine (qfind_down w1.heap.size br (fun _ => True) d3 w12 P12.out.isR K3H.out.2 (by rw [K3H.out.1]; exact n8) (by rw [K3H.out.1]; exact nb)).mono ?_
    rintro e w13 ⟨rfl, b13⟩
    have E13 : Hid (ErrIs w13 (fltE bb) 14 0) := E12.out.keep b13
    have B13 : Hid (Below w1.heap.size w1 w13) := P12.out.low.trans (b13.mono P12.out.low.size)
    clear b13
    go_wp2_with fail
    refine (code_any (fltE bb) 14 0 w13 E13.out).mono ?_
    rintro e w14 ⟨rfl, b14⟩
    have E14 : Hid (ErrIs w14 (fltE bb) 14 0) := E13.out.keep b14
    have B14 : Hid (Below w1.heap.size w1 w14) := B13.out.trans (b14.mono B13.out.size)
    clear b14
    go_wp2_with fail
    refine (sector_any (fltE bb) 14 0 w14 E14.out (ET.out w14 (QD.out _ B14.out))).mono ?_
    rintro e w15 ⟨rfl, b15⟩
    have B15 : Hid (Below w1.heap.size w1 w15) := B14.out.trans (b15.mono B14.out.size)
    clear b15
    go_upto_region 22 with (fail)
    refine wp_loop_rounds 1 ?_
    rw [rounds_succ]
    go_wp2_with fail
    refine (mfind_nil _).mono ?_
    rintro e w16 ⟨rfl, rfl⟩
    go_wp2_with fail
    refine (code_any refE 1 (-1) _ (errRef _)).mono ?_
    rintro e w17 ⟨rfl, b17⟩
    have B17 : Hid (Below w1.heap.size w1 w17) := B15.out.trans (b17.mono B15.out.size)
    clear b17
    go_wp2
    go_ret
    exact ⟨rfl, BW.out.trans (B17.out.mono BW.out.size)⟩
  | false =>
    go_wp2_with fail
    clear c0 c1 c2 c3
    refine (mfind_open w1.heap.size b 2 d2 w7 P7.out.isD KD.out (by rw [KN.out]; exact n8) (by rw [KN.out]; exact nb)).mono ?_
    rintro e w8 ⟨a8, c8, rfl, o8, b8⟩
    have P8 : Hid (Pl w1 w8 b br 2 (fun _ => True) d2) := P7.out.keep b8
    have W8 : Hid (IsW w8 a8 (fndF d2)) := o8.isW
    clear o8 b8
    go_wp2_with fail
    refine (qfind_open w1.heap.size br (fun _ => True) d2 w8 P8.out.isR KD.out (by rw [KN.out]; exact n8) (by rw [KN.out]; exact nb) (by have := P8.out.pend; omega)).mono ?_
    rintro e w9 ⟨a9, c9, rfl, o9, b9⟩
    have W9 : Hid (IsW w9 a9 (fndF d2)) := o9.isW
    have X9 : Hid (IsW w9 a8 (fndF d2)) := W8.out.keep b9
    have B9 : Hid (Below w1.heap.size w1 w9) := P8.out.low.trans (b9.mono P8.out.low.size)
    clear o9 b9
    obtain ⟨L, hL⟩ : ∃ L, fndF d2 = L := ⟨_, rfl⟩
    have LL : L.length ≤ 2 := by rw [← hL]; show (sortF (accF d2 2)).length ≤ 2; rw [sortF_len]; exact accF_len d2 2
    rw [hL] at W9 X9 ⊢
    obtain ⟨M, hM⟩ : ∃ M, L.length = M := ⟨_, rfl⟩
    have HM : Hid (L.length = M) := hM
    rw [hM] at LL ⊢
    clear hL hM
    go_wp2_with fail
    refine (code_any .nilIface 0 (-1) w9 (errNil _)).mono ?_
    rintro e w10 ⟨rfl, b10⟩
    have B10 : Hid (Below w9.heap.size w9 w10) := b10
    clear b10
    go_wp2_with fail
    refine (sector_any .nilIface 0 (-1) w10 (errNil _) (ET.out w10 (QD.out _ (B9.out.trans (B10.out.mono B9.out.size))))).mono ?_
    rintro e w11 ⟨rfl, b11⟩
    have B11 : Hid (Below w9.heap.size w9 w11) := B10.out.trans (b11.mono B10.out.size)
    clear b11
    go_upto_region 22 with (fail)
    go_loopw [94] (fun iv wr => ∃ i : Nat, i ≤ M ∧ iv = .int .i64 (i : Nat) ∧ Below w9.heap.size w9 wr) (fun iv _ => M - (intOf iv).toNat)
    case atStart => exact ⟨0, by omega, rfl, B11.out⟩
    case round =>
      obtain ⟨i, hi, rfl, hb⟩ := hrel
      rename World => wr
      have B : Hid (Below w9.heap.size w9 wr) := hb
      clear hb
      by_cases hlt : i < M
      · have hl2 : i < L.length := by rw [HM.out]; exact hlt
        obtain ⟨g1, o1, e1, x0, x1, x2, x3⟩ := (X9.out.keep B.out).at i hl2
        obtain ⟨g2, o2, e2, z0, z1, z2, z3⟩ := (W9.out.keep B.out).at i hl2
        subst e1 e2
        obtain ⟨⟨ul, ⟨us, uf, uk⟩⟩, hu⟩ : ∃ u, rwD L i = u := ⟨_, rfl⟩
        rw [hu] at x0 x1 x2 x3 z0 z1 z2 z3
        simp only at x0 x1 x2 x3 z0 z1 z2 z3
        have NQ := neqQ ⟨us, uf, uk⟩
        unfold Mn.v at NQ
        have im : (i : Int) < (M : Int) := by omega
        clear hu hl2
        go_upto_region 24 with (fail)
        go_quiet (fail)
        go_wp2
        go_roundw
        case rel => exact ⟨i + 1, by omega, by go_num, ⟨B.out.os, B.out.tape, B.out.output, B.out.size, B.out.block⟩⟩
        case measure => simp [intOf]; omega
      · obtain rfl : i = M := by omega
        have im : ¬ (i : Int) < (i : Int) := by omega
        go_wp2_with fail
        refine (mfind_nil _).mono ?_
        rintro e w16 ⟨rfl, rfl⟩
        go_wp2_with fail
        refine (code_any refE 1 (-1) _ (errRef _)).mono ?_
        rintro e w17 ⟨rfl, b17⟩
        have B17 : Hid (Below w9.heap.size w9 w17) := B.out.trans (b17.mono B.out.size)
        clear b17
        go_wp2
        go_ret
        exact ⟨rfl, BW.out.trans ((B9.out.trans (B17.out.mono B9.out.size)).mono BW.out.size)⟩
end Go.Proofs.YtofmicbhheebiaaDoor
