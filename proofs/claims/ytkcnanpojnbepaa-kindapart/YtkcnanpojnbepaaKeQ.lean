/- The walk of KindApart. -/
import Derived.Test.YtkcnanpojnbepaaKeP
import Derived.Test.YtkcnanpojnbepaaKdO
namespace Go.Proofs.Ytkcnanpojnbepaa
open Go.RowKit
set_option linter.unusedVariables false

set_option maxRecDepth 20000 in
set_option maxHeartbeats 8000000 in
theorem kindApart_any (s : Int) (a : Option Addr) (c : Nat) (ps : List Int) (w : World) (hI : IsI w a ps) (hnil : a = none → ps = [] ∧ c = 0) (hm : ps.length ≤ maxLen) :
    Calls Try.prog 8 #[.agg #[.int .i64 s, .slice a ps.length c]] w fun e w' => e = .returned (.bool true) ∧ Below w.heap.size w w' := by
  have HI : Hid (IsI w a ps) := hI
  have HN : Hid (a = none → ps = [] ∧ c = 0) := hnil
  have HM : Hid (ps.length ≤ maxLen) := hm
  obtain ⟨D0, hD0⟩ : ∃ D0, w.alloc (.cells #[.int .i64 s, .slice a ps.length c] 24) = D0 := ⟨_, rfl⟩
  obtain ⟨q0, q1, b0⟩ := newbox hD0
  have X0 : Hid (D0.heap[w.heap.size]? = some (.cells #[.int .i64 s, .slice a ps.length c] 24 (0, 0))) := by show _ = _; rw [← hD0]; exact Go.heap_alloc_new w _
  have B0 : Hid (Below w.heap.size w D0) := b0
  have Q0 : Hid _ := q0
  have Q1 : Hid _ := q1
  obtain ⟨r, hr⟩ : ∃ r, checkK s ps = r := ⟨_, rfl⟩
  have ER : Hid (checkK s ps = r) := hr
  clear hI hnil q0 q1 hm b0
  by_cases h0 : r = 0
  · subst h0
    have hl16 := (check_zero.1 hr).2.2.1
    clear hr
    go_enter Try.func8, Try.ntmps8
    go_wp2_with fail
    refine (alive_any _).mono ?_
    rintro e w1 ⟨rfl, b1⟩
    have c0 := bcellK b1 Q0.out
    have c1 := bcellK b1 Q1.out
    have B1 : Hid (Below w.heap.size w w1) := B0.out.trans (b1.mono B0.out.size)
    have X1 : Hid (w1.heap[w.heap.size]? = some (.cells #[.int .i64 s, .slice a ps.length c] 24 (0, 0))) := by show _ = _; rw [b1.block _ (Array.getElem?_eq_some_iff.1 X0.out).1]; exact X0.out
    clear b1 hD0
    go_wp2_with fail
    refine (check_is s a c _ ps 0 _ rfl ER.out (HI.out.keep B1.out) HM.out).mono ?_
    rintro e w2 ⟨rfl, b2⟩
    have d0 := bcellK b2 c0
    have d1 := bcellK b2 c1
    have B2 : Hid (Below w.heap.size w w2) := B1.out.trans (b2.mono B1.out.size)
    have X2 : Hid (w2.heap[w.heap.size]? = some (.cells #[.int .i64 s, .slice a ps.length c] 24 (0, 0))) := by show _ = _; rw [b2.block _ (Array.getElem?_eq_some_iff.1 X1.out).1]; exact X1.out
    clear b2 c0 c1
    go_wp2_with fail
    refine (tnew_any _).mono ?_
    rintro e w3 ⟨t, rfl, t3, b3⟩
    have T3 : Hid (Tb w3 w2.heap.size w2.heap.size t none 0 []) := t3
    have f0 := bcellK b3 d0
    have f1 := bcellK b3 d1
    have B3 : Hid (Below w.heap.size w w3) := B2.out.trans (b3.mono B2.out.size)
    have X3 : Hid (w3.heap[w.heap.size]? = some (.cells #[.int .i64 s, .slice a ps.length c] 24 (0, 0))) := by show _ = _; rw [b3.block _ (Array.getElem?_eq_some_iff.1 X2.out).1]; exact X2.out
    have Y3 : Hid (w2.heap.size ≤ w3.heap.size) := b3.size
    clear t3 b3 d0 d1
    go_wp2_with fail
    refine (kcopy_any s a c _ ps _ rfl (HI.out.keep B3.out) HN.out (by omega)).mono ?_
    rintro e w4 ⟨a4, c4, rfl, o4, b4⟩
    have O4 : Hid (OwnsI w4 w3.heap.size a4 ps c4) := o4
    have T4 : Hid (Tb w4 w2.heap.size w2.heap.size t none 0 []) := T3.out.keep b4
    have B4 : Hid (Below w.heap.size w w4) := B3.out.trans (b4.mono B3.out.size)
    have X4 : Hid (w4.heap[w.heap.size]? = some (.cells #[.int .i64 s, .slice a ps.length c] 24 (0, 0))) := by show _ = _; rw [b4.block _ (Array.getElem?_eq_some_iff.1 X3.out).1]; exact X3.out
    have Y4 : Hid (w3.heap.size ≤ w4.heap.size) := b4.size
    obtain ⟨D5, hD5⟩ : ∃ D5, w4.alloc (.cells #[.int .i64 s, .slice a4 ps.length c4] 24) = D5 := ⟨_, rfl⟩
    obtain ⟨i0, i1, b5⟩ := newbox hD5
    have HD5 : Hid _ := hD5
    have T5 : Hid (Tb D5 w2.heap.size D5.heap.size t none 0 []) := (T4.out.keep b5).lb
    have B5 : Hid (Below w.heap.size w D5) := B4.out.trans (b5.mono B4.out.size)
    have I5 : Hid (IsI D5 a4 ps) := (ownsI_isI HI.out.1 O4.out).keep b5
    have N5 : Hid (a4 = none → ps = [] ∧ c4 = 0) := O4.out.parts.2.2.1
    have X5 : Hid (D5.heap[w.heap.size]? = some (.cells #[.int .i64 s, .slice a ps.length c] 24 (0, 0)) ∧ D5.heap[w4.heap.size]? = some (.cells #[.int .i64 s, .slice a4 ps.length c4] 24 (0, 0))) := by
      refine ⟨?_, ?_⟩
      · rw [b5.block _ (Array.getElem?_eq_some_iff.1 X4.out).1]; exact X4.out
      · rw [← hD5]; exact Go.heap_alloc_new w4 _
    have O5 : Hid (OwnsI D5 w3.heap.size a4 ps c4) := O4.out.keep b5
    have Y5 : Hid (w4.heap.size < D5.heap.size) := (Array.getElem?_eq_some_iff.1 X5.out.2).1
    clear o4 b4 hD5 b5 f0 f1 i0 i1
    go_wp2_with fail
    rw [HD5.out]
    refine (add_ok w2.heap.size D5.heap.size t none 0 [] s a4 c4 ps _ T5.out I5.out N5.out ER.out (by simp) (by have := Y3.out; have := Y4.out; have := Y5.out; omega) (Nat.le_refl _)).mono ?_
    rintro e w6 ⟨rfl, ar, cr, a6, c6, t6, o6, g6, _⟩
    have T6 : Hid (Tb w6 w2.heap.size D5.heap.size t ar cr [⟨s, a6, c6, ps⟩]) := t6
    have O6 : Hid (OwnsI w6 D5.heap.size a6 ps c6) := o6
    have hbt : t ≠ w.heap.size := by have := T5.out.ge; have := B2.out.size; have := (Array.getElem?_eq_some_iff.1 X2.out).1; omega
    have hbt' : t ≠ w4.heap.size := by have := T4.out.lt; omega
    have X6 : Hid (w6.heap[w.heap.size]? = some (.cells #[.int .i64 s, .slice a ps.length c] 24 (0, 0)) ∧ w6.heap[w4.heap.size]? = some (.cells #[.int .i64 s, .slice a4 ps.length c4] 24 (0, 0))) :=
      ⟨by rw [g6.block _ (Array.getElem?_eq_some_iff.1 X5.out.1).1 (Ne.symm hbt) (by simp [ob])]; exact X5.out.1, by rw [g6.block _ (Array.getElem?_eq_some_iff.1 X5.out.2).1 (Ne.symm hbt') (by simp [ob])]; exact X5.out.2⟩
    have P6 : Hid (OwnsI w6 w3.heap.size a4 ps c4) := by
      refine World.ownsRow.kept (w := D5) (row := some t) O5.out ⟨g6.os, g6.tape, g6.output, g6.size, fun i hi hn => g6.block i hi (fun e => hn (by rw [e])) (by simp [ob])⟩ ?_
      have := box_apart T5.out.box O5.out (by decide)
      right
      exact fun e => this e.symm
    have B6 : Hid (Below w.heap.size w w6) := B5.out.trans (g6.below (by have := T5.out.ge; have := B2.out.size; omega) (by simp [ob]) B5.out.size)
    have Y6 : Hid (D5.heap.size ≤ w6.heap.size) := g6.size
    clear t6 o6 g6 hbt hbt'
    go_wp2_with fail
    refine (tget_ok w2.heap.size D5.heap.size t ar cr [⟨s, a6, c6, ps⟩] 0 _ T6.out (by simp)).mono ?_
    rintro e w7 ⟨a7, c7, rfl, o7, b7⟩
    have O7 : Hid (OwnsI w7 w6.heap.size a7 ps c7) := o7
    obtain ⟨D8, hD8⟩ : ∃ D8, w7.alloc (.cells #[.int .i64 s, .slice a7 ps.length c7] 24) = D8 := ⟨_, rfl⟩
    obtain ⟨_, _, b8⟩ := newbox hD8
    have HD8 : Hid (w7.alloc (.cells #[.int .i64 s, .slice a7 ps.length c7] 24) = D8) := hD8
    have Z8 : Hid (D8.heap[w7.heap.size]? = some (.cells #[.int .i64 s, .slice a7 ps.length c7] 24 (0, 0))) := by show _ = _; rw [← hD8]; exact Go.heap_alloc_new w7 _
    have K8 : Hid (Below w6.heap.size w6 D8) := b7.trans (b8.mono b7.size)
    have O8 : Hid (OwnsI D8 w6.heap.size a7 ps c7) := O7.out.keep b8
    have Y7 : Hid (w6.heap.size ≤ w7.heap.size ∧ w7.heap.size < D8.heap.size) := ⟨b7.size, (Array.getElem?_eq_some_iff.1 Z8.out).1⟩
    clear o7 b7 hD8 b8
    go_wp2_with fail
    have HD8' := HD8.out
    rw [HD8']
    clear HD8'
    refine (tall_any w2.heap.size D5.heap.size t ar cr [⟨s, a6, c6, ps⟩] _ (T6.out.keep K8.out)).mono ?_
    rintro e w9 ⟨xs, rfl, s9⟩
    obtain ⟨x, rfl⟩ : ∃ x, xs = [x] := by
      have := s9.len
      match xs, this with
      | [x], _ => exact ⟨x, rfl⟩
    obtain ⟨sx, ax, cx, lx⟩ := x
    obtain ⟨hx1, hx2, hx3⟩ := s9.done 0 (by simp) (by simp) (by simp)
    simp only [List.getElem_cons_zero] at hx1 hx2 hx3
    subst hx1 hx2
    have b9 := s9.below
    have A0 : Hid (Ap w w9 w2.heap.size D5.heap.size t ar cr ⟨sx, a6, c6, lx⟩ sx lx.length w4.heap.size w7.heap.size D8.heap.size a a4 a7 ax c c4 c7 cx lx lx lx) := by
      have e1 := Y3.out
      have e2 := Y4.out
      have e3 := Y5.out
      have e4 := Y6.out
      have e5 := Y7.out
      have e6 := B2.out.size
      have l6 := (Array.getElem?_eq_some_iff.1 X6.out.1).1
      have l6' := (Array.getElem?_eq_some_iff.1 X6.out.2).1
      refine ⟨(T6.out.keep K8.out).keep b9, ?_, ?_, ?_, s9.row, ((P6.out.keep K8.out).keep b9).mono (by omega), (O8.out.keep b9).mono (by omega), hx3.mono (by omega), rfl, rfl, rfl, ob_apart P6.out O7.out (Nat.le_refl _), ob_apart P6.out hx3 (by omega), ob_apart O4.out O6.out (by omega), ob_apart O7.out hx3 (by omega), ob_apart' O6.out O7.out (Nat.le_refl _), ob_apart' O6.out hx3 (by omega), (B6.out.trans (K8.out.mono (by omega))).trans (b9.mono (by omega))⟩
      · rw [b9.block _ (by omega), K8.out.block _ l6]; exact X6.out.1
      · rw [b9.block _ (by omega), K8.out.block _ l6']; exact X6.out.2
      · rw [b9.block _ e5.2]; exact Z8.out
    obtain ⟨i0, i1, _, _⟩ := cells_box A0.out.ibox
    have hbase : Hid (w2.heap.size ≤ t) := T5.out.ge
    clear s9 b9 hx3
    clear X0 X1 X2 X3 X4 X5 X6 T3 T4 T5 T6 O4 O5 O6 O7 O8 P6 HD5 HD8 Z8 K8 I5 N5 B0 B1 B2 B3 B4 B5 B6 Y3 Y4 Y5 Y6 Y7 Q0 Q1
    obtain ⟨gi, hgi⟩ : ∃ gi, w4.heap.size = gi := ⟨_, rfl⟩
    obtain ⟨ga, hga⟩ : ∃ ga, w7.heap.size = ga := ⟨_, rfl⟩
    obtain ⟨gl, hgl⟩ : ∃ gl, D8.heap.size = gl := ⟨_, rfl⟩
    rw [hgi, hga, hgl] at A0
    rw [hgi] at i0 i1
    have hl16' : lx.length ≤ 16 := hl16
    go_wp2
    clear hgi hga hgl i0 i1
    go_loopw [44] (fun iv wr => ∃ (i : Nat) (m3 : List Int), i ≤ lx.length ∧ iv = .int .i64 i ∧ Ap w wr w2.heap.size D5.heap.size t ar cr ⟨sx, a6, c6, lx⟩ sx lx.length gi ga gl a a4 a7 ax c c4 c7 cx m3 lx lx) (fun iv _ => lx.length - (intOf iv).toNat)
    case atStart => exact ⟨0, lx, Nat.zero_le _, rfl, A0.out⟩
    case round =>
      obtain ⟨i, m3, hi, rfl, hA⟩ := hrel
      have HA : Hid (Ap w wr w2.heap.size D5.heap.size t ar cr ⟨sx, a6, c6, lx⟩ sx lx.length gi ga gl a a4 a7 ax c c4 c7 cx m3 lx lx) := hA
      by_cases hlt : i < lx.length
      · obtain ⟨i0, i1, _, _⟩ := cells_box hA.ibox
        obtain ⟨g, rfl, hc, hz⟩ := hA.o3.num i (by rw [hA.l3]; exact hlt)
        have NX : Hid _ := hA.turn3 (i := i) (by rw [hA.l3]; exact hlt) (-1)
        have hii : (i : Int) < (lx.length : Int) := by omega
        clear hA
        go_wp2
        go_roundw
        case rel => exact ⟨i + 1, _, by omega, by go_num, NX.out⟩
        case measure => simp [intOf]; omega
      · obtain rfl : lx.length = i := by omega
        obtain ⟨i0, i1, _, _⟩ := cells_box hA.abox
        clear hA
        go_wp2
        go_loopw [55] (fun iv wr => ∃ (i : Nat) (m5 : List Int), i ≤ lx.length ∧ iv = .int .i64 i ∧ Ap w wr w2.heap.size D5.heap.size t ar cr ⟨sx, a6, c6, lx⟩ sx lx.length gi ga gl a a4 a7 ax c c4 c7 cx m3 m5 lx) (fun iv _ => lx.length - (intOf iv).toNat)
        case atStart => exact ⟨0, lx, Nat.zero_le _, rfl, HA.out⟩
        case round =>
          obtain ⟨i, m5, hi, rfl, hA⟩ := hrel
          have HA5 : Hid (Ap w wr w2.heap.size D5.heap.size t ar cr ⟨sx, a6, c6, lx⟩ sx lx.length gi ga gl a a4 a7 ax c c4 c7 cx m3 m5 lx) := hA
          clear i0 i1 HA
          by_cases hlt : i < lx.length
          · obtain ⟨i0, i1, _, _⟩ := cells_box hA.abox
            obtain ⟨g, rfl, hc, hz⟩ := hA.o5.num i (by rw [hA.l5]; exact hlt)
            have NX : Hid _ := hA.turn5 (i := i) (by rw [hA.l5]; exact hlt) (-2)
            have hii : (i : Int) < (lx.length : Int) := by omega
            clear hA
            go_wp2
            go_roundw
            case rel => exact ⟨i + 1, _, by omega, by go_num, NX.out⟩
            case measure => simp [intOf]; omega
          · obtain rfl : lx.length = i := by omega
            obtain ⟨i0, i1, _, _⟩ := cells_box hA.row
            clear hA
            go_wp2
            go_loopw [68] (fun iv wr => ∃ (i : Nat) (mx : List Int), i ≤ lx.length ∧ iv = .int .i64 i ∧ Ap w wr w2.heap.size D5.heap.size t ar cr ⟨sx, a6, c6, lx⟩ sx lx.length gi ga gl a a4 a7 ax c c4 c7 cx m3 m5 mx) (fun iv _ => lx.length - (intOf iv).toNat)
            case atStart => exact ⟨0, lx, Nat.zero_le _, rfl, HA5.out⟩
            case round =>
              obtain ⟨i, mx, hi, rfl, hA⟩ := hrel
              have HAx : Hid (Ap w wr w2.heap.size D5.heap.size t ar cr ⟨sx, a6, c6, lx⟩ sx lx.length gi ga gl a a4 a7 ax c c4 c7 cx m3 m5 mx) := hA
              clear i0 i1 HA5
              by_cases hlt : i < lx.length
              · obtain ⟨i0, i1, _, _⟩ := cells_box hA.row
                obtain ⟨g, rfl, hc, hz⟩ := hA.ox.num i (by rw [hA.lx]; exact hlt)
                have NX : Hid _ := hA.turnx (i := i) (by rw [hA.lx]; exact hlt) (-3)
                have hii : (i : Int) < (lx.length : Int) := by omega
                clear hA
                go_wp2
                go_roundw
                case rel => exact ⟨i + 1, _, by omega, by go_num, NX.out⟩
                case measure => simp [intOf]; omega
              · obtain rfl : lx.length = i := by omega
                obtain ⟨k0, k1, _, _⟩ := cells_box hA.kbox
                have bA := hA.below
                clear hA
                go_wp2_with fail
                refine (tget_ok w2.heap.size D5.heap.size t ar cr [⟨sx, a6, c6, lx⟩] 0 _ HAx.out.tb (by simp)).mono ?_
                rintro e w10 ⟨a10, c10, rfl, o10, b10⟩
                have O10 : Hid (OwnsI w10 wr.heap.size a10 lx c10) := o10
                have p0 := bcellK b10 k0
                have p1 := bcellK b10 k1
                obtain ⟨D11, hD11⟩ : ∃ D11, w10.alloc (.cells #[.int .i64 sx, .slice a10 lx.length c10] 24) = D11 := ⟨_, rfl⟩
                obtain ⟨j0, j1, b11⟩ := newbox hD11
                have HD11 : Hid (w10.alloc (.cells #[.int .i64 sx, .slice a10 lx.length c10] 24) = D11) := hD11
                have B11 : Hid (Below w.heap.size w D11) := (bA.trans (b10.mono bA.size)).trans (b11.mono (Nat.le_trans bA.size b10.size))
                have I11 : Hid (IsI D11 a10 lx) := (ownsI_isI HI.out.1 o10).keep b11
                have p0' : (w10.alloc (.cells #[.int .i64 sx, .slice a10 lx.length c10] 24)).cell? ⟨w.heap.size, 0, none⟩ = some (.int .i64 sx) := Lib.cell?_alloc_some _ p0
                have p1' : (w10.alloc (.cells #[.int .i64 sx, .slice a10 lx.length c10] 24)).cell? ⟨w.heap.size, 1, none⟩ = some (.slice a lx.length c) := Lib.cell?_alloc_some _ p1
                clear o10 b10 b11 k0 k1 hD11 bA
                go_wp2_with fail
                rw [HD11.out]
                refine (ksame_true sx a10 a _ _ c10 c lx _ I11.out (HI.out.keep B11.out) rfl rfl HM.out).mono ?_
                rintro e w12 ⟨rfl, b12⟩
                go_wp2
                go_ret
                exact ⟨rfl, B11.out.trans (b12.mono B11.out.size)⟩
  · have hq : (r != 0) = true := by rw [bne_iff_ne]; exact h0
    clear hr
    go_enter Try.func8, Try.ntmps8
    go_wp2_with fail
    refine (alive_any _).mono ?_
    rintro e w1 ⟨rfl, b1⟩
    have c0 := bcellK b1 Q0.out
    have c1 := bcellK b1 Q1.out
    have B1 : Hid (Below w.heap.size w w1) := B0.out.trans (b1.mono B0.out.size)
    clear b1
    go_wp2_with (go_at_call 11; refine (check_is s a c _ ps r _ rfl ER.out (HI.out.keep B1.out) HM.out).mono ?_; rintro e w2 ⟨rfl, b2⟩)
    go_ret
    exact ⟨rfl, B1.out.trans (b2.mono B1.out.size)⟩
end Go.Proofs.Ytkcnanpojnbepaa
