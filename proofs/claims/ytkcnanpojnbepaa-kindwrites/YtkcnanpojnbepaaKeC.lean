/- The walk of KindWrites. -/
import Derived.Test.YtkcnanpojnbepaaKeA
import Derived.Test.YtkcnanpojnbepaaKdO
namespace Go.Proofs.Ytkcnanpojnbepaa
open Go.RowKit
set_option linter.unusedVariables false

theorem Tg.new {w w' : World} {B base : Nat} (h : Tg B w w') (hB : base ≤ B) (hs : base ≤ w.heap.size) : Below base w w' := h.below hB hs

set_option maxRecDepth 20000 in
set_option maxHeartbeats 4000000 in
theorem kindWrites_any (s : Int) (a : Option Addr) (c : Nat) (ps : List Int) (am : Option Addr) (cm : Nat) (more : List Int) (w : World) (hI : IsI w a ps) (hm : ps.length ≤ maxLen) (hB : IsB w am more) (hnil : am = none → more = [] ∧ cm = 0) (hmm : more.length ≤ maxLen) :
    Calls Try.prog 5 #[.agg #[.int .i64 s, .slice a ps.length c], .slice am more.length cm] w fun e w' => e = .returned (.bool true) ∧ Below w.heap.size w w' := by
  have HI : Hid (IsI w a ps) := hI
  have HB : Hid (IsB w am more) := hB
  have HN : Hid (am = none → more = [] ∧ cm = 0) := hnil
  have HM : Hid (ps.length ≤ maxLen) := hm
  have B0 : Hid (Below w.heap.size w (w.alloc (.cells #[.int .i64 s, .slice a ps.length c] 24))) := box_below w s a _ c
  obtain ⟨q0, q1⟩ := box_cells w s a ps.length c
  have Q0 : Hid _ := q0
  have Q1 : Hid _ := q1
  obtain ⟨r, hr⟩ : ∃ r, checkK s ps = r := ⟨_, rfl⟩
  have ER : Hid (checkK s ps = r) := hr
  unfold maxLen at hmm
  clear hI hB hnil q0 q1 hm
  by_cases hbig : 1000 < more.length
  · go_enter Try.func5, Try.ntmps5
    go_wp2_with (go_at_call 9; refine (alive_any _).mono ?_; rintro e w1 ⟨rfl, b1⟩)
    go_ret
    exact ⟨rfl, B0.out.trans (b1.mono B0.out.size)⟩
  · have hbig' : more.length ≤ 1000 := by omega
    go_enter Try.func5, Try.ntmps5
    go_wp2_with fail
    refine (alive_any _).mono ?_
    rintro e w1 ⟨rfl, b1⟩
    have c0 := bcellK b1 Q0.out
    have c1 := bcellK b1 Q1.out
    have B1 : Hid (Below w.heap.size w w1) := B0.out.trans (b1.mono B0.out.size)
    clear b1
    go_wp2_with fail
    refine (kbytes_any s a c ps _ (HI.out.keep B1.out) HM.out).mono ?_
    rintro e w2 ⟨a2, cc2, rfl, o2, b2⟩
    have O2 : Hid (OwnsB w2 w1.heap.size a2 (bytesK s ps) cc2) := o2
    have B2 : Hid (Below w.heap.size w w2) := B1.out.trans (b2.mono B1.out.size)
    have d0 := bcellK b2 c0
    have d1 := bcellK b2 c1
    clear o2 b2 c0 c1
    go_wp2_with fail
    refine (rkbytes_any s a c ps _ (HI.out.keep B2.out) HM.out).mono ?_
    rintro e w3 ⟨a3, cc3, rfl, o3, b3⟩
    have I2 : Hid (IsB w3 a2 (bytesK s ps)) := (ownsB_isB (bytes_byte s ps) O2.out).keep b3
    have I3 : Hid (IsB w3 a3 (bytesK s ps)) := ownsB_isB (bytes_byte s ps) o3
    have O3 : Hid (OwnsB w3 w1.heap.size a2 (bytesK s ps) cc2) := O2.out.keep b3
    have B3 : Hid (Below w.heap.size w w3) := B2.out.trans (b3.mono B2.out.size)
    have f0 := bcellK b3 d0
    have f1 := bcellK b3 d1
    clear o3 b3 d0 d1
    go_wp2_with fail
    refine (same_true a2 a3 _ _ cc2 cc3 (bytesK s ps) _ I2.out I3.out rfl rfl).mono ?_
    rintro e w3' ⟨rfl, rfl⟩
    go_wp2_with fail
    refine (rcheck_is s a c _ ps r _ rfl ER.out (HI.out.keep B3.out) HM.out).mono ?_
    rintro e w4 ⟨rfl, b4⟩
    have B4 : Hid (Below w.heap.size w w4) := B3.out.trans (b4.mono B3.out.size)
    have g0 := bcellK b4 f0
    have g1 := bcellK b4 f1
    have I4 : Hid (IsB w4 a2 (bytesK s ps)) := I2.out.keep b4
    have O4 : Hid (OwnsB w4 w1.heap.size a2 (bytesK s ps) cc2) := O3.out.keep b4
    clear b4 f0 f1
    by_cases h0 : r = 0
    · subst h0
      have RB : Hid (readK (bytesK s ps ++ more) = (s, ps, more, 0)) := read_back more ER.out
      have hlb : (bytesK s ps).length ≤ 200 := by
        have hR := check_zero.1 hr
        rw [bytesK, if_pos hr, bodyK, List.length_append, List.length_append]
        have v1 := varL_le s
        have v2 := varL_le (ps.length : Nat)
        have key : ∀ (l : List Int) (f : Int), (gapsL f l).length ≤ 10 * l.length := by
          intro l
          induction l with
          | nil => intro f; simp [gapsL]
          | cons p l ih =>
            intro f
            have := ih (p + 8)
            have := varL_le ((p - f) / 8)
            simp only [gapsL, List.length_append, List.length_cons]
            omega
        have := key ps 0
        have := hR.2.2.1
        omega
      obtain ⟨X, hX⟩ : ∃ X, bytesK s ps = X := ⟨_, rfl⟩
      have AX : Hid (AllB X) := by show AllB X; rw [← hX]; exact bytes_byte s ps
      rw [hX] at hlb I4 O4 RB ⊢
      clear hr hX I2 I3 O2 O3
      go_wp2_with fail
      refine (copy_any a2 cc2 _ X _ rfl I4.out (by omega)).mono ?_
      rintro e w5 ⟨g5, cc5, rfl, o5, b5⟩
      have O5 : Hid (OwnsB w5 w4.heap.size (some ⟨g5, 0, none⟩) X cc5) := o5
      have B5 : Hid (Below w.heap.size w w5) := B4.out.trans (b5.mono B4.out.size)
      have h0 := bcellK b5 g0
      have h1 := bcellK b5 g1
      have z4 := B4.out.size
      have z5 : w4.heap.size ≤ w5.heap.size := b5.size
      have hlt4 : w.heap.size < w4.heap.size := World.block_lt_of_cell? w4 _ g0
      clear o5 b5 g0 g1
      have M5 : Hid (IsB w5 am more) := HB.out.keep B5.out
      go_wp2_with (at_builtin; refine wpList_app rfl _ _ rfl w4.heap.size z5 (some ⟨g5, 0, none⟩) X cc5 rfl O5.out am more cm rfl M5.out HN.out (by omega) ?_; intro a6 cc6 w6 o6 b6; have O6 : Hid (OwnsB w6 w4.heap.size a6 (X ++ more) cc6) := o6; have K6 : Hid (Below w4.heap.size w5 w6) := b6; clear o6 b6)
      have B6 : Hid (Below w.heap.size w w6) := B5.out.trans (K6.out.mono z4)
      have l0 := (K6.out.cell (p := ⟨w.heap.size, 0, none⟩) hlt4).trans h0
      have l1 := (K6.out.cell (p := ⟨w.heap.size, 1, none⟩) hlt4).trans h1
      have hlX : (X ++ more).length ≤ 140737488355328 := by rw [List.length_append]; omega
      rw [← List.length_append]
      refine (open_any a6 cc6 (X ++ more) _ (ownsB_isB (AX.out.append HB.out.1) O6.out) hlX (fun h => ((ownsB_isL O6.out).2.2 h).1)).mono ?_
      rintro e w7 ⟨B, rfl, hB1, hB2, r7, b7⟩
      have R7 : Hid (RdAt w7 B (X ++ more) 0) := r7
      have B7 : Hid (Below w.heap.size w w7) := B6.out.trans (b7.mono B6.out.size)
      have m0 := bcellK b7 l0
      have m1 := bcellK b7 l1
      have z6 := B6.out.size
      have z7 : w6.heap.size ≤ w7.heap.size := b7.size
      have hlt6 : w.heap.size < w6.heap.size := World.block_lt_of_cell? w6 _ l0
      clear r7 b7 h0 h1 l0 l1 hlX
      go_wp2_with fail
      refine (read_any B (X ++ more) s ps more 0 _ R7.out RB.out).mono ?_
      rintro e w8 ⟨a8, cc8, l8, rfl, i8, n8, r8, e8, t8, _⟩
      obtain rfl := e8 rfl
      have K8 : Hid (Below w6.heap.size w7 w8) := t8.new hB1 z7
      have B8 : Hid (Below w.heap.size w w8) := B7.out.trans (K8.out.mono z6)
      have o0 := (K8.out.cell (p := ⟨w.heap.size, 0, none⟩) hlt6).trans m0
      have o1 := (K8.out.cell (p := ⟨w.heap.size, 1, none⟩) hlt6).trans m1
      obtain ⟨D, hD⟩ : ∃ D, w8.alloc (.cells #[.int .i64 s, .slice a8 ps.length cc8] 24) = D := ⟨_, rfl⟩
      obtain ⟨i0, i1, b9⟩ := newbox hD
      have p0 := bcellK b9 o0
      have p1 := bcellK b9 o1
      have I9 : Hid (IsI D a8 ps) := i8.keep b9
      have R9 : Hid (RdAt D B l8 0) := rd_keep r8 b9
      have B9 : Hid (Below w.heap.size w D) := B8.out.trans (b9.mono B8.out.size)
      have HD : Hid _ := hD
      have HL : Hid (leftV l8 0 = (l8.length : Nat)) := rfl
      have eL : ((l8.length : Int) == (l8.length : Int)) = true := beq_self_eq_true _
      clear i8 n8 r8 t8 e8 b9 m0 m1 o0 o1 hD
      go_wp2_with fail
      rw [HD.out]
      refine (err_any B l8 0 _ R9.out).mono ?_
      rintro e w9 ⟨rfl, rfl⟩
      go_wp2_with fail
      refine (left_any B l8 0 _ R9.out).mono ?_
      rw [HL.out]
      rintro e w9 ⟨rfl, rfl⟩
      go_wp2_with fail
      refine (ksame_true s a8 a _ _ cc8 c ps _ I9.out (HI.out.keep B9.out) rfl rfl HM.out).mono ?_
      rintro e w10 ⟨rfl, b10⟩
      go_wp2
      go_ret
      exact ⟨rfl, B9.out.trans (b10.mono B9.out.size)⟩
    · have hq : (r != 0) = true := by rw [bne_iff_ne]; exact h0
      have EB : Hid (bytesK s ps = []) := by show _ = _; rw [bytesK, if_neg (by rw [hr]; exact h0)]
      rw [EB.out]
      clear hr
      go_wp2
      go_ret
      exact ⟨rfl, B4.out⟩
end Go.Proofs.Ytkcnanpojnbepaa
