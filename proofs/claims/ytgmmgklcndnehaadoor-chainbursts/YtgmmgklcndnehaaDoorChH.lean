/- Layer 19: the document's example: alive. -/
import Derived.Test.YtgmmgklcndnehaaDoorChG
import Derived.Test.YtgmmgklcndnehaaDoorErC
import Derived.Test.YtgmmgklcndnehaaDoorGzAC
namespace Go.Proofs.YtgmmgklcndnehaaDoor
open Go.RowKit Go.Maps
set_option linter.unusedVariables false
set_option maxRecDepth 4000

def exB : List Int := zs 56 ++ [7]
def exL : List Int := [5, 3]
theorem exB_len : exB.length = 57 := by simp [exB, zs_len]
theorem exB_all : AllB exB := (zs_allB 56).append (by intro x hx; simp at hx; omega)
theorem exL_ap : apC exL = true := by decide
theorem exL_cnt : exL.length = cntC exB.length := by rw [exB_len]; rfl
def exW : List (Int × List Int) := wrC exB exL
theorem exIn : ChIn (wrD (newD 8) (wrC exB exL) exL.length) exB exL := ChIn.wrote rfl rfl exL_cnt exL_ap (by intro s hs; simp [exL] at hs; show s ≤ ((8 : Nat) : Int) - 2; omega) exB_all
theorem ex_read : rdC (wrD (newD 8) exW 2) 5 57 = (exB, exL, 0, -1) := by
  have q := exIn.read (by rw [exB_len]; decide) (by rw [exB_len]; decide)
  rw [exB_len] at q
  exact q
theorem ex_set : (zs 57).set 56 7 = exB := by decide +kernel
theorem ex_lay : layEC exB.length exL = 0 := by unfold layEC; rw [exB_len, if_neg (by decide), if_pos ⟨by decide, by decide⟩]
theorem two_isI (w : World) (x y : Int) (hx : -9223372036854775808 ≤ x ∧ x ≤ 9223372036854775807) (hy : -9223372036854775808 ≤ y ∧ y ≤ 9223372036854775807) : IsI (w.alloc (.cells #[.int .i64 x, .int .i64 y] 3)) (some ⟨w.heap.size, 0, none⟩) [x, y] := by
  refine ⟨fun z hz => ?_, .inr ⟨w.heap.size, 0, rfl, by simp, fun i hi => ?_⟩⟩
  · rcases List.mem_cons.1 hz with rfl | hz
    · exact hx
    · rw [List.mem_singleton.1 hz]; exact hy
  · have hi : i < 2 := by simpa using hi
    obtain rfl | rfl : i = 0 ∨ i = 1 := by omega
    · simp
    · simp
theorem ex_none (d : Dk) : rdC d 0 1 = ([], [], 4, 0) := by
  have e : rdC d 0 1 = rdG d (cntC 1 + 1) [] [] 0 1 := if_pos (by decide)
  rw [e, rdG_bad (by decide) (by rw [secE_nought]; decide), secE_nought]

set_option maxRecDepth 20000 in
set_option maxHeartbeats 8000000 in
theorem alive19 (w : World) (hT : ErrT w) : Calls Tryd.prog 8 #[] w fun e w' => e = .returned (.bool true) ∧ Below w.heap.size w w' := by
  obtain ⟨N, hN⟩ : ∃ N, w.heap.size = N := ⟨_, rfl⟩
  have HN : Hid (w.heap.size = N) := hN
  have NEW : Hid (Calls Tryd.prog 29 #[.int .i64 8] w fun e w' => e = .returned (.tuple #[.pointer (some ⟨N + 2, 0, none⟩), .int .i64 0]) ∧ newW w 8 = w') := by
    have q := new_fit 8 w (by decide) (by decide)
    rw [hN] at q; exact q
  obtain ⟨w1, hw1⟩ : ∃ w1, newW w 8 = w1 := ⟨_, rfl⟩
  have D1 : Hid (IsD w1 N (N + 2) 0 (newD 8)) := by
    show IsD _ _ _ _ _
    have q := newW_is w N 8 (by omega) (by decide)
    rw [hN, hw1] at q; exact q
  have B1 : Hid (Below N w w1) := by
    have q := newW_below w 8
    rw [hN, hw1] at q; exact q
  have MK : (Instr.makeSlice 22 (.int .i64 57) (.int .i64 57)).run Tryd.prog w1 = .ok (.slice (some ⟨w1.heap.size, 0, none⟩) 57 57) (w1.alloc (.cells (madeCells #[.int .u8 0] 57) 5)) := make_row 57 (by decide) w1
  have zr := zs_row 57 w1
  rw [hw1] at NEW
  obtain ⟨g, hg⟩ : ∃ g, w1.heap.size = g := ⟨_, rfl⟩
  have HG : Hid (w1.heap.size = g) := hg
  rw [hg] at MK zr
  obtain ⟨w2, hw2⟩ : ∃ w2, w1.alloc (.cells (madeCells #[.int .u8 0] 57) 5) = w2 := ⟨_, rfl⟩
  have B2 : Hid (Below w1.heap.size w1 w2) := by show Below _ _ _; rw [← hw2]; exact (Below.refl _ w1).alloc (Nat.le_refl _) _
  rw [hw2] at MK zr
  have R2 : Hid (RowB w2 g 5 (zs 57)) := zr
  have c56 := zr.cell 56 (by rw [zs_len]; decide)
  have f56 := zr.thawed 56
  obtain ⟨v56, hv⟩ : ∃ v, (zs 57).getD 56 0 = v := ⟨_, rfl⟩
  rw [hv] at c56
  have CN : Hid (∀ w : World, Calls Tryd.prog 14 #[.int .i64 57] w fun e w' => e = .returned (.int .i64 2) ∧ w = w') := fun w => hcount_of 57 2 w (by decide) rfl
  have HT : Hid (ErrT w) := hT
  clear hT hw1 hw2 hg hv zr hN
  go_enter Tryd.func8, Tryd.ntmps8
  go_wp2_with (first
    | (go_at_call 29; refine Calls.mono NEW.out ?_; rintro e w' ⟨rfl, rfl⟩)
    | (go_at_call 14; refine (CN.out _).mono ?_; rintro e w' ⟨rfl, rfl⟩))
  obtain ⟨K2, hK2⟩ : ∃ K, w2.heap.size = K := ⟨_, rfl⟩
  have HK2 : Hid (w2.heap.size = K2) := hK2
  obtain ⟨w3, hw3⟩ : ∃ w3, (w2.setCell ⟨g, 56, none⟩ (.int .u8 7)).alloc (.cells #[.int .i64 5, .int .i64 3] 3) = w3 := ⟨_, rfl⟩
  have HW3 : Hid ((w2.setCell ⟨g, 56, none⟩ (.int .u8 7)).alloc (.cells #[.int .i64 5, .int .i64 3] 3) = w3) := hw3
  have sz : (w2.setCell ⟨g, 56, none⟩ (.int .u8 7)).heap.size = K2 := by rw [(Only.set g 56 (.int .u8 7) w2).size]; exact hK2
  have B3 : Hid (Below w1.heap.size w1 w3) := by
    show Below _ _ _
    rw [← hw3]
    exact (B2.out.trans ((Only.set g 56 (.int .u8 7) w2).below (by rw [HG.out]; exact Nat.le_refl _))).alloc (by rw [sz, ← hK2]; exact B2.out.size) _
  have R3 : Hid (RowB w3 g 5 exB) := by
    have q := R2.out.set 56 7
    rw [ex_set] at q
    show RowB _ _ _ _
    rw [← hw3]
    exact q.keep ((Below.refl _ _).alloc (Nat.le_refl _) _)
  have I3 : Hid (IsI w3 (some ⟨K2, 0, none⟩) exL) := by
    have q := two_isI (w2.setCell ⟨g, 56, none⟩ (.int .u8 7)) 5 3 (by decide) (by decide)
    rw [sz, hw3] at q
    exact q
  have LAY : Hid (Calls Tryd.prog 10 #[.slice (some ⟨g, 0, none⟩) 57 57, .slice (some ⟨K2, 0, none⟩) 2 2] w3 fun e w' => ∃ q, e = .returned (.tuple #[.slice (some ⟨q, 0, none⟩) 2 2, .nilIface]) ∧ WrB w' w3.heap.size q 2 0 exW ∧ Below w3.heap.size w3 w') := by
    have q := hlay_any (some ⟨g, 0, none⟩) (some ⟨K2, 0, none⟩) 57 2 exB exL w3 (R3.out.isB exB_all) (by rw [exB_len]; exact Nat.le_refl _) (by decide) I3.out (by decide)
    rw [exB_len] at q
    refine Calls.mono q ?_
    rintro e w' ⟨bb, ⟨q0, _⟩ | ⟨_, g', q1, q2⟩⟩
    · exact absurd ex_lay q0
    · exact ⟨g', q1, q2, bb⟩
  have D3 : Hid (IsD w3 N (N + 2) 0 (newD 8)) := D1.out.keep B3.out
  have NB3 : Hid (Below N w w3) := B1.out.trans (B3.out.mono (by rw [← HN.out]; exact B1.out.size))
  rw [hK2, hw3]
  clear sz hK2 hw3
  refine Calls.mono LAY.out ?_
  rintro e w4 ⟨q, rfl, hW, b4⟩
  have D4 : Hid (IsD w4 N (N + 2) 0 (newD 8)) := D3.out.keep b4
  have W4 : Hid (WrB w4 w3.heap.size q 2 0 exW) := hW
  have NB4 : Hid (Below N w w4) := NB3.out.trans (b4.mono (by rw [← HN.out]; exact NB3.out.size))
  clear hW b4
  go_wp2
  go_loopw [46] (fun iv wr => ∃ k : Nat, k ≤ 2 ∧ iv = .int .i64 (k : Nat) ∧ IsD wr N (N + 2) k (wrD (newD 8) exW k) ∧ WrB wr w3.heap.size q 2 0 exW ∧ Below N w wr) (fun iv _ => 2 - (intOf iv).toNat)
  case atStart => exact ⟨0, by decide, rfl, by rw [wrD_zero]; exact D4.out, W4.out, NB4.out⟩
  case round =>
    obtain ⟨k, hk, rfl, hD, hW, hB⟩ := hrel
    have HD : Hid (IsD wr N (N + 2) k (wrD (newD 8) exW k)) := hD
    have HW : Hid (WrB wr w3.heap.size q 2 0 exW) := hW
    have HB : Hid (Below N w wr) := hB
    clear hD hW hB
    by_cases hlt : k < 2
    · have hkw : k < exW.length := hlt
      obtain ⟨c0, p, hp, c1, rp⟩ := HW.out.at k hkw (Nat.zero_le _)
      obtain ⟨o1, o2, o3, o4⟩ := wrC_ok (b := exB) (l := exL) exB_all exL_ap hkw
      have o5 : exW[k].1 < ((newD 8).n : Int) := by
        have : ∀ s ∈ exL, s < ((newD 8).n : Int) := by decide
        exact this _ o2
      have BV : Hid (Below wr.heap.size wr (varW wr exW[k].1 p)) := varW_below _ _ _
      have NV : N ≤ (varW wr exW[k].1 p).heap.size := Nat.le_trans (by rw [← HN.out]; exact HB.out.size) BV.out.size
      have WRITE : Hid (Calls Tryd.prog 30 #[.pointer (some ⟨N + 2, 0, none⟩), .int .i64 exW[k].1, .slice (some ⟨p, 0, none⟩) 64 64] (varW wr exW[k].1 p) fun e w' => e = .returned (.int .i64 0) ∧ IsD w' N (N + 2) (k + 1) (wrD (newD 8) exW (k + 1)) ∧ Turn N KC (varW wr exW[k].1 p) w') :=
        wr_step N (N + 2) k k (newD 8) exW _ p (HD.out.keep BV.out) NV hkw rfl rfl (Int.le_trans (by decide : (0 : Int) ≤ 1) o1) o5 o3 (rp.keep BV.out) o4 (by omega) (by show 0 + k ≤ _; omega)
      have BW : Hid (∀ w', Turn N KC (varW wr exW[k].1 p) w' → WrB w' w3.heap.size q 2 0 exW ∧ Below N w w') := fun w' t => ⟨(HW.out.keep BV.out).turn t, (HB.out.trans (BV.out.mono (by rw [← HN.out]; exact HB.out.size))).trans (t.below NV)⟩
      obtain ⟨s, hs⟩ : ∃ s, exW[k].1 = s := ⟨_, rfl⟩
      rw [hs] at c0 WRITE BW
      clear rp hs o1 o2 o3 o4 o5 BV NV
      go_wp2_with (go_at_call 30; refine Calls.mono WRITE.out ?_; rintro e w5 ⟨rfl, d5, t5⟩; obtain ⟨W5, B5⟩ := BW.out _ t5; have D5 : Hid (IsD w5 N (N + 2) (k + 1) (wrD (newD 8) exW (k + 1))) := d5; have HW5 : Hid (WrB w5 w3.heap.size q 2 0 exW) := W5; have HB5 : Hid (Below N w w5) := B5; clear d5 t5 W5 B5)
      go_roundw
      case rel => exact ⟨k + 1, by omega, by go_num, D5.out, HW5.out, HB5.out⟩
      case measure => simp [intOf]; omega
    · obtain rfl : k = 2 := by omega
      have RD1 : Hid (Calls Tryd.prog 24 #[.pointer (some ⟨N + 2, 0, none⟩), .int .i64 5, .int .i64 57] wr fun e w' => ∃ ab cb as0 cs, e = .returned (.tuple #[.slice ab 57 cb, .slice as0 2 cs, .nilIface]) ∧ OwnsB w' wr.heap.size ab exB cb ∧ OwnsI w' wr.heap.size as0 exL cs ∧ Below wr.heap.size wr w') := by
        have q := hread_any N (N + 2) 2 (wrD (newD 8) exW 2) 5 57 wr HD.out (by decide)
        rw [ex_read] at q
        refine Calls.mono q ?_
        rintro e w' ⟨ab, cb, as0, cs, ev, rfl, q1, q2, q3, q4⟩
        rcases q3 with ⟨rfl, _, _⟩ | ⟨q3, _⟩
        · exact ⟨ab, cb, as0, cs, by rw [exB_len]; rfl, q1, q2, q4⟩
        · exact absurd q3 (by decide)
      have RD2 : Hid (∀ W, Below wr.heap.size wr W → Calls Tryd.prog 24 #[.pointer (some ⟨N + 2, 0, none⟩), .int .i64 0, .int .i64 1] W fun e w' => ∃ ab cb as0 cs ev, e = .returned (.tuple #[.slice ab 0 cb, .slice as0 0 cs, ev]) ∧ ErrIs w' ev 4 0 ∧ Below W.heap.size W w') := fun W bb => by
        have q := hread_any N (N + 2) 2 (wrD (newD 8) exW 2) 0 1 W (HD.out.keep bb) (by decide)
        rw [ex_none] at q
        refine Calls.mono q ?_
        rintro e w' ⟨ab, cb, as0, cs, ev, rfl, _, _, q3, q4⟩
        exact ⟨ab, cb, as0, cs, ev, rfl, q3, q4⟩
      go_wp2_with fail
      refine Calls.mono RD1.out ?_
      rintro e w5 ⟨ab, cb, as0, cs, rfl, ob, oi, b5⟩
      have OB5 : Hid (OwnsB w5 wr.heap.size ab exB cb) := ob
      have OI5 : Hid (OwnsI w5 wr.heap.size as0 exL cs) := oi
      have HB5 : Hid (Below wr.heap.size wr w5) := b5
      clear ob oi b5
      go_wp2_with fail
      refine Calls.mono (RD2.out _ HB5.out) ?_
      rintro e w6 ⟨a6, c6, s6, k6, ev, rfl, er, b6⟩
      have ER : Hid (ErrIs w6 ev 4 0) := er
      have B6 : Hid (Below w5.heap.size w5 w6) := b6
      have T6 : Hid (ErrT w6) := HT.out.keep (by rw [HN.out]; exact (HB.out.trans (HB5.out.mono (by rw [← HN.out]; exact HB.out.size))).trans (B6.out.mono (Nat.le_trans (by rw [← HN.out]; exact HB.out.size) HB5.out.size)))
      have IB6 : IsB w6 ab exB := (ownsB_isB exB_all (OB5.out.keep B6.out))
      clear er b6
      obtain ⟨_, hnil | ⟨bb, bo, rfl, hbs, hbc⟩⟩ := IB6
      · exact absurd hnil (by simp [exB])
      have c57 := hbc 56 (by rw [exB_len]; decide)
      have e57 : exB.getD 56 0 = 7 := by decide +kernel
      rw [e57] at c57
      have RNG : ∀ x ∈ exL, -9223372036854775808 ≤ x ∧ x ≤ 9223372036854775807 := by decide
      have I6 : Hid (IsI w6 as0 exL) := ownsI_isI RNG (OI5.out.keep B6.out)
      have BW6 : Hid (Below N w w6) := (HB.out.trans (HB5.out.mono (by rw [← HN.out]; exact HB.out.size))).trans (B6.out.mono (Nat.le_trans (by rw [← HN.out]; exact HB.out.size) HB5.out.size))
      have I7 : Hid (IsI (w6.alloc (.cells #[.int .i64 5, .int .i64 3] 3)) (some ⟨w6.heap.size, 0, none⟩) exL) := two_isI w6 5 3 (by decide) (by decide)
      have A6 : Hid (Below w6.heap.size w6 (w6.alloc (.cells #[.int .i64 5, .int .i64 3] 3))) := (Below.refl _ w6).alloc (Nat.le_refl _) _
      clear hbc RNG
      go_wp2_with (first
        | (go_at_call 17; refine (ints_same _ _ _ _ _ _ exL _ (I6.out.keep A6.out) I7.out rfl rfl (by decide)).mono ?_; rintro e w7 ⟨rfl, b7⟩; have B7 : Hid (Below w6.heap.size w6 w7) := A6.out.trans (b7.mono A6.out.size); clear b7)
        | (go_at_call 12; refine (code_any ev 4 0 _ (ER.out.keep B7.out)).mono ?_; rintro e w8 ⟨rfl, b8⟩; have B8 : Hid (Below w6.heap.size w6 w8) := B7.out.trans (b8.mono B7.out.size); clear b8)
        | (go_at_call 26; refine (sector_any ev 4 0 _ (ER.out.keep B8.out) (T6.out.keep B8.out)).mono ?_; rintro e w9 ⟨rfl, b9⟩; have B9 : Hid (Below w6.heap.size w6 w9) := B8.out.trans (b9.mono B8.out.size); clear b9))
      go_ret
      exact ⟨rfl, by rw [HN.out]; exact BW6.out.trans (B9.out.mono (by rw [← HN.out]; exact BW6.out.size))⟩
end Go.Proofs.YtgmmgklcndnehaaDoor
