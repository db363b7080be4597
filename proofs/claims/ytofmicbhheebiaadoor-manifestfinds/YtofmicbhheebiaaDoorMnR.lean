/- Layer 21: the document's bytes of a manifest. -/
import Derived.Test.YtofmicbhheebiaaDoorMnQ
namespace Go.Proofs.YtofmicbhheebiaaDoor
open Go.RowKit
set_option linter.unusedVariables false
set_option maxRecDepth 4000

theorem rputw_any (n : Int) (h0 : 0 ≤ n) (h1 : n ≤ 18446744073709551615) (w : World) :
    Calls Tryd.prog 67 #[.int .u64 n, .int .i64 4] w fun e w' => ∃ (ad : Addr) (c : Nat), e = .returned (.slice (some ad) (putL 4 n).length c) ∧ IsB w' (some ad) (putL 4 n) ∧ Below w.heap.size w w' := by
  refine (rput4_any n h0 h1 w).mono ?_
  rintro e w' ⟨ad, c, rfl, i, b⟩
  exact ⟨ad, c, by rw [putL_len], i, b⟩
theorem qbytes_bad (m : Mn) (w : World) (hm : okM m = false) :
    Calls Tryd.prog 50 #[m.v] w fun e w' => e = .returned (.tuple #[.slice none 0 0, .int .i64 4]) ∧ Below w.heap.size w w' := by
  have QM : Hid (∀ w : World, Calls Tryd.prog 66 #[m.v] w fun e w' => e = .returned (.bool false) ∧ Below w.heap.size w w') := fun w => by rw [← hm]; exact qmay_any m w
  obtain ⟨s, f, n⟩ := m
  obtain ⟨D, hD, rD, bD⟩ := box21 51 w s f n
  have HD : Hid _ := hD
  have BD : Hid (Below w.heap.size w D) := bD
  obtain ⟨y0, y1, y2⟩ := three21 rD
  unfold Mn.v at QM
  clear hD rD bD hm
  unfold Mn.v
  go_enter Tryd.func50, Tryd.ntmps50
  go_upto_region 1 with (fail)
  rw [HD.out]
  go_wp2_with (go_at_call 66; refine Calls.mono (QM.out _) ?_; rintro e w2 ⟨rfl, b2⟩; have B2 : Hid (Below w.heap.size w w2) := BD.out.trans (b2.mono BD.out.size); clear b2)
  go_ret2
  exact ⟨rfl, B2.out⟩

set_option maxRecDepth 20000 in
set_option maxHeartbeats 4000000 in
theorem qbytes_ok (m : Mn) (w : World) (hm : okM m = true) :
    Calls Tryd.prog 50 #[m.v] w fun e w' => ∃ a c, e = .returned (.tuple #[.slice a (manM m).length c, .int .i64 0]) ∧ OwnsB w' w.heap.size a (manM m) c ∧ Below w.heap.size w w' := by
  have QM : Hid (∀ w : World, Calls Tryd.prog 66 #[m.v] w fun e w' => e = .returned (.bool true) ∧ Below w.heap.size w w') := fun w => by rw [← hm]; exact qmay_any m w
  obtain ⟨m1, m2, m3, m4, m5, m6⟩ := okM_iff.1 hm
  obtain ⟨HX, hHX⟩ : ∃ HX, hdM m = HX := ⟨_, rfl⟩
  obtain ⟨sm0, sm1⟩ := sumI_bd (hdM_allB m)
  have AH : Hid (AllB HX) := by show AllB _; rw [← hHX]; exact hdM_allB m
  have LH : Hid (HX.length = 56) := by show _ = _; rw [← hHX]; exact hdM_len m
  have E0 : Hid (catM [m.s, m.f, m.n] ++ List.replicate 44 0 = HX) := by show _ = _; rw [← hHX]; exact catM_head m
  have E1 : Hid ((HX ++ putL 4 (sumI HX)) ++ putL 4 m.s = manM m) := by show _ = _; rw [← hHX, List.append_assoc]; rfl
  rw [hHX] at sm0 sm1
  obtain ⟨S, hS⟩ : ∃ S, sumI HX = S := ⟨_, rfl⟩
  rw [hS] at sm0 sm1 E1
  have HS : Hid (sumI HX = S) := hS
  obtain ⟨Z, hZ⟩ : ∃ Z, manM m = Z := ⟨_, rfl⟩
  rw [hZ] at E1 ⊢
  obtain ⟨s, f, n⟩ := m
  simp only at m1 m2 m3 m4 m5 m6 E0 E1
  obtain ⟨D, hD, rD, bD⟩ := box21 51 w s f n
  have HD : Hid _ := hD
  have BD : Hid (Below w.heap.size w D) := bD
  have RD : Hid (D.heap[w.heap.size]? = some (.cells #[.int .i64 s, .int .i64 f, .int .i64 n] 51 (0, 0))) := rD
  have LD : Hid (w.heap.size < D.heap.size) := (Array.getElem?_eq_some_iff.1 rD).1
  obtain ⟨y0, y1, y2⟩ := three21 rD
  unfold Mn.v at QM
  have wS : IntKind.u64.wrap S = S := by rw [IntKind.wrap_u64]; omega
  have ws : IntKind.u64.wrap s = s := by rw [IntKind.wrap_u64]; omega
  have XB : Hid (∀ j, j < 3 → 0 ≤ [s, f, n].getD j 0 ∧ [s, f, n].getD j 0 ≤ 4294967295) := fun j hj => by
    rcases j with _ | _ | _ | j
    · show 0 ≤ s ∧ s ≤ _; omega
    · show 0 ≤ f ∧ f ≤ _; omega
    · show 0 ≤ n ∧ n ≤ _; omega
    · omega
  clear hD rD bD hm hHX hS hZ
  unfold Mn.v
  go_enter Tryd.func50, Tryd.ntmps50
  go_upto_region 1 with (fail)
  rw [HD.out]
  go_wp2_with fail
  refine Calls.mono (QM.out _) ?_
  rintro e w1 ⟨rfl, b1⟩
  have B1 : Hid (Below D.heap.size D w1) := b1
  have R1 : Hid (w1.heap[w.heap.size]? = some (.cells #[.int .i64 s, .int .i64 f, .int .i64 n] 51 (0, 0))) := by show _ = _; rw [b1.block _ LD.out]; exact RD.out
  clear y0 y1 y2
  obtain ⟨y0, y1, y2⟩ := three21 R1.out
  obtain ⟨W2, hW2⟩ : ∃ W2, w1.alloc (.cells #[.int .i64 s, .int .i64 f, .int .i64 n] 3) = W2 := ⟨_, rfl⟩
  have EW2 : Hid (w1.alloc (.cells #[.int .i64 s, .int .i64 f, .int .i64 n] 3) = W2) := hW2
  have b2 : Below w1.heap.size w1 W2 := by rw [← hW2]; exact (Below.refl _ _).alloc (Nat.le_refl _) _
  have r2 : W2.heap[w1.heap.size]? = some (.cells #[.int .i64 s, .int .i64 f, .int .i64 n] 3 (0, 0)) := by rw [← hW2]; exact Go.heap_alloc_new w1 _
  have z2 : w1.heap.size < W2.heap.size := (Array.getElem?_eq_some_iff.1 r2).1
  have R2 : Hid (W2.heap[w.heap.size]? = some (.cells #[.int .i64 s, .int .i64 f, .int .i64 n] 51 (0, 0))) := by
    show _ = _
    rw [b2.block _ (Nat.lt_of_lt_of_le LD.out b1.size)]
    exact R1.out
  have I2 : Hid (∀ j, j < 3 → W2.cell? ⟨w1.heap.size, j, none⟩ = some (.int .i64 ([s, f, n].getD j 0))) := fun j hj => by
    rcases j with _ | _ | _ | j
    · exact cell_of_row _ _ 0 _ _ _ r2
    · exact cell_of_row _ _ 1 _ _ _ r2
    · exact cell_of_row _ _ 2 _ _ _ r2
    · omega
  have BW2 : Hid (Below w.heap.size w W2) := BD.out.trans ((b1.trans (b2.mono b1.size)).mono BD.out.size)
  have L2 : Hid (w.heap.size < W2.heap.size) := Nat.lt_of_lt_of_le LD.out (Nat.le_trans b1.size b2.size)
  obtain ⟨G2, hG2⟩ : ∃ G2, w1.heap.size = G2 := ⟨_, rfl⟩
  rw [hG2] at I2 z2
  have Z2 : Hid (G2 < W2.heap.size) := z2
  clear b1 b2 r2 hW2 z2
  go_upto_region 5 with (fail)
  rw [EW2.out]
  try rw [hG2]
  clear hG2 y0 y1 y2
  go_loopw [4, 18] (fun ov iv wr => ∃ (j : Nat) (a' : Option Addr) (c' : Nat), j ≤ 3 ∧ iv = .int .i64 (j : Nat) ∧ ov = .slice a' (catM ([s, f, n].take j)).length c' ∧ OwnsB wr W2.heap.size a' (catM ([s, f, n].take j)) c' ∧ Below W2.heap.size W2 wr) (fun _ iv _ => 3 - (intOf iv).toNat)
  case atStart => exact ⟨0, none, 0, by omega, rfl, rfl, World.ownsRow_nil _ _ _ _, Below.refl _ _⟩
  case round =>
    obtain ⟨j, a3, k3, hj, rfl, rfl, o3, b3⟩ := hrel
    rename World => wr
    have O3 : Hid (OwnsB wr W2.heap.size a3 (catM ([s, f, n].take j)) k3) := o3
    have B3 : Hid (Below W2.heap.size W2 wr) := b3
    have hl : (catM ([s, f, n].take j)).length ≤ 12 := by rw [catM_len, List.length_take]; simp only [List.length_cons, List.length_nil]; omega
    clear o3 b3
    by_cases hlt : j < 3
    · have hcell := (B3.out.cell (p := ⟨G2, j, none⟩) Z2.out).trans (I2.out j hlt)
      have E := catM_take (l := [s, f, n]) (m := j) hlt
      obtain ⟨x0, x1⟩ := XB.out j hlt
      obtain ⟨x, hx⟩ : ∃ x, [s, f, n].getD j 0 = x := ⟨_, rfl⟩
      rw [hx] at hcell E x0 x1
      have EH : Hid (catM ([s, f, n].take (j + 1)) = catM ([s, f, n].take j) ++ putL 4 x) := E
      have ux : IntKind.u64.wrap x = x := by rw [IntKind.wrap_u64]; omega
      have vx : (putL 4 x).length = 4 := putL_len 4 x
      have jn : (j : Int) < 3 := by omega
      clear hx E
      go_wp2_with fail
      refine (rputw_any x x0 (by omega) _).mono ?_
      rintro e w4 ⟨a4, k4, rfl, i4, b4⟩
      have I4 : Hid (IsB w4 (some a4) (putL 4 x)) := i4
      have O4 : Hid (OwnsB w4 W2.heap.size a3 (catM ([s, f, n].take j)) k3) := O3.out.keep b4
      have B4 : Hid (Below W2.heap.size W2 w4) := B3.out.trans (b4.mono B3.out.size)
      have z5 : W2.heap.size ≤ w4.heap.size := B4.out.size
      clear i4 b4
      go_wp2_with (at_builtin; refine wpList_app rfl _ _ rfl W2.heap.size z5 a3 (catM ([s, f, n].take j)) k3 rfl O4.out (some a4) (putL 4 x) k4 rfl I4.out (fun e => by cases e) (by omega) ?_; rw [← EH.out]; intro a5 k5 w5 o5 b5; have O5 : Hid (OwnsB w5 W2.heap.size a5 (catM ([s, f, n].take (j + 1))) k5) := o5; have B5 : Hid (Below W2.heap.size W2 w5) := B4.out.trans b5; clear o5 b5)
      go_roundw
      case rel => exact ⟨j + 1, a5, k5, by omega, by go_num, rfl, O5.out, B5.out⟩
      case measure => simp [intOf]; omega
    · obtain rfl : j = 3 := by omega
      have l3 : (catM [s, f, n]).length = 12 := by rw [catM_len]; rfl
      have e3 : [s, f, n].take 3 = [s, f, n] := rfl
      rw [e3] at O3 hl ⊢
      obtain ⟨C3, hC3⟩ : ∃ C3, catM [s, f, n] = C3 := ⟨_, rfl⟩
      rw [hC3] at O3 hl E0 l3 ⊢
      have z3 : W2.heap.size ≤ wr.heap.size := B3.out.size
      obtain ⟨u0, u1⟩ : 0 ≤ s ∧ s ≤ 4294967295 := by omega
      have R3 : Hid (wr.heap[w.heap.size]? = some (.cells #[.int .i64 s, .int .i64 f, .int .i64 n] 51 (0, 0))) := by show _ = _; rw [B3.out.block _ L2.out]; exact R2.out
      clear hC3 e3
      go_wp2_with (at_builtin; refine wpList_appZ rfl _ _ rfl W2.heap.size z3 a3 C3 k3 44 rfl rfl O3.out (by decide) (by omega) ?_; rw [E0.out]; intro a5 k5 w5 o5 b5; have O5 : Hid (OwnsB w5 W2.heap.size a5 HX k5) := o5; have B5 : Hid (Below W2.heap.size W2 w5) := B3.out.trans b5; clear o5 b5)
      refine (rsum_of a5 k5 _ HX _ rfl (ownsB_isB AH.out O5.out) (by rw [LH.out]; decide)).mono ?_
      rw [HS.out]
      rintro e w6 ⟨rfl, rfl⟩
      go_wp2_with fail
      refine (rputw_any S sm0 (by omega) _).mono ?_
      rintro e w7 ⟨a7, k7, rfl, i7, b7⟩
      have I7 : Hid (IsB w7 (some a7) (putL 4 S)) := i7
      have O7 : Hid (OwnsB w7 W2.heap.size a5 HX k5) := O5.out.keep b7
      have B7 : Hid (Below W2.heap.size W2 w7) := B5.out.trans (b7.mono B5.out.size)
      have z7 : W2.heap.size ≤ w7.heap.size := B7.out.size
      have l7 : HX.length + (putL 4 S).length ≤ 140737488355328 := by rw [LH.out, putL_len]; decide
      obtain ⟨Y8, hY8⟩ : ∃ Y8, HX ++ putL 4 S = Y8 := ⟨_, rfl⟩
      have HY8 : Hid (HX ++ putL 4 S = Y8) := hY8
      rw [hY8] at E1
      clear i7 b7 hY8
      go_wp2_with (at_builtin; refine wpList_app rfl _ _ rfl W2.heap.size z7 a5 HX k5 rfl O7.out (some a7) (putL 4 S) k7 rfl I7.out (fun e => by cases e) l7 ?_; rw [HY8.out]; intro a8 k8 w8 o8 b8; have O8 : Hid (OwnsB w8 W2.heap.size a8 Y8 k8) := o8; have B8 : Hid (Below W2.heap.size W2 w8) := B7.out.trans b8; have q8 : w8.cell? ⟨w.heap.size, 0, none⟩ = some (.int .i64 s) := (by have r8 : w8.heap[w.heap.size]? = some (.cells #[.int .i64 s, .int .i64 f, .int .i64 n] 51 (0, 0)) := (by rw [B8.out.block _ L2.out]; exact R2.out); exact cell_of_row _ _ 0 _ _ _ r8); clear o8 b8)
      refine (rputw_any s u0 (by omega) _).mono ?_
      rintro e w9 ⟨a9, k9, rfl, i9, b9⟩
      have I9 : Hid (IsB w9 (some a9) (putL 4 s)) := i9
      have O9 : Hid (OwnsB w9 W2.heap.size a8 Y8 k8) := O8.out.keep b9
      have B9 : Hid (Below W2.heap.size W2 w9) := B8.out.trans (b9.mono B8.out.size)
      have z9 : W2.heap.size ≤ w9.heap.size := B9.out.size
      have l9 : Y8.length + (putL 4 s).length ≤ 140737488355328 := by rw [← HY8.out, List.length_append, LH.out, putL_len, putL_len]; decide
      clear i9 b9 q8
      go_wp2_with (at_builtin; refine wpList_app rfl _ _ rfl W2.heap.size z9 a8 Y8 k8 rfl O9.out (some a9) (putL 4 s) k9 rfl I9.out (fun e => by cases e) l9 ?_; rw [E1.out]; intro a10 k10 w10 o10 b10; have O10 : Hid (OwnsB w10 W2.heap.size a10 Z k10) := o10; have B10 : Hid (Below W2.heap.size W2 w10) := B9.out.trans b10; clear o10 b10)
      go_ret2
      exact ⟨a10, k10, rfl, O10.out.mono BW2.out.size, BW2.out.trans (B10.out.mono BW2.out.size)⟩
/-- Bytes of the document. -/
theorem qbytes_any (m : Mn) (w : World) :
    Calls Tryd.prog 50 #[m.v] w fun e w' => ∃ a c, e = .returned (.tuple #[.slice a (outM m).length c, .int .i64 (errM m)]) ∧ OwnsB w' w.heap.size a (outM m) c ∧ Below w.heap.size w w' := by
  cases h : okM m
  · refine (qbytes_bad m w h).mono ?_
    rintro e w' ⟨rfl, b⟩
    have o : outM m = [] := if_neg (by rw [h]; decide)
    have r : errM m = 4 := if_neg (by rw [h]; decide)
    rw [o, r]
    exact ⟨none, 0, rfl, World.ownsRow_nil _ _ _ _, b⟩
  · refine (qbytes_ok m w h).mono ?_
    rintro e w' ⟨a, c, rfl, r, b⟩
    have o : outM m = manM m := if_pos h
    have q : errM m = 0 := if_pos h
    rw [o, q]
    exact ⟨a, c, rfl, r, b⟩
theorem outM_allB (m : Mn) : AllB (outM m) := by
  unfold outM
  split
  · exact manM_allB m
  · intro x hx; cases hx
end Go.Proofs.YtofmicbhheebiaaDoor
