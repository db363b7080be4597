/- Layer 21: Find of the document. -/
import Derived.Test.YtofmicbhheebiaaDoorMfFC
import Derived.Test.YtofmicbhheebiaaDoorMnS
import Derived.BigQuiet
namespace Go.Proofs.YtofmicbhheebiaaDoor
open Go.RowKit
set_option linter.unusedVariables false
set_option maxRecDepth 4000

theorem qsec_cell {w : World} {base br : Nat} {ok : Nat → Prop} {d : Dk} (h : IsR w base br ok d) : ∃ as0 cs, w.cell? ⟨br, 0, none⟩ = some (.slice as0 d.n cs) := by
  obtain ⟨as0, cs', gs, aw, cw, hss, h, _⟩ := h
  have h0 : w.cell? ⟨br, 0, none⟩ = some (.slice as0 gs.length cs') := h.cell 0
  rw [h.gl] at h0
  exact ⟨as0, cs', h0⟩
set_option maxRecDepth 20000 in
set_option maxHeartbeats 4000000 in
theorem qfind_down (base br : Nat) (ok : Nat → Prop) (d : Dk) (w : World) (h : IsR w base br ok d) (hd : d.down = true) (h0 : 8 ≤ d.n) (h1 : d.n ≤ 65536) :
    Calls Tryd.prog 14 #[.pointer (some ⟨br, 0, none⟩)] w fun e w' => e = .returned (.tuple #[.slice none 0 0, .int .i64 14, .int .i64 0]) ∧ Below w.heap.size w w' := by
  have RD : Hid (Calls Tryd.prog 33 #[.pointer (some ⟨br, 0, none⟩), .int .i64 0] w fun e w' => e = .returned (.tuple #[.slice none 0 0, .int .i64 14]) ∧ w = w') := by
    have e : closedE d 0 = 14 := if_pos hd
    have q := rread_closed base br ok d 0 w h (by rw [e]; decide)
    rw [e] at q
    exact q
  have MS : Hid (∀ w, Calls Tryd.prog 32 #[.int .i64 0, .int .i64 (d.n : Nat)] w fun e w' => e = .returned (.int .i64 0) ∧ w = w') := fun w => by
    have q := qsector_any 0 (d.n : Nat) w
    rw [show secM 0 (d.n : Nat) = 0 by rw [secM, if_neg (by omega), if_pos rfl]] at q
    exact q
  obtain ⟨as0, cs, c0⟩ := qsec_cell h
  obtain ⟨N, hN⟩ : ∃ N, d.n = N := ⟨_, rfl⟩
  rw [hN] at MS c0
  clear h hd h0 h1 hN
  go_enter Tryd.func14, Tryd.ntmps14
  go_upto_region 3 with (fail)
  refine wp_loop_rounds 1 ?_
  rw [rounds_succ]
  go_wp2_with (first
    | (go_at_call 32; refine Calls.mono (MS.out _) ?_; rintro e w' ⟨rfl, rfl⟩)
    | (go_at_call 33; refine Calls.mono RD.out ?_; rintro e w' ⟨rfl, rfl⟩))
  refine bodyPost_ret (v := .tuple #[.slice none 0 0, .int .i64 14, .int .i64 0]) (by simp [results, Tryd.results14, go_sem]) rfl ?_
  exact ⟨rfl, Below.refl _ _⟩

theorem Ow.drewN {T : TypeId} {w : World} {B : Nat} {a : Option Addr} {l : List Fd} {c : Nat} (h : Ow T w B a l c) (n : Nat) : Ow T (w.drewN n) B a l c := h.same (fun _ _ _ ho => ho)
theorem Ow.lit2 {T : TypeId} (w : World) (B : Nat) (hB : B ≤ w.heap.size) (x y : Fd) : Ow T (w.alloc (.cells #[.int .i64 x.l, .int .i64 x.m.s, .int .i64 x.m.f, .int .i64 x.m.n, .int .i64 y.l, .int .i64 y.m.s, .int .i64 y.m.f, .int .i64 y.m.n] T)) B (some ⟨w.heap.size, 0, none⟩) [x, y] 2 :=
  ⟨rfl, .inr ⟨w.heap.size, 2, #[.int .i64 x.l, .int .i64 x.m.s, .int .i64 x.m.f, .int .i64 x.m.n, .int .i64 y.l, .int .i64 y.m.s, .int .i64 y.m.f, .int .i64 y.m.n], rfl, hB, Go.heap_alloc_new w _, Nat.le_refl _, by decide, rfl, rfl⟩⟩
theorem Ow.one {T : TypeId} {w : World} {B c : Nat} {a : Option Addr} {y : Fd} (h : Ow T w B a [y] c) : ∃ g, a = some ⟨g, 0, none⟩ ∧ w.cell? ⟨g, 0, none⟩ = some (.int .i64 y.l) ∧ w.cell? ⟨g, 1, none⟩ = some (.int .i64 y.m.s) ∧ w.cell? ⟨g, 2, none⟩ = some (.int .i64 y.m.f) ∧ w.cell? ⟨g, 3, none⟩ = some (.int .i64 y.m.n) := by
  obtain ⟨g, e, _, _, a0, a1, a2, a3⟩ := h.cells 0 (by simp)
  exact ⟨g, e, a0, a1, a2, a3⟩
/-- An append of one behind draws. -/
theorem appQ (w E : World) (n : Nat) (hw : w.heap.size ≤ E.heap.size) (a : Option Addr) (L : List Fd) (c : Nat) (h : Ow 53 E w.heap.size a L c) (hb : Below w.heap.size w E) (x : Fd) (hL : L.length ≤ 1) :
    ∃ a' c' w', (Builtin.append_ #[43, 43] 43 #[.slice a L.length c, .slice (some ⟨E.heap.size, 0, none⟩) 1 1]).run Tryd.prog ((E.drewN n).alloc (.cells #[.int .i64 x.l, .int .i64 x.m.s, .int .i64 x.m.f, .int .i64 x.m.n] 53)) = .ok (.slice a' (L ++ [x]).length c') w' ∧ Ow 53 w' w.heap.size a' (L ++ [x]) c' ∧ Below w.heap.size w w' := by
  obtain ⟨a', c', w', r, o, b⟩ := appE_one rowT_q w.heap.size (E.drewN n) hw a L c (h.drewN n) x (by omega)
  have hb2 : Below w.heap.size w (E.drewN n) := ⟨hb.os, hb.tape, hb.output, hb.size, hb.block⟩
  exact ⟨a', c', w', r, o, hb2.trans b⟩
/-- What has been found after so many slots. -/
def qacF (d : Dk) (j : Nat) : List Fd := sortF (accF d j)
theorem sortF_one {L : List Fd} (h : L.length ≤ 1) : sortF L = L := by
  match L, h with
  | [], _ => rfl
  | [x], _ => rfl
theorem qacF_small (d : Dk) {j : Nat} (hj : j < 2) : qacF d j = accF d j := sortF_one (by have := accF_len d j; omega)
set_option maxRecDepth 20000 in
set_option maxHeartbeats 8000000 in
theorem qfind_open (base br : Nat) (ok : Nat → Prop) (d : Dk) (w : World) (h : IsR w base br ok d) (hd : d.down = false) (h0 : 8 ≤ d.n) (h1 : d.n ≤ 65536) (hpl : d.pend.length ≤ 1000000) :
    Calls Tryd.prog 14 #[.pointer (some ⟨br, 0, none⟩)] w fun e w' => ∃ a c, e = .returned (.tuple #[.slice a (fndF d).length c, .int .i64 0, .int .i64 (-1)]) ∧ Ow 53 w' w.heap.size a (fndF d) c ∧ Below w.heap.size w w' := by
  have H : Hid (IsR w base br ok d) := h
  have HD : Hid (d.down = false) := hd
  have DOK : Hid (DkOk d) := h.ok'
  have SEC : Hid (∀ j : Nat, j < 2 → 0 ≤ secM (j : Nat) (d.n : Nat) ∧ secM (j : Nat) (d.n : Nat) < (d.n : Nat)) := fun j hj => secM_in h0 h1 hj
  have RD : Hid (∀ (i : Int) (wr : World), 0 ≤ i → i < (d.n : Nat) → IsR wr base br ok d → Calls Tryd.prog 33 #[.pointer (some ⟨br, 0, none⟩), .int .i64 i] wr fun e w' => ∃ g, e = .returned (.tuple #[.slice (some ⟨g, 0, none⟩) 64 64, .int .i64 0]) ∧ RowB w' g 5 (readL d i) ∧ Below wr.heap.size wr w') := fun i wr i0 i1 hw => rread_open base br ok d i wr hw (closedE_zero.2 ⟨hd, i0, i1⟩) hpl
  have RL : Hid (∀ i : Int, 0 ≤ i → i < (d.n : Nat) → (readL d i).length = 64 ∧ AllB (readL d i)) := fun i i0 i1 => readL_ok DOK.out (closedE_zero.2 ⟨HD.out, i0, i1⟩)
  have MR : Hid (∀ (w : World) (g : Nat) (b : List Int), b.length = 64 → IsB w (some ⟨g, 0, none⟩) b → Calls Tryd.prog 34 #[.slice (some ⟨g, 0, none⟩) 64 64] w fun e w' => e = .returned (.tuple #[(rdM b).v, .int .i64 (wrongM b)]) ∧ Below w.heap.size w w') := fun w g b hb i => qread_any _ 64 64 b w i hb.symm (by omega) (by rw [hb]; decide)
  obtain ⟨N, hN⟩ : ∃ N, d.n = N := ⟨_, rfl⟩
  have HN : Hid (d.n = N) := hN
  rw [hN] at SEC RD RL h0 h1
  clear h hd hN hpl
  go_enter Tryd.func14, Tryd.ntmps14
  go_upto_region 3 with (fail)
  go_loopw [5, 6] (fun lv iv wr => ∃ (j : Nat) (a : Option Addr) (c : Nat), j ≤ 2 ∧ iv = .int .i64 (j : Nat) ∧ lv = .slice a (qacF d j).length c ∧ Ow 53 wr w.heap.size a (qacF d j) c ∧ Below w.heap.size w wr) (fun _ iv _ => 2 - (intOf iv).toNat)
  case atStart => exact ⟨0, none, 0, by omega, rfl, rfl, Ow.nil _ _, Below.refl _ _⟩
  case round =>
    obtain ⟨j, a, c, hj, rfl, rfl, ho, hb⟩ := hrel
    rename World => wr
    have O : Hid (Ow 53 wr w.heap.size a (qacF d j) c) := ho
    have B : Hid (Below w.heap.size w wr) := hb
    clear ho hb
    by_cases hlt : j < 2
    · obtain ⟨s0, s1⟩ := SEC.out j hlt
      have AL := accF_len d j
      have QS := qacF_small d hlt
      have AS : Hid (accF d (j + 1) = accF d j ++ slF (j : Nat) (readL d (secM (j : Nat) (N : Nat)))) := by show _ = _; rw [← HN.out]; rfl
      have MS : Hid (∀ w, Calls Tryd.prog 32 #[.int .i64 (j : Nat), .int .i64 (N : Nat)] w fun e w' => e = .returned (.int .i64 (secM (j : Nat) (N : Nat))) ∧ w = w') := fun w => qsector_any _ _ w
      obtain ⟨S, hS⟩ : ∃ S, secM (j : Nat) (N : Nat) = S := ⟨_, rfl⟩
      rw [hS] at s0 s1 AS MS
      obtain ⟨l64, lB⟩ := RL.out S s0 s1
      have RS : Hid _ := RD.out S
      obtain ⟨R, hR⟩ : ∃ R, readL d S = R := ⟨_, rfl⟩
      rw [hR] at l64 lB AS RS
      have LB : Hid (AllB R) := lB
      have L64 : Hid (R.length = 64) := l64
      have jn : (j : Int) < 2 := by omega
      obtain ⟨A, hA⟩ : ∃ A, accF d j = A := ⟨_, rfl⟩
      rw [QS] at O ⊢
      rw [hA] at O AL AS ⊢
      have A1 : A.length ≤ 1 := by omega
      have A0 : Hid (j = 0 → A = []) := fun e => List.eq_nil_of_length_eq_zero (by omega)
      obtain ⟨as0, cs, c0⟩ := qsec_cell (H.out.keep B.out)
      rw [HN.out] at c0
      clear hS hR hA l64 lB QS
      go_wp2_with (go_at_call 32; refine Calls.mono (MS.out _) ?_; rintro e w' ⟨rfl, rfl⟩)
      refine Calls.mono (RS.out wr s0 s1 (H.out.keep B.out)) ?_
      rintro e w1 ⟨g1, rfl, r1, b1⟩
      have I1 : Hid (IsB w1 (some ⟨g1, 0, none⟩) R) := r1.isB LB.out
      have B1 : Hid (Below wr.heap.size wr w1) := b1
      clear r1 b1 c0
      go_wp2_with fail
      refine Calls.mono (MR.out _ _ R L64.out I1.out) ?_
      rintro e w2 ⟨rfl, b2⟩
      obtain ⟨W, hW⟩ : ∃ W, wrongM R = W := ⟨_, rfl⟩
      obtain ⟨⟨ms, mf, mk⟩, hm⟩ : ∃ m, rdM R = m := ⟨_, rfl⟩
      have SL : Hid (slF (j : Nat) R = if W = 0 then [⟨(j : Nat), ⟨ms, mf, mk⟩⟩] else []) := by show _ = _; unfold slF; rw [hW, hm]
      rw [hW, hm]
      unfold Mn.v
      obtain ⟨E, hE, rE, bE⟩ := box21 51 w2 ms mf mk
      have HE : Hid _ := hE
      have BE : Hid (Below wr.heap.size wr E) := B1.out.trans ((b2.trans (bE.mono b2.size)).mono B1.out.size)
      have OE : Hid (Ow 53 E w.heap.size a A c) := O.out.keep BE.out
      have BW : Hid (Below w.heap.size w E) := B.out.trans (BE.out.mono B.out.size)
      obtain ⟨y0, y1, y2⟩ := three21 rE
      obtain ⟨nE, hnE⟩ : ∃ n, w2.heap.size = n := ⟨_, rfl⟩
      rw [hnE] at y0 y1 y2
      have HNE : Hid (w2.heap.size = nE) := hnE
      clear hW hm hE rE bE b2 hnE
      by_cases hw : W = 0
      · subst hw
        have SL1 : Hid (accF d (j + 1) = A ++ [⟨(j : Nat), ⟨ms, mf, mk⟩⟩]) := by show _ = _; rw [AS.out, SL.out, if_pos rfl]
        have lw : w.heap.size ≤ E.heap.size := by have := B.out.size; have := BE.out.size; omega
        match A, A1 with
        | [], _ =>
          have QE : Hid (qacF d (j + 1) = [⟨(j : Nat), ⟨ms, mf, mk⟩⟩]) := by show _ = _; unfold qacF; rw [SL1.out]; rfl
          go_upto_region 10 with (fail)
          rw [HE.out]
          try rw [HNE.out]
          go_upto_region 11 with (fail)
          go_quiet (fail)
          obtain ⟨a5, c5, w5, r5, o5, b5⟩ := appQ w E nq lw a [] c OE.out BW.out ⟨(j : Nat), ⟨ms, mf, mk⟩⟩ (by simp)
          have R5 : Hid _ := r5
          have O5 : Hid (Ow 53 w5 w.heap.size a5 [⟨(j : Nat), ⟨ms, mf, mk⟩⟩] c5) := o5
          have B5 : Hid (Below w.heap.size w w5) := b5
          clear r5 o5 b5
          go_wp2_with (at_builtin; refine wpList_rune rfl rfl _ _ rfl _ _ _ _ rfl rfl R5.out ?_)
          go_roundw
          case rel => exact ⟨j + 1, a5, c5, by omega, by go_num, by rw [QE.out]; rfl, by rw [QE.out]; exact O5.out, B5.out⟩
          case measure => simp [intOf]; omega
        | [⟨yl, ⟨ys, yf, yn⟩⟩], _ =>
          obtain ⟨g, rfl, d0, d1, d2, d3⟩ := OE.out.one
          simp only at d0 d1 d2 d3
          by_cases hgt : ys < ms
          · have QE : Hid (qacF d (j + 1) = [⟨(j : Nat), ⟨ms, mf, mk⟩⟩, ⟨yl, ⟨ys, yf, yn⟩⟩]) := by show _ = _; unfold qacF; rw [SL1.out]; exact if_pos hgt
            go_upto_region 10 with (fail)
            rw [HE.out]
            try rw [HNE.out]
            go_upto_region 11 with (fail)
            go_quiet (fail)
            go_upto_region 12 with (fail)
            go_region
            have O9 := Ow.lit2 (T := 53) (E.drewN (nq + 1)) w.heap.size lw ⟨(j : Nat), ⟨ms, mf, mk⟩⟩ ⟨yl, ⟨ys, yf, yn⟩⟩
            have B9 : Below w.heap.size w ((E.drewN (nq + 1)).alloc (.cells #[.int .i64 (j : Nat), .int .i64 ms, .int .i64 mf, .int .i64 mk, .int .i64 yl, .int .i64 ys, .int .i64 yf, .int .i64 yn] 53)) := (show Below w.heap.size w (E.drewN (nq + 1)) from ⟨BW.out.os, BW.out.tape, BW.out.output, BW.out.size, BW.out.block⟩).trans (((Below.refl _ (E.drewN (nq + 1))).alloc (Nat.le_refl _) _).mono BW.out.size)
            have O9H : Hid _ := O9
            have B9H : Hid _ := B9
            clear O9 B9
            go_wp2
            go_roundw
            case rel => exact ⟨j + 1, some ⟨E.heap.size, 0, none⟩, 2, by omega, by go_num, by rw [QE.out]; rfl, by rw [QE.out]; exact O9H.out, B9H.out⟩
            case measure => simp [intOf]; omega
          · have QE : Hid (qacF d (j + 1) = [⟨yl, ⟨ys, yf, yn⟩⟩] ++ [⟨(j : Nat), ⟨ms, mf, mk⟩⟩]) := by show _ = _; unfold qacF; rw [SL1.out]; exact if_neg hgt
            go_upto_region 10 with (fail)
            rw [HE.out]
            try rw [HNE.out]
            go_upto_region 11 with (fail)
            go_quiet (fail)
            obtain ⟨a5, c5, w5, r5, o5, b5⟩ := appQ w E nq lw (some ⟨g, 0, none⟩) [⟨yl, ⟨ys, yf, yn⟩⟩] c OE.out BW.out ⟨(j : Nat), ⟨ms, mf, mk⟩⟩ (by simp)
            have R5 : Hid _ := r5
            have O5 : Hid (Ow 53 w5 w.heap.size a5 ([⟨yl, ⟨ys, yf, yn⟩⟩] ++ [⟨(j : Nat), ⟨ms, mf, mk⟩⟩]) c5) := o5
            have B5 : Hid (Below w.heap.size w w5) := b5
            clear r5 o5 b5
            go_wp2_with (at_builtin; refine wpList_rune rfl rfl _ _ rfl _ _ _ _ rfl rfl R5.out ?_)
            go_roundw
            case rel => exact ⟨j + 1, a5, c5, by omega, by go_num, by rw [QE.out]; rfl, by rw [QE.out]; exact O5.out, B5.out⟩
            case measure => simp [intOf]; omega
      · have SL1 : Hid (qacF d (j + 1) = A) := by show _ = _; unfold qacF; rw [AS.out, SL.out, if_neg hw, List.append_nil]; exact sortF_one A1
        have wb : (W == 0) = false := by simpa using hw
        go_upto_region 10 with (fail)
        rw [HE.out]
        try rw [HNE.out]
        go_wp2
        go_roundw
        case rel => exact ⟨j + 1, a, c, by omega, by go_num, by rw [SL1.out], by rw [SL1.out]; exact OE.out, BW.out⟩
        case measure => simp [intOf]; omega
    · obtain rfl : j = 2 := by omega
      go_wp2
      refine bodyPost_ret (v := .tuple #[.slice a (qacF d 2).length c, .int .i64 0, .int .i64 (-1)]) (by simp [results, Tryd.results14, go_sem]) rfl ?_
      exact ⟨a, c, rfl, O.out, B.out⟩
end Go.Proofs.YtofmicbhheebiaaDoor
