/- Layer 17: Read of the document. -/
import Derived.Test.YtbajchidpffbpaaDoorIgM
namespace Go.Proofs.YtbajchidpffbpaaDoor
open Go.RowKit
set_option linter.unusedVariables false
set_option maxRecDepth 4000

/-- What the document's Read of an image leaves behind. -/
def ReadD (w : World) (l : List Int) (e : Ending) (w' : World) : Prop :=
  ∃ (m : Im) (er : Int) (la : Option Addr) (lc : Nat) (oa : Option Addr) (oc : Nat) (ba : Option Addr) (bc : Nat), readG l = (m, er) ∧
    e = .returned (.tuple #[.agg #[.int .i64 m.p, .int .i64 m.c, .int .i64 m.s, .slice la m.live.length lc, .int .i64 m.base, .slice oa m.offs.length oc, .slice ba m.bytes.length bc], .int .i64 er]) ∧
    IsI w' la m.live ∧ IsI w' oa m.offs ∧ IsB w' ba m.bytes ∧ Below w.heap.size w w' ∧ m.live.length ≤ 16 ∧ m.offs.length ≤ 8192 ∧ m.bytes.length ≤ 4096
theorem dread_bad {w w' : World} {l : List Int} {er : Int} (h : readG l = badG er) (hb : Below w.heap.size w w') : ReadD w l (.returned (.tuple #[.agg #[.int .i64 0, .int .i64 0, .int .i64 0, .slice none 0 0, .int .i64 0, .slice none 0 0, .slice none 0 0], .int .i64 er])) w' :=
  ⟨noIm, er, none, 0, none, 0, none, 0, h, rfl, IsI.nil _ _, IsI.nil _ _, IsB.nil _ _, hb, by show 0 ≤ 16; omega, by show 0 ≤ 8192; omega, by show 0 ≤ 4096; omega⟩

theorem drew_cell (w : World) (p : Addr) : w.drew.cell? p = w.cell? p := rfl

set_option maxRecDepth 20000 in
set_option maxHeartbeats 8000000 in
theorem dread_any (a : Option Addr) (k : Nat) (l : List Int) (w : World) (h : IsB w a l) (hm : l.length ≤ 140737488355328) :
    Calls Tryd.prog 21 #[.slice a l.length k] w (ReadD w l) := by
  rcases h1 : upS l 0 4095 with ⟨P, L1, E1⟩
  rcases h2 : upS L1 E1 7 with ⟨C, L2, E2⟩
  rcases h3 : upS L2 E2 4096 with ⟨S, L3, E3⟩
  obtain ⟨⟨p0, p1⟩, ⟨y0, y1⟩, ⟨s0, s1⟩, hA, hL, k1, k2⟩ := read_up h.1 h1 h2 h3
  have H1 : Hid (upS l 0 4095 = (P, L1, E1)) := h1
  have H2 : Hid (upS L1 E1 7 = (C, L2, E2)) := h2
  have H3 : Hid (upS L2 E2 4096 = (S, L3, E3)) := h3
  have K1 : Hid (E3 = 0 → readG l = if newE P C S = 0 then setG P C S L3 else badG 4) := k1
  have K2 : Hid (E3 ≠ 0 → readG l = badG E3) := k2
  have HA : Hid (AllB L3) := hA
  have HL : Hid (L3.length ≤ l.length) := hL
  have l3 : L3.length ≤ 140737488355328 := by omega
  have u1 : IntKind.i64.wrap P = P := by rw [IntKind.wrap_i64]; omega
  have u2 : IntKind.i64.wrap C = C := by rw [IntKind.wrap_i64]; omega
  have u3 : IntKind.i64.wrap S = S := by rw [IntKind.wrap_i64]; omega
  obtain ⟨D, hD, zD, rD, bD⟩ := ibox 36 w 0 0 0 none 0 0 0 none 0 0 none 0 0
  have HD : Hid (w.alloc (.cells #[.int .i64 0, .int .i64 0, .int .i64 0, .slice none 0 0, .int .i64 0, .slice none 0 0, .slice none 0 0] 36) = D) := hD
  have BD : Hid (Below w.heap.size w D) := bD
  have RD : Hid (D.heap[w.heap.size]? = some (.cells z7 36 (0, 0))) := rD
  have ZD : Hid (D.heap.size = w.heap.size + 1) := zD
  have ID : Hid (IsB D a l) := h.keep bD
  have AL : Hid (AllB l) := h.1
  clear h h1 h2 h3 k1 k2 hA hL hD zD rD bD
  go_enter Tryd.func21, Tryd.ntmps21
  go_upto_region 1 with (fail)
  rw [HD.out]
  go_wp2_with fail
  refine (copy_any a k l.length l D rfl ID.out hm).mono ?_
  rintro e w1 ⟨g1, c1, rfl, o1, b1⟩
  obtain ⟨X1, hX1⟩ : ∃ X1, w1.alloc (.cells #[.slice (some ⟨g1, 0, none⟩) l.length c1, .int .i64 0] 84) = X1 := ⟨_, rfl⟩
  have EX1 : Hid (w1.alloc (.cells #[.slice (some ⟨g1, 0, none⟩) l.length c1, .int .i64 0] 84) = X1) := hX1
  obtain ⟨rf1, bx1⟩ := newrfG (B := w.heap.size) hX1 o1 AL.out (by have := ZD.out; omega)
  obtain ⟨B, hB⟩ : ∃ B, w1.heap.size = B := ⟨_, rfl⟩
  rw [hB] at rf1
  have R1 : Hid (RfAt X1 w.heap.size B l 0) := rf1
  have HB : Hid (w.heap.size < B) := by show _ < _; have := b1.size; have := ZD.out; omega
  have B1 : Hid (Below D.heap.size D X1) := b1.trans (bx1.mono b1.size)
  clear o1 b1 hX1 rf1 bx1
  go_wp2_with fail
  rw [EX1.out]
  refine (rupto_any w.heap.size B l 0 4095 _ R1.out).mono ?_
  rw [H1.out]
  rintro e w2 ⟨rfl, r2, g2⟩
  have R2 : Hid (RfAt w2 w.heap.size B L1 E1) := r2
  have T2 : Hid (Tg B X1 w2) := Tg.ofGrown g2
  clear r2 g2 hB
  go_wp2_with fail
  refine (rupto_any w.heap.size B L1 E1 7 _ R2.out).mono ?_
  rw [H2.out]
  rintro e w3 ⟨rfl, r3, g3⟩
  have R3 : Hid (RfAt w3 w.heap.size B L2 E2) := r3
  have T3 : Hid (Tg B X1 w3) := T2.out.trans (Tg.ofGrown g3)
  clear r3 g3
  go_wp2_with fail
  refine (rupto_any w.heap.size B L2 E2 4096 _ R3.out).mono ?_
  rw [H3.out]
  rintro e w4 ⟨rfl, r4, g4⟩
  have T4 : Hid (Tg B X1 w4) := T3.out.trans (Tg.ofGrown g4)
  obtain ⟨W5, hW5, zX, rX, bX⟩ := ibox 36 w4 P C S none 0 0 0 none 0 0 none 0 0
  have EW5 : Hid (w4.alloc (.cells #[.int .i64 P, .int .i64 C, .int .i64 S, .slice none 0 0, .int .i64 0, .slice none 0 0, .slice none 0 0] 36) = W5) := hW5
  obtain ⟨M, hM⟩ : ∃ M, w4.heap.size = M := ⟨_, rfl⟩
  have S5 : Hid (Sd w W5 w.heap.size B M L3 E3 P C S none 0 0 0 none 0 0 none 0 0) := by
    have q2 : w4.heap[w.heap.size]? = some (.cells z7 36 (0, 0)) := by
      rw [T4.out.block w.heap.size (by have := B1.out.size; have := ZD.out; omega) (by have := HB.out; omega), B1.out.block w.heap.size (by have := ZD.out; omega)]
      exact RD.out
    exact ⟨rf_keep r4 bX, by rw [← hM]; exact rX, by rw [bX.block w.heap.size (row_lt q2)]; exact q2, (BD.out.trans (B1.out.mono BD.out.size)).trans ((T4.out.below (by have := HB.out; omega) (by have := B1.out.size; have := ZD.out; omega)).trans (bX.mono (by have := T4.out.size; have := B1.out.size; have := ZD.out; omega))), HB.out, by rw [← hM]; exact r4.lt⟩
  clear r4 g4 hW5 zX rX bX
  have ce5 := S5.out.rd.err
  go_upto_region 3 with (fail)
  rw [EW5.out]
  clear hM
  by_cases h0 : E3 = 0
  rotate_left
  · have hne : (E3 != 0) = true := bne_iff_ne.2 h0
    have KR : Hid (readG l = badG E3) := K2.out h0
    clear h0
    obtain ⟨g0, g1, g2, g3, g4, g5, g6⟩ := icell (show W5.heap[w.heap.size]? = some (.cells (icells 0 0 0 none 0 0 0 none 0 0 none 0 0) 36 (0, 0)) from S5.out.res)
    have f0 := ithawed (show W5.heap[w.heap.size]? = some (.cells (icells 0 0 0 none 0 0 0 none 0 0 none 0 0) 36 (0, 0)) from S5.out.res)
    have f00 := f0 0
    have f01 := f0 1
    have f02 := f0 2
    have f03 := f0 3
    have f04 := f0 4
    have f05 := f0 5
    have f06 := f0 6
    have rL := lay7_row (p := 0) (c := 0) (s := 0) (la := none) (ln := 0) (lc := 0) (base := 0) (oa := none) (on := 0) (oc := 0) (ba := none) (bn := 0) (bc := 0) (show W5.heap[w.heap.size]? = some (.cells (icells 0 0 0 none 0 0 0 none 0 0 none 0 0) 36 (0, 0)) from S5.out.res)
    have on := lay7_only W5 w.heap.size (.int .i64 0) (.int .i64 0) (.int .i64 0) (.slice none 0 0) (.int .i64 0) (.slice none 0 0) (.slice none 0 0)
    have bL := S5.out.low.trans (on.below (Nat.le_refl _))
    have LV : Hid (lay7 W5 w.heap.size (.int .i64 0) (.int .i64 0) (.int .i64 0) (.slice none 0 0) (.int .i64 0) (.slice none 0 0) (.slice none 0 0) = (((((((W5.setCell ⟨w.heap.size, 0, none⟩ (.int .i64 0)).setCell ⟨w.heap.size, 1, none⟩ (.int .i64 0)).setCell ⟨w.heap.size, 2, none⟩ (.int .i64 0)).setCell ⟨w.heap.size, 3, none⟩ (.slice none 0 0)).setCell ⟨w.heap.size, 4, none⟩ (.int .i64 0)).setCell ⟨w.heap.size, 5, none⟩ (.slice none 0 0)).setCell ⟨w.heap.size, 6, none⟩ (.slice none 0 0))) := rfl
    have ce := S5.out.rd.err
    have cl : (lay7 W5 w.heap.size (.int .i64 0) (.int .i64 0) (.int .i64 0) (.slice none 0 0) (.int .i64 0) (.slice none 0 0) (.slice none 0 0)).cell? ⟨B, 1, none⟩ = some (.int .i64 E3) := by rw [on.cell (p := ⟨B, 1, none⟩) (by show B ≠ w.heap.size; have := S5.out.hB; omega)]; exact ce
    have CE : Hid (W5.drew.cell? ⟨B, 1, none⟩ = some (.int .i64 E3)) := by show _ = _; rw [drew_cell]; exact ce
    have CL : Hid ((((((((W5.setCell ⟨w.heap.size, 0, none⟩ (.int .i64 0)).setCell ⟨w.heap.size, 1, none⟩ (.int .i64 0)).setCell ⟨w.heap.size, 2, none⟩ (.int .i64 0)).setCell ⟨w.heap.size, 3, none⟩ (.slice none 0 0)).setCell ⟨w.heap.size, 4, none⟩ (.int .i64 0)).setCell ⟨w.heap.size, 5, none⟩ (.slice none 0 0)).setCell ⟨w.heap.size, 6, none⟩ (.slice none 0 0)).drew.cell? ⟨B, 1, none⟩ = some (.int .i64 E3)) := by show _ = _; rw [drew_cell, ← LV.out]; exact cl
    clear cl
    obtain ⟨LW, hLW⟩ : ∃ LW, lay7 W5 w.heap.size (.int .i64 0) (.int .i64 0) (.int .i64 0) (.slice none 0 0) (.int .i64 0) (.slice none 0 0) (.slice none 0 0) = LW := ⟨_, rfl⟩
    rw [hLW] at rL bL LV
    obtain ⟨u0, u1, u2, u3, u4, u5, u6⟩ := icell rL
    have BL : Hid (Below w.heap.size w LW) := bL
    clear hLW rL bL f0 on
    go_wp2_with fail
    go_region_held3 (fun wz => wz.cell? ⟨B, 1, none⟩ = some (.int .i64 E3)) (with_reducible first | exact CE.out | exact CL.out | fail) (fail)
    go_wp2
    rw [← LV.out]
    refine bodyPost_ret (v := .tuple #[.agg #[.int .i64 0, .int .i64 0, .int .i64 0, .slice none 0 0, .int .i64 0, .slice none 0 0, .slice none 0 0], .int .i64 E3]) (by simp [results, Tryd.results21, go_sem, u0, u1, u2, u3, u4, u5, u6]) rfl (dread_bad KR.out (Below.toDrew BL.out))
  · subst h0
    have K1' : Hid (readG l = if newE P C S = 0 then setG P C S L3 else badG 4) := K1.out rfl
    obtain ⟨x0, x1, x2, x3, x4, x5, x6⟩ := S5.out.ic
    by_cases hx : newE P C S = 0
    rotate_left
    · obtain ⟨x, hxx⟩ : ∃ x, newE P C S = x := ⟨_, rfl⟩
      have HXX : Hid (newE P C S = x) := hxx
      have X0 : Hid (x ≠ 0) := by show _ ≠ _; rw [← hxx]; exact hx
      have hne : (x != 0) = true := bne_iff_ne.2 X0.out
      have KR : Hid (readG l = badG 4) := by show _ = _; rw [K1'.out, if_neg hx]
      clear hx hxx
      go_wp2_with fail
      refine (rnew_bad P C S x _ HXX.out X0.out).mono ?_
      rintro e W5' ⟨rfl, rfl⟩
      clear x0 x1 x2 x3 x4 x5 x6 ce5
      obtain ⟨g0, g1, g2, g3, g4, g5, g6⟩ := icell (show W5.heap[w.heap.size]? = some (.cells (icells 0 0 0 none 0 0 0 none 0 0 none 0 0) 36 (0, 0)) from S5.out.res)
      have f0 := ithawed (show W5.heap[w.heap.size]? = some (.cells (icells 0 0 0 none 0 0 0 none 0 0 none 0 0) 36 (0, 0)) from S5.out.res)
      have f00 := f0 0
      have f01 := f0 1
      have f02 := f0 2
      have f03 := f0 3
      have f04 := f0 4
      have f05 := f0 5
      have f06 := f0 6
      have rL := lay7_row (p := 0) (c := 0) (s := 0) (la := none) (ln := 0) (lc := 0) (base := 0) (oa := none) (on := 0) (oc := 0) (ba := none) (bn := 0) (bc := 0) (show W5.heap[w.heap.size]? = some (.cells (icells 0 0 0 none 0 0 0 none 0 0 none 0 0) 36 (0, 0)) from S5.out.res)
      have on := lay7_only W5 w.heap.size (.int .i64 0) (.int .i64 0) (.int .i64 0) (.slice none 0 0) (.int .i64 0) (.slice none 0 0) (.slice none 0 0)
      have bL := S5.out.low.trans (on.below (Nat.le_refl _))
      have LV : Hid (lay7 W5 w.heap.size (.int .i64 0) (.int .i64 0) (.int .i64 0) (.slice none 0 0) (.int .i64 0) (.slice none 0 0) (.slice none 0 0) = (((((((W5.setCell ⟨w.heap.size, 0, none⟩ (.int .i64 0)).setCell ⟨w.heap.size, 1, none⟩ (.int .i64 0)).setCell ⟨w.heap.size, 2, none⟩ (.int .i64 0)).setCell ⟨w.heap.size, 3, none⟩ (.slice none 0 0)).setCell ⟨w.heap.size, 4, none⟩ (.int .i64 0)).setCell ⟨w.heap.size, 5, none⟩ (.slice none 0 0)).setCell ⟨w.heap.size, 6, none⟩ (.slice none 0 0))) := rfl
      obtain ⟨LW, hLW⟩ : ∃ LW, lay7 W5 w.heap.size (.int .i64 0) (.int .i64 0) (.int .i64 0) (.slice none 0 0) (.int .i64 0) (.slice none 0 0) (.slice none 0 0) = LW := ⟨_, rfl⟩
      rw [hLW] at rL bL LV
      obtain ⟨u0, u1, u2, u3, u4, u5, u6⟩ := icell rL
      have BL : Hid (Below w.heap.size w LW) := bL
      clear hLW rL bL f0 on
      go_wp2
      rw [← LV.out]
      refine bodyPost_ret (v := .tuple #[.agg #[.int .i64 0, .int .i64 0, .int .i64 0, .slice none 0 0, .int .i64 0, .slice none 0 0, .slice none 0 0], .int .i64 4]) (by simp [results, Tryd.results21, go_sem, u0, u1, u2, u3, u4, u5, u6]) rfl (dread_bad KR.out BL.out)
    · have HX : Hid (newE P C S = 0) := hx
      have RT : Hid (Rt P C S) := newE_rt hx
      have KS : Hid (readG l = setG P C S L3) := by show _ = _; rw [K1'.out, if_pos hx]
      obtain ⟨N, hN⟩ : ∃ N, slN C = N := ⟨_, rfl⟩
      have HN : Hid (slN C = N) := hN
      have n16 : N ≤ 16 := by have := RT.out.facts.2.1; omega
      have n1 : 1 ≤ N := by have := RT.out.facts.1; omega
      obtain ⟨K, hK⟩ : ∃ K, (N + 7) / 8 = K := ⟨_, rfl⟩
      have HK : Hid ((N + 7) / 8 = K) := hK
      have UK : Hid ((((N : Nat) : Int) + 7) / 8 = (K : Nat)) := by show _ = _; omega
      have kp : 1 ≤ K := by omega
      have k2 : K ≤ 2 := by omega
      clear hN hK hx
      rcases hS : bsS L3 0 K with ⟨X, L4, E4⟩
      have HS : Hid (bsS L3 0 K = (X, L4, E4)) := hS
      have CS : Hid ((E4 ≠ 0 ∧ readG l = badG E4) ∨ (X = L3.take K ∧ L4 = L3.drop K ∧ E4 = 0 ∧ K ≤ L3.length)) := by
        show _ ∨ _
        unfold bsS at hS
        rw [if_pos rfl] at hS
        by_cases hk : K ≤ L3.length
        · rw [if_pos hk] at hS
          simp only [Prod.mk.injEq] at hS
          exact .inr ⟨hS.1.symm, hS.2.1.symm, hS.2.2.symm, hk⟩
        · rw [if_neg hk] at hS
          simp only [Prod.mk.injEq] at hS
          refine .inl ⟨by omega, ?_⟩
          rw [KS.out, ← hS.2.2]
          exact set_short (by rw [HN.out, HK.out]; omega)
      clear hS
      go_wp2_with fail
      refine (rnew_ok P C S N _ RT.out HN.out).mono ?_
      rintro e w6 ⟨mb, mg, rfl, _, b6, _, _⟩
      have S6 : Hid (Sd w w6 w.heap.size B M L3 0 P C S none 0 0 0 none 0 0 none 0 0) := S5.out.keep b6
      have q1 := S6.out.ic.c1
      clear b6 x0 x1 x2 x3 x4 x5 x6 ce5
      go_wp2_with fail
      refine (qslots_rt P C S N _ RT.out HN.out).mono ?_
      rintro e w6' ⟨rfl, rfl⟩
      clear q1
      go_wp2_with fail
      rw [UK.out]
      refine (rbytes_any w.heap.size B L3 0 (K : Int) (K : Int) _ S6.out.rd (.inr (.inr ⟨by omega, rfl⟩)) l3).mono ?_
      rw [Int.toNat_natCast, HS.out]
      rintro e w7 ⟨a7, k7, rfl, i7, r7, g7, f7⟩
      have S7 : Hid (Sd w w7 w.heap.size B M L4 E4 P C S none 0 0 0 none 0 0 none 0 0) := S6.out.tg (Tg.ofGrown g7) r7
      have I7 : Hid (IsB w7 a7 X) := i7
      have ce7 := S7.out.rd.err
      clear i7 r7 g7 f7
      rcases CS.out with ⟨h0, kr⟩ | ⟨hX, h4, h5, hkl⟩
      · have hne : (E4 != 0) = true := bne_iff_ne.2 h0
        have KR : Hid (readG l = badG E4) := kr
        clear h0 kr
        obtain ⟨g0, g1, g2, g3, g4, g5, g6⟩ := icell (show w7.heap[w.heap.size]? = some (.cells (icells 0 0 0 none 0 0 0 none 0 0 none 0 0) 36 (0, 0)) from S7.out.res)
        have f0 := ithawed (show w7.heap[w.heap.size]? = some (.cells (icells 0 0 0 none 0 0 0 none 0 0 none 0 0) 36 (0, 0)) from S7.out.res)
        have f00 := f0 0
        have f01 := f0 1
        have f02 := f0 2
        have f03 := f0 3
        have f04 := f0 4
        have f05 := f0 5
        have f06 := f0 6
        have rL := lay7_row (p := 0) (c := 0) (s := 0) (la := none) (ln := 0) (lc := 0) (base := 0) (oa := none) (on := 0) (oc := 0) (ba := none) (bn := 0) (bc := 0) (show w7.heap[w.heap.size]? = some (.cells (icells 0 0 0 none 0 0 0 none 0 0 none 0 0) 36 (0, 0)) from S7.out.res)
        have on := lay7_only w7 w.heap.size (.int .i64 0) (.int .i64 0) (.int .i64 0) (.slice none 0 0) (.int .i64 0) (.slice none 0 0) (.slice none 0 0)
        have bL := S7.out.low.trans (on.below (Nat.le_refl _))
        have LV : Hid (lay7 w7 w.heap.size (.int .i64 0) (.int .i64 0) (.int .i64 0) (.slice none 0 0) (.int .i64 0) (.slice none 0 0) (.slice none 0 0) = (((((((w7.setCell ⟨w.heap.size, 0, none⟩ (.int .i64 0)).setCell ⟨w.heap.size, 1, none⟩ (.int .i64 0)).setCell ⟨w.heap.size, 2, none⟩ (.int .i64 0)).setCell ⟨w.heap.size, 3, none⟩ (.slice none 0 0)).setCell ⟨w.heap.size, 4, none⟩ (.int .i64 0)).setCell ⟨w.heap.size, 5, none⟩ (.slice none 0 0)).setCell ⟨w.heap.size, 6, none⟩ (.slice none 0 0))) := rfl
        have ce := S7.out.rd.err
        have cl : (lay7 w7 w.heap.size (.int .i64 0) (.int .i64 0) (.int .i64 0) (.slice none 0 0) (.int .i64 0) (.slice none 0 0) (.slice none 0 0)).cell? ⟨B, 1, none⟩ = some (.int .i64 E4) := by rw [on.cell (p := ⟨B, 1, none⟩) (by show B ≠ w.heap.size; have := S7.out.hB; omega)]; exact ce
        have CE : Hid (w7.drew.cell? ⟨B, 1, none⟩ = some (.int .i64 E4)) := by show _ = _; rw [drew_cell]; exact ce
        have CL : Hid ((((((((w7.setCell ⟨w.heap.size, 0, none⟩ (.int .i64 0)).setCell ⟨w.heap.size, 1, none⟩ (.int .i64 0)).setCell ⟨w.heap.size, 2, none⟩ (.int .i64 0)).setCell ⟨w.heap.size, 3, none⟩ (.slice none 0 0)).setCell ⟨w.heap.size, 4, none⟩ (.int .i64 0)).setCell ⟨w.heap.size, 5, none⟩ (.slice none 0 0)).setCell ⟨w.heap.size, 6, none⟩ (.slice none 0 0)).drew.cell? ⟨B, 1, none⟩ = some (.int .i64 E4)) := by show _ = _; rw [drew_cell, ← LV.out]; exact cl
        clear cl
        obtain ⟨LW, hLW⟩ : ∃ LW, lay7 w7 w.heap.size (.int .i64 0) (.int .i64 0) (.int .i64 0) (.slice none 0 0) (.int .i64 0) (.slice none 0 0) (.slice none 0 0) = LW := ⟨_, rfl⟩
        rw [hLW] at rL bL LV
        obtain ⟨u0, u1, u2, u3, u4, u5, u6⟩ := icell rL
        have BL : Hid (Below w.heap.size w LW) := bL
        clear hLW rL bL f0 on
        go_wp2_with fail
        go_region_held3 (fun wz => wz.cell? ⟨B, 1, none⟩ = some (.int .i64 E4)) (with_reducible first | exact CE.out | exact CL.out | fail) (fail)
        go_wp2
        rw [← LV.out]
        refine bodyPost_ret (v := .tuple #[.agg #[.int .i64 0, .int .i64 0, .int .i64 0, .slice none 0 0, .int .i64 0, .slice none 0 0, .slice none 0 0], .int .i64 E4]) (by simp [results, Tryd.results21, go_sem, u0, u1, u2, u3, u4, u5, u6]) rfl (dread_bad KR.out (Below.toDrew BL.out))
      · rw [h4, h5] at S7
        rw [h5] at ce7
        clear h4 h5
        have XL : Hid (X.length = K) := by show _ = _; rw [hX, List.length_take]; omega
        have AX : Hid (AllB X) := by show AllB _; rw [hX]; exact HA.out.take _
        have HXE : Hid (X = L3.take K) := hX
        have KL : Hid (K ≤ L3.length) := hkl
        clear hX hkl
        go_wp2_with fail
        refine (rread_any N a7 k7 X _ (by omega) AX.out I7.out.2 (by rw [XL.out, HK.out])).mono ?_
        unfold rrefV
        rintro e w8 (⟨rfl, b8, i, hi, hin⟩ | ⟨rfl, s8, b8⟩)
        · have KR : Hid (readG l = badG 4) := by
            show _ = _
            rw [KS.out]
            refine set_form (by rw [HN.out, HK.out]; exact KL.out) ?_
            rw [HN.out, HK.out, ← HXE.out]
            exact bitsOk_no hi hin
          have S8 : Hid (Sd w w8 w.heap.size B M (L3.drop K) 0 P C S none 0 0 0 none 0 0 none 0 0) := S7.out.keep b8
          clear hi hin b8 ce7
          obtain ⟨g0, g1, g2, g3, g4, g5, g6⟩ := icell (show w8.heap[w.heap.size]? = some (.cells (icells 0 0 0 none 0 0 0 none 0 0 none 0 0) 36 (0, 0)) from S8.out.res)
          have f0 := ithawed (show w8.heap[w.heap.size]? = some (.cells (icells 0 0 0 none 0 0 0 none 0 0 none 0 0) 36 (0, 0)) from S8.out.res)
          have f00 := f0 0
          have f01 := f0 1
          have f02 := f0 2
          have f03 := f0 3
          have f04 := f0 4
          have f05 := f0 5
          have f06 := f0 6
          have rL := lay7_row (p := 0) (c := 0) (s := 0) (la := none) (ln := 0) (lc := 0) (base := 0) (oa := none) (on := 0) (oc := 0) (ba := none) (bn := 0) (bc := 0) (show w8.heap[w.heap.size]? = some (.cells (icells 0 0 0 none 0 0 0 none 0 0 none 0 0) 36 (0, 0)) from S8.out.res)
          have on := lay7_only w8 w.heap.size (.int .i64 0) (.int .i64 0) (.int .i64 0) (.slice none 0 0) (.int .i64 0) (.slice none 0 0) (.slice none 0 0)
          have bL := S8.out.low.trans (on.below (Nat.le_refl _))
          have LV : Hid (lay7 w8 w.heap.size (.int .i64 0) (.int .i64 0) (.int .i64 0) (.slice none 0 0) (.int .i64 0) (.slice none 0 0) (.slice none 0 0) = (((((((w8.setCell ⟨w.heap.size, 0, none⟩ (.int .i64 0)).setCell ⟨w.heap.size, 1, none⟩ (.int .i64 0)).setCell ⟨w.heap.size, 2, none⟩ (.int .i64 0)).setCell ⟨w.heap.size, 3, none⟩ (.slice none 0 0)).setCell ⟨w.heap.size, 4, none⟩ (.int .i64 0)).setCell ⟨w.heap.size, 5, none⟩ (.slice none 0 0)).setCell ⟨w.heap.size, 6, none⟩ (.slice none 0 0))) := rfl
          obtain ⟨LW, hLW⟩ : ∃ LW, lay7 w8 w.heap.size (.int .i64 0) (.int .i64 0) (.int .i64 0) (.slice none 0 0) (.int .i64 0) (.slice none 0 0) (.slice none 0 0) = LW := ⟨_, rfl⟩
          rw [hLW] at rL bL LV
          obtain ⟨u0, u1, u2, u3, u4, u5, u6⟩ := icell rL
          have BL : Hid (Below w.heap.size w LW) := bL
          clear hLW rL bL f0 on
          go_wp2
          rw [← LV.out]
          refine bodyPost_ret (v := .tuple #[.agg #[.int .i64 0, .int .i64 0, .int .i64 0, .slice none 0 0, .int .i64 0, .slice none 0 0, .slice none 0 0], .int .i64 4]) (by simp [results, Tryd.results21, go_sem, u0, u1, u2, u3, u4, u5, u6]) rfl (dread_bad KR.out BL.out)
        · have S8 : Hid (Sd w w8 w.heap.size B M (L3.drop K) 0 P C S none 0 0 0 none 0 0 none 0 0) := S7.out.keep b8
          have RF8 : Hid (RefAt w8 (w7.heap.size + 1) w7.heap.size N (fB X)) := s8
          obtain ⟨V, hV⟩ : ∃ V, lsL (fB X) N = V := ⟨_, rfl⟩
          have HV : Hid (lsL (fB X) N = V) := hV
          have OK8 : Hid (bitsOk N X = true) := bitsOk_iff.2 s8.within
          have V16 : Hid (V.length ≤ 16) := by show _ ≤ _; rw [← hV, lsL_len]; exact Nat.le_trans (cnt_le _ _) n16
          have VM : Hid (V.length ≤ maxLen) := by show _ ≤ _; have := V16.out; unfold maxLen; omega
          have VI : Hid (∀ x ∈ V, -9223372036854775808 ≤ x ∧ x ≤ 9223372036854775807) := fun x hx => by
            rw [← HV.out] at hx
            obtain ⟨i, rfl, hi, _⟩ := lsL_mem _ _ _ hx
            omega
          have KT : Hid (readG l = tailG P C S V (L3.drop K)) := by
            show _ = _
            rw [KS.out, set_ok (by rw [HN.out, HK.out]; exact KL.out) (by rw [HN.out, HK.out, ← HXE.out]; exact OK8.out), HN.out, HK.out, ← HXE.out, HV.out]
          have SO : Hid (spOk P C S V = true) := spOk_iff.2 ⟨HX.out, by rw [HN.out, ← HV.out]; exact ls_ok _ _⟩
          rcases hq : upS (L3.drop K) 0 4294967296 with ⟨q, l3', e3⟩
          obtain ⟨q0, q1, qa, ql, qe, qf⟩ := up_gen (HA.out.drop K) (by omega) hq
          have HQ : Hid (upS (L3.drop K) 0 4294967296 = (q, l3', e3)) := hq
          have DS4 : Hid ((e3 = 0 ∧ readG l = tabG P C S V (256 * q) l3') ∨ (e3 ≠ 0 ∧ readG l = badG e3)) := by
            show _ ∨ _
            obtain ⟨j1, j2⟩ := tail_up (p := P) (c := C) (s := S) (live := V) hq
            by_cases h0 : e3 = 0
            · exact .inl ⟨h0, by rw [KT.out, j1 h0]⟩
            · exact .inr ⟨h0, by rw [KT.out, j2 h0]⟩
          have QA : Hid (AllB l3') := qa
          have l3b : l3'.length ≤ 140737488355328 := by rw [List.length_drop] at ql; omega
          have uq : IntKind.i64.wrap q = q := by rw [IntKind.wrap_i64]; omega
          have uq2 : IntKind.i64.wrap (256 * q) = 256 * q := by rw [IntKind.wrap_i64]; omega
          clear s8 b8 ce7 hV hq qa ql qe qf
          go_wp2_with fail
          refine (rlist_any (w7.heap.size + 1) w7.heap.size N (fB X) _ RF8.out).mono ?_
          rw [HV.out]
          rintro e w9 ⟨la, lc, rfl, o9, b9⟩
          have S9 : Hid (Sd w w9 w.heap.size B M (L3.drop K) 0 P C S none 0 0 0 none 0 0 none 0 0) := S8.out.keep b9
          have MM : Hid (M < w8.heap.size) := row_lt S8.out.row
          have HBM : Hid (B < M) := S8.out.hM
          have L9 : Hid (Sy w9 B M la V) := ⟨ownsI_isI VI.out o9, .inr fun ad e => by
            have := (OwnsI.parts (l := V) o9).2.2.2 ad e
            have := MM.out
            have := HBM.out
            omega⟩
          have t3 := S9.out.ic.c3
          have z3 := ithawed S9.out.row 3
          have S10 : Hid (Sd w (w9.setCell ⟨M, 3, none⟩ (.slice la V.length lc)) w.heap.size B M (L3.drop K) 0 P C S la V.length lc 0 none 0 0 none 0 0) := S9.out.set3 _ _ _
          have L10 : Hid (Sy (w9.setCell ⟨M, 3, none⟩ (.slice la V.length lc)) B M la V) := L9.out.only (Only.set M 3 _ _)
          clear o9 b9
          go_wp2_with fail
          refine (rupto_any w.heap.size B (L3.drop K) 0 4294967296 _ S10.out.rd).mono ?_
          rw [HQ.out]
          rintro e w11 ⟨rfl, r11, g11⟩
          have S11 : Hid (Sd w w11 w.heap.size B M l3' e3 P C S la V.length lc 0 none 0 0 none 0 0) := S10.out.tg (Tg.ofGrown g11) r11
          have L11 : Hid (Sy w11 B M la V) := L10.out.tg (Tg.ofGrown g11)
          have t4 := S11.out.ic.c4
          have z4 := ithawed S11.out.row 4
          have S12 : Hid (Sd w (w11.setCell ⟨M, 4, none⟩ (.int .i64 (256 * q))) w.heap.size B M l3' e3 P C S la V.length lc (256 * q) none 0 0 none 0 0) := S11.out.set4 _
          have L12 : Hid (Sy (w11.setCell ⟨M, 4, none⟩ (.int .i64 (256 * q))) B M la V) := L11.out.only (Only.set M 4 _ _)
          have M11 : Hid (M < w11.heap.size) := row_lt S11.out.row
          clear r11 g11 t3 z3
          go_wp2_with fail
          refine (rotab_any w.heap.size B l3' e3 _ S12.out.rd).mono ?_
          rintro e w13 ⟨oa, oc, ps, l6, e6, rfl, i6, r6, t6, f6, p8, ds6⟩
          have S13 : Hid (Sd w w13 w.heap.size B M l6 e6 P C S la V.length lc (256 * q) none 0 0 none 0 0) := S12.out.tg t6 r6
          have L13 : Hid (Sy w13 B M la V) := L12.out.tg t6
          have O13 : Hid (Sy w13 B M oa ps) := ⟨i6, .inr fun ad e => by
            have := f6 ad e
            have this : w11.heap.size ≤ ad.block := (by simpa using this)
            have := M11.out
            have := HBM.out
            exact ⟨by omega, by omega⟩⟩
          have DS6 : Hid ((e6 = 0 ∧ readG l = restG P C S V (256 * q) ps l6 ∧ l6.length ≤ 140737488355328 ∧ AllB l6) ∨ (e6 ≠ 0 ∧ readG l = badG e6)) := by
            show _ ∨ _
            rcases DS4.out with ⟨rfl, d2⟩ | ⟨d1, d2⟩
            · rcases ds6 with ⟨d3, _⟩ | ⟨_, d3, d4⟩ | ⟨_, d3, d4⟩
              · exact absurd rfl d3
              · refine .inr ⟨d3, ?_⟩
                rw [d2]
                rcases hk : readT l3' with ⟨x1, x2, x3⟩
                rw [hk] at d4
                rw [tab_bad hk (by rw [show x3 = e6 from d4]; exact d3)]
                rw [show x3 = e6 from d4]
              · refine .inl ⟨d3, by rw [d2, tab_ok d4], ?_, r6.allB⟩
                rcases readT_good QA.out d4 with ⟨_, _, d5⟩ | ⟨d5, _, _⟩
                · rw [d5, List.length_append] at l3b; omega
                · omega
            · rcases ds6 with ⟨d3, d4⟩ | ⟨d3, _⟩ | ⟨d3, _⟩
              · exact .inr ⟨by rw [d4]; exact d3, by rw [d4]; exact d2⟩
              · exact absurd d3 d1
              · exact absurd d3 d1
          have P8 : Hid (ps.length ≤ 8192) := p8
          have PM : Hid (ps.length ≤ maxLen) := by show _ ≤ _; unfold maxLen; omega
          have t5 := S13.out.ic.c5
          have z5 := ithawed S13.out.row 5
          have S14 : Hid (Sd w (w13.setCell ⟨M, 5, none⟩ (.slice oa ps.length oc)) w.heap.size B M l6 e6 P C S la V.length lc (256 * q) oa ps.length oc none 0 0) := S13.out.set5 _ _ _
          have L14 : Hid (Sy (w13.setCell ⟨M, 5, none⟩ (.slice oa ps.length oc)) B M la V) := L13.out.only (Only.set M 5 _ _)
          have O14 : Hid (Sy (w13.setCell ⟨M, 5, none⟩ (.slice oa ps.length oc)) B M oa ps) := O13.out.only (Only.set M 5 _ _)
          have x0 := S14.out.ic.c0
          have x1 := S14.out.ic.c1
          have x2 := S14.out.ic.c2
          have x3 := S14.out.ic.c3
          obtain ⟨Z, hZ⟩ : ∃ Z, sizeG P C S V = Z := ⟨_, rfl⟩
          have HZ : Hid (sizeG P C S V = Z) := hZ
          have zz0 : 0 ≤ Z := by rw [← hZ]; exact (size_range P C S V).1
          have zz1 : Z ≤ 4096 := by rw [← hZ]; exact (size_range P C S V).2
          clear i6 r6 t6 f6 p8 ds6 hZ t4 z4
          go_wp2_with fail
          refine (dsize_any P C S la V.length lc V Z _ rfl HZ.out L14.out.isI VM.out).mono ?_
          rintro e w15 ⟨rfl, b15⟩
          have S15 : Hid (Sd w w15 w.heap.size B M l6 e6 P C S la V.length lc (256 * q) oa ps.length oc none 0 0) := S14.out.keep b15
          have L15 : Hid (Sy w15 B M la V) := L14.out.keep b15
          have O15 : Hid (Sy w15 B M oa ps) := O14.out.keep b15
          have M15 : Hid (M < w15.heap.size) := row_lt S15.out.row
          clear b15 x0 x1 x2 x3 t5 z5
          obtain ⟨KZ, hKZ⟩ : ∃ KZ : Nat, Z = KZ := ⟨Z.toNat, by omega⟩
          subst hKZ
          have k46 : KZ ≤ 4096 := by omega
          rcases hS : bsS l6 e6 KZ with ⟨Y, l9, e9⟩
          have HS' : Hid (bsS l6 e6 KZ = (Y, l9, e9)) := hS
          obtain ⟨E, hE⟩ : ∃ E, endV l9 e9 = E := ⟨_, rfl⟩
          have HE : Hid (endV l9 e9 = E) := hE
          have DS9 : Hid ((E = 0 ∧ Y = l6 ∧ l6.length = KZ ∧ readG l = restG P C S V (256 * q) ps l6) ∨ (E ≠ 0 ∧ readG l = badG E)) := by
            show _ ∨ _
            unfold bsS at hS
            unfold endV at hE
            rcases DS6.out with ⟨rfl, kr, _, _⟩ | ⟨d1, d2⟩
            · rw [if_pos rfl] at hS
              by_cases hk : KZ ≤ l6.length
              · rw [if_pos hk] at hS
                simp only [Prod.mk.injEq] at hS
                rw [if_pos hS.2.2.symm] at hE
                by_cases hl : l6.length = KZ
                · rw [if_pos (by rw [← hS.2.1, List.length_drop]; omega)] at hE
                  exact .inl ⟨hE.symm, by rw [← hS.1, ← hl, List.take_length], hl, kr⟩
                · rw [if_neg (by rw [← hS.2.1, List.length_drop]; omega)] at hE
                  refine .inr ⟨by omega, ?_⟩
                  rw [kr, ← hE]
                  exact rest_long (by rw [HZ.out]; omega)
              · rw [if_neg hk] at hS
                simp only [Prod.mk.injEq] at hS
                rw [if_neg (by rw [← hS.2.2]; decide)] at hE
                refine .inr ⟨by omega, ?_⟩
                rw [kr, ← hE, ← hS.2.2]
                exact rest_short (by rw [HZ.out]; omega)
            · rw [if_neg d1] at hS
              simp only [Prod.mk.injEq] at hS
              rw [if_neg (by rw [← hS.2.2]; exact d1)] at hE
              exact .inr ⟨by rw [← hE, ← hS.2.2]; exact d1, by rw [← hE, ← hS.2.2]; exact d2⟩
          have BY : Hid (Calls Tryd.prog 52 #[.pointer (some ⟨B, 0, none⟩), .int .i64 (KZ : Int)] w15 fun r w' => ∃ a cap, r = .returned (.slice a Y.length cap) ∧ IsB w' a Y ∧ RfAt w' w.heap.size B l9 e9 ∧ w15.grownBy w' (some B) ∧ (∀ ad, a = some ad → w15.heap.size ≤ ad.block)) := by
            rcases DS6.out with ⟨rfl, _, lb, _⟩ | ⟨d1, _⟩
            · have := rbytes_any w.heap.size B l6 0 (KZ : Int) (KZ : Int) w15 S15.out.rd (by omega) lb
              rw [Int.toNat_natCast, hS] at this
              exact this
            · refine (rbytes_none w.heap.size B l6 e6 (KZ : Int) w15 S15.out.rd (.inl d1)).mono ?_
              rintro r w' ⟨rfl, rfl⟩
              unfold bsS at hS
              rw [if_neg d1] at hS
              simp only [Prod.mk.injEq] at hS
              obtain ⟨rfl, rfl, rfl⟩ := hS
              exact ⟨none, 0, rfl, IsB.nil _ _, S15.out.rd, World.grownBy.refl _ _, fun ad h => by cases h⟩
          clear hS hE
          go_wp2_with fail
          refine Calls.mono BY.out ?_
          rintro e w16 ⟨ba, bc, rfl, i16, r16, g16, f16⟩
          have S16 : Hid (Sd w w16 w.heap.size B M l9 e9 P C S la V.length lc (256 * q) oa ps.length oc none 0 0) := S15.out.tg (Tg.ofGrown g16) r16
          have L16 : Hid (Sy w16 B M la V) := L15.out.tg (Tg.ofGrown g16)
          have O16 : Hid (Sy w16 B M oa ps) := O15.out.tg (Tg.ofGrown g16)
          have NB : Hid (∀ ad, ba = some ad → M < ad.block) := fun ad e => by have := f16 ad e; have := M15.out; omega
          have t6 := S16.out.ic.c6
          have z6 := ithawed S16.out.row 6
          have S17 : Hid (Sd w (w16.setCell ⟨M, 6, none⟩ (.slice ba Y.length bc)) w.heap.size B M l9 e9 P C S la V.length lc (256 * q) oa ps.length oc ba Y.length bc) := S16.out.set6 _ _ _
          have L17 : Hid (Sy (w16.setCell ⟨M, 6, none⟩ (.slice ba Y.length bc)) B M la V) := L16.out.only (Only.set M 6 _ _)
          have O17 : Hid (Sy (w16.setCell ⟨M, 6, none⟩ (.slice ba Y.length bc)) B M oa ps) := O16.out.only (Only.set M 6 _ _)
          have F17 : Hid (IsB (w16.setCell ⟨M, 6, none⟩ (.slice ba Y.length bc)) ba Y) := (Tg.ofOnly (Only.set M 6 _ _)).isB i16 (fun ad e => by have := NB.out ad e; omega)
          clear i16 r16 g16 f16
          go_wp2_with fail
          refine (rend_any w.heap.size B l9 e9 _ S17.out.rd).mono ?_
          rw [HE.out]
          rintro e w18 ⟨rfl, hw18⟩
          have S18 : Hid (Sd w w18 w.heap.size B M l9 e9 P C S la V.length lc (256 * q) oa ps.length oc ba Y.length bc) := by show Sd _ _ _ _ _ _ _ _ _ _ _ _ _ _ _ _ _ _ _ _; rw [← hw18]; exact S17.out
          have L18 : Hid (Sy w18 B M la V) := by show Sy _ _ _ _ _; rw [← hw18]; exact L17.out
          have O18 : Hid (Sy w18 B M oa ps) := by show Sy _ _ _ _ _; rw [← hw18]; exact O17.out
          have F18 : Hid (IsB w18 ba Y) := by show IsB _ _ _; rw [← hw18]; exact F17.out
          clear hw18 t6 z6
          rcases DS9.out with ⟨e0, hY, hl, kr⟩ | ⟨d1, d2⟩
          rotate_left
          · have hne : (E != 0) = true := bne_iff_ne.2 d1
            have KR : Hid (readG l = badG E) := d2
            clear d1 d2
            go_wp2_with fail
            refine (rend_any w.heap.size B l9 e9 _ S18.out.rd).mono ?_
            rw [HE.out]
            rintro e w18' ⟨rfl, rfl⟩
            obtain ⟨g0, g1, g2, g3, g4, g5, g6⟩ := icell (show w18.heap[w.heap.size]? = some (.cells (icells 0 0 0 none 0 0 0 none 0 0 none 0 0) 36 (0, 0)) from S18.out.res)
            have f0 := ithawed (show w18.heap[w.heap.size]? = some (.cells (icells 0 0 0 none 0 0 0 none 0 0 none 0 0) 36 (0, 0)) from S18.out.res)
            have f00 := f0 0
            have f01 := f0 1
            have f02 := f0 2
            have f03 := f0 3
            have f04 := f0 4
            have f05 := f0 5
            have f06 := f0 6
            have rL := lay7_row (p := 0) (c := 0) (s := 0) (la := none) (ln := 0) (lc := 0) (base := 0) (oa := none) (on := 0) (oc := 0) (ba := none) (bn := 0) (bc := 0) (show w18.heap[w.heap.size]? = some (.cells (icells 0 0 0 none 0 0 0 none 0 0 none 0 0) 36 (0, 0)) from S18.out.res)
            have on := lay7_only w18 w.heap.size (.int .i64 0) (.int .i64 0) (.int .i64 0) (.slice none 0 0) (.int .i64 0) (.slice none 0 0) (.slice none 0 0)
            have bL := S18.out.low.trans (on.below (Nat.le_refl _))
            have LV : Hid (lay7 w18 w.heap.size (.int .i64 0) (.int .i64 0) (.int .i64 0) (.slice none 0 0) (.int .i64 0) (.slice none 0 0) (.slice none 0 0) = (((((((w18.setCell ⟨w.heap.size, 0, none⟩ (.int .i64 0)).setCell ⟨w.heap.size, 1, none⟩ (.int .i64 0)).setCell ⟨w.heap.size, 2, none⟩ (.int .i64 0)).setCell ⟨w.heap.size, 3, none⟩ (.slice none 0 0)).setCell ⟨w.heap.size, 4, none⟩ (.int .i64 0)).setCell ⟨w.heap.size, 5, none⟩ (.slice none 0 0)).setCell ⟨w.heap.size, 6, none⟩ (.slice none 0 0))) := rfl
            obtain ⟨LW, hLW⟩ : ∃ LW, lay7 w18 w.heap.size (.int .i64 0) (.int .i64 0) (.int .i64 0) (.slice none 0 0) (.int .i64 0) (.slice none 0 0) (.slice none 0 0) = LW := ⟨_, rfl⟩
            rw [hLW] at rL bL LV
            obtain ⟨u0, u1, u2, u3, u4, u5, u6⟩ := icell rL
            have BL : Hid (Below w.heap.size w LW) := bL
            clear hLW rL bL f0 on
            go_wp2
            rw [← LV.out]
            refine bodyPost_ret (v := .tuple #[.agg #[.int .i64 0, .int .i64 0, .int .i64 0, .slice none 0 0, .int .i64 0, .slice none 0 0, .slice none 0 0], .int .i64 E]) (by simp [results, Tryd.results21, go_sem, u0, u1, u2, u3, u4, u5, u6]) rfl (dread_bad KR.out BL.out)
          · obtain ⟨v, hv⟩ : ∃ v, rightG ⟨P, C, S, V, 256 * q, ps, Y⟩ = v := ⟨_, rfl⟩
            have HV2 : Hid (rightG ⟨P, C, S, V, 256 * q, ps, Y⟩ = v) := hv
            have Y46 : Hid (Y.length ≤ 4096) := by show _ ≤ _; rw [hY, hl]; exact k46
            have YM : Hid (Y.length ≤ maxLen) := by show _ ≤ _; have := Y46.out; unfold maxLen; omega
            have KR2 : Hid (readG l = if rightG ⟨P, C, S, V, 256 * q, ps, Y⟩ = true then (⟨P, C, S, V, 256 * q, ps, Y⟩, 0) else badG 4) := by
              show _ = _
              rw [kr, hY]
              exact rest_fit (by rw [HZ.out, hl])
            have e0' : (E != 0) = false := by rw [e0]; rfl
            clear hv hY hl e0 kr
            obtain ⟨x0, x1, x2, x3, x4, x5, x6⟩ := S18.out.ic
            go_wp2_with fail
            refine (dright_any P C S (256 * q) la oa ba _ lc _ oc _ bc V ps Y v _ rfl rfl rfl HV2.out L18.out.isI O18.out.isI VM.out PM.out YM.out).mono ?_
            rintro e w19 ⟨rfl, b19⟩
            have S19 : Hid (Sd w w19 w.heap.size B M l9 e9 P C S la V.length lc (256 * q) oa ps.length oc ba Y.length bc) := S18.out.keep b19
            have L19 : Hid (Sy w19 B M la V) := L18.out.keep b19
            have O19 : Hid (Sy w19 B M oa ps) := O18.out.keep b19
            have F19 : Hid (IsB w19 ba Y) := F18.out.keep b19
            clear b19 x0 x1 x2 x3 x4 x5 x6
            cases v
            · have KR3 : Hid (readG l = badG 4) := by show _ = _; rw [KR2.out, HV2.out]; exact if_neg (by decide)
              obtain ⟨g0, g1, g2, g3, g4, g5, g6⟩ := icell (show w19.heap[w.heap.size]? = some (.cells (icells 0 0 0 none 0 0 0 none 0 0 none 0 0) 36 (0, 0)) from S19.out.res)
              have f0 := ithawed (show w19.heap[w.heap.size]? = some (.cells (icells 0 0 0 none 0 0 0 none 0 0 none 0 0) 36 (0, 0)) from S19.out.res)
              have f00 := f0 0
              have f01 := f0 1
              have f02 := f0 2
              have f03 := f0 3
              have f04 := f0 4
              have f05 := f0 5
              have f06 := f0 6
              have rL := lay7_row (p := 0) (c := 0) (s := 0) (la := none) (ln := 0) (lc := 0) (base := 0) (oa := none) (on := 0) (oc := 0) (ba := none) (bn := 0) (bc := 0) (show w19.heap[w.heap.size]? = some (.cells (icells 0 0 0 none 0 0 0 none 0 0 none 0 0) 36 (0, 0)) from S19.out.res)
              have on := lay7_only w19 w.heap.size (.int .i64 0) (.int .i64 0) (.int .i64 0) (.slice none 0 0) (.int .i64 0) (.slice none 0 0) (.slice none 0 0)
              have bL := S19.out.low.trans (on.below (Nat.le_refl _))
              have LV : Hid (lay7 w19 w.heap.size (.int .i64 0) (.int .i64 0) (.int .i64 0) (.slice none 0 0) (.int .i64 0) (.slice none 0 0) (.slice none 0 0) = (((((((w19.setCell ⟨w.heap.size, 0, none⟩ (.int .i64 0)).setCell ⟨w.heap.size, 1, none⟩ (.int .i64 0)).setCell ⟨w.heap.size, 2, none⟩ (.int .i64 0)).setCell ⟨w.heap.size, 3, none⟩ (.slice none 0 0)).setCell ⟨w.heap.size, 4, none⟩ (.int .i64 0)).setCell ⟨w.heap.size, 5, none⟩ (.slice none 0 0)).setCell ⟨w.heap.size, 6, none⟩ (.slice none 0 0))) := rfl
              obtain ⟨LW, hLW⟩ : ∃ LW, lay7 w19 w.heap.size (.int .i64 0) (.int .i64 0) (.int .i64 0) (.slice none 0 0) (.int .i64 0) (.slice none 0 0) (.slice none 0 0) = LW := ⟨_, rfl⟩
              rw [hLW] at rL bL LV
              obtain ⟨u0, u1, u2, u3, u4, u5, u6⟩ := icell rL
              have BL : Hid (Below w.heap.size w LW) := bL
              clear hLW rL bL f0 on
              go_wp2
              rw [← LV.out]
              refine bodyPost_ret (v := .tuple #[.agg #[.int .i64 0, .int .i64 0, .int .i64 0, .slice none 0 0, .int .i64 0, .slice none 0 0, .slice none 0 0], .int .i64 4]) (by simp [results, Tryd.results21, go_sem, u0, u1, u2, u3, u4, u5, u6]) rfl (dread_bad KR3.out BL.out)
            · have KR3 : Hid (readG l = (⟨P, C, S, V, 256 * q, ps, Y⟩, 0)) := by show _ = _; rw [KR2.out, HV2.out]; exact if_pos rfl
              obtain ⟨g0, g1, g2, g3, g4, g5, g6⟩ := icell (show w19.heap[w.heap.size]? = some (.cells (icells 0 0 0 none 0 0 0 none 0 0 none 0 0) 36 (0, 0)) from S19.out.res)
              have f0 := ithawed (show w19.heap[w.heap.size]? = some (.cells (icells 0 0 0 none 0 0 0 none 0 0 none 0 0) 36 (0, 0)) from S19.out.res)
              have f00 := f0 0
              have f01 := f0 1
              have f02 := f0 2
              have f03 := f0 3
              have f04 := f0 4
              have f05 := f0 5
              have f06 := f0 6
              obtain ⟨x0, x1, x2, x3, x4, x5, x6⟩ := S19.out.ic
              have rL := lay7_row (p := P) (c := C) (s := S) (la := la) (ln := V.length) (lc := lc) (base := 256 * q) (oa := oa) (on := ps.length) (oc := oc) (ba := ba) (bn := Y.length) (bc := bc) (show w19.heap[w.heap.size]? = some (.cells (icells 0 0 0 none 0 0 0 none 0 0 none 0 0) 36 (0, 0)) from S19.out.res)
              have on := lay7_only w19 w.heap.size (.int .i64 P) (.int .i64 C) (.int .i64 S) (.slice la V.length lc) (.int .i64 (256 * q)) (.slice oa ps.length oc) (.slice ba Y.length bc)
              have bL := S19.out.low.trans (on.below (Nat.le_refl _))
              have LV : Hid (lay7 w19 w.heap.size (.int .i64 P) (.int .i64 C) (.int .i64 S) (.slice la V.length lc) (.int .i64 (256 * q)) (.slice oa ps.length oc) (.slice ba Y.length bc) = (((((((w19.setCell ⟨w.heap.size, 0, none⟩ (.int .i64 P)).setCell ⟨w.heap.size, 1, none⟩ (.int .i64 C)).setCell ⟨w.heap.size, 2, none⟩ (.int .i64 S)).setCell ⟨w.heap.size, 3, none⟩ (.slice la V.length lc)).setCell ⟨w.heap.size, 4, none⟩ (.int .i64 (256 * q))).setCell ⟨w.heap.size, 5, none⟩ (.slice oa ps.length oc)).setCell ⟨w.heap.size, 6, none⟩ (.slice ba Y.length bc))) := rfl
              have iL := L19.out.low on HB.out
              have iO := O19.out.low on HB.out
              have iF := (Tg.ofOnly on).isB F19.out (fun ad e => by have := NB.out ad e; have := HB.out; have := HBM.out; omega)
              obtain ⟨LW, hLW⟩ : ∃ LW, lay7 w19 w.heap.size (.int .i64 P) (.int .i64 C) (.int .i64 S) (.slice la V.length lc) (.int .i64 (256 * q)) (.slice oa ps.length oc) (.slice ba Y.length bc) = LW := ⟨_, rfl⟩
              rw [hLW] at rL bL LV iL iO iF
              obtain ⟨u0, u1, u2, u3, u4, u5, u6⟩ := icell rL
              have POST : Hid (ReadD w l (.returned (.tuple #[.agg #[.int .i64 P, .int .i64 C, .int .i64 S, .slice la V.length lc, .int .i64 (256 * q), .slice oa ps.length oc, .slice ba Y.length bc], .int .i64 0])) LW) := ⟨⟨P, C, S, V, 256 * q, ps, Y⟩, 0, la, lc, oa, oc, ba, bc, KR3.out, rfl, iL, iO, iF, bL, V16.out, P8.out, Y46.out⟩
              clear hLW rL bL f0 iL iO iF on
              go_wp2
              rw [← LV.out]
              refine bodyPost_ret (v := .tuple #[.agg #[.int .i64 P, .int .i64 C, .int .i64 S, .slice la V.length lc, .int .i64 (256 * q), .slice oa ps.length oc, .slice ba Y.length bc], .int .i64 0]) (by simp [results, Tryd.results21, go_sem, u0, u1, u2, u3, u4, u5, u6]) rfl POST.out
end Go.Proofs.YtbajchidpffbpaaDoor
