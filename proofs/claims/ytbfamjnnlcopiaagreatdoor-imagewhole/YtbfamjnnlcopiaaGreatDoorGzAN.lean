/- The first three rules asked: measured, kindRight, spanStands. -/
import Derived.Test.YtbfamjnnlcopiaaGreatDoorGzAM
import Derived.BigQuiet
import Derived.Deep.RegionHeld3
namespace Go.Proofs.YtbfamjnnlcopiaaGreatDoor
open Go.RowKit
set_option linter.unusedVariables false
set_option maxRecDepth 4000

theorem below_drewN {B : Nat} {a w : World} (h : Below B a w) (q : Nat) : Below B a (w.drewN q) := ⟨h.os, h.tape, h.output, h.size, h.block⟩
set_option maxHeartbeats 2000000 in
theorem measured_any (lb ms mi : Nat) (V : Vw) (A : Va) (nf nr : Nat) (f : Int → Option Nat) (i : Int) (w : World) (h : Lk w lb ms mi V A nf nr f) (r : Bool) (hr : rule1 V = r) :
    Calls Tryz.prog 117 #[.pointer (some ⟨lb, 0, none⟩), .int .i64 i] w fun e w' => e = .returned (.bool r) ∧ Below w.heap.size w w' := by
  obtain ⟨base, pgs, ks, rs, ts, bs⟩ := V
  obtain ⟨ka, ra, sa, ba, kn, rn, sn, bn, kc, rc, sc, bc⟩ := A
  have c0 : w.cell? ⟨lb, 0, none⟩ = some (.int .i64 base) := cell_of_row _ _ 0 _ _ _ h.box
  have c1 : w.cell? ⟨lb, 1, none⟩ = some (.int .i64 pgs) := cell_of_row _ _ 1 _ _ _ h.box
  have c2 : w.cell? ⟨lb, 2, none⟩ = some (.slice ka kn kc) := cell_of_row _ _ 2 _ _ _ h.box
  have c3 : w.cell? ⟨lb, 3, none⟩ = some (.slice ra rn rc) := cell_of_row _ _ 3 _ _ _ h.box
  have c5 : w.cell? ⟨lb, 5, none⟩ = some (.slice ba bn bc) := cell_of_row _ _ 5 _ _ _ h.box
  have kz : kn ≤ 64 := by have := h.vw.kz; have := h.vw.kl; simp only at *; omega
  have rz : rn ≤ 4096 := by have := h.vw.rz; have := h.vw.rl; simp only at *; omega
  have HR : Hid (decide (1 ≤ pgs ∧ pgs ≤ 4096 ∧ goodR base ∧ (bn : Int) = pgs * 256) = r) := by
    show _ = _
    rw [← hr]
    unfold rule1
    have e1 := h.vw.bl
    have e2 := h.vw.kz
    have e3 := h.vw.rz
    simp only at *
    rw [e1]
    exact decide_eq_decide.2 ⟨fun q => ⟨q.1, q.2.1, q.2.2.1, q.2.2.2, by omega, by omega⟩, fun q => ⟨q.1, q.2.1, q.2.2.1, q.2.2.2.1⟩⟩
  clear h hr
  have k0 : (kn : Int) ≤ 64 := by omega
  have r0 : (rn : Int) ≤ 4096 := by omega
  by_cases p1 : pgs < 1
  · have F : Hid (r = false) := by rw [← HR.out]; exact decide_eq_false (by omega)
    go_enter Tryz.func117, Tryz.ntmps117
    go_wp2
    go_ret
    exact ⟨ret_bool F.out.symm, Below.refl _ _⟩
  · by_cases p2 : 4096 < pgs
    · have F : Hid (r = false) := by rw [← HR.out]; exact decide_eq_false (by omega)
      go_enter Tryz.func117, Tryz.ntmps117
      go_wp2
      go_ret
      exact ⟨ret_bool F.out.symm, Below.refl _ _⟩
    · by_cases g : goodR base
      · have HG : Hid (decide (goodR base) = true) := decide_eq_true g
        have wr : IntKind.i64.wrap (pgs * 256) = pgs * 256 := by rw [IntKind.wrap_i64]; omega
        by_cases e : (bn : Int) = pgs * 256
        · have F : Hid (r = true) := by rw [← HR.out]; exact decide_eq_true ⟨by omega, by omega, g, e⟩
          obtain ⟨x, hx⟩ : ∃ x : Int, pgs * 256 = x := ⟨_, rfl⟩
          have b1 : ((bn : Int) == x) = true := by rw [beq_iff_eq]; omega
          have b2 : ((bn : Int) != x) = false := by rw [bne, b1]; rfl
          rw [hx] at wr
          clear e g
          go_enter Tryz.func117, Tryz.ntmps117
          go_wp2_with (go_at_call 55; refine (good_of base true _ HG.out).mono ?_; rintro e w' ⟨rfl, rfl⟩)
          go_quiet (fail)
          go_wp2
          go_ret
          exact ⟨ret_bool F.out.symm, below_drewN (Below.refl _ _) _⟩
        · have F : Hid (r = false) := by rw [← HR.out]; exact decide_eq_false (fun q => e q.2.2.2)
          obtain ⟨x, hx⟩ : ∃ x : Int, pgs * 256 = x := ⟨_, rfl⟩
          have b1 : ((bn : Int) == x) = false := by rw [beq_eq_false_iff_ne]; omega
          have b2 : ((bn : Int) != x) = true := by rw [bne, b1]; rfl
          rw [hx] at wr
          clear e g
          go_enter Tryz.func117, Tryz.ntmps117
          go_wp2_with (go_at_call 55; refine (good_of base true _ HG.out).mono ?_; rintro e w' ⟨rfl, rfl⟩)
          go_quiet (fail)
          go_wp2
          go_ret
          exact ⟨ret_bool F.out.symm, below_drewN (Below.refl _ _) _⟩
      · have HG : Hid (decide (goodR base) = false) := decide_eq_false g
        have F : Hid (r = false) := by rw [← HR.out]; exact decide_eq_false (fun q => g q.2.2.1)
        clear g
        go_enter Tryz.func117, Tryz.ntmps117
        go_wp2_with (go_at_call 55; refine (good_of base false _ HG.out).mono ?_; rintro e w' ⟨rfl, rfl⟩)
        go_ret
        exact ⟨ret_bool F.out.symm, Below.refl _ _⟩
set_option maxHeartbeats 2000000 in
theorem kindRight_any (lb ms mi : Nat) (V : Vw) (A : Va) (nf nr : Nat) (f : Int → Option Nat) (i : Nat) (w : World) (h : Lk w lb ms mi V A nf nr f) (hi : i < V.ks.length) (r : Bool) (hr : rule2 V i = r) :
    Calls Tryz.prog 118 #[.pointer (some ⟨lb, 0, none⟩), .int .i64 (i : Nat)] w fun e w' => e = .returned (.bool r) ∧ Below w.heap.size w w' := by
  obtain ⟨base, pgs, ks, rs, ts, bs⟩ := V
  obtain ⟨ka, ra, sa, ba, kn, rn, sn, bn, kc, rc, sc, bc⟩ := A
  have c2 : w.cell? ⟨lb, 2, none⟩ = some (.slice ka kn kc) := cell_of_row _ _ 2 _ _ _ h.box
  have kl := h.vw.kl
  simp only at kl hi
  have i0 : (i : Int) < (kn : Int) := by omega
  obtain ⟨g, o, la, lc, rfl, d0, d1, hI, hn, hm⟩ := h.vw.ks i hi
  simp only at d0 d1 hI hm
  unfold rule2 at hr
  rw [show (Vw.ks ⟨base, pgs, ks, rs, ts, bs⟩) = ks from rfl, knD_at hi] at hr
  obtain ⟨kk, hk⟩ : ∃ k, ks[i] = k := ⟨_, rfl⟩
  rw [hk] at d0 d1 hI hm hr
  obtain ⟨s, l⟩ := kk
  simp only at d0 d1 hI hm hr
  obtain ⟨x, hx⟩ : ∃ x, checkK s l = x := ⟨_, rfl⟩
  rw [hx] at hr
  have HX : Hid (checkK s l = x) := hx
  have II : Hid (IsI w la l) := hI
  have MM : Hid (l.length ≤ maxLen) := hm
  have HR : Hid ((x == 0) = r) := by rw [← hr]; rfl
  clear h hx hI hm hr hn kl hk
  go_enter Tryz.func118, Tryz.ntmps118
  go_wp2_with (go_at_call 128; refine (check_is s la lc l.length l x _ rfl HX.out II.out MM.out).mono ?_; rintro e w' ⟨rfl, b1⟩; have B1 : Hid (Below w.heap.size w w') := b1; clear b1)
  go_ret
  exact ⟨ret_bool HR.out, B1.out⟩
theorem okT_same {P : Int} {ts us : List Td} {k j : Nat} (h1 : tdD ts k = tdD us j) (h2 : endT ts k = endT us j) : okT P ts k = okT P us j := by unfold okT; rw [h1, h2]
/-- A span stands behind the one ahead of it alone. -/
theorem std_two {P : Int} (hP : 1 ≤ P ∧ P ≤ 4096) {ts : List Td} {i : Nat} (hi : i + 1 < ts.length) (h : okT P ts i = true) : stdB P [tdD ts i, tdD ts (i + 1)] = okT P ts (i + 1) := by
  unfold stdB
  rw [decide_eq_true hP, Bool.true_and]
  show ((stdU P [tdD ts i, tdD ts (i + 1)] 0 && okT P [tdD ts i, tdD ts (i + 1)] 0) && okT P [tdD ts i, tdD ts (i + 1)] 1) = _
  have h0 : okT P [tdD ts i, tdD ts (i + 1)] 0 = true := by
    have := of_decide_eq_true h
    refine decide_eq_true ⟨this.1, this.2.1, ?_, this.2.2.2⟩
    exact (newE_rt this.1).p0
  rw [h0, okT_same (us := ts) (j := i + 1) (by rfl) (by rfl)]
  rfl
theorem std_one {P : Int} (hP : 1 ≤ P ∧ P ≤ 4096) {ts : List Td} : stdB P [tdD ts 0] = okT P ts 0 := by
  unfold stdB
  rw [decide_eq_true hP, Bool.true_and]
  show (stdU P [tdD ts 0] 0 && okT P [tdD ts 0] 0) = _
  rw [okT_same (us := ts) (j := 0) (by rfl) (by rfl)]
  rfl
theorem sliceT_run (w : World) (g off n c lo hi : Nat) (h1 : lo ≤ hi) (h2 : hi ≤ c) (h3 : lo < c) : (Instr.slice 24 (.slice (some ⟨g, off, none⟩) n c) (some (.int .i64 (lo : Int))) (some (.int .i64 (hi : Int))) none).run Tryz.prog w = .ok (.slice (some ⟨g, off + lo * 4, none⟩) (hi - lo) (c - lo)) w := by
  have a1 : (lo : Int) ≤ (hi : Int) := by omega
  have a2 : (hi : Int) ≤ (c : Int) := by omega
  have a3 : ¬ c = lo := by omega
  have a4 : lo ≤ c := by omega
  simp [go_sem, Tryz.underlying24, a1, a2, a3, addr_add]
theorem RdT.part {w : World} {g off : Nat} {ts : List Td} (h : RdT w (some ⟨g, off, none⟩) ts) (lo : Nat) (us : List Td) (hu : ∀ i, i < us.length → lo + i < ts.length ∧ us.getD i ⟨0, 0, 0, []⟩ = tdD ts (lo + i)) : RdT w (some ⟨g, off + lo * 4, none⟩) us := fun i hi => by
  obtain ⟨h1, h2⟩ := hu i hi
  obtain ⟨g', o', la, lk, e, c0, c1, c2, c3, hI, hl⟩ := h (lo + i) h1
  cases e
  rw [tdD_at h1] at h2
  have h3 : us[i] = ts[lo + i] := by rw [← h2]; simp [List.getD, hi]
  have e4 : off + lo * 4 + i * 4 = off + (lo + i) * 4 := by omega
  rw [h3]
  exact ⟨g, off + lo * 4, la, lk, rfl, by rw [e4]; exact c0, by rw [e4]; exact c1, by rw [e4]; exact c2, by rw [e4]; exact c3, hI, hl⟩
set_option maxHeartbeats 2000000 in
theorem spanStands_any (lb ms mi : Nat) (V : Vw) (A : Va) (nf nr : Nat) (f : Int → Option Nat) (i : Nat) (w : World) (h : Lk w lb ms mi V A nf nr f) (hi : i < V.ts.length) (h1 : rule1 V = true) (h3 : ∀ k, k < i → rule3 V k = true) (r : Bool) (hr : rule3 V i = r) :
    Calls Tryz.prog 119 #[.pointer (some ⟨lb, 0, none⟩), .int .i64 (i : Nat)] w fun e w' => e = .returned (.bool r) ∧ Below w.heap.size w w' := by
  have hP := of_decide_eq_true h1
  obtain ⟨base, pgs, ks, rs, ts, bs⟩ := V
  obtain ⟨ka, ra, sa, ba, kn, rn, sn, bn, kc, rc, sc, bc⟩ := A
  have c1 : w.cell? ⟨lb, 1, none⟩ = some (.int .i64 pgs) := cell_of_row _ _ 1 _ _ _ h.box
  have c4 : w.cell? ⟨lb, 4, none⟩ = some (.slice sa sn sc) := cell_of_row _ _ 4 _ _ _ h.box
  have sl := h.vw.sl
  have sk := h.vw.sk
  have tz := h.vw.tz
  simp only at sl hi sk tz
  obtain ⟨g, off, la, lk, ea, _⟩ := h.vw.ts i hi
  simp only at ea
  subst ea
  have hts := h.vw.ts
  have hti := h.vw.ti
  have htb := h.tab
  simp only at hts hti
  have HTB : Hid (Tabs w) := htb
  obtain ⟨x, hx⟩ : ∃ x : Int, (i : Int) - 1 = x := ⟨_, rfl⟩
  obtain ⟨hn, hhn⟩ : ∃ hn : Nat, i + 1 = hn := ⟨_, rfl⟩
  have wx : IntKind.i64.wrap ((i : Int) - 1) = x := by rw [IntKind.wrap_i64]; omega
  have wh : IntKind.i64.wrap ((i : Int) + 1) = (hn : Int) := by rw [IntKind.wrap_i64]; omega
  obtain ⟨lo, us, hlo, hus, hul, hmx⟩ : ∃ (lo : Nat) (us : List Td), lo + us.length = hn ∧ RdT w (some ⟨g, off + lo * 4, none⟩) us ∧ (stdB pgs us = r ∧ (∀ t ∈ us, t ∈ ts)) ∧ (lo : Int) = max 0 x := by
    rcases Nat.eq_zero_or_pos i with rfl | hp
    · refine ⟨0, [tdD ts 0], by simp; omega, hts.part 0 _ (fun j hj => ?_), ⟨by rw [std_one ⟨hP.1, hP.2.1⟩]; exact hr, fun t ht => ?_⟩, by omega⟩
      · simp at hj; subst hj; exact ⟨by simpa using hi, by simp⟩
      · simp at ht; subst ht; rw [tdD_at hi]; exact List.getElem_mem hi
    · obtain ⟨j, rfl⟩ : ∃ j, i = j + 1 := ⟨i - 1, by omega⟩
      refine ⟨j, [tdD ts j, tdD ts (j + 1)], by simp; omega, hts.part j _ (fun k hk => ?_), ⟨by rw [std_two ⟨hP.1, hP.2.1⟩ hi (h3 j (by omega))]; exact hr, fun t ht => ?_⟩, by omega⟩
      · simp at hk
        rcases k with _ | _ | k
        · exact ⟨by omega, by simp⟩
        · exact ⟨by omega, by simp⟩
        · omega
      · simp at ht
        rcases ht with rfl | rfl
        · rw [tdD_at (by omega)]; exact List.getElem_mem _
        · rw [tdD_at hi]; exact List.getElem_mem _
  obtain ⟨ul, hul2⟩ : ∃ ul, us.length = ul := ⟨_, rfl⟩
  have HUS : Hid (RdT w (some ⟨g, off + lo * 4, none⟩) us) := hus
  have HUL : Hid (us.length = ul) := hul2
  have HST : Hid (stdB pgs us = r) := hul.1
  have HUI : Hid (∀ t ∈ us, -9223372036854775808 ≤ t.p ∧ t.p ≤ 9223372036854775807) := fun t ht => hti t (hul.2 t ht)
  have u4 : ul ≤ 4000000000000000000 := by omega
  have SLR : ∀ w : World, (Instr.slice 24 (.slice (some ⟨g, off, none⟩) sn sc) (some (.int .i64 (lo : Int))) (some (.int .i64 (hn : Int))) none).run Tryz.prog w = .ok (.slice (some ⟨g, off + lo * 4, none⟩) ul (sc - lo)) w := fun w => by
    have := sliceT_run w g off sn sc lo hn (by omega) (by omega) (by rw [hul2] at hlo; have : 0 < ul := by
                                                                        rcases Nat.eq_zero_or_pos ul with e | e
                                                                        · exfalso; omega
                                                                        · exact e
                                                                     omega)
    rw [this, show hn - lo = ul by omega]
  have i1 : (hn : Int) ≤ (sc : Int) := by omega
  have i2 : (lo : Int) ≤ (hn : Int) := by omega
  have i3 : ¬ (sc = lo) := by omega
  have i4 : lo ≤ hn := by omega
  have i5 : hn - lo = ul := by omega
  have i6 : IntKind.i64.wrap (lo : Int) = (lo : Int) := by rw [IntKind.wrap_i64]; omega
  have i7 : IntKind.i64.wrap (hn : Int) = (hn : Int) := by rw [IntKind.wrap_i64]; omega
  clear h h1 h3 hr hts hti htb hus hul hP
  rcases Int.lt_trichotomy x 0 with e | e | e
  · obtain rfl : lo = 0 := by omega
    obtain rfl : x = -1 := by omega
    have SLR : ∀ w : World, (Instr.slice 24 (.slice (some ⟨g, off, none⟩) sn sc) (some (.int .i64 0)) (some (.int .i64 (hn : Int))) none).run Tryz.prog w = .ok (.slice (some ⟨g, off + 0 * 4, none⟩) ul (sc - 0)) w := SLR
    clear hx hhn hlo hmx hul2 sl sk tz
    go_enter Tryz.func119, Tryz.ntmps119
    go_wp2_with fail
    go_region_held3 (fun w' => w'.cell? ⟨lb, 1, none⟩ = some (.int .i64 pgs) ∧ w'.cell? ⟨lb, 4, none⟩ = some (.slice (some ⟨g, off, none⟩) sn sc)) (first | exact ⟨c1, c4⟩ | exact ⟨d1, d4⟩)
      ((go_at_call 129; refine (lright_any pgs _ ul _ us _ HTB.out.drew HUS.out HUL.out u4 HUI.out r HST.out).mono ?_; rintro e w2 ⟨rfl, b2⟩; have B2 : Hid (Below w.heap.size w w2) := Below.ofDrew b2; have d1 := bcell B2.out c1; have d4 := bcell B2.out c4))
    go_wp2
    go_ret
    exact ⟨rfl, B2.out⟩
  · subst e
    obtain rfl : lo = 0 := by omega
    have SLR : ∀ w : World, (Instr.slice 24 (.slice (some ⟨g, off, none⟩) sn sc) (some (.int .i64 0)) (some (.int .i64 (hn : Int))) none).run Tryz.prog w = .ok (.slice (some ⟨g, off + 0 * 4, none⟩) ul (sc - 0)) w := SLR
    clear hx hhn hlo hmx hul2 sl sk tz
    go_enter Tryz.func119, Tryz.ntmps119
    go_wp2_with fail
    go_region_held3 (fun w' => w'.cell? ⟨lb, 1, none⟩ = some (.int .i64 pgs) ∧ w'.cell? ⟨lb, 4, none⟩ = some (.slice (some ⟨g, off, none⟩) sn sc)) (first | exact ⟨c1, c4⟩ | exact ⟨d1, d4⟩)
      ((go_at_call 129; refine (lright_any pgs _ ul _ us _ HTB.out.drew HUS.out HUL.out u4 HUI.out r HST.out).mono ?_; rintro e w2 ⟨rfl, b2⟩; have B2 : Hid (Below w.heap.size w w2) := Below.ofDrew b2; have d1 := bcell B2.out c1; have d4 := bcell B2.out c4))
    go_wp2
    go_ret
    exact ⟨rfl, B2.out⟩
  · have hxl : (lo : Int) = x := by omega
    rw [hxl] at SLR i2 i6
    clear hxl
    clear hx hhn hlo hmx hul2 sl sk tz
    go_enter Tryz.func119, Tryz.ntmps119
    go_wp2_with fail
    go_region_held3 (fun w' => w'.cell? ⟨lb, 1, none⟩ = some (.int .i64 pgs) ∧ w'.cell? ⟨lb, 4, none⟩ = some (.slice (some ⟨g, off, none⟩) sn sc)) (first | exact ⟨c1, c4⟩ | exact ⟨d1, d4⟩)
      ((go_at_call 129; refine (lright_any pgs _ ul _ us _ HTB.out.drew HUS.out HUL.out u4 HUI.out r HST.out).mono ?_; rintro e w2 ⟨rfl, b2⟩; have B2 : Hid (Below w.heap.size w w2) := Below.ofDrew b2; have d1 := bcell B2.out c1; have d4 := bcell B2.out c4))
    go_wp2
    go_ret
    exact ⟨rfl, B2.out⟩
end Go.Proofs.YtbfamjnnlcopiaaGreatDoor

/- Plain mathematics of layer 14: the one span in which a place lies. -/
namespace Go.Proofs.YtbfamjnnlcopiaaGreatDoor
open Go.RowKit
set_option linter.unusedVariables false
set_option maxRecDepth 4000

theorem right_at {t : Td} (h : rightT t) {k : Int} (hk : k ∈ t.l) : 0 ≤ k ∧ k < slN t.c ∧ 256 * t.p ≤ atS t k ∧ atS t k < 256 * t.p + 256 ∧ 0 ≤ t.p := by
  have rt := newE_rt h.1
  have fa := rt.facts
  obtain ⟨h1, h2⟩ := (okL_all _ _ _ h.2).1 k hk
  have p0 := rt.p0
  obtain ⟨f1, f2, f3, f4, f5, f6, f7, f8, f9, f10, f11⟩ := fa
  have n0 : 0 ≤ k * szI t.c t.s := Int.mul_nonneg (by omega) (by omega)
  unfold atS
  by_cases c7 : t.c = 7
  · have s1 : slN t.c = 1 := by rw [c7]; rfl
    obtain rfl : k = 0 := by omega
    rw [Int.zero_mul] at *
    exact ⟨by omega, by omega, by omega, by omega, p0⟩
  · have s1 : pgsN t.c t.s = 1 := by unfold pgsN; rw [if_neg c7]
    rw [s1] at f6
    have m : (k + 1) * szI t.c t.s ≤ (slN t.c : Int) * szI t.c t.s := Int.mul_le_mul_of_nonneg_right (by omega) (by omega)
    rw [Int.add_mul, Int.one_mul] at m
    exact ⟨by omega, h2, by omega, by omega, p0⟩
theorem page_of {x p : Int} (h0 : 0 ≤ p) (h1 : 256 * p ≤ x) (h2 : x < 256 * p + 256) : x.tdiv 256 = p := by
  rw [Int.tdiv_eq_ediv_of_nonneg (by omega)]; omega
theorem Hold.right {V : Vw} {j : Nat} (h : Hold V j) (hj : 3 ≤ j) (i : Nat) (hi : i < V.ts.length) : rightT (tdD V.ts i) ∧ (tdD V.ts i).p + (pgsN (tdD V.ts i).c (tdD V.ts i).s : Int) ≤ V.pgs := by
  have := of_decide_eq_true (h.r3 hj i hi)
  exact ⟨⟨this.1, this.2.1⟩, this.2.2.2⟩
theorem std_rise {P : Int} {ts : List Td} (h : stdB P ts = true) : ∀ j, j < ts.length → ∀ i, i < j → (tdD ts i).p + (pgsN (tdD ts i).c (tdD ts i).s : Int) ≤ (tdD ts j).p := by
  unfold stdB at h
  rw [Bool.and_eq_true] at h
  have ok : ∀ n, stdU P ts n = true → ∀ k, k < n → okT P ts k = true := by
    intro n
    induction n with
    | zero => intro _ k hk; omega
    | succ n ih =>
      intro hh k hk
      rw [stdU, Bool.and_eq_true] at hh
      rcases Nat.lt_or_eq_of_le (Nat.le_of_lt_succ hk) with e | rfl
      · exact ih hh.1 k e
      · exact hh.2
  intro j
  induction j with
  | zero => intro _ i hi; omega
  | succ j ih =>
    intro hj i hi
    have h1 := of_decide_eq_true (ok _ h.2 (j + 1) hj)
    have h2 : (tdD ts j).p + (pgsN (tdD ts j).c (tdD ts j).s : Int) ≤ (tdD ts (j + 1)).p := h1.2.2.1
    rcases Nat.lt_or_eq_of_le (Nat.le_of_lt_succ hi) with e | rfl
    · have := ih (by omega) i e
      omega
    · exact h2
theorem std_same {P : Int} {ts : List Td} (h : stdB P ts = true) (hr : ∀ i, i < ts.length → rightT (tdD ts i)) {i j : Nat} (hi : i < ts.length) (hj : j < ts.length) (e : (tdD ts i).p = (tdD ts j).p) : i = j := by
  have k1 := (newE_rt (hr i hi).1).facts.2.2.2.2.2.2.1
  have k2 := (newE_rt (hr j hj).1).facts.2.2.2.2.2.2.1
  rcases Nat.lt_trichotomy i j with q | q | q
  · have := std_rise h j hj i q; omega
  · exact q
  · have := std_rise h i hi j q; omega
theorem slot_of {V : Vw} {q : Nat} (h : Hold V q) (hq : 3 ≤ q) {x z : Int} {i : Nat} (hi : i < V.ts.length) (hp : (tdD V.ts i).p = x.tdiv 256) : slotB V.ts x z = (fitS (tdD V.ts i) z && (tdD V.ts i).l.any (fun k => decide (atS (tdD V.ts i) k = x))) := by
  have hr : ∀ i, i < V.ts.length → rightT (tdD V.ts i) := fun i hi => (h.right hq i hi).1
  rw [Bool.eq_iff_iff]
  unfold slotB
  rw [List.any_eq_true]
  constructor
  · rintro ⟨t, ht, hh⟩
    obtain ⟨j, hj, rfl⟩ := List.getElem_of_mem ht
    rw [← tdD_at hj] at hh
    rw [Bool.and_eq_true, List.any_eq_true] at hh
    obtain ⟨h1, k, hk, h2⟩ := hh
    obtain ⟨_, _, a1, a2, a3⟩ := right_at (hr j hj) hk
    have e := of_decide_eq_true h2
    rw [e] at a1 a2
    have := page_of a3 a1 a2
    obtain rfl := std_same (h.std hq) hr hi hj (by omega)
    rw [Bool.and_eq_true, List.any_eq_true]
    exact ⟨h1, k, hk, h2⟩
  · intro hh
    exact ⟨tdD V.ts i, by rw [tdD_at hi]; exact List.getElem_mem hi, hh⟩
theorem slot_no {V : Vw} {q : Nat} (h : Hold V q) (hq : 3 ≤ q) {x z : Int} (hp : ∀ i, i < V.ts.length → (tdD V.ts i).p ≠ x.tdiv 256) : slotB V.ts x z = false := by
  cases e : slotB V.ts x z with
  | false => rfl
  | true =>
    unfold slotB at e
    obtain ⟨t, ht, hh⟩ := List.any_eq_true.1 e
    obtain ⟨j, hj, rfl⟩ := List.getElem_of_mem ht
    rw [← tdD_at hj] at hh
    rw [Bool.and_eq_true, List.any_eq_true] at hh
    obtain ⟨h1, k, hk, h2⟩ := hh
    obtain ⟨_, _, a1, a2, a3⟩ := right_at (h.right hq j hj).1 hk
    rw [of_decide_eq_true h2] at a1 a2
    exact absurd (page_of a3 a1 a2).symm (hp j hj)
/-- A slot that is told, by its number. -/
theorem any_at {t : Td} (h : rightT t) {x : Int} {y : Int} {ok : Bool} (hs : SlotR (slN t.c) t.p (szI t.c t.s) x y ok) : (t.l.any fun k => decide (atS t k = x)) = (ok && hasB (slN t.c) (fOf t.l) y) := by
  have fa := (newE_rt h.1).facts
  rw [Bool.eq_iff_iff, List.any_eq_true, Bool.and_eq_true]
  rcases hs with ⟨rfl, i, h1, rfl, h2⟩ | ⟨rfl, rfl, h2⟩
  · unfold hasB
    rw [isP_true.2 (⟨by omega, by omega⟩ : 0 ≤ (i : Int) ∧ (i : Int) < (slN t.c : Nat)), Bool.true_and]
    have e : fOf t.l ((i : Int).toNat) = decide ((i : Int) ∈ t.l) := by unfold fOf; simp
    rw [e]
    constructor
    · rintro ⟨k, hk, hd⟩
      have hd := of_decide_eq_true hd
      obtain ⟨k0, k1, _⟩ := right_at h hk
      unfold atS at hd
      obtain ⟨n, rfl⟩ : ∃ n : Nat, k = (n : Int) := ⟨k.toNat, by omega⟩
      have := mul_inj (i := n) (j := i) fa.2.2.2.1 (by omega)
      subst this
      exact ⟨rfl, decide_eq_true hk⟩
    · rintro ⟨_, hk⟩
      exact ⟨(i : Int), of_decide_eq_true hk, decide_eq_true h2.symm⟩
  · constructor
    · rintro ⟨k, hk, hd⟩
      have hd := of_decide_eq_true hd
      obtain ⟨k0, k1, _⟩ := right_at h hk
      unfold atS at hd
      obtain ⟨n, rfl⟩ : ∃ n : Nat, k = (n : Int) := ⟨k.toNat, by omega⟩
      exact absurd hd.symm (h2 n (by omega))
    · rintro ⟨hf, _⟩
      cases hf
end Go.Proofs.YtbfamjnnlcopiaaGreatDoor

/- The fourth rule asked: lies, rowRight. -/
namespace Go.Proofs.YtbfamjnnlcopiaaGreatDoor
open Go.RowKit
set_option linter.unusedVariables false
set_option maxRecDepth 4000

theorem tdiv_bd {x : Int} (h : i64 x) : i64 (x.tdiv 256) := by
  unfold i64 at *
  rcases Int.le_total 0 x with h0 | h0
  · rw [Int.tdiv_eq_ediv_of_nonneg h0]; omega
  · have e := Int.neg_tdiv (-x) 256
    rw [Int.neg_neg] at e
    rw [e, Int.tdiv_eq_ediv_of_nonneg (by omega)]; omega
set_option maxRecDepth 20000 in
set_option maxHeartbeats 4000000 in
theorem lies_any (lb ms mi : Nat) (V : Vw) (A : Va) (nf nr : Nat) (f : Int → Option Nat) (gen kd x : Int) (lv : Bool) (w : World) (h : Lk w lb ms mi V A nf nr f) (hV : Hold V 3) (hk : i64 kd) (hx : i64 x) (r : Bool) (hr : liesB V ⟨gen, lv, kd, x⟩ = r) :
    Calls Tryz.prog 130 #[.pointer (some ⟨lb, 0, none⟩), .agg #[.int .i64 gen, .bool lv, .int .i64 kd, .int .i64 x]] w fun e w' => e = .returned (.bool r) ∧ Below w.heap.size w w' := by
  obtain ⟨E, hE⟩ : ∃ E, w.alloc (.cells #[.int .i64 gen, .bool lv, .int .i64 kd, .int .i64 x] 73) = E := ⟨_, rfl⟩
  have bE : Below w.heap.size w E := by rw [← hE]; exact (Below.refl _ w).alloc (Nat.le_refl _) _
  have rE : E.heap[w.heap.size]? = some (.cells #[.int .i64 gen, .bool lv, .int .i64 kd, .int .i64 x] 73 (0, 0)) := by rw [← hE]; exact Go.heap_alloc_new w _
  have LE := h.keep bE
  have d2 : E.cell? ⟨w.heap.size, 2, none⟩ = some (.int .i64 kd) := cell_of_row _ _ 2 _ _ _ rE
  have d3 : E.cell? ⟨w.heap.size, 3, none⟩ = some (.int .i64 x) := cell_of_row _ _ 3 _ _ _ rE
  have HE : Hid (w.alloc (.cells #[.int .i64 gen, .bool lv, .int .i64 kd, .int .i64 x] 73) = E) := hE
  have HBE : Hid (Below w.heap.size w E) := bE
  have kl := h.vw.kl
  have c2 : E.cell? ⟨lb, 2, none⟩ = some (.slice A.ka A.kn A.kc) := cell_of_row _ _ 2 _ _ _ LE.box
  have c6 : E.cell? ⟨lb, 6, none⟩ = some (.map (some ms)) := cell_of_row _ _ 6 _ _ _ LE.box
  obtain ⟨nb, hnb⟩ : ∃ nb, w.heap.size = nb := ⟨_, rfl⟩
  rw [hnb] at d2 d3
  unfold liesB at hr
  simp only at hr
  by_cases k0 : kd < 0
  · have F : Hid (r = false) := by rw [← hr, decide_eq_false (by omega)]; rfl
    have g0 : decide (kd < 0) = true := decide_eq_true k0
    clear h LE hr hV
    go_enter Tryz.func130, Tryz.ntmps130
    go_wp2_with fail
    (try rw [HE.out]); (try rw [hnb])
    go_quiet (fail)
    go_wp2
    go_ret
    exact ⟨ret_bool F.out.symm, below_drewN HBE.out _⟩
  · have g0 : decide (kd < 0) = false := decide_eq_false k0
    by_cases k1 : (A.kn : Int) ≤ kd
    · have F : Hid (r = false) := by rw [← hr, decide_eq_false (by omega)]; rfl
      have g1 : decide ((A.kn : Int) ≤ kd) = true := decide_eq_true k1
      clear h LE hr hV
      go_enter Tryz.func130, Tryz.ntmps130
      go_wp2_with fail
      (try rw [HE.out]); (try rw [hnb])
      go_quiet (fail)
      go_wp2
      go_ret
      exact ⟨ret_bool F.out.symm, below_drewN HBE.out _⟩
    · have g1 : decide ((A.kn : Int) ≤ kd) = false := decide_eq_false k1
      rw [decide_eq_true (by omega), Bool.true_and] at hr
      obtain ⟨kj, rfl⟩ : ∃ kj : Nat, kd = (kj : Int) := ⟨kd.toNat, by omega⟩
      have hkj : kj < V.ks.length := by omega
      have kk0 : (kj : Int) < (A.kn : Int) := by omega
      obtain ⟨g, o, la, lc, ea, e0, _⟩ := LE.vw.ks kj hkj
      rw [ea] at c2
      obtain ⟨z, hz⟩ : ∃ z, V.ks[kj].s = z := ⟨_, rfl⟩
      rw [hz] at e0
      rw [Int.toNat_natCast, knD_at hkj, hz] at hr
      obtain ⟨q, hq⟩ : ∃ q, x.tdiv 256 = q := ⟨_, rfl⟩
      have qi : i64 q := by rw [← hq]; exact tdiv_bd hx
      have wq : IntKind.i64.wrap q = q := by unfold i64 at qi; rw [IntKind.wrap_i64]; omega
      have LQ : ∀ n, (Instr.lookup 139 (.map (some ms)) (.int .i64 q) false).run Tryz.prog (E.drewN n) = .ok (ptO (f q)) (E.drewN n) := fun n => (LE.sp.same (w' := E.drewN n) (fun o ho => ho)).look qi
      cases hf : f q with
      | none =>
        have F : Hid (r = false) := by
          rw [← hr]
          refine slot_no hV (Nat.le_refl _) (fun i hi e => ?_)
          have := h.f2 i hi (hV.right (Nat.le_refl _) i hi).1
          rw [e, hq, hf] at this
          cases this
        rw [hf] at LQ
        have LQ : ∀ n, (Instr.lookup 139 (.map (some ms)) (.int .i64 q) false).run Tryz.prog (E.drewN n) = .ok (.pointer none) (E.drewN n) := LQ
        clear h LE hr hV
        go_enter Tryz.func130, Tryz.ntmps130
        go_wp2_with fail
        go_quiet (fail)
        go_wp2_with fail
        go_quiet (fail)
        go_wp2_with fail
        go_quiet (fail)
        go_wp2_with (go_at_call 100; refine (slot_nil x _).mono ?_; rintro e w' ⟨rfl, rfl⟩)
        go_ret
        exact ⟨ret_bool F.out.symm, below_drewN HBE.out _⟩
      | some sb =>
        obtain ⟨i, hi, hrt, hp, b, g2, sp⟩ := LE.f1 q sb hf
        have hr2 := slot_of hV (Nat.le_refl _) (z := z) hi (hp.trans hq.symm)
        rw [hr] at hr2
        have hany := fun y ok => any_at hrt (x := x) (y := y) (ok := ok)
        have HTB : Hid (Tabs E) := LE.tab
        obtain ⟨t, ht⟩ : ∃ t, tdD V.ts i = t := ⟨_, rfl⟩
        rw [ht] at hrt hp sp hr2 hany
        obtain ⟨p, c, s, l⟩ := t
        simp only at hp sp hany
        have HRT : Hid (Rt p c s) := newE_rt hrt.1
        have SP : Hid (SpanAt E sb b g2 p c s (fOf l)) := sp
        have BX : Hid (Bx E sb p c s) := sp.box
        have HR2 : Hid (r = (fitS ⟨p, c, s, l⟩ z && l.any (fun k => decide (atS ⟨p, c, s, l⟩ k = x)))) := hr2
        have HAN : Hid (∀ (y : Int) (ok : Bool), SlotR (slN c) p (szI c s) x y ok → (l.any fun k => decide (atS ⟨p, c, s, l⟩ k = x)) = (ok && hasB (slN c) (fOf l) y)) := hany
        have HCO : Hid (c = ofI z ∨ ¬ c = ofI z) := Classical.em _
        obtain ⟨co, hco⟩ : ∃ co, ofI z = co := ⟨_, rfl⟩
        have HO : Hid (ofI z = co) := hco
        rw [hf] at LQ
        have LQ : ∀ n, (Instr.lookup 139 (.map (some ms)) (.int .i64 q) false).run Tryz.prog (E.drewN n) = .ok (.pointer (some ⟨sb, 0, none⟩)) (E.drewN n) := LQ
        clear h LE hr hr2 hV sp hany hrt hp hi ht hf hco
        go_enter Tryz.func130, Tryz.ntmps130
        go_wp2_with fail
        go_quiet (fail)
        go_wp2_with fail
        go_quiet (fail)
        go_wp2_with fail
        go_quiet (fail)
        go_wp2_with fail
        refine (slot_any sb p c s x _ (BX.out.drewN _) (HTB.out.drewN _).1 HRT.out hx).mono ?_
        rintro e w' ⟨y, ok, rfl, sr, rfl⟩
        have HA := HAN.out y ok sr
        have FR : Hid (r = (decide (c = co ∧ (c = 7 → s = z)) && (ok && hasB (slN c) (fOf l) y))) := by rw [HR2.out, HA, ← HO.out]; rfl
        clear HA sr
        cases ok with
        | false =>
          have F : Hid (r = false) := by show r = false; rw [FR.out]; simp
          go_wp2
          go_ret
          exact ⟨ret_bool F.out.symm, below_drewN HBE.out _⟩
        | true =>
          obtain ⟨hb, hhb⟩ : ∃ hb, hasB (slN c) (fOf l) y = hb := ⟨_, rfl⟩
          have HHB : Hid (hasB (slN c) (fOf l) y = hb) := hhb
          rw [hhb] at FR
          clear hhb
          cases hb with
          | false =>
            have F : Hid (r = false) := by show r = false; rw [FR.out]; simp
            go_wp2_with (go_at_call 138; refine (has_any sb b g2 p c s (fOf l) y _ (SP.out.drewN _)).mono ?_; rw [HHB.out]; rintro e w' ⟨rfl, rfl⟩)
            go_ret
            exact ⟨ret_bool F.out.symm, below_drewN HBE.out _⟩
          | true =>
            by_cases hc : c = co
            · have b1 : (c == co) = true := by rw [beq_iff_eq]; exact hc
              have b2 : (c != co) = false := by rw [bne, b1]; rfl
              by_cases c7 : c = 7
              · have F : Hid (r = (s == z)) := by
                  show r = (s == z)
                  rw [FR.out]
                  by_cases e : s = z
                  · rw [decide_eq_true ⟨hc, fun _ => e⟩]; simp [e]
                  · rw [decide_eq_false (fun q => e (q.2 c7))]; simp [e]
                have b3 : (c == 7) = true := by rw [beq_iff_eq]; exact c7
                have b4 : (c != 7) = false := by rw [bne, b3]; rfl
                have ZZ : Hid (szI c s = s) := by show szI c s = s; unfold szI; rw [if_pos c7]
                clear c7 hc
                go_wp2_with (first
                  | (go_at_call 138; refine (has_any sb b g2 p c s (fOf l) y _ (SP.out.drewN _)).mono ?_; rw [HHB.out]; rintro e w' ⟨rfl, rfl⟩)
                  | (go_at_call 139; refine (class_any sb p c s _ (BX.out.drewN _)).mono ?_; rintro e w' ⟨rfl, rfl⟩)
                  | (go_at_call 133; refine (cof_any z _ (HTB.out.drewN _).1).mono ?_; rw [HO.out]; rintro e w' ⟨rfl, rfl⟩)
                  | (go_at_call 63; refine (size_any sb p c s _ (BX.out.drewN _) (HTB.out.drewN _).1 HRT.out.c0 HRT.out.c7).mono ?_; rw [ZZ.out]; rintro e w' ⟨rfl, rfl⟩))
                go_ret
                exact ⟨ret_bool F.out.symm, below_drewN HBE.out _⟩
              · have F : Hid (r = true) := by show r = true; rw [FR.out, decide_eq_true ⟨hc, fun q => absurd q c7⟩]; rfl
                have b3 : (c == 7) = false := by rw [beq_eq_false_iff_ne]; exact c7
                have b4 : (c != 7) = true := by rw [bne, b3]; rfl
                clear c7 hc
                go_wp2_with (first
                  | (go_at_call 138; refine (has_any sb b g2 p c s (fOf l) y _ (SP.out.drewN _)).mono ?_; rw [HHB.out]; rintro e w' ⟨rfl, rfl⟩)
                  | (go_at_call 139; refine (class_any sb p c s _ (BX.out.drewN _)).mono ?_; rintro e w' ⟨rfl, rfl⟩)
                  | (go_at_call 133; refine (cof_any z _ (HTB.out.drewN _).1).mono ?_; rw [HO.out]; rintro e w' ⟨rfl, rfl⟩))
                go_ret
                exact ⟨ret_bool F.out.symm, below_drewN HBE.out _⟩
            · have b1 : (c == co) = false := by rw [beq_eq_false_iff_ne]; exact hc
              have b2 : (c != co) = true := by rw [bne, b1]; rfl
              have F : Hid (r = false) := by show r = false; rw [FR.out, decide_eq_false (fun q => hc q.1)]; rfl
              clear hc
              go_wp2_with (first
                | (go_at_call 138; refine (has_any sb b g2 p c s (fOf l) y _ (SP.out.drewN _)).mono ?_; rw [HHB.out]; rintro e w' ⟨rfl, rfl⟩)
                | (go_at_call 139; refine (class_any sb p c s _ (BX.out.drewN _)).mono ?_; rintro e w' ⟨rfl, rfl⟩)
                | (go_at_call 133; refine (cof_any z _ (HTB.out.drewN _).1).mono ?_; rw [HO.out]; rintro e w' ⟨rfl, rfl⟩))
              go_ret
              exact ⟨ret_bool F.out.symm, below_drewN HBE.out _⟩
end Go.Proofs.YtbfamjnnlcopiaaGreatDoor
