/- Both caches: do, Take. -/
import Derived.Test.YtgmljgogmbaioaaGreatDoorMgAC
namespace Go.Proofs.YtgmljgogmbaioaaGreatDoor
open Go.RowKit
set_option linter.unusedVariables false
set_option maxRecDepth 4000

set_option maxRecDepth 20000 in
set_option maxHeartbeats 4000000 in
theorem do_take (w0 wr : World) (L M : Nat → Nat) (cb rb tb P W : Nat) (m : List Sg) (ta : Option Addr) (tl : List Int) (tn tc : Nat) (kd xw xn : Int) (h : Duo w0 wr L M cb rb tb P W m m ta tl tn tc) (hxw : -9223372036854775808 ≤ xw ∧ xw ≤ 9223372036854775807) (hxn : -9223372036854775808 ≤ xn ∧ xn ≤ 9223372036854775807) (htn : tn < 1000000) (hk : kd = 1) :
    Calls Tryz.prog 14 #[.pointer (some ⟨cb, 0, none⟩), .pointer (some ⟨rb, 0, none⟩), .agg #[.int .i64 kd, .int .i64 xw, .int .i64 xn], .pointer (some ⟨tb, 0, none⟩)] wr fun e w' => e = .returned (.bool true) ∧ ∃ L' M' m' ta' tl' tn' tc', Duo w0 w' L' M' cb rb tb P W m' m' ta' tl' tn' tc' ∧ tn' ≤ tn + 1 := by
  obtain ⟨E, hE⟩ : ∃ E, wr.alloc (.cells #[.int .i64 kd, .int .i64 xw, .int .i64 xn] 37) = E := ⟨_, rfl⟩
  obtain ⟨L1, M1, d1, x1⟩ := h.box kd xw xn E hE
  have D1 : Hid (Duo w0 E L1 M1 cb rb tb P W m m ta tl tn tc) := d1
  have X1 : Hid (Fr E L1 M1 wr.heap.size (xcall kd xw xn)) := x1
  have HE : Hid (wr.alloc (.cells #[.int .i64 kd, .int .i64 xw, .int .i64 xn] 37) = E) := hE
  obtain ⟨c0, c1, c2⟩ := xcell x1
  have n1 : (kd == 1) = true := by rw [beq_iff_eq]; omega
  have FT : Hid (Fit W P 0 (takeM P W xw xn m).2.2) := take_fit h.okc.fit
  have AB : (takeM P W xw xn m).1 ≤ 1048576 := take_place h.okc.fit h.okc.p1
  have HRG : Hid (-1 ≤ ofI xn ∧ ofI xn ≤ 7) := ofI_range xn
  have H7 : Hid (ofI xn = 7 → 0 ≤ xn) := fun e => by have := ofI_cases xn; omega
  obtain ⟨A, B, m', hT⟩ : ∃ A B m', takeM P W xw xn m = (A, B, m') := ⟨_, _, _, rfl⟩
  have HT : Hid (takeM P W xw xn m = (A, B, m')) := hT
  rw [hT] at FT AB
  simp only at FT AB
  clear h d1 x1 hE hT hk
  go_enter Tryz.func14, Tryz.ntmps14
  go_upto_region 1 with (fail)
  rw [HE.out]
  go_wp2_with fail
  refine (ktake_any L1 cb P W m xw xn _ D1.out.ca D1.out.okc HRG.out H7.out).mono ?_
  rw [HT.out]
  rintro e w2 ⟨rfl, l2⟩
  obtain ⟨L2, M2, d2, f2⟩ := D1.out.code2 l2 FT.out
  have D2 : Hid (Duo w0 w2 L2 M2 cb rb tb P W m' m ta tl tn tc) := d2
  have X2 : Hid (Fr w2 L2 M2 wr.heap.size (xcall kd xw xn)) := f2 _ _ X1.out
  obtain ⟨p0, p1, p2⟩ := xcell X2.out
  clear l2 d2 f2 c0 c1 c2
  go_wp2_with fail
  refine (mtake_any M2 rb P W m xw xn _ D2.out.rf D2.out.okr D2.out.sz).mono ?_
  rw [HT.out]
  rintro e w3 ⟨rfl, l3⟩
  obtain ⟨L3, M3, d3, f3⟩ := D2.out.ref2 l3 FT.out
  have D3 : Hid (Duo w0 w3 L3 M3 cb rb tb P W m' m' ta tl tn tc) := d3
  have t3 : w3.cell? ⟨tb, 0, none⟩ = some (.slice ta tn tc) := cell_of_row _ _ 0 _ _ _ d3.tbx
  have ee : ((A : Int) == (A : Int)) = true := by simp
  have ef : ((B : Int) == (B : Int)) = true := by simp
  clear l3 d3 f3 p0 p1 p2
  by_cases hB : B = 0
  · subst hB
    obtain ⟨D, hD⟩ : ∃ D, w3.alloc (.cells #[.int .i64 (A : Nat)] 3) = D := ⟨_, rfl⟩
    have bD : Below w3.heap.size w3 D := by rw [← hD]; exact (Below.refl _ w3).alloc (Nat.le_refl _) _
    have cD : D.cell? ⟨w3.heap.size, 0, none⟩ = some (.int .i64 (A : Nat)) := by rw [← hD]; exact cell_of_row _ _ 0 _ _ _ (Go.heap_alloc_new w3 _)
    obtain ⟨a9, c9, w9, run9, o9, u9, n9⟩ := appI_run w0.heap.size D (Nat.le_trans D3.out.bel.size bD.size) ta tl tn tc (D3.out.own.keep bD) D3.out.tln w3.heap.size (A : Int) 1 cD (by have := D3.out.tln; omega)
    obtain ⟨d9, fz⟩ := D3.out.took bD u9 o9 n9 (by omega)
    have D9 : Hid (∃ L M, Duo w0 (w9.setCell ⟨tb, 0, none⟩ (.slice a9 (tn + 1) c9)) L M cb rb tb P W m' m' a9 (tl ++ [(A : Int)]) (tn + 1) c9) := ⟨_, _, d9⟩
    have RUN9 : Hid ((Builtin.append_ #[34, 34] 34 #[.slice ta tn tc, .slice (some ⟨w3.heap.size, 0, none⟩) 1 1]).run Tryz.prog D = .ok (.slice a9 (tn + 1) c9) w9) := run9
    have tz := frozen_of_row _ _ 0 _ _ (D3.out.tbx)
    have t9 : w9.cell? ⟨tb, 0, none⟩ = some (.slice ta tn tc) := by
      have tne : ob ta ≠ some tb := own_ne_box D3.out.own D3.out.tbx (by decide)
      exact cell_of_row _ _ 0 _ _ _ (u9.block tb _ (bblock bD D3.out.tbx) tne)
    clear bD cD run9 o9 u9 n9 d9
    go_wp2_with (at_builtin; refine wpList_runi rfl rfl _ _ rfl (.slice ta tn tc) (.slice (some ⟨w3.heap.size, 0, none⟩) 1 1) _ _ rfl rfl RUN9.out ?_)
    go_ret
    obtain ⟨La, Ma, da⟩ := D9.out
    exact ⟨rfl, La, Ma, m', a9, _, _, c9, da, Nat.le_refl _⟩
  · have e0 : ((B : Int) == 0) = false := by rw [beq_eq_false_iff_ne]; omega
    go_wp2
    go_ret
    exact ⟨rfl, L3, M3, m', ta, tl, tn, tc, D3.out, by omega⟩
end Go.Proofs.YtgmljgogmbaioaaGreatDoor

/- Both caches: do, Give. -/
namespace Go.Proofs.YtgmljgogmbaioaaGreatDoor
open Go.RowKit
set_option linter.unusedVariables false
set_option maxRecDepth 4000

set_option maxRecDepth 20000 in
set_option maxHeartbeats 4000000 in
theorem do_give (w0 wr : World) (L M : Nat → Nat) (cb rb tb P W : Nat) (m : List Sg) (ta : Option Addr) (tl : List Int) (tn tc : Nat) (kd xw xn : Int) (h : Duo w0 wr L M cb rb tb P W m m ta tl tn tc) (hxw : -9223372036854775808 ≤ xw ∧ xw ≤ 9223372036854775807) (hxn : -9223372036854775808 ≤ xn ∧ xn ≤ 9223372036854775807) (htn : tn < 1000000) (hk : kd = 2) :
    Calls Tryz.prog 14 #[.pointer (some ⟨cb, 0, none⟩), .pointer (some ⟨rb, 0, none⟩), .agg #[.int .i64 kd, .int .i64 xw, .int .i64 xn], .pointer (some ⟨tb, 0, none⟩)] wr fun e w' => e = .returned (.bool true) ∧ ∃ L' M' m' ta' tl' tn' tc', Duo w0 w' L' M' cb rb tb P W m' m' ta' tl' tn' tc' ∧ tn' ≤ tn + 1 := by
  obtain ⟨E, hE⟩ : ∃ E, wr.alloc (.cells #[.int .i64 kd, .int .i64 xw, .int .i64 xn] 37) = E := ⟨_, rfl⟩
  obtain ⟨L1, M1, d1, x1⟩ := h.box kd xw xn E hE
  have D1 : Hid (Duo w0 E L1 M1 cb rb tb P W m m ta tl tn tc) := d1
  have X1 : Hid (Fr E L1 M1 wr.heap.size (xcall kd xw xn)) := x1
  have HE : Hid (wr.alloc (.cells #[.int .i64 kd, .int .i64 xw, .int .i64 xn] 37) = E) := hE
  obtain ⟨c0, c1, c2⟩ := xcell x1
  have n1 : (kd == 1) = false := by rw [beq_eq_false_iff_ne]; omega
  have n5 : (kd == 5) = false := by rw [beq_eq_false_iff_ne]; omega
  have n2 : (kd == 2) = true := by rw [beq_iff_eq]; omega
  have FT : Hid (∀ x, Fit W P 0 (giveM W xw x m).2) := fun x => give_fit h.okc.fit
  obtain ⟨R, hR⟩ : ∃ R, liveB m xn = R := ⟨_, rfl⟩
  have HR : Hid (liveB m xn = R) := hR
  clear h d1 x1 hE hk hR
  go_enter Tryz.func14, Tryz.ntmps14
  go_upto_region 1 with (fail)
  rw [HE.out]
  obtain ⟨B, m', hG⟩ : ∃ B m', giveM W xw xn m = (B, m') := ⟨_, _, rfl⟩
  have HG : Hid (giveM W xw xn m = (B, m')) := hG
  have FTG : Hid (Fit W P 0 m') := by have := FT.out xn; rw [hG] at this; exact this
  clear hG
  have rr : (R == R) = true := by simp
  have ef : ((B : Int) == (B : Int)) = true := by simp
  go_wp2_with fail
  go_region_held3 (fun w' => w'.cell? ⟨wr.heap.size, 1, none⟩ = some (.int .i64 xw)) (first | exact s1 | exact r1 | exact q1 | exact p1 | exact c1)
    ((first
      | (go_at_call 21; refine (live_ca L1 cb P W m xn _ (D1.out.ca.keep (Ext.refl _ _) ((Below.refl _ _).drew)) D1.out.okc hxn R HR.out).mono ?_; rintro e w2 ⟨rfl, b2⟩; have D2 : Hid (∃ L2 M2, Duo w0 w2 L2 M2 cb rb tb P W m m ta tl tn tc ∧ Fr w2 L2 M2 wr.heap.size (xcall kd xw xn)) := (by obtain ⟨L2, M2, d2, f2, _⟩ := (D1.out.drew 1).read2 b2; exact ⟨L2, M2, d2, f2 _ _ X1.out⟩); have p1 : w2.cell? ⟨wr.heap.size, 1, none⟩ = some (.int .i64 xw) := (by obtain ⟨_, _, _, f⟩ := D2.out; exact (xcell f).2.1); clear b2)
      | (have g2 := D2; go_at_call 35; obtain ⟨L2, M2, d2, x2⟩ := D2.out; refine (mlive_any M2 rb P W m xn _ d2.rf d2.okr d2.sz hxn R HR.out).mono ?_; rintro e w3 ⟨rfl, b3⟩; have D3 : Hid (∃ L3 M3, Duo w0 w3 L3 M3 cb rb tb P W m m ta tl tn tc ∧ Fr w3 L3 M3 wr.heap.size (xcall kd xw xn)) := (by obtain ⟨L3, M3, d3, f3, _⟩ := d2.read2 b3; exact ⟨L3, M3, d3, f3 _ _ x2⟩); have q1 : w3.cell? ⟨wr.heap.size, 1, none⟩ = some (.int .i64 xw) := (by obtain ⟨_, _, _, f⟩ := D3.out; exact (xcell f).2.1); clear b3)
      | (have g3 := D3; go_at_call 26; obtain ⟨L3, M3, d3, x3⟩ := D3.out; refine (kgive_any L3 cb P W m xw xn _ d3.ca d3.okc hxn).mono ?_; rw [HG.out]; rintro e w4 ⟨rfl, l4⟩; have D4 : Hid (∃ L4 M4, Duo w0 w4 L4 M4 cb rb tb P W m' m ta tl tn tc ∧ Fr w4 L4 M4 wr.heap.size (xcall kd xw xn)) := (by obtain ⟨L4, M4, d4, f4⟩ := d3.code2 l4 FTG.out; exact ⟨L4, M4, d4, f4 _ _ x3⟩); have r1 : w4.cell? ⟨wr.heap.size, 1, none⟩ = some (.int .i64 xw) := (by obtain ⟨_, _, _, f⟩ := D4.out; exact (xcell f).2.1); clear l4)
      | (have g4 := D4; go_at_call 34; obtain ⟨L4, M4, d4, x4⟩ := D4.out; refine (mgive_any M4 rb P W m xw xn _ d4.rf d4.okr d4.sz hxn).mono ?_; rw [HG.out]; rintro e w5 ⟨rfl, l5⟩; have D5 : Hid (∃ L5 M5, Duo w0 w5 L5 M5 cb rb tb P W m' m' ta tl tn tc ∧ Fr w5 L5 M5 wr.heap.size (xcall kd xw xn)) := (by obtain ⟨L5, M5, d5, f5⟩ := d4.ref2 l5 FTG.out; exact ⟨L5, M5, d5, f5 _ _ x4⟩); have s1 : w5.cell? ⟨wr.heap.size, 1, none⟩ = some (.int .i64 xw) := (by obtain ⟨_, _, _, f⟩ := D5.out; exact (xcell f).2.1); clear l5)))
  go_wp2
  go_ret
  obtain ⟨La, Ma, da, _⟩ := D5.out
  exact ⟨rfl, La, Ma, m', ta, tl, tn, tc, da, by omega⟩
end Go.Proofs.YtgmljgogmbaioaaGreatDoor

/- Both caches: do, Flush. -/
namespace Go.Proofs.YtgmljgogmbaioaaGreatDoor
open Go.RowKit
set_option linter.unusedVariables false
set_option maxRecDepth 4000

set_option maxRecDepth 20000 in
set_option maxHeartbeats 4000000 in
theorem do_flush (w0 wr : World) (L M : Nat → Nat) (cb rb tb P W : Nat) (m : List Sg) (ta : Option Addr) (tl : List Int) (tn tc : Nat) (kd xw xn : Int) (h : Duo w0 wr L M cb rb tb P W m m ta tl tn tc) (hxw : -9223372036854775808 ≤ xw ∧ xw ≤ 9223372036854775807) (hxn : -9223372036854775808 ≤ xn ∧ xn ≤ 9223372036854775807) (htn : tn < 1000000) (hk : kd = 3) :
    Calls Tryz.prog 14 #[.pointer (some ⟨cb, 0, none⟩), .pointer (some ⟨rb, 0, none⟩), .agg #[.int .i64 kd, .int .i64 xw, .int .i64 xn], .pointer (some ⟨tb, 0, none⟩)] wr fun e w' => e = .returned (.bool true) ∧ ∃ L' M' m' ta' tl' tn' tc', Duo w0 w' L' M' cb rb tb P W m' m' ta' tl' tn' tc' ∧ tn' ≤ tn + 1 := by
  obtain ⟨E, hE⟩ : ∃ E, wr.alloc (.cells #[.int .i64 kd, .int .i64 xw, .int .i64 xn] 37) = E := ⟨_, rfl⟩
  obtain ⟨L1, M1, d1, x1⟩ := h.box kd xw xn E hE
  have D1 : Hid (Duo w0 E L1 M1 cb rb tb P W m m ta tl tn tc) := d1
  have X1 : Hid (Fr E L1 M1 wr.heap.size (xcall kd xw xn)) := x1
  have HE : Hid (wr.alloc (.cells #[.int .i64 kd, .int .i64 xw, .int .i64 xn] 37) = E) := hE
  obtain ⟨c0, c1, c2⟩ := xcell x1
  have n1 : (kd == 1) = false := by rw [beq_eq_false_iff_ne]; omega
  have n5 : (kd == 5) = false := by rw [beq_eq_false_iff_ne]; omega
  have n2 : (kd == 2) = false := by rw [beq_eq_false_iff_ne]; omega
  have n3 : (kd == 3) = true := by rw [beq_iff_eq]; omega
  obtain ⟨B, m', hG⟩ : ∃ B m', (if 0 ≤ xw ∧ xw < (W : Int) then (0, flushM xw.toNat m) else (2, m)) = (B, m') := ⟨_, _, rfl⟩
  have HG : Hid ((if 0 ≤ xw ∧ xw < (W : Int) then (0, flushM xw.toNat m) else (2, m)) = (B, m')) := hG
  have FTG : Hid (Fit W P 0 m') := by
    show Fit W P 0 m'
    split at hG
    · cases hG; exact h.okc.fit.flush _
    · cases hG; exact h.okc.fit
  clear h d1 x1 hE hk hG
  go_enter Tryz.func14, Tryz.ntmps14
  go_upto_region 1 with (fail)
  rw [HE.out]
  go_wp2_with fail
  go_region_held3 (fun w' => w'.cell? ⟨wr.heap.size, 1, none⟩ = some (.int .i64 xw)) (first | exact r1 | exact p1 | exact c1)
    ((first
      | (go_at_call 36; refine (kflush_any L1 cb P W m xw _ (D1.out.ca.keep (Ext.refl _ _) ((Below.refl _ _).drew)) D1.out.okc B m' HG.out).mono ?_; rintro e w2 ⟨rfl, l2⟩; have D2 : Hid (∃ L2 M2, Duo w0 w2 L2 M2 cb rb tb P W m' m ta tl tn tc ∧ Fr w2 L2 M2 wr.heap.size (xcall kd xw xn)) := (by obtain ⟨L2, M2, d2, f2⟩ := (D1.out.drew 1).code2 l2 FTG.out; exact ⟨L2, M2, d2, f2 _ _ X1.out⟩); have p1 : w2.cell? ⟨wr.heap.size, 1, none⟩ = some (.int .i64 xw) := (by obtain ⟨_, _, _, f⟩ := D2.out; exact (xcell f).2.1); clear l2)
      | (have g2 := D2; go_at_call 37; obtain ⟨L2, M2, d2, x2⟩ := D2.out; refine (mflush_any M2 rb P W m xw _ d2.rf d2.okr d2.sz B m' HG.out).mono ?_; rintro e w3 ⟨rfl, l3⟩; have D3 : Hid (∃ L3 M3, Duo w0 w3 L3 M3 cb rb tb P W m' m' ta tl tn tc ∧ Fr w3 L3 M3 wr.heap.size (xcall kd xw xn)) := (by obtain ⟨L3, M3, d3, f3⟩ := d2.ref2 l3 FTG.out; exact ⟨L3, M3, d3, f3 _ _ x2⟩); have r1 : w3.cell? ⟨wr.heap.size, 1, none⟩ = some (.int .i64 xw) := (by obtain ⟨_, _, _, f⟩ := D3.out; exact (xcell f).2.1); clear l3)))
  have ef : ((B : Int) == (B : Int)) = true := by simp
  go_wp2
  go_ret
  obtain ⟨La, Ma, da, _⟩ := D3.out
  exact ⟨rfl, La, Ma, m', ta, tl, tn, tc, da, by omega⟩
end Go.Proofs.YtgmljgogmbaioaaGreatDoor

/- Both caches: do, Scavenge. -/
namespace Go.Proofs.YtgmljgogmbaioaaGreatDoor
open Go.RowKit
set_option linter.unusedVariables false
set_option maxRecDepth 4000

set_option maxRecDepth 20000 in
set_option maxHeartbeats 4000000 in
theorem do_scav (w0 wr : World) (L M : Nat → Nat) (cb rb tb P W : Nat) (m : List Sg) (ta : Option Addr) (tl : List Int) (tn tc : Nat) (kd xw xn : Int) (h : Duo w0 wr L M cb rb tb P W m m ta tl tn tc) (hxw : -9223372036854775808 ≤ xw ∧ xw ≤ 9223372036854775807) (hxn : -9223372036854775808 ≤ xn ∧ xn ≤ 9223372036854775807) (htn : tn < 1000000) (hk : kd = 4) :
    Calls Tryz.prog 14 #[.pointer (some ⟨cb, 0, none⟩), .pointer (some ⟨rb, 0, none⟩), .agg #[.int .i64 kd, .int .i64 xw, .int .i64 xn], .pointer (some ⟨tb, 0, none⟩)] wr fun e w' => e = .returned (.bool true) ∧ ∃ L' M' m' ta' tl' tn' tc', Duo w0 w' L' M' cb rb tb P W m' m' ta' tl' tn' tc' ∧ tn' ≤ tn + 1 := by
  obtain ⟨E, hE⟩ : ∃ E, wr.alloc (.cells #[.int .i64 kd, .int .i64 xw, .int .i64 xn] 37) = E := ⟨_, rfl⟩
  obtain ⟨L1, M1, d1, x1⟩ := h.box kd xw xn E hE
  have D1 : Hid (Duo w0 E L1 M1 cb rb tb P W m m ta tl tn tc) := d1
  have X1 : Hid (Fr E L1 M1 wr.heap.size (xcall kd xw xn)) := x1
  have HE : Hid (wr.alloc (.cells #[.int .i64 kd, .int .i64 xw, .int .i64 xn] 37) = E) := hE
  obtain ⟨c0, c1, c2⟩ := xcell x1
  have n1 : (kd == 1) = false := by rw [beq_eq_false_iff_ne]; omega
  have n5 : (kd == 5) = false := by rw [beq_eq_false_iff_ne]; omega
  have n2 : (kd == 2) = false := by rw [beq_eq_false_iff_ne]; omega
  have n3 : (kd == 3) = false := by rw [beq_eq_false_iff_ne]; omega
  have n4 : (kd == 4) = true := by rw [beq_iff_eq]; omega
  have FTG : Hid (Fit W P 0 (scavM m)) := h.okc.fit.filter _
  obtain ⟨N, hN⟩ : ∃ N, scavN m = N := ⟨_, rfl⟩
  have HN : Hid (scavN m = N) := hN
  clear h d1 x1 hE hk hN
  go_enter Tryz.func14, Tryz.ntmps14
  go_upto_region 1 with (fail)
  rw [HE.out]
  go_wp2_with fail
  refine (kscav_any L1 cb P W m _ D1.out.ca D1.out.okc).mono ?_
  rw [HN.out]
  rintro e w2 ⟨rfl, l2⟩
  obtain ⟨L2, M2, d2, f2⟩ := D1.out.code2 l2 FTG.out
  have D2 : Hid (Duo w0 w2 L2 M2 cb rb tb P W (scavM m) m ta tl tn tc) := d2
  clear l2 d2 f2 c0 c1 c2
  go_wp2_with fail
  refine (mscav_any M2 rb P W m _ D2.out.rf D2.out.okr D2.out.sz).mono ?_
  rw [HN.out]
  rintro e w3 ⟨rfl, l3⟩
  obtain ⟨L3, M3, d3, f3⟩ := D2.out.ref2 l3 FTG.out
  have D3 : Hid (Duo w0 w3 L3 M3 cb rb tb P W (scavM m) (scavM m) ta tl tn tc) := d3
  have ef : ((N : Int) == (N : Int)) = true := by simp
  clear l3 d3 f3
  go_wp2
  go_ret
  exact ⟨rfl, L3, M3, scavM m, ta, tl, tn, tc, D3.out, by omega⟩
end Go.Proofs.YtgmljgogmbaioaaGreatDoor

/- Both caches: do, Give of a place that was taken. -/
namespace Go.Proofs.YtgmljgogmbaioaaGreatDoor
open Go.RowKit
set_option linter.unusedVariables false
set_option maxRecDepth 4000

set_option maxRecDepth 20000 in
set_option maxHeartbeats 4000000 in
theorem do_back (w0 wr : World) (L M : Nat → Nat) (cb rb tb P W : Nat) (m : List Sg) (ta : Option Addr) (tl : List Int) (tn tc : Nat) (kd xw xn : Int) (h : Duo w0 wr L M cb rb tb P W m m ta tl tn tc) (hxw : -9223372036854775808 ≤ xw ∧ xw ≤ 9223372036854775807) (hxn : -9223372036854775808 ≤ xn ∧ xn ≤ 9223372036854775807) (htn : tn < 1000000) (hk : kd = 5) :
    Calls Tryz.prog 14 #[.pointer (some ⟨cb, 0, none⟩), .pointer (some ⟨rb, 0, none⟩), .agg #[.int .i64 kd, .int .i64 xw, .int .i64 xn], .pointer (some ⟨tb, 0, none⟩)] wr fun e w' => e = .returned (.bool true) ∧ ∃ L' M' m' ta' tl' tn' tc', Duo w0 w' L' M' cb rb tb P W m' m' ta' tl' tn' tc' ∧ tn' ≤ tn + 1 := by
  obtain ⟨E, hE⟩ : ∃ E, wr.alloc (.cells #[.int .i64 kd, .int .i64 xw, .int .i64 xn] 37) = E := ⟨_, rfl⟩
  obtain ⟨L1, M1, d1, x1⟩ := h.box kd xw xn E hE
  have D1 : Hid (Duo w0 E L1 M1 cb rb tb P W m m ta tl tn tc) := d1
  have X1 : Hid (Fr E L1 M1 wr.heap.size (xcall kd xw xn)) := x1
  have HE : Hid (wr.alloc (.cells #[.int .i64 kd, .int .i64 xw, .int .i64 xn] 37) = E) := hE
  obtain ⟨c0, c1, c2⟩ := xcell x1
  have n1 : (kd == 1) = false := by rw [beq_eq_false_iff_ne]; omega
  have n5 : (kd == 5) = true := by rw [beq_iff_eq]; omega
  have FT : Hid (∀ x, Fit W P 0 (giveM W xw x m).2) := fun x => give_fit h.okc.fit
  have t1 : E.cell? ⟨tb, 0, none⟩ = some (.slice ta tn tc) := cell_of_row _ _ 0 _ _ _ d1.tbx
  have OWN : Hid (OwnsI E w0.heap.size ta tl tc) := d1.own
  have TLB : Hid (∀ x ∈ tl, 0 ≤ x ∧ x ≤ 1048576) := d1.tlb
  have TLN : Hid (tl.length = tn) := d1.tln
  clear h d1 x1 hE hk
  go_enter Tryz.func14, Tryz.ntmps14
  go_upto_region 1 with (fail)
  rw [HE.out]
  by_cases ht0 : tn = 0
  · have t0 : ¬ ((0 : Int) < (tn : Int)) := by omega
    clear ht0
    obtain ⟨B, m', hG⟩ : ∃ B m', giveM W xw xn m = (B, m') := ⟨_, _, rfl⟩
    have HG : Hid (giveM W xw xn m = (B, m')) := hG
    have FTG : Hid (Fit W P 0 m') := by have := FT.out xn; rw [hG] at this; exact this
    clear hG
    go_wp2_with fail
    go_region_held3 (fun w' => w'.cell? ⟨wr.heap.size, 1, none⟩ = some (.int .i64 xw)) (first | exact r1 | exact p1 | exact c1)
      ((first
        | (go_at_call 26; refine (kgive_any L1 cb P W m xw xn _ (D1.out.ca.keep (Ext.refl _ _) ((Below.refl _ _).drew)) D1.out.okc hxn).mono ?_; rw [HG.out]; rintro e w2 ⟨rfl, l2⟩; have D2 : Hid (∃ L2 M2, Duo w0 w2 L2 M2 cb rb tb P W m' m ta tl tn tc ∧ Fr w2 L2 M2 wr.heap.size (xcall kd xw xn)) := (by obtain ⟨L2, M2, d2, f2⟩ := (D1.out.drew 1).code2 l2 FTG.out; exact ⟨L2, M2, d2, f2 _ _ X1.out⟩); have p1 : w2.cell? ⟨wr.heap.size, 1, none⟩ = some (.int .i64 xw) := (by obtain ⟨_, _, _, f⟩ := D2.out; exact (xcell f).2.1); clear l2)
        | (have g2 := D2; go_at_call 34; obtain ⟨L2, M2, d2, x2⟩ := D2.out; refine (mgive_any M2 rb P W m xw xn _ d2.rf d2.okr d2.sz hxn).mono ?_; rw [HG.out]; rintro e w3 ⟨rfl, l3⟩; have D3 : Hid (∃ L3 M3, Duo w0 w3 L3 M3 cb rb tb P W m' m' ta tl tn tc ∧ Fr w3 L3 M3 wr.heap.size (xcall kd xw xn)) := (by obtain ⟨L3, M3, d3, f3⟩ := d2.ref2 l3 FTG.out; exact ⟨L3, M3, d3, f3 _ _ x2⟩); have r1 : w3.cell? ⟨wr.heap.size, 1, none⟩ = some (.int .i64 xw) := (by obtain ⟨_, _, _, f⟩ := D3.out; exact (xcell f).2.1); clear l3)))
    have ef : ((B : Int) == (B : Int)) = true := by simp
    go_wp2
    go_ret
    obtain ⟨La, Ma, da, _⟩ := D3.out
    exact ⟨rfl, La, Ma, m', ta, tl, tn, tc, da, by omega⟩
  · have t0 : (0 : Int) < (tn : Int) := by omega
    obtain ⟨r, hr⟩ : ∃ r : Nat, (IntKind.u64.wrap xn).tmod (tn : Int) = (r : Int) ∧ r < tn := by
      have w1 : 0 ≤ IntKind.u64.wrap xn := by rw [IntKind.wrap_u64]; omega
      have h1 : 0 ≤ (IntKind.u64.wrap xn).tmod (tn : Int) := Int.tmod_nonneg _ w1
      have h2 : (IntKind.u64.wrap xn).tmod (tn : Int) < (tn : Int) := Int.tmod_lt_of_pos _ t0
      exact ⟨((IntKind.u64.wrap xn).tmod (tn : Int)).toNat, by omega, by omega⟩
    obtain ⟨hr1, hr2⟩ := hr
    obtain ⟨tg, rfl, tcell⟩ := OWN.out.at r (by rw [TLN.out]; exact hr2)
    have hrl : r < tl.length := by rw [TLN.out]; exact hr2
    have tlb := TLB.out tl[r] (List.getElem_mem hrl)
    obtain ⟨A, hA⟩ : ∃ A, tl[r] = A := ⟨_, rfl⟩
    rw [hA] at tcell tlb
    have HA : Hid (-9223372036854775808 ≤ A ∧ A ≤ 9223372036854775807) := ⟨by omega, by omega⟩
    have r0 : (r : Int) < (tn : Int) := by omega
    have wt : IntKind.u64.wrap (tn : Int) = (tn : Int) := by rw [IntKind.wrap_u64]; omega
    have wr' : IntKind.i64.wrap (r : Int) = (r : Int) := by rw [IntKind.wrap_i64]; omega
    have tne : ((tn : Int) == 0) = false := by rw [beq_eq_false_iff_ne]; omega
    have tne' : ¬ (tn = 0) := ht0
    clear hA
    obtain ⟨B, m', hG⟩ : ∃ B m', giveM W xw A m = (B, m') := ⟨_, _, rfl⟩
    have HG : Hid (giveM W xw A m = (B, m')) := hG
    have FTG : Hid (Fit W P 0 m') := by have := FT.out A; rw [hG] at this; exact this
    clear hG
    go_wp2_with fail
    go_quiet (fail)
    obtain ⟨E5, hE5⟩ : ∃ E5, E.drewN nq = E5 := ⟨_, rfl⟩
    rw [hE5]
    have D5 : Hid (Duo w0 E5 L1 M1 cb rb tb P W m m (some ⟨tg, 0, none⟩) tl tn tc) := by rw [← hE5]; exact D1.out.drew nq
    have X5 : Hid (Fr E5 L1 M1 wr.heap.size (xcall kd xw xn)) := by rw [← hE5]; exact X1.out
    obtain ⟨i0, i1, i2⟩ := xcell X5.out
    clear hE5 c0 c1 c2 tcell t1
    go_wp2_with fail
    go_region_held3 (fun w' => w'.cell? ⟨wr.heap.size, 1, none⟩ = some (.int .i64 xw)) (first | exact r1 | exact p1 | exact i1)
      ((first
        | (go_at_call 26; refine (kgive_any L1 cb P W m xw A _ (D5.out.ca.keep (Ext.refl _ _) ((Below.refl _ _).drew)) D5.out.okc HA.out).mono ?_; rw [HG.out]; rintro e w2 ⟨rfl, l2⟩; have D2 : Hid (∃ L2 M2, Duo w0 w2 L2 M2 cb rb tb P W m' m (some ⟨tg, 0, none⟩) tl tn tc ∧ Fr w2 L2 M2 wr.heap.size (xcall kd xw xn)) := (by obtain ⟨L2, M2, d2, f2⟩ := (D5.out.drew 1).code2 l2 FTG.out; exact ⟨L2, M2, d2, f2 _ _ X5.out⟩); have p1 : w2.cell? ⟨wr.heap.size, 1, none⟩ = some (.int .i64 xw) := (by obtain ⟨_, _, _, f⟩ := D2.out; exact (xcell f).2.1); clear l2)
        | (have g2 := D2; go_at_call 34; obtain ⟨L2, M2, d2, x2⟩ := D2.out; refine (mgive_any M2 rb P W m xw A _ d2.rf d2.okr d2.sz HA.out).mono ?_; rw [HG.out]; rintro e w3 ⟨rfl, l3⟩; have D3 : Hid (∃ L3 M3, Duo w0 w3 L3 M3 cb rb tb P W m' m' (some ⟨tg, 0, none⟩) tl tn tc ∧ Fr w3 L3 M3 wr.heap.size (xcall kd xw xn)) := (by obtain ⟨L3, M3, d3, f3⟩ := d2.ref2 l3 FTG.out; exact ⟨L3, M3, d3, f3 _ _ x2⟩); have r1 : w3.cell? ⟨wr.heap.size, 1, none⟩ = some (.int .i64 xw) := (by obtain ⟨_, _, _, f⟩ := D3.out; exact (xcell f).2.1); clear l3)))
    have ef : ((B : Int) == (B : Int)) = true := by simp
    go_wp2
    go_ret
    obtain ⟨La, Ma, da, _⟩ := D3.out
    exact ⟨rfl, La, Ma, m', (some ⟨tg, 0, none⟩), tl, tn, tc, da, by omega⟩
end Go.Proofs.YtgmljgogmbaioaaGreatDoor

/- Both caches: do, none. -/
namespace Go.Proofs.YtgmljgogmbaioaaGreatDoor
open Go.RowKit
set_option linter.unusedVariables false
set_option maxRecDepth 4000

set_option maxRecDepth 20000 in
set_option maxHeartbeats 4000000 in
theorem do_else (w0 wr : World) (L M : Nat → Nat) (cb rb tb P W : Nat) (m : List Sg) (ta : Option Addr) (tl : List Int) (tn tc : Nat) (kd xw xn : Int) (h : Duo w0 wr L M cb rb tb P W m m ta tl tn tc) (hxw : -9223372036854775808 ≤ xw ∧ xw ≤ 9223372036854775807) (hxn : -9223372036854775808 ≤ xn ∧ xn ≤ 9223372036854775807) (htn : tn < 1000000) (hk : kd ≠ 1 ∧ kd ≠ 2 ∧ kd ≠ 3 ∧ kd ≠ 4 ∧ kd ≠ 5) :
    Calls Tryz.prog 14 #[.pointer (some ⟨cb, 0, none⟩), .pointer (some ⟨rb, 0, none⟩), .agg #[.int .i64 kd, .int .i64 xw, .int .i64 xn], .pointer (some ⟨tb, 0, none⟩)] wr fun e w' => e = .returned (.bool true) ∧ ∃ L' M' m' ta' tl' tn' tc', Duo w0 w' L' M' cb rb tb P W m' m' ta' tl' tn' tc' ∧ tn' ≤ tn + 1 := by
  obtain ⟨E, hE⟩ : ∃ E, wr.alloc (.cells #[.int .i64 kd, .int .i64 xw, .int .i64 xn] 37) = E := ⟨_, rfl⟩
  obtain ⟨L1, M1, d1, x1⟩ := h.box kd xw xn E hE
  have D1 : Hid (Duo w0 E L1 M1 cb rb tb P W m m ta tl tn tc) := d1
  have X1 : Hid (Fr E L1 M1 wr.heap.size (xcall kd xw xn)) := x1
  have HE : Hid (wr.alloc (.cells #[.int .i64 kd, .int .i64 xw, .int .i64 xn] 37) = E) := hE
  obtain ⟨c0, c1, c2⟩ := xcell x1
  have n1 : (kd == 1) = false := by rw [beq_eq_false_iff_ne]; omega
  have n5 : (kd == 5) = false := by rw [beq_eq_false_iff_ne]; omega
  have n2 : (kd == 2) = false := by rw [beq_eq_false_iff_ne]; omega
  have n3 : (kd == 3) = false := by rw [beq_eq_false_iff_ne]; omega
  have n4 : (kd == 4) = false := by rw [beq_eq_false_iff_ne]; omega
  clear h d1 x1 hE hk
  go_enter Tryz.func14, Tryz.ntmps14
  go_upto_region 1 with (fail)
  rw [HE.out]
  go_wp2
  go_ret
  exact ⟨rfl, L1, M1, m, ta, tl, tn, tc, D1.out, by omega⟩
end Go.Proofs.YtgmljgogmbaioaaGreatDoor

/- Both caches: do, all kinds; the document's cache begins. -/
namespace Go.Proofs.YtgmljgogmbaioaaGreatDoor
open Go.RowKit
set_option linter.unusedVariables false
set_option maxRecDepth 4000

theorem do_any (w0 wr : World) (L M : Nat → Nat) (cb rb tb P W : Nat) (m : List Sg) (ta : Option Addr) (tl : List Int) (tn tc : Nat) (kd xw xn : Int) (h : Duo w0 wr L M cb rb tb P W m m ta tl tn tc) (hxw : -9223372036854775808 ≤ xw ∧ xw ≤ 9223372036854775807) (hxn : -9223372036854775808 ≤ xn ∧ xn ≤ 9223372036854775807) (htn : tn < 1000000) :
    Calls Tryz.prog 14 #[.pointer (some ⟨cb, 0, none⟩), .pointer (some ⟨rb, 0, none⟩), .agg #[.int .i64 kd, .int .i64 xw, .int .i64 xn], .pointer (some ⟨tb, 0, none⟩)] wr fun e w' => e = .returned (.bool true) ∧ ∃ L' M' m' ta' tl' tn' tc', Duo w0 w' L' M' cb rb tb P W m' m' ta' tl' tn' tc' ∧ tn' ≤ tn + 1 := by
  by_cases h1 : kd = 1
  · exact do_take w0 wr L M cb rb tb P W m ta tl tn tc kd xw xn h hxw hxn htn h1
  by_cases h2 : kd = 2
  · exact do_give w0 wr L M cb rb tb P W m ta tl tn tc kd xw xn h hxw hxn htn h2
  by_cases h3 : kd = 3
  · exact do_flush w0 wr L M cb rb tb P W m ta tl tn tc kd xw xn h hxw hxn htn h3
  by_cases h4 : kd = 4
  · exact do_scav w0 wr L M cb rb tb P W m ta tl tn tc kd xw xn h hxw hxn htn h4
  by_cases h5 : kd = 5
  · exact do_back w0 wr L M cb rb tb P W m ta tl tn tc kd xw xn h hxw hxn htn h5
  exact do_else w0 wr L M cb rb tb P W m ta tl tn tc kd xw xn h hxw hxn htn ⟨h1, h2, h3, h4, h5⟩
/-- The document's cache, made anew. -/
def BornR (w : World) (rb P W : Nat) (m : List Sg) (w' : World) : Prop := (∃ M, Rf w' M rb P W m ∧ ∀ k, k < w.heap.size → M k = 0) ∧ Below w.heap.size w w'
theorem mfrom_nil (P W : Nat) (w : World) (h2 : 2 ≤ w.heap.size) (hp : 1 ≤ P ∧ P ≤ 4096) (hw : 1 ≤ W ∧ W ≤ 8) :
    Calls Tryz.prog 13 #[.int .i64 (P : Nat), .int .i64 (W : Nat), .slice none 0 0] w fun e w' => ∃ rb, e = .returned (.tuple #[.pointer (some ⟨rb, 0, none⟩), .int .i64 0]) ∧ BornR w rb P W [] w' := by
  have p1 : ¬ ((P : Int) < 1) := by omega
  have p2 : ¬ ((4096 : Int) < (P : Int)) := by omega
  have q1 : ¬ ((W : Int) < 1) := by omega
  have q2 : ¬ ((8 : Int) < (W : Int)) := by omega
  obtain ⟨D, hD⟩ : ∃ D, w.alloc (.cells #[.int .i64 (P : Nat), .int .i64 (W : Nat), .slice none 0 0] 67) = D := ⟨_, rfl⟩
  have bD : Below w.heap.size w D := by rw [← hD]; exact (Below.refl _ w).alloc (Nat.le_refl _) _
  have F : Hid (BornR w w.heap.size P W [] D) := by
    refine ⟨⟨fun k => if k = w.heap.size then 1 else 0, ⟨none, 0, [], ?_, ?_, ?_, ?_, ?_, ?_, rfl, ?_⟩, fun k hk => if_neg (by omega)⟩, bD⟩
    · exact if_neg (by omega)
    · exact if_neg (by omega)
    · rw [← hD]; exact Go.heap_alloc_new w _
    · exact if_pos rfl
    · exact World.ownsRow_nil _ _ _ _
    · intro g hg; cases hg
    · intro i hi; simp at hi
  have HD : Hid (w.alloc (.cells #[.int .i64 (P : Nat), .int .i64 (W : Nat), .slice none 0 0] 67) = D) := hD
  clear bD hD hp hw h2
  go_enter Tryz.func13, Tryz.ntmps13
  go_upto_region 4 with (fail)
  rw [HD.out]
  go_wp2_with fail
  go_loopw [36] (fun iv wr => iv = .int .i64 0 ∧ D = wr) (fun _ _ => 0)
  case atStart => exact ⟨rfl, rfl⟩
  case round =>
    obtain ⟨rfl, rfl⟩ := hrel
    go_wp2
    go_ret2
    exact ⟨_, rfl, F.out⟩
/-- Both caches, made anew. -/
theorem duo_new {w0 w1 w2 : World} {cb rb P W : Nat} (hb : Born w0 cb P W [] w1) (w1' : World) (b1 : Below w1.heap.size w1 w1') (hr : BornR w1' rb P W [] w2) (two : 2 ≤ w0.heap.size) (hp : 1 ≤ P ∧ P ≤ 4096) (hw : 1 ≤ W ∧ W ≤ 8) (D : World) (hD : w2.alloc (.cells #[.slice none 0 0] 34) = D) :
    ∃ L M, Duo w0 D L M cb rb w2.heap.size P W [] [] none [] 0 0 := by
  obtain ⟨⟨L, hC, hl⟩, b0⟩ := hb
  obtain ⟨⟨M, hR, hm⟩, b2⟩ := hr
  have bD : Below w2.heap.size w2 D := by rw [← hD]; exact (Below.refl _ w2).alloc (Nat.le_refl _) _
  have s0 := b0.size
  have s1 := b1.size
  have s2 := b2.size
  have sD := bD.size
  have b12 : Below w1.heap.size w1 w2 := b1.trans (b2.mono s1)
  have bel : Below w0.heap.size w0 D := b0.trans ((b12.trans (bD.mono (by omega))).mono s0)
  have ok : Okc P W [] := ⟨hp.1, hp.2, hw.1, hw.2, Nat.zero_le _⟩
  have b1D : Below w1.heap.size w1 D := b12.trans (bD.mono (by omega))
  refine ⟨lab L w1.heap.size 0, lab M w2.heap.size 0, hC.keep (lab_ext w1 L 0) b1D, hR.same (lab_ext w2 M 0) (by omega) (fun k o ho _ => by rw [bD.block k (hlt ho)]; exact ho), ok, ok, fun k => ?_, fun k hk => ?_, fun k hk => ?_, ?_, ?_, by omega, ownsI_none _ _, ?_, by simp, rfl, bel, two⟩
  · by_cases hk : k < w1.heap.size
    · right
      rw [lab_ext w2 M 0 k (by omega)]; exact hm k (by omega)
    · exact .inl (lab_new (by omega))
  · rw [lab_ext w1 L 0 k (by omega)]; exact hl k hk
  · rw [lab_ext w2 M 0 k (by omega)]; exact hm k (by omega)
  · rw [← hD]; exact Go.heap_alloc_new w2 _
  · exact ⟨lab_new (by omega), lab_new (Nat.le_refl _)⟩
  · intro g hg; cases hg
end Go.Proofs.YtgmljgogmbaioaaGreatDoor
