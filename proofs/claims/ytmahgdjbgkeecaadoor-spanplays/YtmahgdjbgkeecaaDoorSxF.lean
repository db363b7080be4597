/- The walk of SpanPlays: whatever is taken, given and asked. -/
import Derived.Test.YtmahgdjbgkeecaaDoorSpY
import Derived.Test.YtmahgdjbgkeecaaDoorSxA
import Derived.Test.YtmahgdjbgkeecaaDoorSpL
namespace Go.Proofs.YtmahgdjbgkeecaaDoor
open Go.RowKit
set_option linter.unusedVariables false

theorem live_len (sb b g : Nat) (p c s : Int) (f : Nat → Bool) (m : List Int) (w : World) (h : SpanAt w sb b g p c s f) (hm : lsL f (slN c) = m) :
    Calls Tryd.prog 13 #[.pointer (some ⟨sb, 0, none⟩)] w fun e w' => e = .returned (.int .i64 (m.length : Nat)) ∧ w = w' := by
  subst hm
  have := live_any sb b g p c s f w h
  rw [← lsL_len] at this
  exact this
theorem rsize_is (mb mg n : Nat) (p c s : Int) (f : Nat → Bool) (z : Int) (w : World) (h : Ref w mb mg p c s n f) (hz : szI c s = z) :
    Calls Tryd.prog 21 #[.pointer (some ⟨mb, 0, none⟩)] w fun e w' => e = .returned (.int .i64 z) ∧ w = w' := by
  subst hz; exact rsize_any mb mg n p c s f w h

set_option maxRecDepth 20000 in
set_option maxHeartbeats 4000000 in
theorem plays_fail (p c s : Int) (l : List Int) (a : Option Addr) (k : Nat) (a1 : Option Addr) (cap1 len1 : Nat) (w : World) (hT : Tabs w) (hp : -9223372036854775808 ≤ p ∧ p ≤ 9223372036854775807) (hI : IsI w a l) (hm : l.length ≤ maxLen) (x : Int) (h0 : x ≠ 0)
    (hf : (newE p c s = x ∧ x ≠ 0) ∨ (newE p c s = 0 ∧ okL (slN c) (-1) l = false ∧ x = 4)) :
    Calls Tryd.prog 3 #[.agg #[.int .i64 p, .int .i64 c, .int .i64 s, .slice a l.length k], .slice a1 len1 cap1] w fun e w' => e = .returned (.bool true) ∧ Below w.heap.size w w' := by
  obtain ⟨D, hD, zD, rD, bD⟩ := dbox w p c s a l.length k
  have HD : Hid (w.alloc (.cells #[.int .i64 p, .int .i64 c, .int .i64 s, .slice a l.length k] 24) = D) := hD
  have BD : Hid (Below w.heap.size w D) := bD
  have TD : Hid (Tabs D) := hT.keep bD
  have ID : Hid (IsI D a l) := hI.keep bD
  have RD : Hid (D.heap[w.heap.size]? = some (.cells (dcells p c s a l.length k) 24 (0, 0))) := rD
  have HF : Hid ((newE p c s = x ∧ x ≠ 0) ∨ (newE p c s = 0 ∧ okL (slN c) (-1) l = false ∧ x = 4)) := hf
  have hne : (x == 0) = false := beq_eq_false_iff_ne.2 h0
  have hne' : (x != 0) = true := by rw [bne, hne]; rfl
  clear hD zD rD bD hT hI hf
  have RO : Hid (∀ w : World, IsI w a l → Calls Tryd.prog 11 #[.agg #[.int .i64 p, .int .i64 c, .int .i64 s, .slice a l.length k]] w fun e w' => e = .returned (.tuple #[.pointer none, .int .i64 x]) ∧ Below w.heap.size w w') := by
    intro w hI
    rcases HF.out with ⟨h1, h2⟩ | ⟨h1, h2, rfl⟩
    · exact rof_bad p c s a l.length k x w h1 h2
    · refine (rof_any p c s a k l (slN c) false w hI hm h1 rfl h2).mono ?_
      rintro e w' ⟨hb, ⟨_, rfl⟩ | ⟨h, _⟩⟩
      · exact ⟨rfl, hb⟩
      · cases h
  go_enter Tryd.func3, Tryd.ntmps3
  go_upto_region 1 with (fail)
  rw [HD.out]
  go_wp2_with fail
  refine (alive_any D TD.out).mono ?_
  rintro e w1 ⟨rfl, b1⟩
  have B1 : Hid (Below w.heap.size w w1) := BD.out.trans (b1.mono BD.out.size)
  have T1 : Hid (Tabs w1) := TD.out.keep b1
  have I1 : Hid (IsI w1 a l) := ID.out.keep b1
  have R1 : Hid (w1.heap[w.heap.size]? = some (.cells (dcells p c s a l.length k) 24 (0, 0))) := bblock b1 RD.out
  have x0 := dcell0 R1.out
  have x1 := dcell1 R1.out
  have x2 := dcell2 R1.out
  have x3 := dcell3 R1.out
  clear b1
  go_wp2_with fail
  refine (of_fail p c s a k l x w1 T1.out I1.out hm hp HF.out).mono ?_
  rintro e w2 ⟨rfl, b2⟩
  have B2 : Hid (Below w.heap.size w w2) := B1.out.trans (b2.mono B1.out.size)
  have I2 : Hid (IsI w2 a l) := I1.out.keep b2
  have y0 := bcell b2 x0
  have y1 := bcell b2 x1
  have y2 := bcell b2 x2
  have y3 := bcell b2 x3
  clear b2 x0 x1 x2 x3
  go_wp2_with (go_at_call 11; refine (RO.out w2 I2.out).mono ?_; rintro e w3 ⟨rfl, b3⟩; have B3 : Hid (Below w.heap.size w w3) := B2.out.trans (b3.mono B2.out.size); clear b3)
  go_ret
  exact ⟨rfl, B3.out⟩

set_option maxRecDepth 20000 in
set_option maxHeartbeats 8000000 in
theorem plays_ok (p c s : Int) (l : List Int) (a : Option Addr) (k : Nat) (a1 : Option Addr) (cap1 len1 : Nat) (kd xx : Nat → Int) (w : World) (hT : Tabs w) (hI : IsI w a l) (hm : l.length ≤ maxLen) (hx : newE p c s = 0) (hl : okL (slN c) (-1) l = true) (hC : IsC w a1 len1 kd xx) (hm1 : len1 ≤ maxLen) :
    Calls Tryd.prog 3 #[.agg #[.int .i64 p, .int .i64 c, .int .i64 s, .slice a l.length k], .slice a1 len1 cap1] w fun e w' => e = .returned (.bool true) ∧ Below w.heap.size w w' := by
  obtain ⟨D, hD, zD, rD, bD⟩ := dbox w p c s a l.length k
  have HD : Hid (w.alloc (.cells #[.int .i64 p, .int .i64 c, .int .i64 s, .slice a l.length k] 24) = D) := hD
  have BD : Hid (Below w.heap.size w D) := bD
  have TD : Hid (Tabs D) := hT.keep bD
  have ID : Hid (IsI D a l) := hI.keep bD
  have RD : Hid (D.heap[w.heap.size]? = some (.cells (dcells p c s a l.length k) 24 (0, 0))) := rD
  have HX : Hid (newE p c s = 0) := hx
  have HL : Hid (okL (slN c) (-1) l = true) := hl
  have HC : Hid (IsC w a1 len1 kd xx) := hC
  have HT : Hid (Tabs w) := hT
  have R : Hid (Rt p c s) := newE_rt hx
  obtain ⟨n, hn⟩ : ∃ n, slN c = n := ⟨_, rfl⟩
  have HN : Hid (slN c = n) := hn
  have n16 : n ≤ 16 := by have := R.out.facts.2.1; omega
  obtain ⟨z, hz⟩ : ∃ z, szI c s = z := ⟨_, rfl⟩
  have HZ : Hid (szI c s = z) := hz
  obtain ⟨G, hG⟩ : ∃ G, pgsN c s = G := ⟨_, rfl⟩
  have HG : Hid (pgsN c s = G) := hG
  unfold maxLen at hm1
  clear hD zD rD bD hT hI hx hl hC hn hz hG
  go_enter Tryd.func3, Tryd.ntmps3
  go_upto_region 1 with (fail)
  rw [HD.out]
  go_wp2_with fail
  refine (alive_any D TD.out).mono ?_
  rintro e w1 ⟨rfl, b1⟩
  have B1 : Hid (Below w.heap.size w w1) := BD.out.trans (b1.mono BD.out.size)
  have T1 : Hid (Tabs w1) := TD.out.keep b1
  have I1 : Hid (IsI w1 a l) := ID.out.keep b1
  have R1 : Hid (w1.heap[w.heap.size]? = some (.cells (dcells p c s a l.length k) 24 (0, 0))) := bblock b1 RD.out
  have x0 := dcell0 R1.out
  have x1 := dcell1 R1.out
  have x2 := dcell2 R1.out
  have x3 := dcell3 R1.out
  clear b1
  go_wp2_with fail
  refine (of_ok p c s a k l w1 T1.out I1.out hm HX.out HL.out).mono ?_
  rintro e w2 ⟨sb, b, g, rfl, s2⟩
  have S2 : Hid (Spn w1 w2 sb b g p c s (fOf l)) := s2
  have I2 : Hid (IsI w2 a l) := I1.out.keep s2.low
  have y0 := bcell s2.low x0
  have y1 := bcell s2.low x1
  have y2 := bcell s2.low x2
  have y3 := bcell s2.low x3
  clear s2 x0 x1 x2 x3
  go_wp2_with fail
  refine (rof_any p c s a k l (slN c) true w2 I2.out hm HX.out rfl HL.out).mono ?_
  rintro e w3 ⟨b3, ⟨h, _⟩ | ⟨_, mb, mg, rfl, r3, m1, m2⟩⟩
  · cases h
  have T3 : Hid (Two w w3 sb b g mb mg p c s (fOf l)) := by
    have hs := S2.out.at'
    have h1 := hs.lt
    have h2 := hs.set.hb
    have h3 := hs.set.hg
    exact ⟨(S2.out.keep b3).back B1.out, r3, by omega, by omega, by omega, by omega, Nat.le_trans (Nat.le_trans B1.out.size S2.out.low.size) m2⟩
  clear b3 r3 m1 m2 y0 y1 y2 y3
  go_wp2
  go_loopw [9] (fun iv wr => ∃ (i : Nat) (f : Nat → Bool), i ≤ len1 ∧ i ≤ 200 ∧ iv = .int .i64 (i : Nat) ∧ Two w wr sb b g mb mg p c s f) (fun iv _ => 200 - (intOf iv).toNat)
  case atStart => exact ⟨0, _, Nat.zero_le _, Nat.zero_le _, rfl, T3.out⟩
  case round =>
    obtain ⟨i, f, hi, hi2, rfl, hS⟩ := hrel
    rename World => wr
    have TY : Hid (Two w wr sb b g mb mg p c s f) := hS
    clear hS T3
    by_cases hgo : i < len1 ∧ i < 200
    · obtain ⟨g1, g2⟩ := hgo
      obtain ⟨hrg, h0 | ⟨ba, off, rfl, hba, hc⟩⟩ := HC.out
      · omega
      obtain ⟨k0, k1⟩ := hc i g1
      have r1 := hrg i g1
      obtain ⟨v0, hv0⟩ : ∃ v, kd i = v := ⟨_, rfl⟩
      obtain ⟨v1, hv1⟩ : ∃ v, xx i = v := ⟨_, rfl⟩
      rw [hv0] at k0
      rw [hv1] at k1 r1
      have d0 := (TY.out.sp.low.cell (p := ⟨ba, off + i * 2, none⟩) hba).trans k0
      have d1 := (TY.out.sp.low.cell (p := ⟨ba, off + i * 2 + 1, none⟩) hba).trans k1
      have g1' : (i : Int) < (len1 : Int) := by omega
      have g2' : (i : Int) < 200 := by omega
      clear hc hrg hv0 hv1 k0 k1 hba
      go_wp2_with fail
      refine (do_any sb b g mb mg p c s f v0 v1 w wr TY.out HT.out R.out r1).mono ?_
      rintro e w9 ⟨rfl, f9, t9⟩
      have T9 : Hid (Two w w9 sb b g mb mg p c s f9) := t9
      obtain ⟨m, hmm⟩ : ∃ m, lsL f9 (slN c) = m := ⟨_, rfl⟩
      have HM : Hid (lsL f9 (slN c) = m) := hmm
      have ML : m.length ≤ 65536 := by rw [← hmm, lsL_len]; exact Nat.le_trans (cnt_le _ _) t9.sp.at'.set.few
      have N6 : Hid (slN c ≤ 65536) := t9.sp.at'.set.few
      clear hmm t9
      go_wp2_with (first
        | (go_at_call 13; refine (live_len sb b g p c s f9 m w9 T9.out.sp.at' HM.out).mono ?_; rintro e w' ⟨rfl, rfl⟩)
        | (go_at_call 14; refine (rlive_own mb mg (slN c) p c s f9 w9 T9.out.ref N6.out m HM.out).mono ?_; rintro e w10 ⟨a10, c10, rfl, _, b10⟩; have T10 : Hid (Two w w10 sb b g mb mg p c s f9) := T9.out.keep b10; clear b10))
      go_roundw
      case rel => exact ⟨i + 1, f9, by omega, by omega, by go_num, T10.out⟩
      case measure => simp [intOf]; omega
    · have hst : ¬ (i : Int) < (len1 : Int) ∨ ((i : Int) < (len1 : Int) ∧ ¬ (i : Int) < 200) := by omega
      have NF : Hid (slN c ≤ 65536) := TY.out.sp.at'.set.few
      obtain ⟨m, hmm⟩ : ∃ m, lsL f (slN c) = m := ⟨_, rfl⟩
      have HM : Hid (lsL f (slN c) = m) := hmm
      have HMn : Hid (lsL f n = m) := by show _ = _; rw [← HN.out]; exact hmm
      have MA : Hid (∀ y ∈ m, -9223372036854775808 ≤ y ∧ y ≤ 9223372036854775807) := by show ∀ y ∈ m, _; rw [← hmm]; exact ls_all f _ NF.out
      have ML : Hid (m.length ≤ maxLen) := by show m.length ≤ maxLen; rw [← hmm]; exact ls_short f _ NF.out
      have RY : Hid (Ref wr mb mg p c s n f) := by have q := TY.out.ref; rw [HN.out] at q; exact q
      have TB : Hid (Tabs wr) := HT.out.keep TY.out.sp.low
      have m0 := RY.out.c0
      have m1 := RY.out.c1
      have m2 := RY.out.c2
      have m3 := RY.out.c3
      clear hgo hmm
      rcases hst with hst | ⟨hst, hst2⟩
      all_goals
        go_wp2_with fail
        go_region_held3 (fun w' => w'.cell? ⟨mb, 0, none⟩ = some (.int .i64 p) ∧ w'.cell? ⟨mb, 1, none⟩ = some (.int .i64 c) ∧ w'.cell? ⟨mb, 2, none⟩ = some (.int .i64 s) ∧ w'.cell? ⟨mb, 3, none⟩ = some (.slice (some ⟨mg, 0, none⟩) n n)) (first | exact ⟨u0, u1, u2, u3⟩ | exact ⟨e0, e1, e2, e3⟩ | exact ⟨d0, d1, d2, d3⟩ | exact ⟨m0, m1, m2, m3⟩)
          (first
            | (go_at_call 16; refine (data_any sb b g p c s f _ TY.out.sp.at'.drew TB.out.2 m HM.out).mono ?_; rintro e w11 ⟨a11, c11, rfl, o11, b11⟩; have B11 : Hid (Below wr.heap.size wr w11) := Below.ofDrew b11; have O11 : Hid (OwnsI w11 wr.heap.size a11 m c11) := OwnsI.ofDrew o11; have d0 := bcell B11.out m0; have d1 := bcell B11.out m1; have d2 := bcell B11.out m2; have d3 := bcell B11.out m3; clear o11 b11)
            | (go_at_call 17; refine (rdata_any mb mg n p c s f w11 (RY.out.keep B11.out) (by omega) m HMn.out).mono ?_; rintro e w12 ⟨a12, c12, rfl, o12, b12⟩; have B12 : Hid (Below w11.heap.size w11 w12) := b12; have O12 : Hid (OwnsI w12 w11.heap.size a12 m c12) := o12; have e0 := bcell b12 d0; have e1 := bcell b12 d1; have e2 := bcell b12 d2; have e3 := bcell b12 d3; clear o12 b12)
            | (go_at_call 15; refine (same_own p c s a11 a12 c11 c12 _ _ m w11 w12 MA.out ML.out O11.out O12.out B12.out).mono ?_; rintro e w13 ⟨rfl, b13⟩; have B13 : Hid (Below wr.heap.size wr w13) := (B11.out.trans (B12.out.mono B11.out.size)).trans (b13.mono (Nat.le_trans B11.out.size B12.out.size)); have S13 : Hid (Bx w13 sb p c s) := (TY.out.sp.at'.keep B13.out).box; have R13 : Hid (Ref w13 mb mg p c s n f) := RY.out.keep B13.out; have T13 : Hid (TabC w13) := (TB.out.keep B13.out).1; have u0 := bcell b13 e0; have u1 := bcell b13 e1; have u2 := bcell b13 e2; have u3 := bcell b13 e3; clear b13)
            | (go_at_call 18; refine (page_any sb p c s w13 S13.out).mono ?_; rintro e w' ⟨rfl, rfl⟩)
            | (go_at_call 19; refine (class_any sb p c s w13 S13.out).mono ?_; rintro e w' ⟨rfl, rfl⟩)
            | (go_at_call 20; refine (size_rt sb p c s w13 S13.out T13.out R.out z HZ.out).mono ?_; rintro e w' ⟨rfl, rfl⟩)
            | (go_at_call 21; refine (rsize_is mb mg n p c s f z w13 R13.out HZ.out).mono ?_; rintro e w' ⟨rfl, rfl⟩)
            | (go_at_call 22; refine (slots_rt sb p c s w13 S13.out T13.out R.out n HN.out).mono ?_; rintro e w' ⟨rfl, rfl⟩)
            | (go_at_call 23; refine (pages_rt sb p c s w13 S13.out T13.out R.out G HG.out).mono ?_; rintro e w' ⟨rfl, rfl⟩)
            | (go_at_call 24; refine (rpages_any c s w13 G HG.out).mono ?_; rintro e w' ⟨rfl, rfl⟩))
        go_wp2
        go_ret
        exact ⟨by first | rfl | simp, TY.out.sp.low.trans (B13.out.mono TY.out.sp.low.size)⟩

theorem spanPlays_any (p c s : Int) (l : List Int) (a : Option Addr) (k : Nat) (a1 : Option Addr) (cap1 len1 : Nat) (kd xx : Nat → Int) (w : World) (hT : Tabs w) (hp : -9223372036854775808 ≤ p ∧ p ≤ 9223372036854775807) (hI : IsI w a l) (hm : l.length ≤ maxLen) (hC : IsC w a1 len1 kd xx) (hm1 : len1 ≤ maxLen) :
    Calls Tryd.prog 3 #[.agg #[.int .i64 p, .int .i64 c, .int .i64 s, .slice a l.length k], .slice a1 len1 cap1] w fun e w' => e = .returned (.bool true) ∧ Below w.heap.size w w' := by
  by_cases h0 : newE p c s = 0
  · cases hl : okL (slN c) (-1) l
    · exact plays_fail p c s l a k a1 cap1 len1 w hT hp hI hm 4 (by decide) (.inr ⟨h0, hl, rfl⟩)
    · exact plays_ok p c s l a k a1 cap1 len1 kd xx w hT hI hm h0 hl hC hm1
  · exact plays_fail p c s l a k a1 cap1 len1 w hT hp hI hm _ h0 (.inl ⟨rfl, h0⟩)
end Go.Proofs.YtmahgdjbgkeecaaDoor
