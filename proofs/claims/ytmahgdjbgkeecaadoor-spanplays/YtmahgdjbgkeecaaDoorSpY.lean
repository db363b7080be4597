/- Both spans side by side: what do answers. -/
import Derived.Test.YtmahgdjbgkeecaaDoorSpO
namespace Go.Proofs.YtmahgdjbgkeecaaDoor
open Go.RowKit
set_option linter.unusedVariables false

/-- The code's span and the document's, alike. -/
structure Two (w wr : World) (sb b g mb mg : Nat) (p c s : Int) (f : Nat → Bool) : Prop where
  sp : Spn w wr sb b g p c s f
  ref : Ref wr mb mg p c s (slN c) f
  n1 : mb ≠ g
  n2 : mg ≠ g
  n3 : sb ≠ mg
  n4 : b ≠ mg
  gm : w.heap.size ≤ mg
theorem Two.keep {w wr w' : World} {sb b g mb mg : Nat} {p c s : Int} {f : Nat → Bool} (h : Two w wr sb b g mb mg p c s f) (hb : Below wr.heap.size wr w') : Two w w' sb b g mb mg p c s f :=
  ⟨h.sp.keep hb, h.ref.keep hb, h.n1, h.n2, h.n3, h.n4, h.gm⟩
theorem Two.drewN {w wr : World} {sb b g mb mg : Nat} {p c s : Int} {f : Nat → Bool} (h : Two w wr sb b g mb mg p c s f) (m : Nat) : Two w (wr.drewN m) sb b g mb mg p c s f :=
  ⟨⟨h.sp.at'.drewN m, Below.toDrewN m h.sp.low, h.sp.gs, h.sp.gb, h.sp.gg⟩, h.ref.drewN m, h.n1, h.n2, h.n3, h.n4, h.gm⟩
theorem Two.next {w wr w1 w2 : World} {sb b g mb mg : Nat} {p c s : Int} {f f' : Nat → Bool} (h : Two w wr sb b g mb mg p c s f) (hs : SpanAt w1 sb b g p c s f') (o1 : Only g wr w1) (hm : Ref w2 mb mg p c s (slN c) f') (o2 : Only mg w1 w2) : Two w w2 sb b g mb mg p c s f' :=
  ⟨⟨hs.beside o2 h.n3 h.n4 (fun e => h.n2 e.symm), (h.sp.low.trans (o1.below h.sp.gg)).trans (o2.below h.gm), h.sp.gs, h.sp.gb, h.sp.gg⟩, hm, h.n1, h.n2, h.n3, h.n4, h.gm⟩

theorem cbox (w : World) (k v : Int) : ∃ w1, w.alloc (.cells #[.int .i64 k, .int .i64 v] 36) = w1 ∧ w1.cell? ⟨w.heap.size, 0, none⟩ = some (.int .i64 k) ∧ w1.cell? ⟨w.heap.size, 1, none⟩ = some (.int .i64 v) ∧ Below w.heap.size w w1 := by
  have row1 := Go.heap_alloc_new w (.cells #[.int .i64 k, .int .i64 v] 36)
  exact ⟨_, rfl, cell_of_row _ _ 0 _ _ _ row1, cell_of_row _ _ 1 _ _ _ row1, (Below.refl _ w).alloc (Nat.le_refl _) _⟩

theorem has_q (sb b g : Nat) (p c s : Int) (f : Nat → Bool) (i : Int) (v : Bool) (w : World) (h : SpanAt w sb b g p c s f) (hv : hasB (slN c) f i = v) :
    Calls Tryd.prog 32 #[.pointer (some ⟨sb, 0, none⟩), .int .i64 i] w fun e w' => e = .returned (.bool v) ∧ w' = w := by
  subst hv; exact (has_any sb b g p c s f i w h).mono fun e w' ⟨h1, h2⟩ => ⟨h1, h2.symm⟩
theorem rhas_q (mb mg n : Nat) (p c s : Int) (f : Nat → Bool) (x : Int) (v : Bool) (w : World) (h : Ref w mb mg p c s n f) (hn : n ≤ 65536) (hv : hasB n f x = v) :
    Calls Tryd.prog 36 #[.pointer (some ⟨mb, 0, none⟩), .int .i64 x] w fun e w' => e = .returned (.bool v) ∧ w' = w := by
  subst hv; exact (rhas_any mb mg n p c s f x w h hn).mono fun e w' ⟨h1, h2⟩ => ⟨h1, h2.symm⟩
theorem give_is (sb b g : Nat) (p c s : Int) (f : Nat → Bool) (i : Int) (v : Bool) (w : World) (h : SpanAt w sb b g p c s f) (hv : hasB (slN c) f i = v) :
    Calls Tryd.prog 29 #[.pointer (some ⟨sb, 0, none⟩), .int .i64 i] w fun e w' => e = .returned (.bool v) ∧ SpanAt w' sb b g p c s (turn (slN c) f i false) ∧ Only g w w' := by
  subst hv; exact give_any sb b g p c s f i w h
theorem rgive_is (mb mg n : Nat) (p c s : Int) (f : Nat → Bool) (x : Int) (v : Bool) (w : World) (h : Ref w mb mg p c s n f) (hn : n ≤ 65536) (hv : hasB n f x = v) :
    Calls Tryd.prog 35 #[.pointer (some ⟨mb, 0, none⟩), .int .i64 x] w fun e w' => e = .returned (.bool v) ∧ Ref w' mb mg p c s n (turn n f x false) ∧ Only mg w w' := by
  subst hv; exact rgive_any mb mg n p c s f x w h hn

set_option maxRecDepth 20000 in
set_option maxHeartbeats 4000000 in
theorem do_any (sb b g mb mg : Nat) (p c s : Int) (f : Nat → Bool) (k v : Int) (w wr : World) (h : Two w wr sb b g mb mg p c s f) (hT : Tabs w) (r : Rt p c s) (hv : -9223372036854775808 ≤ v ∧ v ≤ 9223372036854775807) :
    Calls Tryd.prog 12 #[.pointer (some ⟨sb, 0, none⟩), .pointer (some ⟨mb, 0, none⟩), .agg #[.int .i64 k, .int .i64 v]] wr fun e w' => e = .returned (.bool true) ∧ ∃ f', Two w w' sb b g mb mg p c s f' := by
  obtain ⟨D, hD, q0, q1, bD⟩ := cbox wr k v
  have HD : Hid (wr.alloc (.cells #[.int .i64 k, .int .i64 v] 36) = D) := hD
  have TD : Hid (Two w D sb b g mb mg p c s f) := h.keep bD
  have HT : Hid (Tabs D) := hT.keep TD.out.sp.low
  have R : Hid (Rt p c s) := r
  have N16 : Hid (slN c ≤ 65536) := h.sp.at'.set.few
  have Ng : Hid (wr.heap.size ≠ g) := Nat.ne_of_gt h.sp.at'.set.hg
  have Nm : Hid (wr.heap.size ≠ mg) := Nat.ne_of_gt h.ref.lt.2
  clear hD bD h hT r
  by_cases k1 : k = 1
  · subst k1
    go_enter Tryd.func12, Tryd.ntmps12
    go_upto_region 1 with (fail)
    rw [HD.out]
    go_wp2_with (first
      | (go_at_call 28; refine (take_any sb b g p c s f D TD.out.sp.at' HT.out.2).mono ?_; rintro e w1 ⟨r, ok, f1, rfl, r1, s1, o1⟩; have R1 : Hid (TakeR (slN c) f r ok f1) := r1; have S1 : Hid (SpanAt w1 sb b g p c s f1) := s1; have O1 : Hid (Only g D w1) := o1; have M1 : Hid (Ref w1 mb mg p c s (slN c) f) := TD.out.ref.beside o1 TD.out.n1 TD.out.n2; clear r1 s1 o1)
      | (go_at_call 34; refine (rtake_any mb mg (slN c) p c s f w1 M1.out N16.out).mono ?_; rintro e w2 ⟨r', ok', f2, rfl, r2, m2, o2⟩; obtain ⟨rfl, rfl, rfl⟩ := R1.out.one r2; have E2 : Hid (Two w w2 sb b g mb mg p c s f1) := TD.out.next S1.out O1.out m2 o2; clear r2 m2 o2))
    go_ret
    first | exact ⟨rfl, f1, E2.out⟩ | exact ⟨by simp, f1, E2.out⟩
  · by_cases k2 : k = 2
    · subst k2
      obtain ⟨y, hy⟩ : ∃ y, hasB (slN c) f v = y := ⟨_, rfl⟩
      have HY : Hid (hasB (slN c) f v = y) := hy
      clear hy k1
      go_enter Tryd.func12, Tryd.ntmps12
      go_upto_region 1 with (fail)
      rw [HD.out]
      go_wp2_with fail
      go_region_held3 (fun w' => w'.cell? ⟨wr.heap.size, 1, none⟩ = some (.int .i64 v)) (first | exact q3 | exact q2 | exact q1)
        (first
          | (go_at_call 29; refine (give_is sb b g p c s f v y _ TD.out.sp.at'.drew HY.out).mono ?_; rintro e w1 ⟨rfl, s1, o1⟩; have S1 : Hid (SpanAt w1 sb b g p c s (turn (slN c) f v false)) := s1; have O1 : Hid (Only g D w1) := ⟨o1.os, o1.tape, o1.output, o1.size, o1.block⟩; have M1 : Hid (Ref w1 mb mg p c s (slN c) f) := TD.out.ref.beside O1.out TD.out.n1 TD.out.n2; have q2 := (O1.out.cell (p := ⟨wr.heap.size, 1, none⟩) Ng.out).trans q1; clear s1 o1)
          | (go_at_call 35; refine (rgive_is mb mg (slN c) p c s f v y w1 M1.out N16.out HY.out).mono ?_; rintro e w2 ⟨rfl, m2, o2⟩; have E2 : Hid (Two w w2 sb b g mb mg p c s (turn (slN c) f v false)) := TD.out.next S1.out O1.out m2 o2; have q3 := (o2.cell (p := ⟨wr.heap.size, 1, none⟩) Nm.out).trans q2; clear m2 o2))
      go_wp2
      go_ret
      first | exact ⟨rfl, _, E2.out⟩ | exact ⟨by simp, _, E2.out⟩
    · by_cases k3 : k = 3
      · subst k3
        obtain ⟨y, hy⟩ : ∃ y, hasB (slN c) f v = y := ⟨_, rfl⟩
        have HY : Hid (hasB (slN c) f v = y) := hy
        clear hy k1 k2
        go_enter Tryd.func12, Tryd.ntmps12
        go_upto_region 1 with (fail)
        rw [HD.out]
        go_wp2_with fail
        go_quiet ((first
          | (go_at_call 32; exact Calls.quiet_of_same (has_q sb b g p c s f v y _ (TD.out.sp.at'.drewN _) HY.out))
          | (go_at_call 36; exact Calls.quiet_of_same (rhas_q mb mg (slN c) p c s f v y _ (TD.out.ref.drewN _) N16.out HY.out))))
        go_wp2
        go_ret
        first | exact ⟨rfl, f, TD.out.drewN _⟩ | exact ⟨by simp, f, TD.out.drewN _⟩
      · by_cases k4 : k = 4
        · subst k4
          by_cases hin : 0 ≤ v ∧ v < (slN c : Int)
          · obtain ⟨i, rfl⟩ : ∃ i : Nat, v = i := ⟨v.toNat, by omega⟩
            have hi : i < slN c := by omega
            obtain ⟨y, hy⟩ : ∃ y, 256 * p + (i : Int) * szI c s = y := ⟨_, rfl⟩
            have HY : Hid (256 * p + (i : Int) * szI c s = y) := hy
            clear hy hin k1 k2 k3
            go_enter Tryd.func12, Tryd.ntmps12
            go_upto_region 1 with (fail)
            rw [HD.out]
            go_wp2_with (first
              | (go_at_call 30; refine (at_in sb p c s i D TD.out.sp.at'.box HT.out.1 R.out hi).mono ?_; rw [HY.out]; rintro e w' ⟨rfl, rfl⟩)
              | (go_at_call 37; refine (rat_is mb mg (slN c) p c s f i y D TD.out.ref R.out rfl hi HY.out).mono ?_; rintro e w2 ⟨rfl, m, rfl⟩))
            go_ret
            first | exact ⟨rfl, f, TD.out.drewN _⟩ | exact ⟨by simp, f, TD.out.drewN _⟩
          · clear k1 k2 k3
            have HI : Hid (¬ (0 ≤ v ∧ v < (slN c : Int))) := hin
            clear hin
            go_enter Tryd.func12, Tryd.ntmps12
            go_upto_region 1 with (fail)
            rw [HD.out]
            go_wp2_with (first
              | (go_at_call 30; refine (at_out sb p c s v D TD.out.sp.at'.box HT.out.1 R.out HI.out).mono ?_; rintro e w' ⟨rfl, rfl⟩)
              | (go_at_call 37; refine (rat_out mb mg (slN c) p c s f v D TD.out.ref N16.out HI.out).mono ?_; rintro e w' ⟨rfl, rfl⟩))
            go_ret
            first | exact ⟨rfl, f, TD.out⟩ | exact ⟨by simp, f, TD.out⟩
        · by_cases k5 : k = 5
          · subst k5
            clear k1 k2 k3 k4
            have Z1 : Hid (1 ≤ szI c s) := R.out.facts.2.2.2.1
            go_enter Tryd.func12, Tryd.ntmps12
            go_upto_region 1 with (fail)
            rw [HD.out]
            go_wp2_with (first
              | (go_at_call 31; refine (slot_any sb p c s v D TD.out.sp.at'.box HT.out.1 R.out hv).mono ?_; rintro e w' ⟨y, ok, rfl, hs, rfl⟩; have SR : Hid (SlotR (slN c) p (szI c s) v y ok) := hs; clear hs)
              | (go_at_call 38; refine (rslot_any mb mg (slN c) p c s f v D TD.out.ref R.out rfl).mono ?_; rintro e w2 ⟨y', ok', rfl, hs, m, rfl⟩; obtain ⟨rfl, rfl⟩ := SR.out.one Z1.out hs; clear hs))
            go_ret
            first | exact ⟨rfl, f, TD.out.drewN _⟩ | exact ⟨by simp, f, TD.out.drewN _⟩
          · have m1 : (k == 1) = false := beq_eq_false_iff_ne.2 k1
            have m2 : (k == 2) = false := beq_eq_false_iff_ne.2 k2
            have m3 : (k == 3) = false := beq_eq_false_iff_ne.2 k3
            have m4 : (k == 4) = false := beq_eq_false_iff_ne.2 k4
            have m5 : (k == 5) = false := beq_eq_false_iff_ne.2 k5
            go_enter Tryd.func12, Tryd.ntmps12
            go_upto_region 1 with (fail)
            rw [HD.out]
            go_wp2
            go_ret
            exact ⟨rfl, f, TD.out⟩
end Go.Proofs.YtmahgdjbgkeecaaDoor
