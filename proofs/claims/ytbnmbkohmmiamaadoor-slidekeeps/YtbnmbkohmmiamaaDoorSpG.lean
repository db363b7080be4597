/- A span in memory: sized, check, Has, Live, Take, Give, Data. -/
import Derived.Test.YtbnmbkohmmiamaaDoorSpF
import Derived.Test.YtbnmbkohmmiamaaDoorSpE
namespace Go.Proofs.YtbnmbkohmmiamaaDoor
open Go.RowKit
set_option linter.unusedVariables false

theorem Below.ofDrewN {B : Nat} {w w' : World} (m : Nat) (h : Below B (w.drewN m) w') : Below B w w' := ⟨h.os, h.tape, h.output, h.size, h.block⟩
theorem Below.ofDrew {B : Nat} {w w' : World} (h : Below B w.drew w') : Below B w w' := ⟨h.os, h.tape, h.output, h.size, h.block⟩
theorem Below.toDrewN {B : Nat} {w w' : World} (m : Nat) (h : Below B w w') : Below B w (w'.drewN m) := ⟨h.os, h.tape, h.output, h.size, h.block⟩
theorem Below.toDrew {B : Nat} {w w' : World} (h : Below B w w') : Below B w w'.drew := ⟨h.os, h.tape, h.output, h.size, h.block⟩
theorem bcell {w w' : World} {p : Addr} {v : Value} (hb : Below w.heap.size w w') (h : w.cell? p = some v) : w'.cell? p = some v := (hb.cell (World.block_lt_of_cell? w p h)).trans h
theorem Bx.keep {w w' : World} {sb : Nat} {p c s : Int} (h : Bx w sb p c s) (hb : Below w.heap.size w w') : Bx w' sb p c s := ⟨bcell hb h.b0, bcell hb h.b1, bcell hb h.b2⟩

theorem sized_any (sb : Nat) (p c s : Int) (w : World) (h : Bx w sb p c s) (hT : TabC w) (h0 : 0 ≤ c) (h7 : c ≤ 7) (r : Bool) (hr : decide ((c < 7 → s = 0) ∧ (c = 7 → ofI s = 7)) = r) :
    Calls Tryd.prog 65 #[.pointer (some ⟨sb, 0, none⟩)] w fun e w' => e = .returned (.bool r) ∧ w = w' := by
  have b1 := h.b1
  have b2 := h.b2
  have HT : Hid (TabC w) := hT
  clear h hT
  by_cases hc : c = 7
  · subst hc
    obtain ⟨k, hk⟩ : ∃ k, ofI s = k := ⟨_, rfl⟩
    have HK : Hid (ofI s = k) := hk
    have E : Hid ((k == 7) = r) := by
      show (k == 7) = r
      rw [← hr, hk]
      by_cases h : k = 7
      · subst h; simp
      · simp [h]
    clear hr hk
    go_enter Tryd.func65, Tryd.ntmps65
    go_wp2_with (go_at_call 44; refine (cof_any s _ HT.out).mono ?_; rw [HK.out]; rintro e w' ⟨rfl, rfl⟩)
    go_ret
    exact ⟨ret_bool E.out, rfl⟩
  · have hq : (c == 7) = false := beq_eq_false_iff_ne.2 hc
    have E : Hid ((s == 0) = r) := by
      show (s == 0) = r
      rw [← hr]
      by_cases h : s = 0
      · subst h; simp [hc]
      · have : c < 7 := by omega
        simp [h, this]
    clear hr hc
    go_enter Tryd.func65, Tryd.ntmps65
    go_wp2
    go_ret
    exact ⟨ret_bool E.out, rfl⟩

theorem pages_q (sb : Nat) (p c s : Int) (g : Nat) (w : World) (h : Bx w sb p c s) (hT : TabC w) (h0 : 0 ≤ c) (h7 : c ≤ 7) (hg : pgsN c s = g) :
    Calls Tryd.prog 22 #[.pointer (some ⟨sb, 0, none⟩)] w fun e w' => e = .returned (.int .i64 (g : Nat)) ∧ w' = w := by
  subst hg
  exact (pages_any sb p c s w h hT h0 h7).mono fun e w' ⟨h1, h2⟩ => ⟨h1, h2.symm⟩
set_option maxHeartbeats 1000000 in
theorem check_any (sb : Nat) (p c s : Int) (w : World) (h : Bx w sb p c s) (hT : TabC w) (hp : -9223372036854775808 ≤ p ∧ p ≤ 9223372036854775807) :
    Calls Tryd.prog 56 #[.pointer (some ⟨sb, 0, none⟩)] w fun e w' => e = .returned (.int .i64 (newE p c s)) ∧ Below w.heap.size w w' := by
  have b0 := h.b0
  have b1 := h.b1
  have H : Hid (Bx w sb p c s) := h
  have HT : Hid (TabC w) := hT
  clear h hT
  rcases newE_cases p c s with ⟨h1, e⟩ | ⟨h0, h7, h1, e⟩ | ⟨h0, h7, h1, h2, h3, e⟩ | ⟨r, e⟩
  · rw [e]
    clear e
    rcases h1 with h1 | h1
    · go_enter Tryd.func56, Tryd.ntmps56
      go_wp2
      go_ret
      exact ⟨rfl, Below.refl _ _⟩
    · have h2 : ¬ c < 0 := by omega
      go_enter Tryd.func56, Tryd.ntmps56
      go_wp2
      go_ret
      exact ⟨rfl, Below.refl _ _⟩
  · have D : Hid (decide ((c < 7 → s = 0) ∧ (c = 7 → ofI s = 7)) = false) := decide_eq_false (fun k => by rcases h1 with ⟨a, b⟩ | ⟨a, b⟩; exact b (k.1 a); exact b (k.2 a))
    rw [e]
    clear e h1
    go_enter Tryd.func56, Tryd.ntmps56
    go_wp2_with (go_at_call 65; refine (sized_any sb p c s _ H.out HT.out h0 h7 false D.out).mono ?_; rintro e w' ⟨rfl, rfl⟩)
    go_ret
    exact ⟨rfl, Below.refl _ _⟩
  · have D : Hid (decide ((c < 7 → s = 0) ∧ (c = 7 → ofI s = 7)) = true) := decide_eq_true ⟨h1, h2⟩
    have hpg := pgsN_le c s
    rw [e]
    clear e h1 h2
    obtain ⟨g, hg⟩ : ∃ g, pgsN c s = g := ⟨_, rfl⟩
    have HG : Hid (pgsN c s = g) := hg
    rw [hg] at h3 hpg
    clear hg
    by_cases hp0 : p < 0
    · clear h3
      go_enter Tryd.func56, Tryd.ntmps56
      go_wp2_with (go_at_call 65; refine (sized_any sb p c s _ H.out HT.out h0 h7 true D.out).mono ?_; rintro e w' ⟨rfl, rfl⟩)
      go_quiet (fail)
      go_wp2
      go_ret
      exact ⟨rfl, ⟨rfl, rfl, rfl, Nat.le_refl _, fun _ _ => rfl⟩⟩
    · have h4 : 4096 - (g : Int) < p := by omega
      have g1 : IntKind.i64.wrap (4096 - (g : Int)) = 4096 - (g : Int) := by rw [IntKind.wrap_i64]; omega
      clear h3
      go_enter Tryd.func56, Tryd.ntmps56
      go_wp2_with (go_at_call 65; refine (sized_any sb p c s _ H.out HT.out h0 h7 true D.out).mono ?_; rintro e w' ⟨rfl, rfl⟩)
      go_quiet ((go_at_call 22; exact Calls.quiet_of_same (pages_q sb p c s g _ (H.out.drewN _) HT.out h0 h7 HG.out)))
      go_wp2
      go_ret
      exact ⟨rfl, ⟨rfl, rfl, rfl, Nat.le_refl _, fun _ _ => rfl⟩⟩
  · have D : Hid (decide ((c < 7 → s = 0) ∧ (c = 7 → ofI s = 7)) = true) := decide_eq_true ⟨r.sm, r.lg⟩
    have hpg := pgsN_le c s
    have h0 := r.c0
    have h7 := r.c7
    have hp0 := r.p0
    have hp1 := r.p1
    rw [e]
    clear e r
    obtain ⟨g, hg⟩ : ∃ g, pgsN c s = g := ⟨_, rfl⟩
    have HG : Hid (pgsN c s = g) := hg
    rw [hg] at hp1 hpg
    clear hg
    have h4 : ¬ (4096 - (g : Int) < p) := by omega
    have g1 : IntKind.i64.wrap (4096 - (g : Int)) = 4096 - (g : Int) := by rw [IntKind.wrap_i64]; omega
    go_enter Tryd.func56, Tryd.ntmps56
    go_wp2_with (go_at_call 65; refine (sized_any sb p c s _ H.out HT.out h0 h7 true D.out).mono ?_; rintro e w' ⟨rfl, rfl⟩)
    go_quiet ((go_at_call 22; exact Calls.quiet_of_same (pages_q sb p c s g _ (H.out.drewN _) HT.out h0 h7 HG.out)))
    go_wp2
    go_ret
    exact ⟨rfl, ⟨rfl, rfl, rfl, Nat.le_refl _, fun _ _ => rfl⟩⟩

/-- A span in its box sb, its set in the blocks b and g; f says which slots are taken. -/
structure SpanAt (w : World) (sb b g : Nat) (p c s : Int) (f : Nat → Bool) : Prop where
  box : Bx w sb p c s
  at3 : w.cell? ⟨sb, 3, none⟩ = some (.pointer (some ⟨b, 0, none⟩))
  set : SetAt w b g (slN c) f
  a1 : sb ≠ b
  a2 : sb ≠ g
theorem SpanAt.lt {w : World} {sb b g : Nat} {p c s : Int} {f : Nat → Bool} (h : SpanAt w sb b g p c s f) : sb < w.heap.size := World.block_lt_of_cell? w _ h.at3
theorem SpanAt.keep {w w' : World} {sb b g : Nat} {p c s : Int} {f : Nat → Bool} (h : SpanAt w sb b g p c s f) (hb : Below w.heap.size w w') : SpanAt w' sb b g p c s f :=
  ⟨h.box.keep hb, bcell hb h.at3, h.set.keepAll hb, h.a1, h.a2⟩
theorem SpanAt.beside {w w' : World} {sb b g o : Nat} {p c s : Int} {f : Nat → Bool} (h : SpanAt w sb b g p c s f) (ho : Only o w w') (h1 : sb ≠ o) (h2 : b ≠ o) (h3 : g ≠ o) : SpanAt w' sb b g p c s f :=
  ⟨⟨(ho.cell (p := ⟨sb, 0, none⟩) h1).trans h.box.b0, (ho.cell (p := ⟨sb, 1, none⟩) h1).trans h.box.b1, (ho.cell (p := ⟨sb, 2, none⟩) h1).trans h.box.b2⟩, (ho.cell (p := ⟨sb, 3, none⟩) h1).trans h.at3, h.set.beside ho h2 h3, h.a1, h.a2⟩
theorem SpanAt.turned {w w' : World} {sb b g : Nat} {p c s : Int} {f f' : Nat → Bool} (h : SpanAt w sb b g p c s f) (hs : SetAt w' b g (slN c) f') (ho : Only g w w') : SpanAt w' sb b g p c s f' :=
  ⟨⟨(ho.cell (p := ⟨sb, 0, none⟩) h.a2).trans h.box.b0, (ho.cell (p := ⟨sb, 1, none⟩) h.a2).trans h.box.b1, (ho.cell (p := ⟨sb, 2, none⟩) h.a2).trans h.box.b2⟩, (ho.cell (p := ⟨sb, 3, none⟩) h.a2).trans h.at3, hs, h.a1, h.a2⟩
theorem SpanAt.drewN {w : World} {sb b g : Nat} {p c s : Int} {f : Nat → Bool} (h : SpanAt w sb b g p c s f) (m : Nat) : SpanAt (w.drewN m) sb b g p c s f :=
  ⟨h.box.drewN m, h.at3, ⟨h.set.len, h.set.words, h.set.word, h.set.thawed, h.set.few, h.set.within, h.set.hb, h.set.hg, h.set.apart⟩, h.a1, h.a2⟩
theorem SpanAt.drew {w : World} {sb b g : Nat} {p c s : Int} {f : Nat → Bool} (h : SpanAt w sb b g p c s f) : SpanAt w.drew sb b g p c s f := h.drewN 1

theorem live_any (sb b g : Nat) (p c s : Int) (f : Nat → Bool) (w : World) (h : SpanAt w sb b g p c s f) :
    Calls Tryd.prog 21 #[.pointer (some ⟨sb, 0, none⟩)] w fun e w' => e = .returned (.int .i64 (cnt f (slN c) : Nat)) ∧ w = w' := by
  have b3 := h.at3
  have HS : Hid (SetAt w b g (slN c) f) := h.set
  clear h
  go_enter Tryd.func21, Tryd.ntmps21
  go_wp2_with (go_at_call 41; refine (count_any b g (slN c) f _ HS.out).mono ?_; rintro e w' ⟨rfl, rfl⟩)
  go_ret
  exact ⟨rfl, rfl⟩
theorem give_any (sb b g : Nat) (p c s : Int) (f : Nat → Bool) (i : Int) (w : World) (h : SpanAt w sb b g p c s f) :
    Calls Tryd.prog 60 #[.pointer (some ⟨sb, 0, none⟩), .int .i64 i] w fun e w' => e = .returned (.bool (hasB (slN c) f i)) ∧ SpanAt w' sb b g p c s (turn (slN c) f i false) ∧ Only g w w' := by
  have b3 := h.at3
  have HS : Hid (SpanAt w sb b g p c s f) := h
  clear h
  go_enter Tryd.func60, Tryd.ntmps60
  go_wp2_with (go_at_call 69; refine (sdel_any b g (slN c) f i _ HS.out.set).mono ?_; rintro e w1 ⟨rfl, s1, o1⟩; have S1 : Hid (SetAt w1 b g (slN c) (turn (slN c) f i false)) := s1; have O1 : Hid (Only g w w1) := o1; clear s1 o1)
  go_ret
  exact ⟨rfl, HS.out.turned S1.out O1.out, O1.out⟩

/-- What Take answers, and what is taken then. -/
def TakeR (n : Nat) (f : Nat → Bool) (r : Int) (ok : Bool) (f' : Nat → Bool) : Prop :=
  (ok = true ∧ ∃ j : Nat, r = (j : Int) ∧ j < n ∧ f j = false ∧ (∀ k, k < j → f k = true) ∧ f' = put f j true) ∨ (ok = false ∧ r = 0 ∧ (∀ k, k < n → f k = true) ∧ f' = f)
theorem TakeR.one {n : Nat} {f f1 f2 : Nat → Bool} {r1 r2 : Int} {o1 o2 : Bool} (h : TakeR n f r1 o1 f1) (h' : TakeR n f r2 o2 f2) : r1 = r2 ∧ o1 = o2 ∧ f1 = f2 := by
  rcases h with ⟨rfl, j, rfl, a1, a2, a3, rfl⟩ | ⟨rfl, rfl, a1, rfl⟩ <;> rcases h' with ⟨rfl, k, rfl, b1, b2, b3, rfl⟩ | ⟨rfl, rfl, b1, rfl⟩
  · have : j = k := by
      rcases Nat.lt_trichotomy j k with h | h | h
      · have := b3 j h; rw [a2] at this; cases this
      · exact h
      · have := a3 k h; rw [b2] at this; cases this
    subst this
    exact ⟨rfl, rfl, rfl⟩
  · have := b1 j a1; rw [a2] at this; cases this
  · have := a1 k b1; rw [b2] at this; cases this
  · exact ⟨rfl, rfl, rfl⟩
theorem TakeR.within {n : Nat} {f f1 : Nat → Bool} {r1 : Int} {o1 : Bool} (h : TakeR n f r1 o1 f1) (hw : ∀ i, f i = true → i < n) : ∀ i, f1 i = true → i < n := by
  rcases h with ⟨rfl, j, rfl, a1, a2, a3, rfl⟩ | ⟨rfl, rfl, a1, rfl⟩
  · exact put_within hw a1
  · exact hw

set_option maxHeartbeats 1000000 in
theorem takeLeast_any (sb b g : Nat) (p c s : Int) (f : Nat → Bool) (w : World) (h : SpanAt w sb b g p c s f) (hT : TabB w) :
    Calls Tryd.prog 61 #[.pointer (some ⟨sb, 3, none⟩)] w fun e w' => ∃ r ok f', e = .returned (.tuple #[.int .i64 r, .bool ok]) ∧ TakeR (slN c) f r ok f' ∧ SpanAt w' sb b g p c s f' ∧ Only g w w' := by
  have b3 := h.at3
  have HS : Hid (SpanAt w sb b g p c s f) := h
  have HT : Hid (TabB w) := hT
  have few := h.set.few
  clear h hT
  obtain ⟨x, hx⟩ : ∃ x, nextL (outB f) (slN c) (Int.toNat 0) = x := ⟨_, rfl⟩
  have HX : Hid (nextL (outB f) (slN c) (Int.toNat 0) = x) := hx
  rcases nextL_cases (outB f) (slN c) (Int.toNat 0) with ⟨e1, e2⟩ | ⟨j, e1, e2, e3, e4, e5⟩
  · rw [hx] at e1
    subst e1
    have P : Hid ((isP (slN c) (-1) && !f (Int.toNat (-1))) = false) := by show _ = _; rw [show isP (slN c) (-1) = false from isP_false.2 (by omega)]; rfl
    have A : Hid (∀ k, k < slN c → f k = true) := fun k hk => by have := e2 k (Nat.zero_le _) hk; unfold outB at this; simpa using this
    have T : Hid (turn (slN c) f (-1) true = f) := by show _ = _; funext y; rw [turn, if_neg]; intro hh; have := isP_true.1 hh.1; omega
    clear e2 hx
    go_enter Tryd.func61, Tryd.ntmps61
    go_wp2_with (first
      | (go_at_call 70; refine (gap_any b g (slN c) f 0 _ HS.out.set HT.out (by omega)).mono ?_; rw [HX.out]; rintro e w' ⟨rfl, rfl⟩)
      | (go_at_call 58; refine (sadd_any b g (slN c) f (-1) _ HS.out.set).mono ?_; rw [P.out, T.out]; rintro e w1 ⟨rfl, s1, o1⟩; have S1 : Hid (SetAt w1 b g (slN c) f) := s1; have O1 : Hid (Only g w w1) := o1; clear s1 o1))
    go_ret2
    exact ⟨_, _, f, rfl, .inr ⟨rfl, rfl, A.out, rfl⟩, HS.out.turned S1.out O1.out, O1.out⟩
  · rw [hx] at e1
    subst e1
    have fj : f j = false := by unfold outB at e4; simpa using e4
    have hp : isP (slN c) (j : Int) = true := isP_true.2 (by omega)
    have P : Hid ((isP (slN c) (j : Int) && !f (Int.toNat (j : Int))) = true) := by show _ = _; rw [hp, Int.toNat_natCast, fj]; rfl
    have T : Hid (turn (slN c) f (j : Int) true = put f j true) := by show _ = _; funext y; rw [← turn_put hp y]; rfl
    have R : Hid (TakeR (slN c) f (j : Int) true (put f j true)) := .inl ⟨rfl, j, rfl, e3, fj, fun k hk => by have := e5 k (Nat.zero_le _) hk; unfold outB at this; simpa using this, rfl⟩
    have hj6 : (j : Int) ≤ 65536 := by omega
    clear e2 e3 e4 e5 hx fj hp
    go_enter Tryd.func61, Tryd.ntmps61
    go_wp2_with (first
      | (go_at_call 70; refine (gap_any b g (slN c) f 0 _ HS.out.set HT.out (by omega)).mono ?_; rw [HX.out]; rintro e w' ⟨rfl, rfl⟩)
      | (go_at_call 58; refine (sadd_any b g (slN c) f (j : Int) _ HS.out.set).mono ?_; rw [P.out, T.out]; rintro e w1 ⟨rfl, s1, o1⟩; have S1 : Hid (SetAt w1 b g (slN c) (put f j true)) := s1; have O1 : Hid (Only g w w1) := o1; have b4 : w1.cell? ⟨sb, 3, none⟩ = some (.pointer (some ⟨b, 0, none⟩)) := (HS.out.turned S1.out O1.out).at3; clear s1 o1))
    go_ret2
    exact ⟨_, _, _, rfl, R.out, HS.out.turned S1.out O1.out, O1.out⟩
theorem take_any (sb b g : Nat) (p c s : Int) (f : Nat → Bool) (w : World) (h : SpanAt w sb b g p c s f) (hT : TabB w) :
    Calls Tryd.prog 48 #[.pointer (some ⟨sb, 0, none⟩)] w fun e w' => ∃ r ok f', e = .returned (.tuple #[.int .i64 r, .bool ok]) ∧ TakeR (slN c) f r ok f' ∧ SpanAt w' sb b g p c s f' ∧ Only g w w' := by
  have HS : Hid (SpanAt w sb b g p c s f) := h
  have HT : Hid (TabB w) := hT
  clear h hT
  go_enter Tryd.func48, Tryd.ntmps48
  go_wp2_with (go_at_call 61; refine (takeLeast_any sb b g p c s f _ HS.out HT.out).mono ?_; rintro e w1 ⟨r, ok, f', rfl, r1, s1, o1⟩; have R1 : Hid (TakeR (slN c) f r ok f') := r1; have S1 : Hid (SpanAt w1 sb b g p c s f') := s1; have O1 : Hid (Only g w w1) := o1; clear r1 s1 o1)
  go_ret2
  exact ⟨r, ok, f', rfl, R1.out, S1.out, O1.out⟩
end Go.Proofs.YtbnmbkohmmiamaaDoor
