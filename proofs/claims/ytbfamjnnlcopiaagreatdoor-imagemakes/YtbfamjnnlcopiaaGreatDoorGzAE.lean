/- A span in memory: sized, check, Has, Live, Take, Give, Data. -/
import Derived.Test.YtbfamjnnlcopiaaGreatDoorGzAD
namespace Go.Proofs.YtbfamjnnlcopiaaGreatDoor
open Go.RowKit
set_option linter.unusedVariables false
set_option maxRecDepth 4000

theorem Below.ofDrew {B : Nat} {w w' : World} (h : Below B w.drew w') : Below B w w' := ⟨h.os, h.tape, h.output, h.size, h.block⟩
theorem Below.toDrew {B : Nat} {w w' : World} (h : Below B w w') : Below B w w'.drew := ⟨h.os, h.tape, h.output, h.size, h.block⟩
theorem bcell {w w' : World} {p : Addr} {v : Value} (hb : Below w.heap.size w w') (h : w.cell? p = some v) : w'.cell? p = some v := (hb.cell (World.block_lt_of_cell? w p h)).trans h
theorem Bx.keep {w w' : World} {sb : Nat} {p c s : Int} (h : Bx w sb p c s) (hb : Below w.heap.size w w') : Bx w' sb p c s := ⟨bcell hb h.b0, bcell hb h.b1, bcell hb h.b2⟩

theorem sized_any (sb : Nat) (p c s : Int) (w : World) (h : Bx w sb p c s) (hT : TabC w) (h0 : 0 ≤ c) (h7 : c ≤ 7) (r : Bool) (hr : decide ((c < 7 → s = 0) ∧ (c = 7 → ofI s = 7)) = r) :
    Calls Tryz.prog 125 #[.pointer (some ⟨sb, 0, none⟩)] w fun e w' => e = .returned (.bool r) ∧ w = w' := by
  have b1 := h.b1
  have b2 := h.b2
  have HT : Hid (TabC w) := hT
  clear h hT
  by_cases hc : c = 7
  · subst hc
    obtain ⟨k, hk⟩ : ∃ k, ofI s = k := ⟨_, rfl⟩
    have HK : Hid (ofI s = k) := hk
    have E : Hid ((k == 7) = r) := by
      show (k == 7) = r
      rw [← hr, hk]
      by_cases h : k = 7
      · subst h; simp
      · simp [h]
    clear hr hk
    go_enter Tryz.func125, Tryz.ntmps125
    go_wp2_with (go_at_call 133; refine (cof_any s _ HT.out).mono ?_; rw [HK.out]; rintro e w' ⟨rfl, rfl⟩)
    go_ret
    exact ⟨ret_bool E.out, rfl⟩
  · have hq : (c == 7) = false := beq_eq_false_iff_ne.2 hc
    have E : Hid ((s == 0) = r) := by
      show (s == 0) = r
      rw [← hr]
      by_cases h : s = 0
      · subst h; simp [hc]
      · have : c < 7 := by omega
        simp [h, this]
    clear hr hc
    go_enter Tryz.func125, Tryz.ntmps125
    go_wp2
    go_ret
    exact ⟨ret_bool E.out, rfl⟩

theorem pages_q (sb : Nat) (p c s : Int) (g : Nat) (w : World) (h : Bx w sb p c s) (hT : TabC w) (h0 : 0 ≤ c) (h7 : c ≤ 7) (hg : pgsN c s = g) :
    Calls Tryz.prog 126 #[.pointer (some ⟨sb, 0, none⟩)] w fun e w' => e = .returned (.int .i64 (g : Nat)) ∧ w' = w := by
  subst hg
  exact (pages_any sb p c s w h hT h0 h7).mono fun e w' ⟨h1, h2⟩ => ⟨h1, h2.symm⟩
set_option maxHeartbeats 1000000 in
theorem check_any (sb : Nat) (p c s : Int) (w : World) (h : Bx w sb p c s) (hT : TabC w) (hp : -9223372036854775808 ≤ p ∧ p ≤ 9223372036854775807) :
    Calls Tryz.prog 109 #[.pointer (some ⟨sb, 0, none⟩)] w fun e w' => e = .returned (.int .i64 (newE p c s)) ∧ Below w.heap.size w w' := by
  have b0 := h.b0
  have b1 := h.b1
  have H : Hid (Bx w sb p c s) := h
  have HT : Hid (TabC w) := hT
  clear h hT
  rcases newE_cases p c s with ⟨h1, e⟩ | ⟨h0, h7, h1, e⟩ | ⟨h0, h7, h1, h2, h3, e⟩ | ⟨r, e⟩
  · rw [e]
    clear e
    rcases h1 with h1 | h1
    · go_enter Tryz.func109, Tryz.ntmps109
      go_wp2
      go_ret
      exact ⟨rfl, Below.refl _ _⟩
    · have h2 : ¬ c < 0 := by omega
      go_enter Tryz.func109, Tryz.ntmps109
      go_wp2
      go_ret
      exact ⟨rfl, Below.refl _ _⟩
  · have D : Hid (decide ((c < 7 → s = 0) ∧ (c = 7 → ofI s = 7)) = false) := decide_eq_false (fun k => by rcases h1 with ⟨a, b⟩ | ⟨a, b⟩; exact b (k.1 a); exact b (k.2 a))
    rw [e]
    clear e h1
    go_enter Tryz.func109, Tryz.ntmps109
    go_wp2_with (go_at_call 125; refine (sized_any sb p c s _ H.out HT.out h0 h7 false D.out).mono ?_; rintro e w' ⟨rfl, rfl⟩)
    go_ret
    exact ⟨rfl, Below.refl _ _⟩
  · have D : Hid (decide ((c < 7 → s = 0) ∧ (c = 7 → ofI s = 7)) = true) := decide_eq_true ⟨h1, h2⟩
    have hpg := pgsN_le c s
    rw [e]
    clear e h1 h2
    obtain ⟨g, hg⟩ : ∃ g, pgsN c s = g := ⟨_, rfl⟩
    have HG : Hid (pgsN c s = g) := hg
    rw [hg] at h3 hpg
    clear hg
    by_cases hp0 : p < 0
    · clear h3
      go_enter Tryz.func109, Tryz.ntmps109
      go_wp2_with (go_at_call 125; refine (sized_any sb p c s _ H.out HT.out h0 h7 true D.out).mono ?_; rintro e w' ⟨rfl, rfl⟩)
      go_quiet (fail)
      go_wp2
      go_ret
      exact ⟨rfl, ⟨rfl, rfl, rfl, Nat.le_refl _, fun _ _ => rfl⟩⟩
    · have h4 : 4096 - (g : Int) < p := by omega
      have g1 : IntKind.i64.wrap (4096 - (g : Int)) = 4096 - (g : Int) := by rw [IntKind.wrap_i64]; omega
      clear h3
      go_enter Tryz.func109, Tryz.ntmps109
      go_wp2_with (go_at_call 125; refine (sized_any sb p c s _ H.out HT.out h0 h7 true D.out).mono ?_; rintro e w' ⟨rfl, rfl⟩)
      go_quiet ((go_at_call 126; exact Calls.quiet_of_same (pages_q sb p c s g _ (H.out.drewN _) HT.out h0 h7 HG.out)))
      go_wp2
      go_ret
      exact ⟨rfl, ⟨rfl, rfl, rfl, Nat.le_refl _, fun _ _ => rfl⟩⟩
  · have D : Hid (decide ((c < 7 → s = 0) ∧ (c = 7 → ofI s = 7)) = true) := decide_eq_true ⟨r.sm, r.lg⟩
    have hpg := pgsN_le c s
    have h0 := r.c0
    have h7 := r.c7
    have hp0 := r.p0
    have hp1 := r.p1
    rw [e]
    clear e r
    obtain ⟨g, hg⟩ : ∃ g, pgsN c s = g := ⟨_, rfl⟩
    have HG : Hid (pgsN c s = g) := hg
    rw [hg] at hp1 hpg
    clear hg
    have h4 : ¬ (4096 - (g : Int) < p) := by omega
    have g1 : IntKind.i64.wrap (4096 - (g : Int)) = 4096 - (g : Int) := by rw [IntKind.wrap_i64]; omega
    go_enter Tryz.func109, Tryz.ntmps109
    go_wp2_with (go_at_call 125; refine (sized_any sb p c s _ H.out HT.out h0 h7 true D.out).mono ?_; rintro e w' ⟨rfl, rfl⟩)
    go_quiet ((go_at_call 126; exact Calls.quiet_of_same (pages_q sb p c s g _ (H.out.drewN _) HT.out h0 h7 HG.out)))
    go_wp2
    go_ret
    exact ⟨rfl, ⟨rfl, rfl, rfl, Nat.le_refl _, fun _ _ => rfl⟩⟩

/-- A span in its box sb, its set in the blocks b and g; f says which slots are taken. -/
structure SpanAt (w : World) (sb b g : Nat) (p c s : Int) (f : Nat → Bool) : Prop where
  box : Bx w sb p c s
  at3 : w.cell? ⟨sb, 3, none⟩ = some (.pointer (some ⟨b, 0, none⟩))
  set : SetAt w b g (slN c) f
  a1 : sb ≠ b
  a2 : sb ≠ g
theorem SpanAt.lt {w : World} {sb b g : Nat} {p c s : Int} {f : Nat → Bool} (h : SpanAt w sb b g p c s f) : sb < w.heap.size := World.block_lt_of_cell? w _ h.at3
theorem SpanAt.keep {w w' : World} {sb b g : Nat} {p c s : Int} {f : Nat → Bool} (h : SpanAt w sb b g p c s f) (hb : Below w.heap.size w w') : SpanAt w' sb b g p c s f :=
  ⟨h.box.keep hb, bcell hb h.at3, h.set.keepAll hb, h.a1, h.a2⟩
theorem SpanAt.beside {w w' : World} {sb b g o : Nat} {p c s : Int} {f : Nat → Bool} (h : SpanAt w sb b g p c s f) (ho : Only o w w') (h1 : sb ≠ o) (h2 : b ≠ o) (h3 : g ≠ o) : SpanAt w' sb b g p c s f :=
  ⟨⟨(ho.cell (p := ⟨sb, 0, none⟩) h1).trans h.box.b0, (ho.cell (p := ⟨sb, 1, none⟩) h1).trans h.box.b1, (ho.cell (p := ⟨sb, 2, none⟩) h1).trans h.box.b2⟩, (ho.cell (p := ⟨sb, 3, none⟩) h1).trans h.at3, h.set.beside ho h2 h3, h.a1, h.a2⟩
theorem SpanAt.turned {w w' : World} {sb b g : Nat} {p c s : Int} {f f' : Nat → Bool} (h : SpanAt w sb b g p c s f) (hs : SetAt w' b g (slN c) f') (ho : Only g w w') : SpanAt w' sb b g p c s f' :=
  ⟨⟨(ho.cell (p := ⟨sb, 0, none⟩) h.a2).trans h.box.b0, (ho.cell (p := ⟨sb, 1, none⟩) h.a2).trans h.box.b1, (ho.cell (p := ⟨sb, 2, none⟩) h.a2).trans h.box.b2⟩, (ho.cell (p := ⟨sb, 3, none⟩) h.a2).trans h.at3, hs, h.a1, h.a2⟩
theorem SpanAt.drewN {w : World} {sb b g : Nat} {p c s : Int} {f : Nat → Bool} (h : SpanAt w sb b g p c s f) (m : Nat) : SpanAt (w.drewN m) sb b g p c s f :=
  ⟨h.box.drewN m, h.at3, ⟨h.set.len, h.set.words, h.set.word, h.set.thawed, h.set.few, h.set.within, h.set.hb, h.set.hg, h.set.apart⟩, h.a1, h.a2⟩
theorem SpanAt.drew {w : World} {sb b g : Nat} {p c s : Int} {f : Nat → Bool} (h : SpanAt w sb b g p c s f) : SpanAt w.drew sb b g p c s f := h.drewN 1

theorem live_any (sb b g : Nat) (p c s : Int) (f : Nat → Bool) (w : World) (h : SpanAt w sb b g p c s f) :
    Calls Tryz.prog 62 #[.pointer (some ⟨sb, 0, none⟩)] w fun e w' => e = .returned (.int .i64 (cnt f (slN c) : Nat)) ∧ w = w' := by
  have b3 := h.at3
  have HS : Hid (SetAt w b g (slN c) f) := h.set
  clear h
  go_enter Tryz.func62, Tryz.ntmps62
  go_wp2_with (go_at_call 95; refine (count_any b g (slN c) f _ HS.out).mono ?_; rintro e w' ⟨rfl, rfl⟩)
  go_ret
  exact ⟨rfl, rfl⟩
theorem has_any (sb b g : Nat) (p c s : Int) (f : Nat → Bool) (i : Int) (w : World) (h : SpanAt w sb b g p c s f) :
    Calls Tryz.prog 138 #[.pointer (some ⟨sb, 0, none⟩), .int .i64 i] w fun e w' => e = .returned (.bool (hasB (slN c) f i)) ∧ w = w' := by
  have b3 := h.at3
  have HS : Hid (SetAt w b g (slN c) f) := h.set
  clear h
  go_enter Tryz.func138, Tryz.ntmps138
  go_wp2_with (go_at_call 107; refine (shas_any b g (slN c) f i _ HS.out).mono ?_; rintro e w' ⟨rfl, rfl⟩)
  go_ret
  exact ⟨rfl, rfl⟩
/-- What Take answers, and what is taken then. -/
def TakeR (n : Nat) (f : Nat → Bool) (r : Int) (ok : Bool) (f' : Nat → Bool) : Prop :=
  (ok = true ∧ ∃ j : Nat, r = (j : Int) ∧ j < n ∧ f j = false ∧ (∀ k, k < j → f k = true) ∧ f' = put f j true) ∨ (ok = false ∧ r = 0 ∧ (∀ k, k < n → f k = true) ∧ f' = f)
theorem TakeR.one {n : Nat} {f f1 f2 : Nat → Bool} {r1 r2 : Int} {o1 o2 : Bool} (h : TakeR n f r1 o1 f1) (h' : TakeR n f r2 o2 f2) : r1 = r2 ∧ o1 = o2 ∧ f1 = f2 := by
  rcases h with ⟨rfl, j, rfl, a1, a2, a3, rfl⟩ | ⟨rfl, rfl, a1, rfl⟩ <;> rcases h' with ⟨rfl, k, rfl, b1, b2, b3, rfl⟩ | ⟨rfl, rfl, b1, rfl⟩
  · have : j = k := by
      rcases Nat.lt_trichotomy j k with h | h | h
      · have := b3 j h; rw [a2] at this; cases this
      · exact h
      · have := a3 k h; rw [b2] at this; cases this
    subst this
    exact ⟨rfl, rfl, rfl⟩
  · have := b1 j a1; rw [a2] at this; cases this
  · have := a1 k b1; rw [b2] at this; cases this
  · exact ⟨rfl, rfl, rfl⟩
theorem TakeR.within {n : Nat} {f f1 : Nat → Bool} {r1 : Int} {o1 : Bool} (h : TakeR n f r1 o1 f1) (hw : ∀ i, f i = true → i < n) : ∀ i, f1 i = true → i < n := by
  rcases h with ⟨rfl, j, rfl, a1, a2, a3, rfl⟩ | ⟨rfl, rfl, a1, rfl⟩
  · exact put_within hw a1
  · exact hw

end Go.Proofs.YtbfamjnnlcopiaaGreatDoor

/- Slices of numbers: read, one's own, appended, compared. -/
namespace Go.Proofs.YtbfamjnnlcopiaaGreatDoor
open Go.RowKit
set_option linter.unusedVariables false
set_option maxRecDepth 4000


/-- A slice of numbers. -/
def IsI (w : World) (a : Option Addr) (l : List Int) : Prop :=
  (∀ x ∈ l, -9223372036854775808 ≤ x ∧ x ≤ 9223372036854775807) ∧ (l = [] ∨ ∃ b off, a = some ⟨b, off, none⟩ ∧ b < w.heap.size ∧ ∀ i, i < l.length → w.cell? ⟨b, off + i, none⟩ = some (.int .i64 (l.getD i 0)))
theorem IsI.keep {w w' : World} {a : Option Addr} {l : List Int} (h : IsI w a l) (hb : Below w.heap.size w w') : IsI w' a l := by
  obtain ⟨h1, h2 | ⟨b, off, e, hs, hc⟩⟩ := h
  · exact ⟨h1, .inl h2⟩
  · refine ⟨h1, .inr ⟨b, off, e, by have := hb.size; omega, fun i hi => ?_⟩⟩
    rw [hb.cell (p := ⟨b, off + i, none⟩) hs]; exact hc i hi

theorem addr_add (b off i : Nat) : (⟨b, off, none⟩ : Addr).add i = ⟨b, off + i, none⟩ := by by_cases h : i = 0 <;> simp [Addr.add, h]
/-- A list of numbers in a block of the call's own. -/
def OwnsI (w : World) (base : Nat) (a : Option Addr) (l : List Int) (cap : Nat) : Prop := w.ownsRow base 3 1 (.slice a l.length cap) l.length (l.map (Value.int .i64))
theorem ownsI_made (w : World) (base : Nat) (h : base ≤ w.heap.size) : OwnsI (w.alloc (.cells #[] 3)) base (some ⟨w.heap.size, 0, none⟩) [] 0 :=
  World.ownsRow_made w #[] 0 h (Nat.zero_le _) rfl
theorem OwnsI.alloc {w : World} {base cap : Nat} {a : Option Addr} {l : List Int} (h : OwnsI w base a l cap) (o : Obj) : OwnsI (w.alloc o) base a l cap := World.ownsRow.alloc h o
theorem ownsI_isI {w : World} {base : Nat} {a : Option Addr} {l : List Int} {cap : Nat} (hb : ∀ x ∈ l, -9223372036854775808 ≤ x ∧ x ≤ 9223372036854775807) (h : OwnsI w base a l cap) : IsI w a l := by
  refine ⟨hb, ?_⟩
  have h' := h
  obtain ⟨_, ⟨h1, h2⟩ | ⟨g, c', cur, h1, _, h2, _⟩⟩ := h
  · exact .inl (List.eq_nil_of_length_eq_zero h2)
  · cases h1
    refine .inr ⟨g, 0, rfl, (Array.getElem?_eq_some_iff.1 h2).1, ?_⟩
    intro i hi
    have := World.ownsRow.cellAt h' i (by omega)
    rw [Nat.zero_add, this]
    simp [List.getD, hi]
theorem wpList_appi {ops : Array Oper} {rest : List Oper} {o : Oper} {a : Act} {Q : Exit → Act → World → Prop} {w : World} (hgd : o.guard = none) (s x : Operand)
    (ho : o.op = .call { callee := .builtin .append, args := #[s, x], argTypes := #[31, 31] })
    (base : Nat) (hbase : base ≤ w.heap.size) (as0 : Option Addr) (L : List Int) (cs : Nat) (hs : a.eval s = .slice as0 L.length cs) (hown : OwnsI w base as0 L cs)
    (ax : Option Addr) (l : List Int) (cx : Nat) (hx : a.eval x = .slice ax l.length cx) (hB : IsI w ax l) (hnil : ax = none → l = [] ∧ cx = 0) (hL : L.length ≤ 100000) (hlen : l.length ≤ 100000)
    (h : ∀ a' cap' w', OwnsI w' base a' (L ++ l) cap' → Below base w w' → wpList Tryz.prog ops Q rest (a.put o.dst (.slice a' (L ++ l).length cap')) w') :
    wpList Tryz.prog ops Q (o :: rest) a w := by
  obtain ⟨i0, hi, hz0, hz1, hz2⟩ := info_parts Tryz.info3
  rcases ax with _ | ad
  · obtain ⟨rfl, rfl⟩ := hnil rfl
    refine wpList_append_own_none hgd s x 31 ho base 3 i0 1 Tryz.underlying31 hi _ _ _ hs hown hx ?_
    have := h as0 cs w (by rw [List.append_nil]; exact hown) (Below.refl _ _)
    rw [List.append_nil] at this
    exact this
  · refine wpList_append_own w hgd s x 31 ho base 3 i0 (.int .i64 0) 1 8 Tryz.underlying31 hi hz0 hz1 hz2 rfl (by decide) _ _ _ hs hown ad l.length cx (l.map (Value.int .i64)) hx (by simp) ?_ ?_ (by unfold maxLen; omega) (by omega) hbase ?_
    · intro j u hj
      have hjn : j < l.length := by
        have := (List.getElem?_eq_some_iff.1 hj).1
        simpa using this
      obtain ⟨_, rfl | ⟨b, off, e, _, hc⟩⟩ := hB
      · simp at hjn
      · cases e
        rw [addr_add, hc j hjn]
        have e : (l.map (Value.int .i64))[j]? = some (Value.int .i64 (l.getD j 0)) := by simp [List.getD, List.getElem?_eq_getElem hjn]
        rw [e] at hj
        exact hj
    · intro u hu; obtain ⟨x, _, rfl⟩ := List.mem_map.1 hu; rfl
    · intro v' w' h1 h2 h3
      have hf : ∃ a' cap', v' = .slice a' (L.length + l.length) cap' := by
        obtain ⟨_, ⟨h4, h5⟩ | ⟨g, c', cur, h4, _⟩⟩ := h1
        · exact ⟨_, _, by rw [h4, h5]⟩
        · exact ⟨_, _, h4⟩
      obtain ⟨a', cap', rfl⟩ := hf
      have := h a' cap' w' (by simpa [OwnsI] using h1) ((Below.refl _ w).grown h2 hbase (by
        intro k hk
        obtain ⟨_, ⟨h4, _⟩ | ⟨g', c', cur, h4, hg, _⟩⟩ := hown
        · rw [h4] at hk; simp [Value.ownBlock] at hk
        · rw [h4] at hk; simp [Value.ownBlock] at hk; omega))
      simpa using this
/-- A slice of one number, as a literal makes it. -/
theorem one_isI (w : World) (n : Int) (h : -9223372036854775808 ≤ n ∧ n ≤ 9223372036854775807) : IsI (w.alloc (.cells #[.int .i64 n] 3)) (some ⟨w.heap.size, 0, none⟩) [n] := by
  refine ⟨by simpa using h, .inr ⟨w.heap.size, 0, rfl, by simp, fun i hi => ?_⟩⟩
  rw [cell_of_row _ _ _ _ _ _ (Go.heap_alloc_new w _)]
  rcases i with _ | i
  · rfl
  · simp at hi
def AllI (l : List Int) : Prop := ∀ x ∈ l, -9223372036854775808 ≤ x ∧ x ≤ 9223372036854775807


theorem IsI.drewN {w : World} {a : Option Addr} {l : List Int} (h : IsI w a l) (m : Nat) : IsI (w.drewN m) a l := h
theorem IsI.drew {w : World} {a : Option Addr} {l : List Int} (h : IsI w a l) : IsI w.drew a l := h
theorem IsI.all {w : World} {a : Option Addr} {l : List Int} (h : IsI w a l) : AllI l := h.1
theorem IsI.nil (w : World) (a : Option Addr) : IsI w a [] := ⟨fun x hx => by (cases hx), .inl rfl⟩
theorem AllI.at {l : List Int} (h : AllI l) (i : Nat) : -9223372036854775808 ≤ l.getD i 0 ∧ l.getD i 0 ≤ 9223372036854775807 := by
  by_cases hi : i < l.length
  · have := h l[i] (List.getElem_mem hi)
    simpa [List.getD, hi] using this
  · simp [List.getD, List.getElem?_eq_none (Nat.le_of_not_lt hi)]


theorem owns_formI {w : World} {base n : Nat} {v : Value} {xs : List Value} (h : w.ownsRow base 3 1 v n xs) : ∃ a cap, v = .slice a n cap := by
  obtain ⟨_, ⟨rfl, rfl⟩ | ⟨g, c', cur, rfl, _⟩⟩ := h
  · exact ⟨_, _, rfl⟩
  · exact ⟨_, _, rfl⟩
theorem own_geI {w : World} {base cap : Nat} {a : Option Addr} {l : List Int} (h : OwnsI w base a l cap) : ∀ k, (Value.slice a l.length cap).ownBlock = some k → base ≤ k := by
  intro k hk
  obtain ⟨_, ⟨h1, h2⟩ | ⟨g, c', cur, h1, hg, h2, _⟩⟩ := h
  · rw [h1] at hk; simp [Value.ownBlock] at hk
  · rw [h1] at hk
    simp [Value.ownBlock] at hk
    omega
theorem OwnsI.keep {w w' : World} {base cap : Nat} {a : Option Addr} {l : List Int} (h : OwnsI w base a l cap) (hb : Below w.heap.size w w') : OwnsI w' base a l cap := by
  obtain ⟨h0, h1 | ⟨g, c', cur, h1, hg, h2, h3⟩⟩ := h
  · exact ⟨h0, .inl h1⟩
  · exact ⟨h0, .inr ⟨g, c', cur, h1, hg, by rw [hb.block g (Array.getElem?_eq_some_iff.1 h2).1]; exact h2, h3⟩⟩
theorem OwnsI.mono {w : World} {base base' cap : Nat} {a : Option Addr} {l : List Int} (h : OwnsI w base a l cap) (hb : base' ≤ base) : OwnsI w base' a l cap := by
  obtain ⟨h0, h1 | ⟨g, c', cur, h1, hg, h2⟩⟩ := h
  · exact ⟨h0, .inl h1⟩
  · exact ⟨h0, .inr ⟨g, c', cur, h1, by omega, h2⟩⟩
theorem OwnsI.drew {w : World} {base cap : Nat} {a : Option Addr} {l : List Int} (h : OwnsI w base a l cap) : OwnsI w.drew base a l cap := h
theorem OwnsI.parts {w : World} {base : Nat} {a : Option Addr} {l : List Int} {cap : Nat} (h : OwnsI w base a l cap) : l.length ≤ cap ∧ cap ≤ maxLen ∧ (a = none → l = [] ∧ cap = 0) ∧ (∀ ad, a = some ad → base ≤ ad.block ∧ ad.block < w.heap.size ∧ ad = ⟨ad.block, 0, none⟩) := by
  obtain ⟨_, ⟨h1, h2⟩ | ⟨g, c', cur, h1, hg, h2, h3, h4, _⟩⟩ := h
  · simp only [Value.slice.injEq] at h1
    obtain ⟨rfl, h1, rfl⟩ := h1
    exact ⟨by omega, Nat.zero_le _, fun _ => ⟨List.eq_nil_of_length_eq_zero h2, rfl⟩, fun ad e => by cases e⟩
  · cases h1
    exact ⟨h3, h4, by simp, fun ad e => by cases e; exact ⟨hg, (Array.getElem?_eq_some_iff.1 h2).1, rfl⟩⟩
theorem ownsI_none (w : World) (base : Nat) : OwnsI w base none [] 0 := World.ownsRow_nil _ _ _ _
/-- Numbers appended to none of one's own, as a run. -/
theorem appi_run (w : World) (ad : Addr) (l : List Int) (cx : Nat) (hB : IsI w (some ad) l) (hlen : l.length ≤ 17592186044416) :
    ∃ a' cap' w', (Builtin.append_ #[31, 31] 31 #[.slice (some ⟨w.heap.size, 0, none⟩) 0 0, .slice (some ad) l.length cx]).run Tryz.prog (w.alloc (.cells #[] 3)) = .ok (.slice a' l.length cap') w' ∧ OwnsI w' w.heap.size a' l cap' ∧ a' ≠ none ∧ Below w.heap.size w w' := by
  obtain ⟨i0, hi, hz0, hz1, hz2⟩ := info_parts Tryz.info3
  have hB' := hB.keep ((Below.refl _ w).alloc (Nat.le_refl _) (.cells #[] 3))
  obtain ⟨v', w', h1, h2, h3, h4⟩ := run_append_own (P := Tryz.prog) (w.alloc (.cells #[] 3)) w.heap.size 31 31 3 i0 (.int .i64 0) 1 8 Tryz.underlying31 hi hz0 hz1 hz2 rfl (by decide) _ 0 [] (ownsI_made w w.heap.size (Nat.le_refl _)) ad l.length cx (l.map (Value.int .i64)) (by simp) (by
      intro j u hj
      have hjn : j < l.length := by
        have := (List.getElem?_eq_some_iff.1 hj).1
        simpa using this
      obtain ⟨_, rfl | ⟨b, off, e, _, hc⟩⟩ := hB'
      · simp at hjn
      · cases e
        rw [addr_add, hc j hjn]
        have e : (l.map (Value.int .i64))[j]? = some (Value.int .i64 (l.getD j 0)) := by simp [List.getD, List.getElem?_eq_getElem hjn]
        rw [e] at hj
        exact hj) (by intro u hu; obtain ⟨x, _, rfl⟩ := List.mem_map.1 hu; rfl) (by unfold maxLen; omega) (by omega) (by simp)
  obtain ⟨a', cap', rfl⟩ := owns_formI h2
  rw [Nat.zero_add] at h1 h2
  refine ⟨a', cap', w', h1, by simpa [OwnsI] using h2, ?_, ?_⟩
  · intro e
    subst e
    simp only [List.nil_append] at h2
    obtain ⟨_, ⟨e1, e2⟩ | ⟨g, c', cur, e1, _⟩⟩ := h2
    · simp only [Value.slice.injEq] at e1
      have hl : l.length = 0 := e2
      simp [hl, e1.2.2] at h4
    · cases e1
  · exact ((Below.refl _ w).alloc (Nat.le_refl _) _).grown h3 (by simp) (by intro k hk; simp [Value.ownBlock] at hk; omega)
/-- The same, of none too. -/
theorem appi_any (w : World) (a : Option Addr) (l : List Int) (cx : Nat) (hB : IsI w a l) (hnil : a = none → l = [] ∧ cx = 0) (hlen : l.length ≤ 17592186044416) :
    ∃ a' cap' w', (Builtin.append_ #[31, 31] 31 #[.slice (some ⟨w.heap.size, 0, none⟩) 0 0, .slice a l.length cx]).run Tryz.prog (w.alloc (.cells #[] 3)) = .ok (.slice a' l.length cap') w' ∧ OwnsI w' w.heap.size a' l cap' ∧ a' ≠ none ∧ Below w.heap.size w w' := by
  rcases a with _ | ad
  · obtain ⟨rfl, rfl⟩ := hnil rfl
    obtain ⟨i0, hi, hz0, hz1, hz2⟩ := info_parts Tryz.info3
    have o := ownsI_made w w.heap.size (Nat.le_refl _)
    exact ⟨some ⟨w.heap.size, 0, none⟩, 0, _, run_append_owned_none (P := Tryz.prog) _ w.heap.size 31 31 3 i0 1 Tryz.underlying31 hi _ _ _ o, o, by simp, (Below.refl _ w).alloc (Nat.le_refl _) _⟩
  · exact appi_run w ad l cx hB hlen
/-- The same as a step of the walk. -/
theorem wpList_runi {ops : Array Oper} {rest : List Oper} {o : Oper} {a : Act} {Q : Exit → Act → World → Prop} {w : World} (hgd : o.guard = none) (hty : o.type = 31) (s x : Operand)
    (ho : o.op = .call { callee := .builtin .append, args := #[s, x], argTypes := #[31, 31] }) (v1 v2 v' : Value) (w' : World) (hs : a.eval s = v1) (hx : a.eval x = v2)
    (hrun : (Builtin.append_ #[31, 31] 31 #[v1, v2]).run Tryz.prog w = .ok v' w') (h : wpList Tryz.prog ops Q rest (a.put o.dst v') w') : wpList Tryz.prog ops Q (o :: rest) a w := by
  refine wpList_plain hgd fun K' hK' => ?_
  unfold Oper.wp
  simp [execOp, ho, hty, resolve, invoke, builtin, hs, hx, hrun, Result.andThen]
  exact hK' _ _ h


theorem ints_any (a a' : Option Addr) (n n' cap cap' : Nat) (l l' : List Int) (w : World) (h : IsI w a l) (h' : IsI w a' l') (hn : n = l.length) (hn' : n' = l'.length) (hm : l.length ≤ maxLen) (hm' : l'.length ≤ maxLen) :
    Calls Tryz.prog 36 #[.slice a n cap, .slice a' n' cap'] w fun e w' => e = .returned (.bool (decide (l = l'))) ∧ Below w.heap.size w w' := by
  subst hn hn'
  have H1 : Hid (IsI w a l) := h
  have H2 : Hid (IsI w a' l') := h'
  unfold maxLen at hm hm'
  clear h h'
  by_cases hll : l.length = l'.length
  · have HLL : Hid (l.length = l'.length) := hll
    rw [← hll]
    clear hll
    go_enter Tryz.func36, Tryz.ntmps36
    go_wp2
    go_loopw [13] (fun iv wr => ∃ k m : Nat, k ≤ l.length ∧ iv = .int .i64 k ∧ wr = w.drewN m ∧ l.take k = l'.take k) (fun iv _ => l.length - (intOf iv).toNat)
    case atStart => exact ⟨0, 0, Nat.zero_le _, rfl, rfl, rfl⟩
    case round =>
      obtain ⟨k, m, hk, rfl, rfl, ht⟩ := hrel
      have HT : Hid (l.take k = l'.take k) := ht
      clear ht
      by_cases hlt : k < l.length
      · obtain ⟨_, h0 | ⟨b1, o1, rfl, _, c1⟩⟩ := H1.out
        · rw [h0] at hlt; simp at hlt
        have hlt' : k < l'.length := by have := HLL.out; omega
        obtain ⟨_, h0 | ⟨b2, o2, rfl, _, c2⟩⟩ := H2.out
        · rw [h0] at hlt'; simp at hlt'
        have d1 := c1 k hlt
        have d2 := c2 k hlt'
        have T1 : Hid (l.take (k + 1) = l.take k ++ [l.getD k 0]) := by show _ = _; rw [List.take_succ_eq_append_getElem hlt]; simp [List.getD, hlt]
        have T2 : Hid (l'.take (k + 1) = l'.take k ++ [l'.getD k 0]) := by show _ = _; rw [List.take_succ_eq_append_getElem hlt']; simp [List.getD, hlt']
        obtain ⟨y, hy⟩ : ∃ y, l.getD k 0 = y := ⟨_, rfl⟩
        obtain ⟨y', hy'⟩ : ∃ y', l'.getD k 0 = y' := ⟨_, rfl⟩
        rw [hy] at d1
        rw [hy'] at d2
        have HY : Hid (l.getD k 0 = y) := hy
        have HY' : Hid (l'.getD k 0 = y') := hy'
        clear c1 c2 hy hy' hlt'
        by_cases he : y = y'
        · subst he
          have NX : Hid (l.take (k + 1) = l'.take (k + 1)) := by show _ = _; rw [T1.out, T2.out, HT.out, HY.out, HY'.out]
          go_wp2_with fail
          go_quiet (fail)
          go_wp2
          go_roundw
          case rel => exact ⟨k + 1, m + nq, by omega, by go_num, rfl, NX.out⟩
          case measure => simp [intOf]; omega
        · have hq : (y != y') = true := by rw [bne_iff_ne]; exact he
          have NE : Hid (decide (l = l') = false) := decide_eq_false (fun e => he (by rw [← HY.out, ← HY'.out, e]))
          clear he
          go_wp2_with fail
          go_quiet (fail)
          go_wp2
          go_ret
          exact ⟨ret_bool NE.out.symm, ⟨rfl, rfl, rfl, Nat.le_refl _, fun _ _ => rfl⟩⟩
      · have EQ : Hid (decide (l = l') = true) := decide_eq_true (by
          have := HT.out
          rwa [List.take_of_length_le (by omega), List.take_of_length_le (by have := HLL.out; omega)] at this)
        go_wp2
        go_ret
        exact ⟨ret_bool EQ.out.symm, ⟨rfl, rfl, rfl, Nat.le_refl _, fun _ _ => rfl⟩⟩
  · have NE : Hid (decide (l = l') = false) := decide_eq_false (fun e => hll (by rw [e]))
    have hq : ((l.length : Int) != (l'.length : Int)) = true := by rw [bne_iff_ne]; omega
    have hni : ¬ (l.length : Int) = (l'.length : Int) := by omega
    go_enter Tryz.func36, Tryz.ntmps36
    go_wp2
    go_ret
    exact ⟨ret_bool NE.out.symm, Below.refl _ _⟩
end Go.Proofs.YtbfamjnnlcopiaaGreatDoor
