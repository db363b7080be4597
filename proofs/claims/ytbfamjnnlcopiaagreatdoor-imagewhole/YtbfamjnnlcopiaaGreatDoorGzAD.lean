/- What List of a set in memory answers. -/
import Derived.Test.YtbfamjnnlcopiaaGreatDoorGzAC
namespace Go.Proofs.YtbfamjnnlcopiaaGreatDoor
open Go.RowKit
set_option linter.unusedVariables false
set_option maxRecDepth 4000


/-- A list of integers of a kind in a block of the call's own. -/
def Owns (w : World) (base : Nat) (e : TypeId) (k : IntKind) (a : Option Addr) (l : List Int) (cap : Nat) : Prop := w.ownsRow base e 1 (.slice a l.length cap) l.length (l.map (Value.int k))
/-- A list of integers that is read. -/
def IsL (w : World) (k : IntKind) (a : Option Addr) (l : List Int) : Prop :=
  l = [] ∨ ∃ b off, a = some ⟨b, off, none⟩ ∧ b < w.heap.size ∧ ∀ i, i < l.length → w.cell? ⟨b, off + i, none⟩ = some (.int k (l.getD i 0))
theorem IsL.keep {w w' : World} {k : IntKind} {a : Option Addr} {l : List Int} (h : IsL w k a l) (hb : Below w.heap.size w w') : IsL w' k a l := by
  rcases h with h | ⟨b, off, e, hs, hc⟩
  · exact .inl h
  · refine .inr ⟨b, off, e, by have := hb.size; omega, fun i hi => ?_⟩
    rw [hb.cell (p := ⟨b, off + i, none⟩) hs]
    exact hc i hi
theorem owns_form {w : World} {base n : Nat} {e : TypeId} {v : Value} {xs : List Value} (h : w.ownsRow base e 1 v n xs) : ∃ a cap, v = .slice a n cap := by
  obtain ⟨_, ⟨rfl, rfl⟩ | ⟨g, c', cur, rfl, _⟩⟩ := h
  · exact ⟨_, _, rfl⟩
  · exact ⟨_, _, rfl⟩
theorem Owns.isL {w : World} {base : Nat} {e : TypeId} {k : IntKind} {a : Option Addr} {l : List Int} {cap : Nat} (h : Owns w base e k a l cap) : IsL w k a l := by
  have h' := h
  obtain ⟨_, ⟨h1, h2⟩ | ⟨g, c', cur, h1, _, h2, _⟩⟩ := h
  · exact .inl (List.eq_nil_of_length_eq_zero h2)
  · cases h1
    refine .inr ⟨g, 0, rfl, (Array.getElem?_eq_some_iff.1 h2).1, ?_⟩
    intro i hi
    have := World.ownsRow.cellAt h' i (by omega)
    rw [Nat.zero_add, this]
    simp [List.getD, hi]
theorem Owns.ge {w : World} {base cap : Nat} {e : TypeId} {k : IntKind} {a : Option Addr} {l : List Int} (h : Owns w base e k a l cap) : ∀ j, (Value.slice a l.length cap).ownBlock = some j → base ≤ j := by
  intro j hj
  obtain ⟨_, ⟨h1, h2⟩ | ⟨g, c', cur, h1, hg, h2, _⟩⟩ := h
  · rw [h1] at hj; simp [Value.ownBlock] at hj
  · rw [h1] at hj
    simp [Value.ownBlock] at hj
    omega
theorem Owns.keep {w w' : World} {base cap : Nat} {e : TypeId} {k : IntKind} {a : Option Addr} {l : List Int} (h : Owns w base e k a l cap) (hb : Below w.heap.size w w') : Owns w' base e k a l cap := by
  obtain ⟨h0, h1 | ⟨g, c', cur, h1, hg, h2, h3⟩⟩ := h
  · exact ⟨h0, .inl h1⟩
  · exact ⟨h0, .inr ⟨g, c', cur, h1, hg, by rw [hb.block g (Array.getElem?_eq_some_iff.1 h2).1]; exact h2, h3⟩⟩
/-- One integer is appended to a list of the call's own. -/
theorem wpList_one {ops : Array Oper} {rest : List Oper} {o : Oper} {a : Act} {Q : Exit → Act → World → Prop} {w : World} (hgd : o.guard = none) (s x : Operand) (t e : TypeId) (k : IntKind) (z : Int) (bytes : Nat)
    (ho : o.op = .call { callee := .builtin .append, args := #[s, x], argTypes := #[t, t] })
    (ht : Tryz.prog.underlying t = some (.slice e)) (hin : (Tryz.prog.info? e).map (fun i => (i.zero, i.size, i.bytes)) = some (some (.int k z), 1, bytes))
    (base : Nat) (hbase : base ≤ w.heap.size) (as0 : Option Addr) (L : List Int) (cs : Nat) (hs : a.eval s = .slice as0 L.length cs) (hown : Owns w base e k as0 L cs)
    (g c : Nat) (y : Int) (hx : a.eval x = .slice (some ⟨g, 0, none⟩) 1 c) (hc : w.cell? ⟨g, 0, none⟩ = some (.int k y)) (hlen : (L.length + 1) * bytes ≤ 140737488355328) (hmax : L.length ≤ 140737488355328)
    (h : ∀ a' cap' w', Owns w' base e k a' (L ++ [y]) cap' → Below base w w' → wpList Tryz.prog ops Q rest (a.put o.dst (.slice a' (L ++ [y]).length cap')) w') :
    wpList Tryz.prog ops Q (o :: rest) a w := by
  obtain ⟨i0, hi, hz0, hz1, hz2⟩ := info_parts hin
  refine wpList_append_own w hgd s x t ho base e i0 (.int k z) 1 bytes ht hi hz0 hz1 hz2 rfl (by decide) _ _ _ hs hown ⟨g, 0, none⟩ 1 c [.int k y] hx rfl ?_ ?_ (by unfold maxLen; omega) hlen hbase ?_
  · intro j u hj
    match j, hj with
    | 0, hj => simp at hj; subst hj; simpa [Addr.add] using hc
  · intro u hu; simp at hu; subst hu; rfl
  · intro v' w' h1 h2 h3
    obtain ⟨a', cap', rfl⟩ := owns_form h1
    have := h a' cap' w' (by simpa [Owns] using h1) ((Below.refl _ w).grown h2 hbase hown.ge)
    simpa using this
theorem Tryz.info3 : (Tryz.prog.info? 3).map (fun i => (i.zero, i.size, i.bytes)) = some (some (.int .i64 0), 1, 8) := by kernel_rfl
theorem make_ints (c : Nat) (hc : c ≤ 65536) (w : World) : (Instr.makeSlice 31 (.int .i64 0) (.int .i64 (c : Int))).run Tryz.prog w = .ok (.slice (some ⟨w.heap.size, 0, none⟩) 0 c) (w.alloc (.cells (madeCells #[.int .i64 0] c) 3)) := by
  obtain ⟨i0, hi, hz0, hz1, hz2⟩ := info_parts Tryz.info3
  have := run_make (P := Tryz.prog) w 31 3 i0 (.int .i64 0) Tryz.underlying31 hi hz0 .i64 .i64 0 c (by omega) (by omega) (by rw [hz2]; omega) (by omega)
  rw [hz1] at this
  simp only [Int.toNat_natCast, Int.toNat_zero, Nat.mul_one] at this
  exact this
def lenOf : Value → Nat
  | .slice _ k _ => k
  | _ => 0
set_option maxHeartbeats 1000000 in
theorem list_any (b g n : Nat) (f : Nat → Bool) (w : World) (hS : SetAt w b g n f) (hT : TabB w) :
    Calls Tryz.prog 84 #[.pointer (some ⟨b, 0, none⟩)] w fun e w' => ∃ a cap, e = .returned (.slice a (lsL f n).length cap) ∧ Owns w' w.heap.size 3 .i64 a (lsL f n) cap ∧ Below w.heap.size w w' := by
  have few := hS.few
  have hc := Nat.le_trans (cnt_le f n) few
  have HS : Hid (SetAt w b g n f) := hS
  have HT : Hid (TabB w) := hT
  have hmk := make_ints (cnt f n) hc
  clear hS hT
  go_enter Tryz.func84, Tryz.ntmps84
  go_wp2_with (go_at_call 95; refine (count_any b g n f _ HS.out).mono ?_; rintro e w' ⟨rfl, rfl⟩)
  have B1 : Hid (Below w.heap.size w (w.alloc (.cells (madeCells #[.int .i64 0] (cnt f n)) 3))) := (Below.refl _ w).alloc (Nat.le_refl _) _
  refine (first_any b g n f _ _ (HS.out.keepAll B1.out) (HT.out.keep B1.out HT.out.1) (by omega)).mono ?_
  rintro e w' ⟨rfl, rfl⟩
  go_wp2
  go_loopw [3, 4] (fun lv iv wr => ∃ (k : Nat) (a : Option Addr) (cap : Nat), k ≤ n ∧ lv = .slice a (lsL f k).length cap ∧ iv = .int .i64 (nextL f n k) ∧ Owns wr w.heap.size 3 .i64 a (lsL f k) cap ∧ Below w.heap.size w wr) (fun lv _ _ => n - lenOf lv)
  case atStart => exact ⟨0, some ⟨w.heap.size, 0, none⟩, cnt f n, Nat.zero_le _, rfl, rfl, World.ownsRow_made w _ _ (Nat.le_refl _) (by unfold maxLen; omega) (by simp [madeCells]), B1.out⟩
  case round =>
    obtain ⟨k, a, cap, hk, rfl, rfl, ho, hb⟩ := hrel
    have HO : Hid (Owns _ w.heap.size 3 .i64 a (lsL f k) cap) := ho
    have HB : Hid (Below w.heap.size w _) := hb
    have hll : (lsL f k).length ≤ k := by rw [lsL_len]; exact cnt_le f k
    clear ho hb
    rcases nextL_cases f n k with ⟨hn, hno⟩ | ⟨j, hj, hkj, hjn, hfj, hno⟩
    · have EL : Hid (lsL f n = lsL f k) := by
        have := lsL_skip f k (n - k) (fun i h1 h2 => hno i h1 (by omega))
        rw [show k + (n - k) = n from by omega] at this
        exact this
      rw [hn]
      clear hno hn
      go_wp2
      go_ret
      rw [EL.out]
      exact ⟨a, cap, rfl, HO.out, HB.out⟩
    · have EL : Hid (lsL f (j + 1) = lsL f k ++ [(j : Int)]) := lsL_one f k j hkj hno hfj
      rw [hj]
      clear hno hj hfj
      go_wp2_with (at_builtin; refine wpList_one rfl _ _ 31 3 .i64 0 8 rfl Tryz.underlying31 Tryz.info3 w.heap.size ?q1 a (lsL f k) cap rfl ?q2 _ 1 (j : Int) rfl ?q3 ?q4 ?q5 ?_)
      case q1 => have := HB.out.size; simp; omega
      case q2 => exact World.ownsRow.alloc HO.out _
      case q3 => simp
      case q4 => omega
      case q5 => omega
      intro a3 c3 w3 o3 b3
      have O3 : Hid (Owns w3 w.heap.size 3 .i64 a3 (lsL f (j + 1)) c3) := by show Owns _ _ _ _ _ _ _; rw [EL.out]; exact o3
      have B3 : Hid (Below w.heap.size w w3) := (HB.out.alloc HB.out.size _).trans b3
      have hlen : (lsL f k).length + 1 = (lsL f (j + 1)).length := by rw [EL.out]; simp
      rw [hlen]
      have HL : Hid ((lsL f k).length + 1 = (lsL f (j + 1)).length) := hlen
      clear o3 b3 hlen
      go_wp2_with fail
      refine (first_any b g n f _ _ (HS.out.keepAll B3.out) (HT.out.keep B3.out HT.out.1) (by omega)).mono ?_
      rintro e w' ⟨rfl, rfl⟩
      go_wp2
      go_roundw
      case rel => exact ⟨j + 1, a3, c3, by omega, rfl, by congr 2, O3.out, B3.out⟩
      case measure => have := HL.out; simp [lenOf]; omega
end Go.Proofs.YtbfamjnnlcopiaaGreatDoor

/- A span in memory: sized, check, Has, Live, Take, Give, Data. -/
namespace Go.Proofs.YtbfamjnnlcopiaaGreatDoor
open Go.RowKit
set_option linter.unusedVariables false
set_option maxRecDepth 4000

theorem Below.ofDrew {B : Nat} {w w' : World} (h : Below B w.drew w') : Below B w w' := ⟨h.os, h.tape, h.output, h.size, h.block⟩
theorem Below.toDrew {B : Nat} {w w' : World} (h : Below B w w') : Below B w w'.drew := ⟨h.os, h.tape, h.output, h.size, h.block⟩
theorem bcell {w w' : World} {p : Addr} {v : Value} (hb : Below w.heap.size w w') (h : w.cell? p = some v) : w'.cell? p = some v := (hb.cell (World.block_lt_of_cell? w p h)).trans h
theorem Bx.keep {w w' : World} {sb : Nat} {p c s : Int} (h : Bx w sb p c s) (hb : Below w.heap.size w w') : Bx w' sb p c s := ⟨bcell hb h.b0, bcell hb h.b1, bcell hb h.b2⟩

theorem sized_any (sb : Nat) (p c s : Int) (w : World) (h : Bx w sb p c s) (hT : TabC w) (h0 : 0 ≤ c) (h7 : c ≤ 7) (r : Bool) (hr : decide ((c < 7 → s = 0) ∧ (c = 7 → ofI s = 7)) = r) :
    Calls Tryz.prog 125 #[.pointer (some ⟨sb, 0, none⟩)] w fun e w' => e = .returned (.bool r) ∧ w = w' := by
  have b1 := h.b1
  have b2 := h.b2
  have HT : Hid (TabC w) := hT
  clear h hT
  by_cases hc : c = 7
  · subst hc
    obtain ⟨k, hk⟩ : ∃ k, ofI s = k := ⟨_, rfl⟩
    have HK : Hid (ofI s = k) := hk
    have E : Hid ((k == 7) = r) := by
      show (k == 7) = r
      rw [← hr, hk]
      by_cases h : k = 7
      · subst h; simp
      · simp [h]
    clear hr hk
    go_enter Tryz.func125, Tryz.ntmps125
    go_wp2_with (go_at_call 133; refine (cof_any s _ HT.out).mono ?_; rw [HK.out]; rintro e w' ⟨rfl, rfl⟩)
    go_ret
    exact ⟨ret_bool E.out, rfl⟩
  · have hq : (c == 7) = false := beq_eq_false_iff_ne.2 hc
    have E : Hid ((s == 0) = r) := by
      show (s == 0) = r
      rw [← hr]
      by_cases h : s = 0
      · subst h; simp [hc]
      · have : c < 7 := by omega
        simp [h, this]
    clear hr hc
    go_enter Tryz.func125, Tryz.ntmps125
    go_wp2
    go_ret
    exact ⟨ret_bool E.out, rfl⟩

theorem pages_q (sb : Nat) (p c s : Int) (g : Nat) (w : World) (h : Bx w sb p c s) (hT : TabC w) (h0 : 0 ≤ c) (h7 : c ≤ 7) (hg : pgsN c s = g) :
    Calls Tryz.prog 126 #[.pointer (some ⟨sb, 0, none⟩)] w fun e w' => e = .returned (.int .i64 (g : Nat)) ∧ w' = w := by
  subst hg
  exact (pages_any sb p c s w h hT h0 h7).mono fun e w' ⟨h1, h2⟩ => ⟨h1, h2.symm⟩
set_option maxHeartbeats 1000000 in
theorem check_any (sb : Nat) (p c s : Int) (w : World) (h : Bx w sb p c s) (hT : TabC w) (hp : -9223372036854775808 ≤ p ∧ p ≤ 9223372036854775807) :
    Calls Tryz.prog 109 #[.pointer (some ⟨sb, 0, none⟩)] w fun e w' => e = .returned (.int .i64 (newE p c s)) ∧ Below w.heap.size w w' := by
  have b0 := h.b0
  have b1 := h.b1
  have H : Hid (Bx w sb p c s) := h
  have HT : Hid (TabC w) := hT
  clear h hT
  rcases newE_cases p c s with ⟨h1, e⟩ | ⟨h0, h7, h1, e⟩ | ⟨h0, h7, h1, h2, h3, e⟩ | ⟨r, e⟩
  · rw [e]
    clear e
    rcases h1 with h1 | h1
    · go_enter Tryz.func109, Tryz.ntmps109
      go_wp2
      go_ret
      exact ⟨rfl, Below.refl _ _⟩
    · have h2 : ¬ c < 0 := by omega
      go_enter Tryz.func109, Tryz.ntmps109
      go_wp2
      go_ret
      exact ⟨rfl, Below.refl _ _⟩
  · have D : Hid (decide ((c < 7 → s = 0) ∧ (c = 7 → ofI s = 7)) = false) := decide_eq_false (fun k => by rcases h1 with ⟨a, b⟩ | ⟨a, b⟩; exact b (k.1 a); exact b (k.2 a))
    rw [e]
    clear e h1
    go_enter Tryz.func109, Tryz.ntmps109
    go_wp2_with (go_at_call 125; refine (sized_any sb p c s _ H.out HT.out h0 h7 false D.out).mono ?_; rintro e w' ⟨rfl, rfl⟩)
    go_ret
    exact ⟨rfl, Below.refl _ _⟩
  · have D : Hid (decide ((c < 7 → s = 0) ∧ (c = 7 → ofI s = 7)) = true) := decide_eq_true ⟨h1, h2⟩
    have hpg := pgsN_le c s
    rw [e]
    clear e h1 h2
    obtain ⟨g, hg⟩ : ∃ g, pgsN c s = g := ⟨_, rfl⟩
    have HG : Hid (pgsN c s = g) := hg
    rw [hg] at h3 hpg
    clear hg
    by_cases hp0 : p < 0
    · clear h3
      go_enter Tryz.func109, Tryz.ntmps109
      go_wp2_with (go_at_call 125; refine (sized_any sb p c s _ H.out HT.out h0 h7 true D.out).mono ?_; rintro e w' ⟨rfl, rfl⟩)
      go_quiet (fail)
      go_wp2
      go_ret
      exact ⟨rfl, ⟨rfl, rfl, rfl, Nat.le_refl _, fun _ _ => rfl⟩⟩
    · have h4 : 4096 - (g : Int) < p := by omega
      have g1 : IntKind.i64.wrap (4096 - (g : Int)) = 4096 - (g : Int) := by rw [IntKind.wrap_i64]; omega
      clear h3
      go_enter Tryz.func109, Tryz.ntmps109
      go_wp2_with (go_at_call 125; refine (sized_any sb p c s _ H.out HT.out h0 h7 true D.out).mono ?_; rintro e w' ⟨rfl, rfl⟩)
      go_quiet ((go_at_call 126; exact Calls.quiet_of_same (pages_q sb p c s g _ (H.out.drewN _) HT.out h0 h7 HG.out)))
      go_wp2
      go_ret
      exact ⟨rfl, ⟨rfl, rfl, rfl, Nat.le_refl _, fun _ _ => rfl⟩⟩
  · have D : Hid (decide ((c < 7 → s = 0) ∧ (c = 7 → ofI s = 7)) = true) := decide_eq_true ⟨r.sm, r.lg⟩
    have hpg := pgsN_le c s
    have h0 := r.c0
    have h7 := r.c7
    have hp0 := r.p0
    have hp1 := r.p1
    rw [e]
    clear e r
    obtain ⟨g, hg⟩ : ∃ g, pgsN c s = g := ⟨_, rfl⟩
    have HG : Hid (pgsN c s = g) := hg
    rw [hg] at hp1 hpg
    clear hg
    have h4 : ¬ (4096 - (g : Int) < p) := by omega
    have g1 : IntKind.i64.wrap (4096 - (g : Int)) = 4096 - (g : Int) := by rw [IntKind.wrap_i64]; omega
    go_enter Tryz.func109, Tryz.ntmps109
    go_wp2_with (go_at_call 125; refine (sized_any sb p c s _ H.out HT.out h0 h7 true D.out).mono ?_; rintro e w' ⟨rfl, rfl⟩)
    go_quiet ((go_at_call 126; exact Calls.quiet_of_same (pages_q sb p c s g _ (H.out.drewN _) HT.out h0 h7 HG.out)))
    go_wp2
    go_ret
    exact ⟨rfl, ⟨rfl, rfl, rfl, Nat.le_refl _, fun _ _ => rfl⟩⟩

/-- A span in its box sb, its set in the blocks b and g; f says which slots are taken. -/
structure SpanAt (w : World) (sb b g : Nat) (p c s : Int) (f : Nat → Bool) : Prop where
  box : Bx w sb p c s
  at3 : w.cell? ⟨sb, 3, none⟩ = some (.pointer (some ⟨b, 0, none⟩))
  set : SetAt w b g (slN c) f
  a1 : sb ≠ b
  a2 : sb ≠ g
theorem SpanAt.lt {w : World} {sb b g : Nat} {p c s : Int} {f : Nat → Bool} (h : SpanAt w sb b g p c s f) : sb < w.heap.size := World.block_lt_of_cell? w _ h.at3
theorem SpanAt.keep {w w' : World} {sb b g : Nat} {p c s : Int} {f : Nat → Bool} (h : SpanAt w sb b g p c s f) (hb : Below w.heap.size w w') : SpanAt w' sb b g p c s f :=
  ⟨h.box.keep hb, bcell hb h.at3, h.set.keepAll hb, h.a1, h.a2⟩
theorem SpanAt.beside {w w' : World} {sb b g o : Nat} {p c s : Int} {f : Nat → Bool} (h : SpanAt w sb b g p c s f) (ho : Only o w w') (h1 : sb ≠ o) (h2 : b ≠ o) (h3 : g ≠ o) : SpanAt w' sb b g p c s f :=
  ⟨⟨(ho.cell (p := ⟨sb, 0, none⟩) h1).trans h.box.b0, (ho.cell (p := ⟨sb, 1, none⟩) h1).trans h.box.b1, (ho.cell (p := ⟨sb, 2, none⟩) h1).trans h.box.b2⟩, (ho.cell (p := ⟨sb, 3, none⟩) h1).trans h.at3, h.set.beside ho h2 h3, h.a1, h.a2⟩
theorem SpanAt.turned {w w' : World} {sb b g : Nat} {p c s : Int} {f f' : Nat → Bool} (h : SpanAt w sb b g p c s f) (hs : SetAt w' b g (slN c) f') (ho : Only g w w') : SpanAt w' sb b g p c s f' :=
  ⟨⟨(ho.cell (p := ⟨sb, 0, none⟩) h.a2).trans h.box.b0, (ho.cell (p := ⟨sb, 1, none⟩) h.a2).trans h.box.b1, (ho.cell (p := ⟨sb, 2, none⟩) h.a2).trans h.box.b2⟩, (ho.cell (p := ⟨sb, 3, none⟩) h.a2).trans h.at3, hs, h.a1, h.a2⟩
theorem SpanAt.drewN {w : World} {sb b g : Nat} {p c s : Int} {f : Nat → Bool} (h : SpanAt w sb b g p c s f) (m : Nat) : SpanAt (w.drewN m) sb b g p c s f :=
  ⟨h.box.drewN m, h.at3, ⟨h.set.len, h.set.words, h.set.word, h.set.thawed, h.set.few, h.set.within, h.set.hb, h.set.hg, h.set.apart⟩, h.a1, h.a2⟩
theorem SpanAt.drew {w : World} {sb b g : Nat} {p c s : Int} {f : Nat → Bool} (h : SpanAt w sb b g p c s f) : SpanAt w.drew sb b g p c s f := h.drewN 1

theorem live_any (sb b g : Nat) (p c s : Int) (f : Nat → Bool) (w : World) (h : SpanAt w sb b g p c s f) :
    Calls Tryz.prog 62 #[.pointer (some ⟨sb, 0, none⟩)] w fun e w' => e = .returned (.int .i64 (cnt f (slN c) : Nat)) ∧ w = w' := by
  have b3 := h.at3
  have HS : Hid (SetAt w b g (slN c) f) := h.set
  clear h
  go_enter Tryz.func62, Tryz.ntmps62
  go_wp2_with (go_at_call 95; refine (count_any b g (slN c) f _ HS.out).mono ?_; rintro e w' ⟨rfl, rfl⟩)
  go_ret
  exact ⟨rfl, rfl⟩
theorem has_any (sb b g : Nat) (p c s : Int) (f : Nat → Bool) (i : Int) (w : World) (h : SpanAt w sb b g p c s f) :
    Calls Tryz.prog 138 #[.pointer (some ⟨sb, 0, none⟩), .int .i64 i] w fun e w' => e = .returned (.bool (hasB (slN c) f i)) ∧ w = w' := by
  have b3 := h.at3
  have HS : Hid (SetAt w b g (slN c) f) := h.set
  clear h
  go_enter Tryz.func138, Tryz.ntmps138
  go_wp2_with (go_at_call 107; refine (shas_any b g (slN c) f i _ HS.out).mono ?_; rintro e w' ⟨rfl, rfl⟩)
  go_ret
  exact ⟨rfl, rfl⟩
/-- What Take answers, and what is taken then. -/
def TakeR (n : Nat) (f : Nat → Bool) (r : Int) (ok : Bool) (f' : Nat → Bool) : Prop :=
  (ok = true ∧ ∃ j : Nat, r = (j : Int) ∧ j < n ∧ f j = false ∧ (∀ k, k < j → f k = true) ∧ f' = put f j true) ∨ (ok = false ∧ r = 0 ∧ (∀ k, k < n → f k = true) ∧ f' = f)
theorem TakeR.one {n : Nat} {f f1 f2 : Nat → Bool} {r1 r2 : Int} {o1 o2 : Bool} (h : TakeR n f r1 o1 f1) (h' : TakeR n f r2 o2 f2) : r1 = r2 ∧ o1 = o2 ∧ f1 = f2 := by
  rcases h with ⟨rfl, j, rfl, a1, a2, a3, rfl⟩ | ⟨rfl, rfl, a1, rfl⟩ <;> rcases h' with ⟨rfl, k, rfl, b1, b2, b3, rfl⟩ | ⟨rfl, rfl, b1, rfl⟩
  · have : j = k := by
      rcases Nat.lt_trichotomy j k with h | h | h
      · have := b3 j h; rw [a2] at this; cases this
      · exact h
      · have := a3 k h; rw [b2] at this; cases this
    subst this
    exact ⟨rfl, rfl, rfl⟩
  · have := b1 j a1; rw [a2] at this; cases this
  · have := a1 k b1; rw [b2] at this; cases this
  · exact ⟨rfl, rfl, rfl⟩
theorem TakeR.within {n : Nat} {f f1 : Nat → Bool} {r1 : Int} {o1 : Bool} (h : TakeR n f r1 o1 f1) (hw : ∀ i, f i = true → i < n) : ∀ i, f1 i = true → i < n := by
  rcases h with ⟨rfl, j, rfl, a1, a2, a3, rfl⟩ | ⟨rfl, rfl, a1, rfl⟩
  · exact put_within hw a1
  · exact hw

end Go.Proofs.YtbfamjnnlcopiaaGreatDoor
