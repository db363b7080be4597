/- A span in memory: what Page, Class, Size, Slots, Pages, begin, At, Slot, sized and check answer. -/
import Derived.Test.YtbfamjnnlcopiaaGreatDoorGzAC
namespace Go.Proofs.YtbfamjnnlcopiaaGreatDoor
open Go.RowKit
set_option linter.unusedVariables false
set_option maxRecDepth 4000

/-- Both tables in their variables. -/
def Tabs (w : World) : Prop := TabC w ∧ TabB w
theorem Tabs.keep {w w' : World} (h : Tabs w) (hb : Below w.heap.size w w') : Tabs w' := ⟨h.1.keep hb, h.2.keep hb h.2.1⟩
theorem Tabs.drewN {w : World} (h : Tabs w) (m : Nat) : Tabs (w.drewN m) := h
theorem Tabs.drew {w : World} (h : Tabs w) : Tabs w.drew := h

/-- The numbers of a span in its box. -/
structure Bx (w : World) (sb : Nat) (p c s : Int) : Prop where
  b0 : w.cell? ⟨sb, 0, none⟩ = some (.int .i64 p)
  b1 : w.cell? ⟨sb, 1, none⟩ = some (.int .i64 c)
  b2 : w.cell? ⟨sb, 2, none⟩ = some (.int .i64 s)
theorem Bx.drewN {w : World} {sb : Nat} {p c s : Int} (h : Bx w sb p c s) (m : Nat) : Bx (w.drewN m) sb p c s := ⟨h.b0, h.b1, h.b2⟩
theorem Bx.drew {w : World} {sb : Nat} {p c s : Int} (h : Bx w sb p c s) : Bx w.drew sb p c s := ⟨h.b0, h.b1, h.b2⟩

theorem page_any (sb : Nat) (p c s : Int) (w : World) (h : Bx w sb p c s) :
    Calls Tryz.prog 97 #[.pointer (some ⟨sb, 0, none⟩)] w fun e w' => e = .returned (.int .i64 p) ∧ w = w' := by
  have b0 := h.b0
  go_enter Tryz.func97, Tryz.ntmps97
  go_wp2
  go_ret
  exact ⟨rfl, rfl⟩
theorem class_any (sb : Nat) (p c s : Int) (w : World) (h : Bx w sb p c s) :
    Calls Tryz.prog 139 #[.pointer (some ⟨sb, 0, none⟩)] w fun e w' => e = .returned (.int .i64 c) ∧ w = w' := by
  have b1 := h.b1
  go_enter Tryz.func139, Tryz.ntmps139
  go_wp2
  go_ret
  exact ⟨rfl, rfl⟩
theorem size_any (sb : Nat) (p c s : Int) (w : World) (h : Bx w sb p c s) (hT : TabC w) (h0 : 0 ≤ c) (h7 : c ≤ 7) :
    Calls Tryz.prog 63 #[.pointer (some ⟨sb, 0, none⟩)] w fun e w' => e = .returned (.int .i64 (szI c s)) ∧ w = w' := by
  have b1 := h.b1
  have b2 := h.b2
  have HT : Hid (TabC w) := hT
  clear h hT
  by_cases hc : c = 7
  · subst hc
    rw [show szI 7 s = s from rfl]
    go_enter Tryz.func63, Tryz.ntmps63
    go_wp2
    go_ret
    exact ⟨rfl, rfl⟩
  · have hq : (c == 7) = false := beq_eq_false_iff_ne.2 hc
    have E : Hid (szI c s = sizeI c) := by show _ = _; unfold szI; rw [if_neg hc]
    rw [E.out]
    clear hc
    go_enter Tryz.func63, Tryz.ntmps63
    go_wp2_with (go_at_call 96; refine (csize_any c _ HT.out (by omega) (by omega)).mono ?_; rintro e w' ⟨rfl, rfl⟩)
    go_ret
    exact ⟨rfl, rfl⟩
theorem slots_any (sb : Nat) (p c s : Int) (w : World) (h : Bx w sb p c s) (hT : TabC w) (h0 : 0 ≤ c) (h7 : c ≤ 7) :
    Calls Tryz.prog 78 #[.pointer (some ⟨sb, 0, none⟩)] w fun e w' => e = .returned (.int .i64 (slotsI c)) ∧ w = w' := by
  have b1 := h.b1
  have HT : Hid (TabC w) := hT
  clear h hT
  go_enter Tryz.func78, Tryz.ntmps78
  go_wp2_with (go_at_call 105; refine (cslots_any c _ HT.out (by omega) (by omega)).mono ?_; rintro e w' ⟨rfl, rfl⟩)
  go_ret
  exact ⟨rfl, rfl⟩
theorem pgs_eq (c s : Int) (h0 : 0 ≤ c) (h7 : c ≤ 7) : pagesN (szI c s) = pgsN c s := by
  rcases eight h0 h7 with rfl | rfl | rfl | rfl | rfl | rfl | rfl | rfl <;> first | rfl | decide
theorem pages_any (sb : Nat) (p c s : Int) (w : World) (h : Bx w sb p c s) (hT : TabC w) (h0 : 0 ≤ c) (h7 : c ≤ 7) :
    Calls Tryz.prog 126 #[.pointer (some ⟨sb, 0, none⟩)] w fun e w' => e = .returned (.int .i64 (pgsN c s : Nat)) ∧ w = w' := by
  have H : Hid (Bx w sb p c s) := h
  have HT : Hid (TabC w) := hT
  have E : Hid (pagesN (szI c s) = pgsN c s) := pgs_eq c s h0 h7
  clear h hT
  rw [← E.out]
  go_enter Tryz.func126, Tryz.ntmps126
  go_wp2_with (first
    | (go_at_call 63; refine (size_any sb p c s _ H.out HT.out h0 h7).mono ?_; rintro e w' ⟨rfl, rfl⟩)
    | (go_at_call 134; refine (cpages_any (szI c s) _ HT.out).mono ?_; rintro e w' ⟨rfl, rfl⟩))
  go_ret
  exact ⟨rfl, rfl⟩
theorem begin_any (sb : Nat) (p c s : Int) (w : World) (h : Bx w sb p c s) (h0 : 0 ≤ p) (h1 : p ≤ 4096) :
    Calls Tryz.prog 124 #[.pointer (some ⟨sb, 0, none⟩)] w fun e w' => e = .returned (.int .i64 (256 * p)) ∧ w = w' := by
  have H : Hid (Bx w sb p c s) := h
  clear h
  go_enter Tryz.func124, Tryz.ntmps124
  go_wp2_with (go_at_call 97; refine (page_any sb p c s _ H.out).mono ?_; rintro e w' ⟨rfl, rfl⟩)
  go_ret
  exact ⟨ret_int (by omega), rfl⟩

/-- What begin, Size and Slots answer of a span that may be. -/
theorem begin_rt (sb : Nat) (p c s : Int) (w : World) (h : Bx w sb p c s) (r : Rt p c s) (B : Int) (hB : B = 256 * p) :
    Calls Tryz.prog 124 #[.pointer (some ⟨sb, 0, none⟩)] w fun e w' => e = .returned (.int .i64 B) ∧ w = w' := by
  subst hB
  obtain ⟨_, _, _, _, _, _, f7, _⟩ := r.facts
  exact begin_any sb p c s w h r.p0 (by have := r.p1; omega)
theorem size_rt (sb : Nat) (p c s : Int) (w : World) (h : Bx w sb p c s) (hT : TabC w) (r : Rt p c s) (z : Int) (hz : szI c s = z) :
    Calls Tryz.prog 63 #[.pointer (some ⟨sb, 0, none⟩)] w fun e w' => e = .returned (.int .i64 z) ∧ w = w' := by
  subst hz; exact size_any sb p c s w h hT r.c0 r.c7
theorem slots_rt (sb : Nat) (p c s : Int) (w : World) (h : Bx w sb p c s) (hT : TabC w) (r : Rt p c s) (n : Nat) (hn : slN c = n) :
    Calls Tryz.prog 78 #[.pointer (some ⟨sb, 0, none⟩)] w fun e w' => e = .returned (.int .i64 (n : Nat)) ∧ w = w' := by
  subst hn
  have := slots_any sb p c s w h hT r.c0 r.c7
  rw [r.facts.2.2.1] at this
  exact this

/-- At of a slot. -/
theorem at_in (sb : Nat) (p c s : Int) (i : Nat) (w : World) (h : Bx w sb p c s) (hT : TabC w) (r : Rt p c s) (hi : i < slN c) :
    Calls Tryz.prog 101 #[.pointer (some ⟨sb, 0, none⟩), .int .i64 (i : Nat)] w fun e w' => e = .returned (.tuple #[.int .i64 (256 * p + (i : Int) * szI c s), .bool true]) ∧ w = w' := by
  have H : Hid (Bx w sb p c s) := h
  have HT : Hid (TabC w) := hT
  have R : Hid (Rt p c s) := r
  obtain ⟨k1, k2, k3⟩ := r.place i hi
  obtain ⟨f1, f2, f3, f4, f5, f6, f7, f8, _⟩ := r.facts
  have hp0 := r.p0
  have hp1 := r.p1
  obtain ⟨z, hz⟩ : ∃ z, szI c s = z := ⟨_, rfl⟩
  obtain ⟨n, hn⟩ : ∃ n, slN c = n := ⟨_, rfl⟩
  have HZ : Hid (szI c s = z) := hz
  have HN : Hid (slN c = n) := hn
  rw [hz] at k1 k2 k3 f4 f5 f6 ⊢
  rw [hn] at hi f1 f2
  have hp2 : p ≤ 4095 := by omega
  obtain ⟨B, hB⟩ : ∃ B, B = 256 * p := ⟨_, rfl⟩
  have HB : Hid (B = 256 * p) := hB
  rw [← hB]
  have hB0 : 0 ≤ B ∧ B ≤ 1048576 := by omega
  clear h hT r k3 f3 f6 f7 f8 hp1 hz hn hB
  go_enter Tryz.func101, Tryz.ntmps101
  go_wp2_with (first
    | (go_at_call 78; refine (slots_rt sb p c s _ H.out HT.out R.out n HN.out).mono ?_; rintro e w' ⟨rfl, rfl⟩)
    | (go_at_call 63; refine (size_rt sb p c s _ H.out HT.out R.out z HZ.out).mono ?_; rintro e w' ⟨rfl, rfl⟩)
    | (go_at_call 124; refine (begin_rt sb p c s _ H.out R.out B HB.out).mono ?_; rintro e w' ⟨rfl, rfl⟩))
  go_ret2
  exact ⟨rfl, rfl⟩
/-- At of no slot. -/
theorem at_out (sb : Nat) (p c s : Int) (i : Int) (w : World) (h : Bx w sb p c s) (hT : TabC w) (r : Rt p c s) (hi : ¬ (0 ≤ i ∧ i < (slN c : Int))) :
    Calls Tryz.prog 101 #[.pointer (some ⟨sb, 0, none⟩), .int .i64 i] w fun e w' => e = .returned (.tuple #[.int .i64 0, .bool false]) ∧ w = w' := by
  have H : Hid (Bx w sb p c s) := h
  have HT : Hid (TabC w) := hT
  have R : Hid (Rt p c s) := r
  obtain ⟨f1, f2, _⟩ := r.facts
  obtain ⟨n, hn⟩ : ∃ n, slN c = n := ⟨_, rfl⟩
  have HN : Hid (slN c = n) := hn
  rw [hn] at hi f1 f2
  clear h hT r hn
  rcases Int.lt_or_le i 0 with h0 | h0
  · go_enter Tryz.func101, Tryz.ntmps101
    go_wp2
    go_ret2
    exact ⟨rfl, rfl⟩
  · have h1 : (n : Int) ≤ i := by omega
    go_enter Tryz.func101, Tryz.ntmps101
    go_wp2_with (go_at_call 78; refine (slots_rt sb p c s _ H.out HT.out R.out n HN.out).mono ?_; rintro e w' ⟨rfl, rfl⟩)
    go_ret2
    exact ⟨rfl, rfl⟩

set_option maxHeartbeats 1000000 in
theorem slot_any (sb : Nat) (p c s : Int) (x : Int) (w : World) (h : Bx w sb p c s) (hT : TabC w) (r : Rt p c s) (hx : -9223372036854775808 ≤ x ∧ x ≤ 9223372036854775807) :
    Calls Tryz.prog 100 #[.pointer (some ⟨sb, 0, none⟩), .int .i64 x] w fun e w' => ∃ y ok, e = .returned (.tuple #[.int .i64 y, .bool ok]) ∧ SlotR (slN c) p (szI c s) x y ok ∧ w = w' := by
  have H : Hid (Bx w sb p c s) := h
  have HT : Hid (TabC w) := hT
  have R : Hid (Rt p c s) := r
  obtain ⟨f1, f2, f3, f4, f5, f6, f7, f8, _⟩ := r.facts
  have hp0 := r.p0
  have hp1 := r.p1
  obtain ⟨z, hz⟩ : ∃ z, szI c s = z := ⟨_, rfl⟩
  have HZ : Hid (szI c s = z) := hz
  rw [hz] at f4 f5 ⊢
  have hp2 : p ≤ 4095 := by omega
  obtain ⟨B, hB⟩ : ∃ B, B = 256 * p := ⟨_, rfl⟩
  have HB : Hid (B = 256 * p) := hB
  have hB0 : 0 ≤ B ∧ B ≤ 1048576 := by omega
  have hzz : (z == 0) = false := by rw [beq_eq_false_iff_ne]; omega
  obtain ⟨d, hd⟩ : ∃ d, wrap64 (x - B) = d := ⟨_, rfl⟩
  have hdb : -9223372036854775808 ≤ d ∧ d ≤ 9223372036854775807 := by rw [← hd]; unfold wrap64; omega
  obtain ⟨q, hq⟩ : ∃ q, d.tdiv z = q := ⟨_, rfl⟩
  by_cases hin : ∃ i : Nat, i < slN c ∧ x = 256 * p + (i : Int) * z
  · obtain ⟨i, hi, hxi⟩ := hin
    obtain ⟨k1, k2, _⟩ := r.place i hi
    rw [hz] at k1 k2
    have hdi : d = (i : Int) * z := by rw [← hd]; unfold wrap64; omega
    have hqi : q = (i : Int) := by rw [← hq, hdi]; exact Int.mul_tdiv_cancel _ (by omega)
    have S : Hid (SlotR (slN c) p z x (i : Int) true) := .inl ⟨rfl, i, hi, rfl, hxi⟩
    have HA : Hid (x = 256 * p + (i : Int) * szI c s) := by show _ = _; rw [HZ.out]; exact hxi
    rw [hqi] at hq
    have hib : (i : Int) ≤ 16 := by omega
    clear h hT r hz hB hdi hqi hxi f1 f2 f3 f6 f7 f8 hp1 k1 k2 hp0 hp2
    go_enter Tryz.func100, Tryz.ntmps100
    go_wp2_with (first
      | (go_at_call 124; refine (begin_rt sb p c s _ H.out R.out B HB.out).mono ?_; rintro e w' ⟨rfl, rfl⟩)
      | (go_at_call 63; refine (size_rt sb p c s _ H.out HT.out R.out z HZ.out).mono ?_; rintro e w' ⟨rfl, rfl⟩)
      | (go_at_call 101; refine (at_in sb p c s i _ H.out HT.out R.out hi).mono ?_; rw [← HA.out]; rintro e w' ⟨rfl, rfl⟩))
    go_ret2
    exact ⟨_, _, rfl, S.out, rfl⟩
  · have S : Hid (SlotR (slN c) p z x 0 false) := .inr ⟨rfl, rfl, fun i hi e => hin ⟨i, hi, e⟩⟩
    by_cases hqn : 0 ≤ q ∧ q < (slN c : Int)
    · obtain ⟨i, rfl⟩ : ∃ i : Nat, q = i := ⟨q.toNat, by omega⟩
      have hi : i < slN c := by omega
      obtain ⟨y, hy⟩ : ∃ y, 256 * p + (i : Int) * szI c s = y := ⟨_, rfl⟩
      have HY : Hid (256 * p + (i : Int) * szI c s = y) := hy
      have hne : (y == x) = false := by rw [beq_eq_false_iff_ne]; intro e; exact hin ⟨i, hi, by rw [← e, ← hy, hz]⟩
      have hne' : (y != x) = true := by rw [bne, hne]; rfl
      have hib : (i : Int) ≤ 16 := by omega
      clear h hT r hz hB hin f1 f2 f3 f6 f7 f8 hp1 hp0 hp2 hy
      go_enter Tryz.func100, Tryz.ntmps100
      go_wp2_with (first
        | (go_at_call 124; refine (begin_rt sb p c s _ H.out R.out B HB.out).mono ?_; rintro e w' ⟨rfl, rfl⟩)
        | (go_at_call 63; refine (size_rt sb p c s _ H.out HT.out R.out z HZ.out).mono ?_; rintro e w' ⟨rfl, rfl⟩)
        | (go_at_call 101; refine (at_in sb p c s i _ H.out HT.out R.out hi).mono ?_; rw [HY.out]; rintro e w' ⟨rfl, rfl⟩))
      go_ret2
      exact ⟨_, _, rfl, S.out, rfl⟩
    · have HQ : Hid (¬ (0 ≤ q ∧ q < (slN c : Int))) := hqn
      have hqb : -9223372036854775808 ≤ q ∧ q ≤ 9223372036854775807 := by
        rw [← hq]
        have a1 := Int.natAbs_tdiv_le_natAbs d z
        rcases Int.lt_or_le d 0 with h9 | h9
        · have e1 : 0 ≤ (-d).tdiv z := Int.tdiv_nonneg (by omega) (by omega)
          rw [Int.neg_tdiv] at e1
          omega
        · have e1 : 0 ≤ d.tdiv z := Int.tdiv_nonneg h9 (by omega)
          omega
      clear h hT r hz hB hin f1 f2 f3 f6 f7 f8 hp1 hp0 hp2 hqn
      go_enter Tryz.func100, Tryz.ntmps100
      go_wp2_with (first
        | (go_at_call 124; refine (begin_rt sb p c s _ H.out R.out B HB.out).mono ?_; rintro e w' ⟨rfl, rfl⟩)
        | (go_at_call 63; refine (size_rt sb p c s _ H.out HT.out R.out z HZ.out).mono ?_; rintro e w' ⟨rfl, rfl⟩)
        | (go_at_call 101; refine (at_out sb p c s q _ H.out HT.out R.out HQ.out).mono ?_; rintro e w' ⟨rfl, rfl⟩))
      go_ret2
      exact ⟨_, _, rfl, S.out, rfl⟩
end Go.Proofs.YtbfamjnnlcopiaaGreatDoor

/- What List of a set in memory answers. -/
namespace Go.Proofs.YtbfamjnnlcopiaaGreatDoor
open Go.RowKit
set_option linter.unusedVariables false
set_option maxRecDepth 4000


/-- A list of integers of a kind in a block of the call's own. -/
def Owns (w : World) (base : Nat) (e : TypeId) (k : IntKind) (a : Option Addr) (l : List Int) (cap : Nat) : Prop := w.ownsRow base e 1 (.slice a l.length cap) l.length (l.map (Value.int k))
/-- A list of integers that is read. -/
def IsL (w : World) (k : IntKind) (a : Option Addr) (l : List Int) : Prop :=
  l = [] ∨ ∃ b off, a = some ⟨b, off, none⟩ ∧ b < w.heap.size ∧ ∀ i, i < l.length → w.cell? ⟨b, off + i, none⟩ = some (.int k (l.getD i 0))
theorem IsL.keep {w w' : World} {k : IntKind} {a : Option Addr} {l : List Int} (h : IsL w k a l) (hb : Below w.heap.size w w') : IsL w' k a l := by
  rcases h with h | ⟨b, off, e, hs, hc⟩
  · exact .inl h
  · refine .inr ⟨b, off, e, by have := hb.size; omega, fun i hi => ?_⟩
    rw [hb.cell (p := ⟨b, off + i, none⟩) hs]
    exact hc i hi
theorem owns_form {w : World} {base n : Nat} {e : TypeId} {v : Value} {xs : List Value} (h : w.ownsRow base e 1 v n xs) : ∃ a cap, v = .slice a n cap := by
  obtain ⟨_, ⟨rfl, rfl⟩ | ⟨g, c', cur, rfl, _⟩⟩ := h
  · exact ⟨_, _, rfl⟩
  · exact ⟨_, _, rfl⟩
theorem Owns.isL {w : World} {base : Nat} {e : TypeId} {k : IntKind} {a : Option Addr} {l : List Int} {cap : Nat} (h : Owns w base e k a l cap) : IsL w k a l := by
  have h' := h
  obtain ⟨_, ⟨h1, h2⟩ | ⟨g, c', cur, h1, _, h2, _⟩⟩ := h
  · exact .inl (List.eq_nil_of_length_eq_zero h2)
  · cases h1
    refine .inr ⟨g, 0, rfl, (Array.getElem?_eq_some_iff.1 h2).1, ?_⟩
    intro i hi
    have := World.ownsRow.cellAt h' i (by omega)
    rw [Nat.zero_add, this]
    simp [List.getD, hi]
theorem Owns.ge {w : World} {base cap : Nat} {e : TypeId} {k : IntKind} {a : Option Addr} {l : List Int} (h : Owns w base e k a l cap) : ∀ j, (Value.slice a l.length cap).ownBlock = some j → base ≤ j := by
  intro j hj
  obtain ⟨_, ⟨h1, h2⟩ | ⟨g, c', cur, h1, hg, h2, _⟩⟩ := h
  · rw [h1] at hj; simp [Value.ownBlock] at hj
  · rw [h1] at hj
    simp [Value.ownBlock] at hj
    omega
theorem Owns.keep {w w' : World} {base cap : Nat} {e : TypeId} {k : IntKind} {a : Option Addr} {l : List Int} (h : Owns w base e k a l cap) (hb : Below w.heap.size w w') : Owns w' base e k a l cap := by
  obtain ⟨h0, h1 | ⟨g, c', cur, h1, hg, h2, h3⟩⟩ := h
  · exact ⟨h0, .inl h1⟩
  · exact ⟨h0, .inr ⟨g, c', cur, h1, hg, by rw [hb.block g (Array.getElem?_eq_some_iff.1 h2).1]; exact h2, h3⟩⟩
/-- One integer is appended to a list of the call's own. -/
theorem wpList_one {ops : Array Oper} {rest : List Oper} {o : Oper} {a : Act} {Q : Exit → Act → World → Prop} {w : World} (hgd : o.guard = none) (s x : Operand) (t e : TypeId) (k : IntKind) (z : Int) (bytes : Nat)
    (ho : o.op = .call { callee := .builtin .append, args := #[s, x], argTypes := #[t, t] })
    (ht : Tryz.prog.underlying t = some (.slice e)) (hin : (Tryz.prog.info? e).map (fun i => (i.zero, i.size, i.bytes)) = some (some (.int k z), 1, bytes))
    (base : Nat) (hbase : base ≤ w.heap.size) (as0 : Option Addr) (L : List Int) (cs : Nat) (hs : a.eval s = .slice as0 L.length cs) (hown : Owns w base e k as0 L cs)
    (g c : Nat) (y : Int) (hx : a.eval x = .slice (some ⟨g, 0, none⟩) 1 c) (hc : w.cell? ⟨g, 0, none⟩ = some (.int k y)) (hlen : (L.length + 1) * bytes ≤ 140737488355328) (hmax : L.length ≤ 140737488355328)
    (h : ∀ a' cap' w', Owns w' base e k a' (L ++ [y]) cap' → Below base w w' → wpList Tryz.prog ops Q rest (a.put o.dst (.slice a' (L ++ [y]).length cap')) w') :
    wpList Tryz.prog ops Q (o :: rest) a w := by
  obtain ⟨i0, hi, hz0, hz1, hz2⟩ := info_parts hin
  refine wpList_append_own w hgd s x t ho base e i0 (.int k z) 1 bytes ht hi hz0 hz1 hz2 rfl (by decide) _ _ _ hs hown ⟨g, 0, none⟩ 1 c [.int k y] hx rfl ?_ ?_ (by unfold maxLen; omega) hlen hbase ?_
  · intro j u hj
    match j, hj with
    | 0, hj => simp at hj; subst hj; simpa [Addr.add] using hc
  · intro u hu; simp at hu; subst hu; rfl
  · intro v' w' h1 h2 h3
    obtain ⟨a', cap', rfl⟩ := owns_form h1
    have := h a' cap' w' (by simpa [Owns] using h1) ((Below.refl _ w).grown h2 hbase hown.ge)
    simpa using this
theorem Tryz.info3 : (Tryz.prog.info? 3).map (fun i => (i.zero, i.size, i.bytes)) = some (some (.int .i64 0), 1, 8) := by kernel_rfl
theorem make_ints (c : Nat) (hc : c ≤ 65536) (w : World) : (Instr.makeSlice 31 (.int .i64 0) (.int .i64 (c : Int))).run Tryz.prog w = .ok (.slice (some ⟨w.heap.size, 0, none⟩) 0 c) (w.alloc (.cells (madeCells #[.int .i64 0] c) 3)) := by
  obtain ⟨i0, hi, hz0, hz1, hz2⟩ := info_parts Tryz.info3
  have := run_make (P := Tryz.prog) w 31 3 i0 (.int .i64 0) Tryz.underlying31 hi hz0 .i64 .i64 0 c (by omega) (by omega) (by rw [hz2]; omega) (by omega)
  rw [hz1] at this
  simp only [Int.toNat_natCast, Int.toNat_zero, Nat.mul_one] at this
  exact this
def lenOf : Value → Nat
  | .slice _ k _ => k
  | _ => 0
set_option maxHeartbeats 1000000 in
theorem list_any (b g n : Nat) (f : Nat → Bool) (w : World) (hS : SetAt w b g n f) (hT : TabB w) :
    Calls Tryz.prog 84 #[.pointer (some ⟨b, 0, none⟩)] w fun e w' => ∃ a cap, e = .returned (.slice a (lsL f n).length cap) ∧ Owns w' w.heap.size 3 .i64 a (lsL f n) cap ∧ Below w.heap.size w w' := by
  have few := hS.few
  have hc := Nat.le_trans (cnt_le f n) few
  have HS : Hid (SetAt w b g n f) := hS
  have HT : Hid (TabB w) := hT
  have hmk := make_ints (cnt f n) hc
  clear hS hT
  go_enter Tryz.func84, Tryz.ntmps84
  go_wp2_with (go_at_call 95; refine (count_any b g n f _ HS.out).mono ?_; rintro e w' ⟨rfl, rfl⟩)
  have B1 : Hid (Below w.heap.size w (w.alloc (.cells (madeCells #[.int .i64 0] (cnt f n)) 3))) := (Below.refl _ w).alloc (Nat.le_refl _) _
  refine (first_any b g n f _ _ (HS.out.keepAll B1.out) (HT.out.keep B1.out HT.out.1) (by omega)).mono ?_
  rintro e w' ⟨rfl, rfl⟩
  go_wp2
  go_loopw [3, 4] (fun lv iv wr => ∃ (k : Nat) (a : Option Addr) (cap : Nat), k ≤ n ∧ lv = .slice a (lsL f k).length cap ∧ iv = .int .i64 (nextL f n k) ∧ Owns wr w.heap.size 3 .i64 a (lsL f k) cap ∧ Below w.heap.size w wr) (fun lv _ _ => n - lenOf lv)
  case atStart => exact ⟨0, some ⟨w.heap.size, 0, none⟩, cnt f n, Nat.zero_le _, rfl, rfl, World.ownsRow_made w _ _ (Nat.le_refl _) (by unfold maxLen; omega) (by simp [madeCells]), B1.out⟩
  case round =>
    obtain ⟨k, a, cap, hk, rfl, rfl, ho, hb⟩ := hrel
    have HO : Hid (Owns _ w.heap.size 3 .i64 a (lsL f k) cap) := ho
    have HB : Hid (Below w.heap.size w _) := hb
    have hll : (lsL f k).length ≤ k := by rw [lsL_len]; exact cnt_le f k
    clear ho hb
    rcases nextL_cases f n k with ⟨hn, hno⟩ | ⟨j, hj, hkj, hjn, hfj, hno⟩
    · have EL : Hid (lsL f n = lsL f k) := by
        have := lsL_skip f k (n - k) (fun i h1 h2 => hno i h1 (by omega))
        rw [show k + (n - k) = n from by omega] at this
        exact this
      rw [hn]
      clear hno hn
      go_wp2
      go_ret
      rw [EL.out]
      exact ⟨a, cap, rfl, HO.out, HB.out⟩
    · have EL : Hid (lsL f (j + 1) = lsL f k ++ [(j : Int)]) := lsL_one f k j hkj hno hfj
      rw [hj]
      clear hno hj hfj
      go_wp2_with (at_builtin; refine wpList_one rfl _ _ 31 3 .i64 0 8 rfl Tryz.underlying31 Tryz.info3 w.heap.size ?q1 a (lsL f k) cap rfl ?q2 _ 1 (j : Int) rfl ?q3 ?q4 ?q5 ?_)
      case q1 => have := HB.out.size; simp; omega
      case q2 => exact World.ownsRow.alloc HO.out _
      case q3 => simp
      case q4 => omega
      case q5 => omega
      intro a3 c3 w3 o3 b3
      have O3 : Hid (Owns w3 w.heap.size 3 .i64 a3 (lsL f (j + 1)) c3) := by show Owns _ _ _ _ _ _ _; rw [EL.out]; exact o3
      have B3 : Hid (Below w.heap.size w w3) := (HB.out.alloc HB.out.size _).trans b3
      have hlen : (lsL f k).length + 1 = (lsL f (j + 1)).length := by rw [EL.out]; simp
      rw [hlen]
      have HL : Hid ((lsL f k).length + 1 = (lsL f (j + 1)).length) := hlen
      clear o3 b3 hlen
      go_wp2_with fail
      refine (first_any b g n f _ _ (HS.out.keepAll B3.out) (HT.out.keep B3.out HT.out.1) (by omega)).mono ?_
      rintro e w' ⟨rfl, rfl⟩
      go_wp2
      go_roundw
      case rel => exact ⟨j + 1, a3, c3, by omega, rfl, by congr 2, O3.out, B3.out⟩
      case measure => have := HL.out; simp [lenOf]; omega
end Go.Proofs.YtbfamjnnlcopiaaGreatDoor
