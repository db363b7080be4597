/- A span in memory: what Page, Class, Size, Slots, Pages, begin, At, Slot, sized and check answer. -/
import Derived.Test.YtbnmbkohmmiamaaDoorSpD
namespace Go.Proofs.YtbnmbkohmmiamaaDoor
open Go.RowKit
set_option linter.unusedVariables false

/-- Both tables in their variables. -/
def Tabs (w : World) : Prop := TabC w ∧ TabB w
theorem Tabs.keep {w w' : World} (h : Tabs w) (hb : Below w.heap.size w w') : Tabs w' := ⟨h.1.keep hb, h.2.keep hb h.2.1⟩
theorem Tabs.drewN {w : World} (h : Tabs w) (m : Nat) : Tabs (w.drewN m) := h
theorem Tabs.drew {w : World} (h : Tabs w) : Tabs w.drew := h

/-- The numbers of a span in its box. -/
structure Bx (w : World) (sb : Nat) (p c s : Int) : Prop where
  b0 : w.cell? ⟨sb, 0, none⟩ = some (.int .i64 p)
  b1 : w.cell? ⟨sb, 1, none⟩ = some (.int .i64 c)
  b2 : w.cell? ⟨sb, 2, none⟩ = some (.int .i64 s)
theorem Bx.drewN {w : World} {sb : Nat} {p c s : Int} (h : Bx w sb p c s) (m : Nat) : Bx (w.drewN m) sb p c s := ⟨h.b0, h.b1, h.b2⟩
theorem Bx.drew {w : World} {sb : Nat} {p c s : Int} (h : Bx w sb p c s) : Bx w.drew sb p c s := ⟨h.b0, h.b1, h.b2⟩

theorem page_any (sb : Nat) (p c s : Int) (w : World) (h : Bx w sb p c s) :
    Calls Tryd.prog 46 #[.pointer (some ⟨sb, 0, none⟩)] w fun e w' => e = .returned (.int .i64 p) ∧ w = w' := by
  have b0 := h.b0
  go_enter Tryd.func46, Tryd.ntmps46
  go_wp2
  go_ret
  exact ⟨rfl, rfl⟩
theorem class_any (sb : Nat) (p c s : Int) (w : World) (h : Bx w sb p c s) :
    Calls Tryd.prog 49 #[.pointer (some ⟨sb, 0, none⟩)] w fun e w' => e = .returned (.int .i64 c) ∧ w = w' := by
  have b1 := h.b1
  go_enter Tryd.func49, Tryd.ntmps49
  go_wp2
  go_ret
  exact ⟨rfl, rfl⟩
theorem size_any (sb : Nat) (p c s : Int) (w : World) (h : Bx w sb p c s) (hT : TabC w) (h0 : 0 ≤ c) (h7 : c ≤ 7) :
    Calls Tryd.prog 37 #[.pointer (some ⟨sb, 0, none⟩)] w fun e w' => e = .returned (.int .i64 (szI c s)) ∧ w = w' := by
  have b1 := h.b1
  have b2 := h.b2
  have HT : Hid (TabC w) := hT
  clear h hT
  by_cases hc : c = 7
  · subst hc
    rw [show szI 7 s = s from rfl]
    go_enter Tryd.func37, Tryd.ntmps37
    go_wp2
    go_ret
    exact ⟨rfl, rfl⟩
  · have hq : (c == 7) = false := beq_eq_false_iff_ne.2 hc
    have E : Hid (szI c s = sizeI c) := by show _ = _; unfold szI; rw [if_neg hc]
    rw [E.out]
    clear hc
    go_enter Tryd.func37, Tryd.ntmps37
    go_wp2_with (go_at_call 19; refine (csize_any c _ HT.out (by omega) (by omega)).mono ?_; rintro e w' ⟨rfl, rfl⟩)
    go_ret
    exact ⟨rfl, rfl⟩
theorem slots_any (sb : Nat) (p c s : Int) (w : World) (h : Bx w sb p c s) (hT : TabC w) (h0 : 0 ≤ c) (h7 : c ≤ 7) :
    Calls Tryd.prog 23 #[.pointer (some ⟨sb, 0, none⟩)] w fun e w' => e = .returned (.int .i64 (slotsI c)) ∧ w = w' := by
  have b1 := h.b1
  have HT : Hid (TabC w) := hT
  clear h hT
  go_enter Tryd.func23, Tryd.ntmps23
  go_wp2_with (go_at_call 43; refine (cslots_any c _ HT.out (by omega) (by omega)).mono ?_; rintro e w' ⟨rfl, rfl⟩)
  go_ret
  exact ⟨rfl, rfl⟩
theorem pgs_eq (c s : Int) (h0 : 0 ≤ c) (h7 : c ≤ 7) : pagesN (szI c s) = pgsN c s := by
  rcases eight h0 h7 with rfl | rfl | rfl | rfl | rfl | rfl | rfl | rfl <;> first | rfl | decide
theorem pages_any (sb : Nat) (p c s : Int) (w : World) (h : Bx w sb p c s) (hT : TabC w) (h0 : 0 ≤ c) (h7 : c ≤ 7) :
    Calls Tryd.prog 22 #[.pointer (some ⟨sb, 0, none⟩)] w fun e w' => e = .returned (.int .i64 (pgsN c s : Nat)) ∧ w = w' := by
  have H : Hid (Bx w sb p c s) := h
  have HT : Hid (TabC w) := hT
  have E : Hid (pagesN (szI c s) = pgsN c s) := pgs_eq c s h0 h7
  clear h hT
  rw [← E.out]
  go_enter Tryd.func22, Tryd.ntmps22
  go_wp2_with (first
    | (go_at_call 37; refine (size_any sb p c s _ H.out HT.out h0 h7).mono ?_; rintro e w' ⟨rfl, rfl⟩)
    | (go_at_call 42; refine (cpages_any (szI c s) _ HT.out).mono ?_; rintro e w' ⟨rfl, rfl⟩))
  go_ret
  exact ⟨rfl, rfl⟩
theorem begin_any (sb : Nat) (p c s : Int) (w : World) (h : Bx w sb p c s) (h0 : 0 ≤ p) (h1 : p ≤ 4096) :
    Calls Tryd.prog 55 #[.pointer (some ⟨sb, 0, none⟩)] w fun e w' => e = .returned (.int .i64 (256 * p)) ∧ w = w' := by
  have H : Hid (Bx w sb p c s) := h
  clear h
  go_enter Tryd.func55, Tryd.ntmps55
  go_wp2_with (go_at_call 46; refine (page_any sb p c s _ H.out).mono ?_; rintro e w' ⟨rfl, rfl⟩)
  go_ret
  exact ⟨ret_int (by omega), rfl⟩

/-- What begin, Size and Slots answer of a span that may be. -/
theorem begin_rt (sb : Nat) (p c s : Int) (w : World) (h : Bx w sb p c s) (r : Rt p c s) (B : Int) (hB : B = 256 * p) :
    Calls Tryd.prog 55 #[.pointer (some ⟨sb, 0, none⟩)] w fun e w' => e = .returned (.int .i64 B) ∧ w = w' := by
  subst hB
  obtain ⟨_, _, _, _, _, _, f7, _⟩ := r.facts
  exact begin_any sb p c s w h r.p0 (by have := r.p1; omega)
theorem size_rt (sb : Nat) (p c s : Int) (w : World) (h : Bx w sb p c s) (hT : TabC w) (r : Rt p c s) (z : Int) (hz : szI c s = z) :
    Calls Tryd.prog 37 #[.pointer (some ⟨sb, 0, none⟩)] w fun e w' => e = .returned (.int .i64 z) ∧ w = w' := by
  subst hz; exact size_any sb p c s w h hT r.c0 r.c7
theorem slots_rt (sb : Nat) (p c s : Int) (w : World) (h : Bx w sb p c s) (hT : TabC w) (r : Rt p c s) (n : Nat) (hn : slN c = n) :
    Calls Tryd.prog 23 #[.pointer (some ⟨sb, 0, none⟩)] w fun e w' => e = .returned (.int .i64 (n : Nat)) ∧ w = w' := by
  subst hn
  have := slots_any sb p c s w h hT r.c0 r.c7
  rw [r.facts.2.2.1] at this
  exact this

/-- At of a slot. -/
theorem at_in (sb : Nat) (p c s : Int) (i : Nat) (w : World) (h : Bx w sb p c s) (hT : TabC w) (r : Rt p c s) (hi : i < slN c) :
    Calls Tryd.prog 36 #[.pointer (some ⟨sb, 0, none⟩), .int .i64 (i : Nat)] w fun e w' => e = .returned (.tuple #[.int .i64 (256 * p + (i : Int) * szI c s), .bool true]) ∧ w = w' := by
  have H : Hid (Bx w sb p c s) := h
  have HT : Hid (TabC w) := hT
  have R : Hid (Rt p c s) := r
  obtain ⟨k1, k2, k3⟩ := r.place i hi
  obtain ⟨f1, f2, f3, f4, f5, f6, f7, f8, _⟩ := r.facts
  have hp0 := r.p0
  have hp1 := r.p1
  obtain ⟨z, hz⟩ : ∃ z, szI c s = z := ⟨_, rfl⟩
  obtain ⟨n, hn⟩ : ∃ n, slN c = n := ⟨_, rfl⟩
  have HZ : Hid (szI c s = z) := hz
  have HN : Hid (slN c = n) := hn
  rw [hz] at k1 k2 k3 f4 f5 f6 ⊢
  rw [hn] at hi f1 f2
  have hp2 : p ≤ 4095 := by omega
  obtain ⟨B, hB⟩ : ∃ B, B = 256 * p := ⟨_, rfl⟩
  have HB : Hid (B = 256 * p) := hB
  rw [← hB]
  have hB0 : 0 ≤ B ∧ B ≤ 1048576 := by omega
  clear h hT r k3 f3 f6 f7 f8 hp1 hz hn hB
  go_enter Tryd.func36, Tryd.ntmps36
  go_wp2_with (first
    | (go_at_call 23; refine (slots_rt sb p c s _ H.out HT.out R.out n HN.out).mono ?_; rintro e w' ⟨rfl, rfl⟩)
    | (go_at_call 37; refine (size_rt sb p c s _ H.out HT.out R.out z HZ.out).mono ?_; rintro e w' ⟨rfl, rfl⟩)
    | (go_at_call 55; refine (begin_rt sb p c s _ H.out R.out B HB.out).mono ?_; rintro e w' ⟨rfl, rfl⟩))
  go_ret2
  exact ⟨rfl, rfl⟩
/-- At of no slot. -/
theorem at_out (sb : Nat) (p c s : Int) (i : Int) (w : World) (h : Bx w sb p c s) (hT : TabC w) (r : Rt p c s) (hi : ¬ (0 ≤ i ∧ i < (slN c : Int))) :
    Calls Tryd.prog 36 #[.pointer (some ⟨sb, 0, none⟩), .int .i64 i] w fun e w' => e = .returned (.tuple #[.int .i64 0, .bool false]) ∧ w = w' := by
  have H : Hid (Bx w sb p c s) := h
  have HT : Hid (TabC w) := hT
  have R : Hid (Rt p c s) := r
  obtain ⟨f1, f2, _⟩ := r.facts
  obtain ⟨n, hn⟩ : ∃ n, slN c = n := ⟨_, rfl⟩
  have HN : Hid (slN c = n) := hn
  rw [hn] at hi f1 f2
  clear h hT r hn
  rcases Int.lt_or_le i 0 with h0 | h0
  · go_enter Tryd.func36, Tryd.ntmps36
    go_wp2
    go_ret2
    exact ⟨rfl, rfl⟩
  · have h1 : (n : Int) ≤ i := by omega
    go_enter Tryd.func36, Tryd.ntmps36
    go_wp2_with (go_at_call 23; refine (slots_rt sb p c s _ H.out HT.out R.out n HN.out).mono ?_; rintro e w' ⟨rfl, rfl⟩)
    go_ret2
    exact ⟨rfl, rfl⟩

end Go.Proofs.YtbnmbkohmmiamaaDoor
