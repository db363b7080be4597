/- A span in memory: what Page, Class, Size, Slots, Pages, begin, At, Slot, sized and check answer. -/
import Derived.Test.YtgmljgogmbaioaaGreatDoorSpD
namespace Go.Proofs.YtgmljgogmbaioaaGreatDoor
open Go.RowKit
set_option linter.unusedVariables false
set_option maxRecDepth 4000

/-- Both tables in their variables. -/
def Tabs (w : World) : Prop := TabC w ∧ TabB w
theorem Tabs.keep {w w' : World} (h : Tabs w) (hb : Below w.heap.size w w') : Tabs w' := ⟨h.1.keep hb, h.2.keep hb h.2.1⟩
theorem Tabs.drewN {w : World} (h : Tabs w) (m : Nat) : Tabs (w.drewN m) := h
theorem Tabs.drew {w : World} (h : Tabs w) : Tabs w.drew := h

/-- The numbers of a span in its box. -/
structure Bx (w : World) (sb : Nat) (p c s : Int) : Prop where
  b0 : w.cell? ⟨sb, 0, none⟩ = some (.int .i64 p)
  b1 : w.cell? ⟨sb, 1, none⟩ = some (.int .i64 c)
  b2 : w.cell? ⟨sb, 2, none⟩ = some (.int .i64 s)
theorem Bx.drewN {w : World} {sb : Nat} {p c s : Int} (h : Bx w sb p c s) (m : Nat) : Bx (w.drewN m) sb p c s := ⟨h.b0, h.b1, h.b2⟩
theorem Bx.drew {w : World} {sb : Nat} {p c s : Int} (h : Bx w sb p c s) : Bx w.drew sb p c s := ⟨h.b0, h.b1, h.b2⟩

theorem page_any (sb : Nat) (p c s : Int) (w : World) (h : Bx w sb p c s) :
    Calls Tryz.prog 79 #[.pointer (some ⟨sb, 0, none⟩)] w fun e w' => e = .returned (.int .i64 p) ∧ w = w' := by
  have b0 := h.b0
  go_enter Tryz.func79, Tryz.ntmps79
  go_wp2
  go_ret
  exact ⟨rfl, rfl⟩
theorem class_any (sb : Nat) (p c s : Int) (w : World) (h : Bx w sb p c s) :
    Calls Tryz.prog 53 #[.pointer (some ⟨sb, 0, none⟩)] w fun e w' => e = .returned (.int .i64 c) ∧ w = w' := by
  have b1 := h.b1
  go_enter Tryz.func53, Tryz.ntmps53
  go_wp2
  go_ret
  exact ⟨rfl, rfl⟩
theorem size_any (sb : Nat) (p c s : Int) (w : World) (h : Bx w sb p c s) (hT : TabC w) (h0 : 0 ≤ c) (h7 : c ≤ 7) :
    Calls Tryz.prog 90 #[.pointer (some ⟨sb, 0, none⟩)] w fun e w' => e = .returned (.int .i64 (szI c s)) ∧ w = w' := by
  have b1 := h.b1
  have b2 := h.b2
  have HT : Hid (TabC w) := hT
  clear h hT
  by_cases hc : c = 7
  · subst hc
    rw [show szI 7 s = s from rfl]
    go_enter Tryz.func90, Tryz.ntmps90
    go_wp2
    go_ret
    exact ⟨rfl, rfl⟩
  · have hq : (c == 7) = false := beq_eq_false_iff_ne.2 hc
    have E : Hid (szI c s = sizeI c) := by show _ = _; unfold szI; rw [if_neg hc]
    rw [E.out]
    clear hc
    go_enter Tryz.func90, Tryz.ntmps90
    go_wp2_with (go_at_call 114; refine (csize_any c _ HT.out (by omega) (by omega)).mono ?_; rintro e w' ⟨rfl, rfl⟩)
    go_ret
    exact ⟨rfl, rfl⟩
theorem slots_any (sb : Nat) (p c s : Int) (w : World) (h : Bx w sb p c s) (hT : TabC w) (h0 : 0 ≤ c) (h7 : c ≤ 7) :
    Calls Tryz.prog 113 #[.pointer (some ⟨sb, 0, none⟩)] w fun e w' => e = .returned (.int .i64 (slotsI c)) ∧ w = w' := by
  have b1 := h.b1
  have HT : Hid (TabC w) := hT
  clear h hT
  go_enter Tryz.func113, Tryz.ntmps113
  go_wp2_with (go_at_call 132; refine (cslots_any c _ HT.out (by omega) (by omega)).mono ?_; rintro e w' ⟨rfl, rfl⟩)
  go_ret
  exact ⟨rfl, rfl⟩
theorem pgs_eq (c s : Int) (h0 : 0 ≤ c) (h7 : c ≤ 7) : pagesN (szI c s) = pgsN c s := by
  rcases eight h0 h7 with rfl | rfl | rfl | rfl | rfl | rfl | rfl | rfl <;> first | rfl | decide
theorem pages_any (sb : Nat) (p c s : Int) (w : World) (h : Bx w sb p c s) (hT : TabC w) (h0 : 0 ≤ c) (h7 : c ≤ 7) :
    Calls Tryz.prog 82 #[.pointer (some ⟨sb, 0, none⟩)] w fun e w' => e = .returned (.int .i64 (pgsN c s : Nat)) ∧ w = w' := by
  have H : Hid (Bx w sb p c s) := h
  have HT : Hid (TabC w) := hT
  have E : Hid (pagesN (szI c s) = pgsN c s) := pgs_eq c s h0 h7
  clear h hT
  rw [← E.out]
  go_enter Tryz.func82, Tryz.ntmps82
  go_wp2_with (first
    | (go_at_call 90; refine (size_any sb p c s _ H.out HT.out h0 h7).mono ?_; rintro e w' ⟨rfl, rfl⟩)
    | (go_at_call 23; refine (cpages_any (szI c s) _ HT.out).mono ?_; rintro e w' ⟨rfl, rfl⟩))
  go_ret
  exact ⟨rfl, rfl⟩
theorem begin_any (sb : Nat) (p c s : Int) (w : World) (h : Bx w sb p c s) (h0 : 0 ≤ p) (h1 : p ≤ 4096) :
    Calls Tryz.prog 89 #[.pointer (some ⟨sb, 0, none⟩)] w fun e w' => e = .returned (.int .i64 (256 * p)) ∧ w = w' := by
  have H : Hid (Bx w sb p c s) := h
  clear h
  go_enter Tryz.func89, Tryz.ntmps89
  go_wp2_with (go_at_call 79; refine (page_any sb p c s _ H.out).mono ?_; rintro e w' ⟨rfl, rfl⟩)
  go_ret
  exact ⟨ret_int (by omega), rfl⟩

/-- What begin, Size and Slots answer of a span that may be. -/
theorem begin_rt (sb : Nat) (p c s : Int) (w : World) (h : Bx w sb p c s) (r : Rt p c s) (B : Int) (hB : B = 256 * p) :
    Calls Tryz.prog 89 #[.pointer (some ⟨sb, 0, none⟩)] w fun e w' => e = .returned (.int .i64 B) ∧ w = w' := by
  subst hB
  obtain ⟨_, _, _, _, _, _, f7, _⟩ := r.facts
  exact begin_any sb p c s w h r.p0 (by have := r.p1; omega)
theorem size_rt (sb : Nat) (p c s : Int) (w : World) (h : Bx w sb p c s) (hT : TabC w) (r : Rt p c s) (z : Int) (hz : szI c s = z) :
    Calls Tryz.prog 90 #[.pointer (some ⟨sb, 0, none⟩)] w fun e w' => e = .returned (.int .i64 z) ∧ w = w' := by
  subst hz; exact size_any sb p c s w h hT r.c0 r.c7
theorem slots_rt (sb : Nat) (p c s : Int) (w : World) (h : Bx w sb p c s) (hT : TabC w) (r : Rt p c s) (n : Nat) (hn : slN c = n) :
    Calls Tryz.prog 113 #[.pointer (some ⟨sb, 0, none⟩)] w fun e w' => e = .returned (.int .i64 (n : Nat)) ∧ w = w' := by
  subst hn
  have := slots_any sb p c s w h hT r.c0 r.c7
  rw [r.facts.2.2.1] at this
  exact this

/-- At of a slot. -/
theorem at_in (sb : Nat) (p c s : Int) (i : Nat) (w : World) (h : Bx w sb p c s) (hT : TabC w) (r : Rt p c s) (hi : i < slN c) :
    Calls Tryz.prog 86 #[.pointer (some ⟨sb, 0, none⟩), .int .i64 (i : Nat)] w fun e w' => e = .returned (.tuple #[.int .i64 (256 * p + (i : Int) * szI c s), .bool true]) ∧ w = w' := by
  have H : Hid (Bx w sb p c s) := h
  have HT : Hid (TabC w) := hT
  have R : Hid (Rt p c s) := r
  obtain ⟨k1, k2, k3⟩ := r.place i hi
  obtain ⟨f1, f2, f3, f4, f5, f6, f7, f8, _⟩ := r.facts
  have hp0 := r.p0
  have hp1 := r.p1
  obtain ⟨z, hz⟩ : ∃ z, szI c s = z := ⟨_, rfl⟩
  obtain ⟨n, hn⟩ : ∃ n, slN c = n := ⟨_, rfl⟩
  have HZ : Hid (szI c s = z) := hz
  have HN : Hid (slN c = n) := hn
  rw [hz] at k1 k2 k3 f4 f5 f6 ⊢
  rw [hn] at hi f1 f2
  have hp2 : p ≤ 4095 := by omega
  obtain ⟨B, hB⟩ : ∃ B, B = 256 * p := ⟨_, rfl⟩
  have HB : Hid (B = 256 * p) := hB
  rw [← hB]
  have hB0 : 0 ≤ B ∧ B ≤ 1048576 := by omega
  clear h hT r k3 f3 f6 f7 f8 hp1 hz hn hB
  go_enter Tryz.func86, Tryz.ntmps86
  go_wp2_with (first
    | (go_at_call 113; refine (slots_rt sb p c s _ H.out HT.out R.out n HN.out).mono ?_; rintro e w' ⟨rfl, rfl⟩)
    | (go_at_call 90; refine (size_rt sb p c s _ H.out HT.out R.out z HZ.out).mono ?_; rintro e w' ⟨rfl, rfl⟩)
    | (go_at_call 89; refine (begin_rt sb p c s _ H.out R.out B HB.out).mono ?_; rintro e w' ⟨rfl, rfl⟩))
  go_ret2
  exact ⟨rfl, rfl⟩
/-- At of no slot. -/
theorem at_out (sb : Nat) (p c s : Int) (i : Int) (w : World) (h : Bx w sb p c s) (hT : TabC w) (r : Rt p c s) (hi : ¬ (0 ≤ i ∧ i < (slN c : Int))) :
    Calls Tryz.prog 86 #[.pointer (some ⟨sb, 0, none⟩), .int .i64 i] w fun e w' => e = .returned (.tuple #[.int .i64 0, .bool false]) ∧ w = w' := by
  have H : Hid (Bx w sb p c s) := h
  have HT : Hid (TabC w) := hT
  have R : Hid (Rt p c s) := r
  obtain ⟨f1, f2, _⟩ := r.facts
  obtain ⟨n, hn⟩ : ∃ n, slN c = n := ⟨_, rfl⟩
  have HN : Hid (slN c = n) := hn
  rw [hn] at hi f1 f2
  clear h hT r hn
  rcases Int.lt_or_le i 0 with h0 | h0
  · go_enter Tryz.func86, Tryz.ntmps86
    go_wp2
    go_ret2
    exact ⟨rfl, rfl⟩
  · have h1 : (n : Int) ≤ i := by omega
    go_enter Tryz.func86, Tryz.ntmps86
    go_wp2_with (go_at_call 113; refine (slots_rt sb p c s _ H.out HT.out R.out n HN.out).mono ?_; rintro e w' ⟨rfl, rfl⟩)
    go_ret2
    exact ⟨rfl, rfl⟩

set_option maxHeartbeats 1000000 in
theorem slot_any (sb : Nat) (p c s : Int) (x : Int) (w : World) (h : Bx w sb p c s) (hT : TabC w) (r : Rt p c s) (hx : -9223372036854775808 ≤ x ∧ x ≤ 9223372036854775807) :
    Calls Tryz.prog 50 #[.pointer (some ⟨sb, 0, none⟩), .int .i64 x] w fun e w' => ∃ y ok, e = .returned (.tuple #[.int .i64 y, .bool ok]) ∧ SlotR (slN c) p (szI c s) x y ok ∧ w = w' := by
  have H : Hid (Bx w sb p c s) := h
  have HT : Hid (TabC w) := hT
  have R : Hid (Rt p c s) := r
  obtain ⟨f1, f2, f3, f4, f5, f6, f7, f8, _⟩ := r.facts
  have hp0 := r.p0
  have hp1 := r.p1
  obtain ⟨z, hz⟩ : ∃ z, szI c s = z := ⟨_, rfl⟩
  have HZ : Hid (szI c s = z) := hz
  rw [hz] at f4 f5 ⊢
  have hp2 : p ≤ 4095 := by omega
  obtain ⟨B, hB⟩ : ∃ B, B = 256 * p := ⟨_, rfl⟩
  have HB : Hid (B = 256 * p) := hB
  have hB0 : 0 ≤ B ∧ B ≤ 1048576 := by omega
  have hzz : (z == 0) = false := by rw [beq_eq_false_iff_ne]; omega
  obtain ⟨d, hd⟩ : ∃ d, wrap64 (x - B) = d := ⟨_, rfl⟩
  have hdb : -9223372036854775808 ≤ d ∧ d ≤ 9223372036854775807 := by rw [← hd]; unfold wrap64; omega
  obtain ⟨q, hq⟩ : ∃ q, d.tdiv z = q := ⟨_, rfl⟩
  by_cases hin : ∃ i : Nat, i < slN c ∧ x = 256 * p + (i : Int) * z
  · obtain ⟨i, hi, hxi⟩ := hin
    obtain ⟨k1, k2, _⟩ := r.place i hi
    rw [hz] at k1 k2
    have hdi : d = (i : Int) * z := by rw [← hd]; unfold wrap64; omega
    have hqi : q = (i : Int) := by rw [← hq, hdi]; exact Int.mul_tdiv_cancel _ (by omega)
    have S : Hid (SlotR (slN c) p z x (i : Int) true) := .inl ⟨rfl, i, hi, rfl, hxi⟩
    have HA : Hid (x = 256 * p + (i : Int) * szI c s) := by show _ = _; rw [HZ.out]; exact hxi
    rw [hqi] at hq
    have hib : (i : Int) ≤ 16 := by omega
    clear h hT r hz hB hdi hqi hxi f1 f2 f3 f6 f7 f8 hp1 k1 k2 hp0 hp2
    go_enter Tryz.func50, Tryz.ntmps50
    go_wp2_with (first
      | (go_at_call 89; refine (begin_rt sb p c s _ H.out R.out B HB.out).mono ?_; rintro e w' ⟨rfl, rfl⟩)
      | (go_at_call 90; refine (size_rt sb p c s _ H.out HT.out R.out z HZ.out).mono ?_; rintro e w' ⟨rfl, rfl⟩)
      | (go_at_call 86; refine (at_in sb p c s i _ H.out HT.out R.out hi).mono ?_; rw [← HA.out]; rintro e w' ⟨rfl, rfl⟩))
    go_ret2
    exact ⟨_, _, rfl, S.out, rfl⟩
  · have S : Hid (SlotR (slN c) p z x 0 false) := .inr ⟨rfl, rfl, fun i hi e => hin ⟨i, hi, e⟩⟩
    by_cases hqn : 0 ≤ q ∧ q < (slN c : Int)
    · obtain ⟨i, rfl⟩ : ∃ i : Nat, q = i := ⟨q.toNat, by omega⟩
      have hi : i < slN c := by omega
      obtain ⟨y, hy⟩ : ∃ y, 256 * p + (i : Int) * szI c s = y := ⟨_, rfl⟩
      have HY : Hid (256 * p + (i : Int) * szI c s = y) := hy
      have hne : (y == x) = false := by rw [beq_eq_false_iff_ne]; intro e; exact hin ⟨i, hi, by rw [← e, ← hy, hz]⟩
      have hne' : (y != x) = true := by rw [bne, hne]; rfl
      have hib : (i : Int) ≤ 16 := by omega
      clear h hT r hz hB hin f1 f2 f3 f6 f7 f8 hp1 hp0 hp2 hy
      go_enter Tryz.func50, Tryz.ntmps50
      go_wp2_with (first
        | (go_at_call 89; refine (begin_rt sb p c s _ H.out R.out B HB.out).mono ?_; rintro e w' ⟨rfl, rfl⟩)
        | (go_at_call 90; refine (size_rt sb p c s _ H.out HT.out R.out z HZ.out).mono ?_; rintro e w' ⟨rfl, rfl⟩)
        | (go_at_call 86; refine (at_in sb p c s i _ H.out HT.out R.out hi).mono ?_; rw [HY.out]; rintro e w' ⟨rfl, rfl⟩))
      go_ret2
      exact ⟨_, _, rfl, S.out, rfl⟩
    · have HQ : Hid (¬ (0 ≤ q ∧ q < (slN c : Int))) := hqn
      have hqb : -9223372036854775808 ≤ q ∧ q ≤ 9223372036854775807 := by
        rw [← hq]
        have a1 := Int.natAbs_tdiv_le_natAbs d z
        rcases Int.lt_or_le d 0 with h9 | h9
        · have e1 : 0 ≤ (-d).tdiv z := Int.tdiv_nonneg (by omega) (by omega)
          rw [Int.neg_tdiv] at e1
          omega
        · have e1 : 0 ≤ d.tdiv z := Int.tdiv_nonneg h9 (by omega)
          omega
      clear h hT r hz hB hin f1 f2 f3 f6 f7 f8 hp1 hp0 hp2 hqn
      go_enter Tryz.func50, Tryz.ntmps50
      go_wp2_with (first
        | (go_at_call 89; refine (begin_rt sb p c s _ H.out R.out B HB.out).mono ?_; rintro e w' ⟨rfl, rfl⟩)
        | (go_at_call 90; refine (size_rt sb p c s _ H.out HT.out R.out z HZ.out).mono ?_; rintro e w' ⟨rfl, rfl⟩)
        | (go_at_call 86; refine (at_out sb p c s q _ H.out HT.out R.out HQ.out).mono ?_; rintro e w' ⟨rfl, rfl⟩))
      go_ret2
      exact ⟨_, _, rfl, S.out, rfl⟩
end Go.Proofs.YtgmljgogmbaioaaGreatDoor
