/- A span in memory: what Page, Class, Size, Slots, Pages, begin, At, Slot, sized and check answer. -/
import Derived.Test.YtgdjlopnhecmjaaGreatDoorSpD
namespace Go.Proofs.YtgdjlopnhecmjaaGreatDoor
open Go.RowKit
set_option linter.unusedVariables false
set_option maxRecDepth 4000

/-- Both tables in their variables. -/
def Tabs (w : World) : Prop := TabC w ∧ TabB w
theorem Tabs.keep {w w' : World} (h : Tabs w) (hb : Below w.heap.size w w') : Tabs w' := ⟨h.1.keep hb, h.2.keep hb h.2.1⟩
/-- The numbers of a span in its box. -/
structure Bx (w : World) (sb : Nat) (p c s : Int) : Prop where
  b0 : w.cell? ⟨sb, 0, none⟩ = some (.int .i64 p)
  b1 : w.cell? ⟨sb, 1, none⟩ = some (.int .i64 c)
  b2 : w.cell? ⟨sb, 2, none⟩ = some (.int .i64 s)
theorem Bx.drewN {w : World} {sb : Nat} {p c s : Int} (h : Bx w sb p c s) (m : Nat) : Bx (w.drewN m) sb p c s := ⟨h.b0, h.b1, h.b2⟩
theorem Bx.drew {w : World} {sb : Nat} {p c s : Int} (h : Bx w sb p c s) : Bx w.drew sb p c s := ⟨h.b0, h.b1, h.b2⟩

theorem page_any (sb : Nat) (p c s : Int) (w : World) (h : Bx w sb p c s) :
    Calls Tryz.prog 178 #[.pointer (some ⟨sb, 0, none⟩)] w fun e w' => e = .returned (.int .i64 p) ∧ w = w' := by
  have b0 := h.b0
  go_enter Tryz.func178, Tryz.ntmps178
  go_wp2
  go_ret
  exact ⟨rfl, rfl⟩
theorem class_any (sb : Nat) (p c s : Int) (w : World) (h : Bx w sb p c s) :
    Calls Tryz.prog 154 #[.pointer (some ⟨sb, 0, none⟩)] w fun e w' => e = .returned (.int .i64 c) ∧ w = w' := by
  have b1 := h.b1
  go_enter Tryz.func154, Tryz.ntmps154
  go_wp2
  go_ret
  exact ⟨rfl, rfl⟩
theorem size_any (sb : Nat) (p c s : Int) (w : World) (h : Bx w sb p c s) (hT : TabC w) (h0 : 0 ≤ c) (h7 : c ≤ 7) :
    Calls Tryz.prog 183 #[.pointer (some ⟨sb, 0, none⟩)] w fun e w' => e = .returned (.int .i64 (szI c s)) ∧ w = w' := by
  have b1 := h.b1
  have b2 := h.b2
  have HT : Hid (TabC w) := hT
  clear h hT
  by_cases hc : c = 7
  · subst hc
    rw [show szI 7 s = s from rfl]
    go_enter Tryz.func183, Tryz.ntmps183
    go_wp2
    go_ret
    exact ⟨rfl, rfl⟩
  · have hq : (c == 7) = false := beq_eq_false_iff_ne.2 hc
    have E : Hid (szI c s = sizeI c) := by show _ = _; unfold szI; rw [if_neg hc]
    rw [E.out]
    clear hc
    go_enter Tryz.func183, Tryz.ntmps183
    go_wp2_with (go_at_call 223; refine (csize_any c _ HT.out (by omega) (by omega)).mono ?_; rintro e w' ⟨rfl, rfl⟩)
    go_ret
    exact ⟨rfl, rfl⟩
theorem slots_any (sb : Nat) (p c s : Int) (w : World) (h : Bx w sb p c s) (hT : TabC w) (h0 : 0 ≤ c) (h7 : c ≤ 7) :
    Calls Tryz.prog 181 #[.pointer (some ⟨sb, 0, none⟩)] w fun e w' => e = .returned (.int .i64 (slotsI c)) ∧ w = w' := by
  have b1 := h.b1
  have HT : Hid (TabC w) := hT
  clear h hT
  go_enter Tryz.func181, Tryz.ntmps181
  go_wp2_with (go_at_call 221; refine (cslots_any c _ HT.out (by omega) (by omega)).mono ?_; rintro e w' ⟨rfl, rfl⟩)
  go_ret
  exact ⟨rfl, rfl⟩
theorem pgs_eq (c s : Int) (h0 : 0 ≤ c) (h7 : c ≤ 7) : pagesN (szI c s) = pgsN c s := by
  rcases eight h0 h7 with rfl | rfl | rfl | rfl | rfl | rfl | rfl | rfl <;> first | rfl | decide
theorem pages_any (sb : Nat) (p c s : Int) (w : World) (h : Bx w sb p c s) (hT : TabC w) (h0 : 0 ≤ c) (h7 : c ≤ 7) :
    Calls Tryz.prog 179 #[.pointer (some ⟨sb, 0, none⟩)] w fun e w' => e = .returned (.int .i64 (pgsN c s : Nat)) ∧ w = w' := by
  have H : Hid (Bx w sb p c s) := h
  have HT : Hid (TabC w) := hT
  have E : Hid (pagesN (szI c s) = pgsN c s) := pgs_eq c s h0 h7
  clear h hT
  rw [← E.out]
  go_enter Tryz.func179, Tryz.ntmps179
  go_wp2_with (first
    | (go_at_call 183; refine (size_any sb p c s _ H.out HT.out h0 h7).mono ?_; rintro e w' ⟨rfl, rfl⟩)
    | (go_at_call 194; refine (cpages_any (szI c s) _ HT.out).mono ?_; rintro e w' ⟨rfl, rfl⟩))
  go_ret
  exact ⟨rfl, rfl⟩
theorem begin_any (sb : Nat) (p c s : Int) (w : World) (h : Bx w sb p c s) (h0 : 0 ≤ p) (h1 : p ≤ 4096) :
    Calls Tryz.prog 218 #[.pointer (some ⟨sb, 0, none⟩)] w fun e w' => e = .returned (.int .i64 (256 * p)) ∧ w = w' := by
  have H : Hid (Bx w sb p c s) := h
  clear h
  go_enter Tryz.func218, Tryz.ntmps218
  go_wp2_with (go_at_call 178; refine (page_any sb p c s _ H.out).mono ?_; rintro e w' ⟨rfl, rfl⟩)
  go_ret
  exact ⟨ret_int (by omega), rfl⟩

/-- What begin, Size and Slots answer of a span that may be. -/
theorem begin_rt (sb : Nat) (p c s : Int) (w : World) (h : Bx w sb p c s) (r : Rt p c s) (B : Int) (hB : B = 256 * p) :
    Calls Tryz.prog 218 #[.pointer (some ⟨sb, 0, none⟩)] w fun e w' => e = .returned (.int .i64 B) ∧ w = w' := by
  subst hB
  obtain ⟨_, _, _, _, _, _, f7, _⟩ := r.facts
  exact begin_any sb p c s w h r.p0 (by have := r.p1; omega)
theorem size_rt (sb : Nat) (p c s : Int) (w : World) (h : Bx w sb p c s) (hT : TabC w) (r : Rt p c s) (z : Int) (hz : szI c s = z) :
    Calls Tryz.prog 183 #[.pointer (some ⟨sb, 0, none⟩)] w fun e w' => e = .returned (.int .i64 z) ∧ w = w' := by
  subst hz; exact size_any sb p c s w h hT r.c0 r.c7
theorem slots_rt (sb : Nat) (p c s : Int) (w : World) (h : Bx w sb p c s) (hT : TabC w) (r : Rt p c s) (n : Nat) (hn : slN c = n) :
    Calls Tryz.prog 181 #[.pointer (some ⟨sb, 0, none⟩)] w fun e w' => e = .returned (.int .i64 (n : Nat)) ∧ w = w' := by
  subst hn
  have := slots_any sb p c s w h hT r.c0 r.c7
  rw [r.facts.2.2.1] at this
  exact this

/-- At of a slot. -/
theorem at_in (sb : Nat) (p c s : Int) (i : Nat) (w : World) (h : Bx w sb p c s) (hT : TabC w) (r : Rt p c s) (hi : i < slN c) :
    Calls Tryz.prog 175 #[.pointer (some ⟨sb, 0, none⟩), .int .i64 (i : Nat)] w fun e w' => e = .returned (.tuple #[.int .i64 (256 * p + (i : Int) * szI c s), .bool true]) ∧ w = w' := by
  have H : Hid (Bx w sb p c s) := h
  have HT : Hid (TabC w) := hT
  have R : Hid (Rt p c s) := r
  obtain ⟨k1, k2, k3⟩ := r.place i hi
  obtain ⟨f1, f2, f3, f4, f5, f6, f7, f8, _⟩ := r.facts
  have hp0 := r.p0
  have hp1 := r.p1
  obtain ⟨z, hz⟩ : ∃ z, szI c s = z := ⟨_, rfl⟩
  obtain ⟨n, hn⟩ : ∃ n, slN c = n := ⟨_, rfl⟩
  have HZ : Hid (szI c s = z) := hz
  have HN : Hid (slN c = n) := hn
  rw [hz] at k1 k2 k3 f4 f5 f6 ⊢
  rw [hn] at hi f1 f2
  have hp2 : p ≤ 4095 := by omega
  obtain ⟨B, hB⟩ : ∃ B, B = 256 * p := ⟨_, rfl⟩
  have HB : Hid (B = 256 * p) := hB
  rw [← hB]
  have hB0 : 0 ≤ B ∧ B ≤ 1048576 := by omega
  clear h hT r k3 f3 f6 f7 f8 hp1 hz hn hB
  go_enter Tryz.func175, Tryz.ntmps175
  go_wp2_with (first
    | (go_at_call 181; refine (slots_rt sb p c s _ H.out HT.out R.out n HN.out).mono ?_; rintro e w' ⟨rfl, rfl⟩)
    | (go_at_call 183; refine (size_rt sb p c s _ H.out HT.out R.out z HZ.out).mono ?_; rintro e w' ⟨rfl, rfl⟩)
    | (go_at_call 218; refine (begin_rt sb p c s _ H.out R.out B HB.out).mono ?_; rintro e w' ⟨rfl, rfl⟩))
  go_ret2
  exact ⟨rfl, rfl⟩
/-- At of no slot. -/
theorem at_out (sb : Nat) (p c s : Int) (i : Int) (w : World) (h : Bx w sb p c s) (hT : TabC w) (r : Rt p c s) (hi : ¬ (0 ≤ i ∧ i < (slN c : Int))) :
    Calls Tryz.prog 175 #[.pointer (some ⟨sb, 0, none⟩), .int .i64 i] w fun e w' => e = .returned (.tuple #[.int .i64 0, .bool false]) ∧ w = w' := by
  have H : Hid (Bx w sb p c s) := h
  have HT : Hid (TabC w) := hT
  have R : Hid (Rt p c s) := r
  obtain ⟨f1, f2, _⟩ := r.facts
  obtain ⟨n, hn⟩ : ∃ n, slN c = n := ⟨_, rfl⟩
  have HN : Hid (slN c = n) := hn
  rw [hn] at hi f1 f2
  clear h hT r hn
  rcases Int.lt_or_le i 0 with h0 | h0
  · go_enter Tryz.func175, Tryz.ntmps175
    go_wp2
    go_ret2
    exact ⟨rfl, rfl⟩
  · have h1 : (n : Int) ≤ i := by omega
    go_enter Tryz.func175, Tryz.ntmps175
    go_wp2_with (go_at_call 181; refine (slots_rt sb p c s _ H.out HT.out R.out n HN.out).mono ?_; rintro e w' ⟨rfl, rfl⟩)
    go_ret2
    exact ⟨rfl, rfl⟩

set_option maxHeartbeats 1000000 in
theorem slot_any (sb : Nat) (p c s : Int) (x : Int) (w : World) (h : Bx w sb p c s) (hT : TabC w) (r : Rt p c s) (hx : -9223372036854775808 ≤ x ∧ x ≤ 9223372036854775807) :
    Calls Tryz.prog 197 #[.pointer (some ⟨sb, 0, none⟩), .int .i64 x] w fun e w' => ∃ y ok, e = .returned (.tuple #[.int .i64 y, .bool ok]) ∧ SlotR (slN c) p (szI c s) x y ok ∧ w = w' := by
  have H : Hid (Bx w sb p c s) := h
  have HT : Hid (TabC w) := hT
  have R : Hid (Rt p c s) := r
  obtain ⟨f1, f2, f3, f4, f5, f6, f7, f8, _⟩ := r.facts
  have hp0 := r.p0
  have hp1 := r.p1
  obtain ⟨z, hz⟩ : ∃ z, szI c s = z := ⟨_, rfl⟩
  have HZ : Hid (szI c s = z) := hz
  rw [hz] at f4 f5 ⊢
  have hp2 : p ≤ 4095 := by omega
  obtain ⟨B, hB⟩ : ∃ B, B = 256 * p := ⟨_, rfl⟩
  have HB : Hid (B = 256 * p) := hB
  have hB0 : 0 ≤ B ∧ B ≤ 1048576 := by omega
  have hzz : (z == 0) = false := by rw [beq_eq_false_iff_ne]; omega
  obtain ⟨d, hd⟩ : ∃ d, wrap64 (x - B) = d := ⟨_, rfl⟩
  have hdb : -9223372036854775808 ≤ d ∧ d ≤ 9223372036854775807 := by rw [← hd]; unfold wrap64; omega
  obtain ⟨q, hq⟩ : ∃ q, d.tdiv z = q := ⟨_, rfl⟩
  by_cases hin : ∃ i : Nat, i < slN c ∧ x = 256 * p + (i : Int) * z
  · obtain ⟨i, hi, hxi⟩ := hin
    obtain ⟨k1, k2, _⟩ := r.place i hi
    rw [hz] at k1 k2
    have hdi : d = (i : Int) * z := by rw [← hd]; unfold wrap64; omega
    have hqi : q = (i : Int) := by rw [← hq, hdi]; exact Int.mul_tdiv_cancel _ (by omega)
    have S : Hid (SlotR (slN c) p z x (i : Int) true) := .inl ⟨rfl, i, hi, rfl, hxi⟩
    have HA : Hid (x = 256 * p + (i : Int) * szI c s) := by show _ = _; rw [HZ.out]; exact hxi
    rw [hqi] at hq
    have hib : (i : Int) ≤ 16 := by omega
    clear h hT r hz hB hdi hqi hxi f1 f2 f3 f6 f7 f8 hp1 k1 k2 hp0 hp2
    go_enter Tryz.func197, Tryz.ntmps197
    go_wp2_with (first
      | (go_at_call 218; refine (begin_rt sb p c s _ H.out R.out B HB.out).mono ?_; rintro e w' ⟨rfl, rfl⟩)
      | (go_at_call 183; refine (size_rt sb p c s _ H.out HT.out R.out z HZ.out).mono ?_; rintro e w' ⟨rfl, rfl⟩)
      | (go_at_call 175; refine (at_in sb p c s i _ H.out HT.out R.out hi).mono ?_; rw [← HA.out]; rintro e w' ⟨rfl, rfl⟩))
    go_ret2
    exact ⟨_, _, rfl, S.out, rfl⟩
  · have S : Hid (SlotR (slN c) p z x 0 false) := .inr ⟨rfl, rfl, fun i hi e => hin ⟨i, hi, e⟩⟩
    by_cases hqn : 0 ≤ q ∧ q < (slN c : Int)
    · obtain ⟨i, rfl⟩ : ∃ i : Nat, q = i := ⟨q.toNat, by omega⟩
      have hi : i < slN c := by omega
      obtain ⟨y, hy⟩ : ∃ y, 256 * p + (i : Int) * szI c s = y := ⟨_, rfl⟩
      have HY : Hid (256 * p + (i : Int) * szI c s = y) := hy
      have hne : (y == x) = false := by rw [beq_eq_false_iff_ne]; intro e; exact hin ⟨i, hi, by rw [← e, ← hy, hz]⟩
      have hne' : (y != x) = true := by rw [bne, hne]; rfl
      have hib : (i : Int) ≤ 16 := by omega
      clear h hT r hz hB hin f1 f2 f3 f6 f7 f8 hp1 hp0 hp2 hy
      go_enter Tryz.func197, Tryz.ntmps197
      go_wp2_with (first
        | (go_at_call 218; refine (begin_rt sb p c s _ H.out R.out B HB.out).mono ?_; rintro e w' ⟨rfl, rfl⟩)
        | (go_at_call 183; refine (size_rt sb p c s _ H.out HT.out R.out z HZ.out).mono ?_; rintro e w' ⟨rfl, rfl⟩)
        | (go_at_call 175; refine (at_in sb p c s i _ H.out HT.out R.out hi).mono ?_; rw [HY.out]; rintro e w' ⟨rfl, rfl⟩))
      go_ret2
      exact ⟨_, _, rfl, S.out, rfl⟩
    · have HQ : Hid (¬ (0 ≤ q ∧ q < (slN c : Int))) := hqn
      have hqb : -9223372036854775808 ≤ q ∧ q ≤ 9223372036854775807 := by
        rw [← hq]
        have a1 := Int.natAbs_tdiv_le_natAbs d z
        rcases Int.lt_or_le d 0 with h9 | h9
        · have e1 : 0 ≤ (-d).tdiv z := Int.tdiv_nonneg (by omega) (by omega)
          rw [Int.neg_tdiv] at e1
          omega
        · have e1 : 0 ≤ d.tdiv z := Int.tdiv_nonneg h9 (by omega)
          omega
      clear h hT r hz hB hin f1 f2 f3 f6 f7 f8 hp1 hp0 hp2 hqn
      go_enter Tryz.func197, Tryz.ntmps197
      go_wp2_with (first
        | (go_at_call 218; refine (begin_rt sb p c s _ H.out R.out B HB.out).mono ?_; rintro e w' ⟨rfl, rfl⟩)
        | (go_at_call 183; refine (size_rt sb p c s _ H.out HT.out R.out z HZ.out).mono ?_; rintro e w' ⟨rfl, rfl⟩)
        | (go_at_call 175; refine (at_out sb p c s q _ H.out HT.out R.out HQ.out).mono ?_; rintro e w' ⟨rfl, rfl⟩))
      go_ret2
      exact ⟨_, _, rfl, S.out, rfl⟩
end Go.Proofs.YtgdjlopnhecmjaaGreatDoor

/- What List of a set in memory answers. -/
namespace Go.Proofs.YtgdjlopnhecmjaaGreatDoor
open Go.RowKit
set_option linter.unusedVariables false
set_option maxRecDepth 4000


/-- A list of integers of a kind in a block of the call's own. -/
def Owns (w : World) (base : Nat) (e : TypeId) (k : IntKind) (a : Option Addr) (l : List Int) (cap : Nat) : Prop := w.ownsRow base e 1 (.slice a l.length cap) l.length (l.map (Value.int k))
theorem owns_form {w : World} {base n : Nat} {e : TypeId} {v : Value} {xs : List Value} (h : w.ownsRow base e 1 v n xs) : ∃ a cap, v = .slice a n cap := by
  obtain ⟨_, ⟨rfl, rfl⟩ | ⟨g, c', cur, rfl, _⟩⟩ := h
  · exact ⟨_, _, rfl⟩
  · exact ⟨_, _, rfl⟩
theorem Owns.ge {w : World} {base cap : Nat} {e : TypeId} {k : IntKind} {a : Option Addr} {l : List Int} (h : Owns w base e k a l cap) : ∀ j, (Value.slice a l.length cap).ownBlock = some j → base ≤ j := by
  intro j hj
  obtain ⟨_, ⟨h1, h2⟩ | ⟨g, c', cur, h1, hg, h2, _⟩⟩ := h
  · rw [h1] at hj; simp [Value.ownBlock] at hj
  · rw [h1] at hj
    simp [Value.ownBlock] at hj
    omega
/-- One integer is appended to a list of the call's own. -/
theorem wpList_one {ops : Array Oper} {rest : List Oper} {o : Oper} {a : Act} {Q : Exit → Act → World → Prop} {w : World} (hgd : o.guard = none) (s x : Operand) (t e : TypeId) (k : IntKind) (z : Int) (bytes : Nat)
    (ho : o.op = .call { callee := .builtin .append, args := #[s, x], argTypes := #[t, t] })
    (ht : Tryz.prog.underlying t = some (.slice e)) (hin : (Tryz.prog.info? e).map (fun i => (i.zero, i.size, i.bytes)) = some (some (.int k z), 1, bytes))
    (base : Nat) (hbase : base ≤ w.heap.size) (as0 : Option Addr) (L : List Int) (cs : Nat) (hs : a.eval s = .slice as0 L.length cs) (hown : Owns w base e k as0 L cs)
    (g c : Nat) (y : Int) (hx : a.eval x = .slice (some ⟨g, 0, none⟩) 1 c) (hc : w.cell? ⟨g, 0, none⟩ = some (.int k y)) (hlen : (L.length + 1) * bytes ≤ 140737488355328) (hmax : L.length ≤ 140737488355328)
    (h : ∀ a' cap' w', Owns w' base e k a' (L ++ [y]) cap' → Below base w w' → wpList Tryz.prog ops Q rest (a.put o.dst (.slice a' (L ++ [y]).length cap')) w') :
    wpList Tryz.prog ops Q (o :: rest) a w := by
  obtain ⟨i0, hi, hz0, hz1, hz2⟩ := info_parts hin
  refine wpList_append_own w hgd s x t ho base e i0 (.int k z) 1 bytes ht hi hz0 hz1 hz2 rfl (by decide) _ _ _ hs hown ⟨g, 0, none⟩ 1 c [.int k y] hx rfl ?_ ?_ (by unfold maxLen; omega) hlen hbase ?_
  · intro j u hj
    match j, hj with
    | 0, hj => simp at hj; subst hj; simpa [Addr.add] using hc
  · intro u hu; simp at hu; subst hu; rfl
  · intro v' w' h1 h2 h3
    obtain ⟨a', cap', rfl⟩ := owns_form h1
    have := h a' cap' w' (by simpa [Owns] using h1) ((Below.refl _ w).grown h2 hbase hown.ge)
    simpa using this
theorem Tryz.info3 : (Tryz.prog.info? 3).map (fun i => (i.zero, i.size, i.bytes)) = some (some (.int .i64 0), 1, 8) := by kernel_rfl
theorem make_ints (c : Nat) (hc : c ≤ 65536) (w : World) : (Instr.makeSlice 40 (.int .i64 0) (.int .i64 (c : Int))).run Tryz.prog w = .ok (.slice (some ⟨w.heap.size, 0, none⟩) 0 c) (w.alloc (.cells (madeCells #[.int .i64 0] c) 3)) := by
  obtain ⟨i0, hi, hz0, hz1, hz2⟩ := info_parts Tryz.info3
  have := run_make (P := Tryz.prog) w 40 3 i0 (.int .i64 0) Tryz.underlying40 hi hz0 .i64 .i64 0 c (by omega) (by omega) (by rw [hz2]; omega) (by omega)
  rw [hz1] at this
  simp only [Int.toNat_natCast, Int.toNat_zero, Nat.mul_one] at this
  exact this
def lenOf : Value → Nat
  | .slice _ k _ => k
  | _ => 0
set_option maxHeartbeats 1000000 in
theorem list_any (b g n : Nat) (f : Nat → Bool) (w : World) (hS : SetAt w b g n f) (hT : TabB w) :
    Calls Tryz.prog 216 #[.pointer (some ⟨b, 0, none⟩)] w fun e w' => ∃ a cap, e = .returned (.slice a (lsL f n).length cap) ∧ Owns w' w.heap.size 3 .i64 a (lsL f n) cap ∧ Below w.heap.size w w' := by
  have few := hS.few
  have hc := Nat.le_trans (cnt_le f n) few
  have HS : Hid (SetAt w b g n f) := hS
  have HT : Hid (TabB w) := hT
  have hmk := make_ints (cnt f n) hc
  clear hS hT
  go_enter Tryz.func216, Tryz.ntmps216
  go_wp2_with (go_at_call 200; refine (count_any b g n f _ HS.out).mono ?_; rintro e w' ⟨rfl, rfl⟩)
  have B1 : Hid (Below w.heap.size w (w.alloc (.cells (madeCells #[.int .i64 0] (cnt f n)) 3))) := (Below.refl _ w).alloc (Nat.le_refl _) _
  refine (first_any b g n f _ _ (HS.out.keepAll B1.out) (HT.out.keep B1.out HT.out.1) (by omega)).mono ?_
  rintro e w' ⟨rfl, rfl⟩
  go_wp2
  go_loopw [3, 4] (fun lv iv wr => ∃ (k : Nat) (a : Option Addr) (cap : Nat), k ≤ n ∧ lv = .slice a (lsL f k).length cap ∧ iv = .int .i64 (nextL f n k) ∧ Owns wr w.heap.size 3 .i64 a (lsL f k) cap ∧ Below w.heap.size w wr) (fun lv _ _ => n - lenOf lv)
  case atStart => exact ⟨0, some ⟨w.heap.size, 0, none⟩, cnt f n, Nat.zero_le _, rfl, rfl, World.ownsRow_made w _ _ (Nat.le_refl _) (by unfold maxLen; omega) (by simp [madeCells]), B1.out⟩
  case round =>
    obtain ⟨k, a, cap, hk, rfl, rfl, ho, hb⟩ := hrel
    have HO : Hid (Owns _ w.heap.size 3 .i64 a (lsL f k) cap) := ho
    have HB : Hid (Below w.heap.size w _) := hb
    have hll : (lsL f k).length ≤ k := by rw [lsL_len]; exact cnt_le f k
    clear ho hb
    rcases nextL_cases f n k with ⟨hn, hno⟩ | ⟨j, hj, hkj, hjn, hfj, hno⟩
    · have EL : Hid (lsL f n = lsL f k) := by
        have := lsL_skip f k (n - k) (fun i h1 h2 => hno i h1 (by omega))
        rw [show k + (n - k) = n from by omega] at this
        exact this
      rw [hn]
      clear hno hn
      go_wp2
      go_ret
      rw [EL.out]
      exact ⟨a, cap, rfl, HO.out, HB.out⟩
    · have EL : Hid (lsL f (j + 1) = lsL f k ++ [(j : Int)]) := lsL_one f k j hkj hno hfj
      rw [hj]
      clear hno hj hfj
      go_wp2_with (at_builtin; refine wpList_one rfl _ _ 40 3 .i64 0 8 rfl Tryz.underlying40 Tryz.info3 w.heap.size ?q1 a (lsL f k) cap rfl ?q2 _ 1 (j : Int) rfl ?q3 ?q4 ?q5 ?_)
      case q1 => have := HB.out.size; simp; omega
      case q2 => exact World.ownsRow.alloc HO.out _
      case q3 => simp
      case q4 => omega
      case q5 => omega
      intro a3 c3 w3 o3 b3
      have O3 : Hid (Owns w3 w.heap.size 3 .i64 a3 (lsL f (j + 1)) c3) := by show Owns _ _ _ _ _ _ _; rw [EL.out]; exact o3
      have B3 : Hid (Below w.heap.size w w3) := (HB.out.alloc HB.out.size _).trans b3
      have hlen : (lsL f k).length + 1 = (lsL f (j + 1)).length := by rw [EL.out]; simp
      rw [hlen]
      have HL : Hid ((lsL f k).length + 1 = (lsL f (j + 1)).length) := hlen
      clear o3 b3 hlen
      go_wp2_with fail
      refine (first_any b g n f _ _ (HS.out.keepAll B3.out) (HT.out.keep B3.out HT.out.1) (by omega)).mono ?_
      rintro e w' ⟨rfl, rfl⟩
      go_wp2
      go_roundw
      case rel => exact ⟨j + 1, a3, c3, by omega, rfl, by congr 2, O3.out, B3.out⟩
      case measure => have := HL.out; simp [lenOf]; omega
end Go.Proofs.YtgdjlopnhecmjaaGreatDoor

/- A span in memory: sized, check, Has, Live, Take, Give, Data. -/
namespace Go.Proofs.YtgdjlopnhecmjaaGreatDoor
open Go.RowKit
set_option linter.unusedVariables false
set_option maxRecDepth 4000

theorem Below.ofDrew {B : Nat} {w w' : World} (h : Below B w.drew w') : Below B w w' := ⟨h.os, h.tape, h.output, h.size, h.block⟩
theorem bcell {w w' : World} {p : Addr} {v : Value} (hb : Below w.heap.size w w') (h : w.cell? p = some v) : w'.cell? p = some v := (hb.cell (World.block_lt_of_cell? w p h)).trans h
theorem Bx.keep {w w' : World} {sb : Nat} {p c s : Int} (h : Bx w sb p c s) (hb : Below w.heap.size w w') : Bx w' sb p c s := ⟨bcell hb h.b0, bcell hb h.b1, bcell hb h.b2⟩

theorem sized_any (sb : Nat) (p c s : Int) (w : World) (h : Bx w sb p c s) (hT : TabC w) (h0 : 0 ≤ c) (h7 : c ≤ 7) (r : Bool) (hr : decide ((c < 7 → s = 0) ∧ (c = 7 → ofI s = 7)) = r) :
    Calls Tryz.prog 269 #[.pointer (some ⟨sb, 0, none⟩)] w fun e w' => e = .returned (.bool r) ∧ w = w' := by
  have b1 := h.b1
  have b2 := h.b2
  have HT : Hid (TabC w) := hT
  clear h hT
  by_cases hc : c = 7
  · subst hc
    obtain ⟨k, hk⟩ : ∃ k, ofI s = k := ⟨_, rfl⟩
    have HK : Hid (ofI s = k) := hk
    have E : Hid ((k == 7) = r) := by
      show (k == 7) = r
      rw [← hr, hk]
      by_cases h : k = 7
      · subst h; simp
      · simp [h]
    clear hr hk
    go_enter Tryz.func269, Tryz.ntmps269
    go_wp2_with (go_at_call 131; refine (cof_any s _ HT.out).mono ?_; rw [HK.out]; rintro e w' ⟨rfl, rfl⟩)
    go_ret
    exact ⟨ret_bool E.out, rfl⟩
  · have hq : (c == 7) = false := beq_eq_false_iff_ne.2 hc
    have E : Hid ((s == 0) = r) := by
      show (s == 0) = r
      rw [← hr]
      by_cases h : s = 0
      · subst h; simp [hc]
      · have : c < 7 := by omega
        simp [h, this]
    clear hr hc
    go_enter Tryz.func269, Tryz.ntmps269
    go_wp2
    go_ret
    exact ⟨ret_bool E.out, rfl⟩

theorem pages_q (sb : Nat) (p c s : Int) (g : Nat) (w : World) (h : Bx w sb p c s) (hT : TabC w) (h0 : 0 ≤ c) (h7 : c ≤ 7) (hg : pgsN c s = g) :
    Calls Tryz.prog 179 #[.pointer (some ⟨sb, 0, none⟩)] w fun e w' => e = .returned (.int .i64 (g : Nat)) ∧ w' = w := by
  subst hg
  exact (pages_any sb p c s w h hT h0 h7).mono fun e w' ⟨h1, h2⟩ => ⟨h1, h2.symm⟩
set_option maxHeartbeats 1000000 in
theorem check_any (sb : Nat) (p c s : Int) (w : World) (h : Bx w sb p c s) (hT : TabC w) (hp : -9223372036854775808 ≤ p ∧ p ≤ 9223372036854775807) :
    Calls Tryz.prog 252 #[.pointer (some ⟨sb, 0, none⟩)] w fun e w' => e = .returned (.int .i64 (newE p c s)) ∧ Below w.heap.size w w' := by
  have b0 := h.b0
  have b1 := h.b1
  have H : Hid (Bx w sb p c s) := h
  have HT : Hid (TabC w) := hT
  clear h hT
  rcases newE_cases p c s with ⟨h1, e⟩ | ⟨h0, h7, h1, e⟩ | ⟨h0, h7, h1, h2, h3, e⟩ | ⟨r, e⟩
  · rw [e]
    clear e
    rcases h1 with h1 | h1
    · go_enter Tryz.func252, Tryz.ntmps252
      go_wp2
      go_ret
      exact ⟨rfl, Below.refl _ _⟩
    · have h2 : ¬ c < 0 := by omega
      go_enter Tryz.func252, Tryz.ntmps252
      go_wp2
      go_ret
      exact ⟨rfl, Below.refl _ _⟩
  · have D : Hid (decide ((c < 7 → s = 0) ∧ (c = 7 → ofI s = 7)) = false) := decide_eq_false (fun k => by rcases h1 with ⟨a, b⟩ | ⟨a, b⟩; exact b (k.1 a); exact b (k.2 a))
    rw [e]
    clear e h1
    go_enter Tryz.func252, Tryz.ntmps252
    go_wp2_with (go_at_call 269; refine (sized_any sb p c s _ H.out HT.out h0 h7 false D.out).mono ?_; rintro e w' ⟨rfl, rfl⟩)
    go_ret
    exact ⟨rfl, Below.refl _ _⟩
  · have D : Hid (decide ((c < 7 → s = 0) ∧ (c = 7 → ofI s = 7)) = true) := decide_eq_true ⟨h1, h2⟩
    have hpg := pgsN_le c s
    rw [e]
    clear e h1 h2
    obtain ⟨g, hg⟩ : ∃ g, pgsN c s = g := ⟨_, rfl⟩
    have HG : Hid (pgsN c s = g) := hg
    rw [hg] at h3 hpg
    clear hg
    by_cases hp0 : p < 0
    · clear h3
      go_enter Tryz.func252, Tryz.ntmps252
      go_wp2_with (go_at_call 269; refine (sized_any sb p c s _ H.out HT.out h0 h7 true D.out).mono ?_; rintro e w' ⟨rfl, rfl⟩)
      go_quiet (fail)
      go_wp2
      go_ret
      exact ⟨rfl, ⟨rfl, rfl, rfl, Nat.le_refl _, fun _ _ => rfl⟩⟩
    · have h4 : 4096 - (g : Int) < p := by omega
      have g1 : IntKind.i64.wrap (4096 - (g : Int)) = 4096 - (g : Int) := by rw [IntKind.wrap_i64]; omega
      clear h3
      go_enter Tryz.func252, Tryz.ntmps252
      go_wp2_with (go_at_call 269; refine (sized_any sb p c s _ H.out HT.out h0 h7 true D.out).mono ?_; rintro e w' ⟨rfl, rfl⟩)
      go_quiet ((go_at_call 179; exact Calls.quiet_of_same (pages_q sb p c s g _ (H.out.drewN _) HT.out h0 h7 HG.out)))
      go_wp2
      go_ret
      exact ⟨rfl, ⟨rfl, rfl, rfl, Nat.le_refl _, fun _ _ => rfl⟩⟩
  · have D : Hid (decide ((c < 7 → s = 0) ∧ (c = 7 → ofI s = 7)) = true) := decide_eq_true ⟨r.sm, r.lg⟩
    have hpg := pgsN_le c s
    have h0 := r.c0
    have h7 := r.c7
    have hp0 := r.p0
    have hp1 := r.p1
    rw [e]
    clear e r
    obtain ⟨g, hg⟩ : ∃ g, pgsN c s = g := ⟨_, rfl⟩
    have HG : Hid (pgsN c s = g) := hg
    rw [hg] at hp1 hpg
    clear hg
    have h4 : ¬ (4096 - (g : Int) < p) := by omega
    have g1 : IntKind.i64.wrap (4096 - (g : Int)) = 4096 - (g : Int) := by rw [IntKind.wrap_i64]; omega
    go_enter Tryz.func252, Tryz.ntmps252
    go_wp2_with (go_at_call 269; refine (sized_any sb p c s _ H.out HT.out h0 h7 true D.out).mono ?_; rintro e w' ⟨rfl, rfl⟩)
    go_quiet ((go_at_call 179; exact Calls.quiet_of_same (pages_q sb p c s g _ (H.out.drewN _) HT.out h0 h7 HG.out)))
    go_wp2
    go_ret
    exact ⟨rfl, ⟨rfl, rfl, rfl, Nat.le_refl _, fun _ _ => rfl⟩⟩

/-- A span in its box sb, its set in the blocks b and g; f says which slots are taken. -/
structure SpanAt (w : World) (sb b g : Nat) (p c s : Int) (f : Nat → Bool) : Prop where
  box : Bx w sb p c s
  at3 : w.cell? ⟨sb, 3, none⟩ = some (.pointer (some ⟨b, 0, none⟩))
  set : SetAt w b g (slN c) f
  a1 : sb ≠ b
  a2 : sb ≠ g
theorem SpanAt.lt {w : World} {sb b g : Nat} {p c s : Int} {f : Nat → Bool} (h : SpanAt w sb b g p c s f) : sb < w.heap.size := World.block_lt_of_cell? w _ h.at3
theorem SpanAt.keep {w w' : World} {sb b g : Nat} {p c s : Int} {f : Nat → Bool} (h : SpanAt w sb b g p c s f) (hb : Below w.heap.size w w') : SpanAt w' sb b g p c s f :=
  ⟨h.box.keep hb, bcell hb h.at3, h.set.keepAll hb, h.a1, h.a2⟩
theorem SpanAt.turned {w w' : World} {sb b g : Nat} {p c s : Int} {f f' : Nat → Bool} (h : SpanAt w sb b g p c s f) (hs : SetAt w' b g (slN c) f') (ho : Only g w w') : SpanAt w' sb b g p c s f' :=
  ⟨⟨(ho.cell (p := ⟨sb, 0, none⟩) h.a2).trans h.box.b0, (ho.cell (p := ⟨sb, 1, none⟩) h.a2).trans h.box.b1, (ho.cell (p := ⟨sb, 2, none⟩) h.a2).trans h.box.b2⟩, (ho.cell (p := ⟨sb, 3, none⟩) h.a2).trans h.at3, hs, h.a1, h.a2⟩
theorem SpanAt.drewN {w : World} {sb b g : Nat} {p c s : Int} {f : Nat → Bool} (h : SpanAt w sb b g p c s f) (m : Nat) : SpanAt (w.drewN m) sb b g p c s f :=
  ⟨h.box.drewN m, h.at3, ⟨h.set.len, h.set.words, h.set.word, h.set.thawed, h.set.few, h.set.within, h.set.hb, h.set.hg, h.set.apart⟩, h.a1, h.a2⟩
theorem SpanAt.drew {w : World} {sb b g : Nat} {p c s : Int} {f : Nat → Bool} (h : SpanAt w sb b g p c s f) : SpanAt w.drew sb b g p c s f := h.drewN 1

theorem has_any (sb b g : Nat) (p c s : Int) (f : Nat → Bool) (i : Int) (w : World) (h : SpanAt w sb b g p c s f) :
    Calls Tryz.prog 206 #[.pointer (some ⟨sb, 0, none⟩), .int .i64 i] w fun e w' => e = .returned (.bool (hasB (slN c) f i)) ∧ w = w' := by
  have b3 := h.at3
  have HS : Hid (SetAt w b g (slN c) f) := h.set
  clear h
  go_enter Tryz.func206, Tryz.ntmps206
  go_wp2_with (go_at_call 238; refine (shas_any b g (slN c) f i _ HS.out).mono ?_; rintro e w' ⟨rfl, rfl⟩)
  go_ret
  exact ⟨rfl, rfl⟩
theorem give_any (sb b g : Nat) (p c s : Int) (f : Nat → Bool) (i : Int) (w : World) (h : SpanAt w sb b g p c s f) :
    Calls Tryz.prog 198 #[.pointer (some ⟨sb, 0, none⟩), .int .i64 i] w fun e w' => e = .returned (.bool (hasB (slN c) f i)) ∧ SpanAt w' sb b g p c s (turn (slN c) f i false) ∧ Only g w w' := by
  have b3 := h.at3
  have HS : Hid (SpanAt w sb b g p c s f) := h
  clear h
  go_enter Tryz.func198, Tryz.ntmps198
  go_wp2_with (go_at_call 235; refine (sdel_any b g (slN c) f i _ HS.out.set).mono ?_; rintro e w1 ⟨rfl, s1, o1⟩; have S1 : Hid (SetAt w1 b g (slN c) (turn (slN c) f i false)) := s1; have O1 : Hid (Only g w w1) := o1; clear s1 o1)
  go_ret
  exact ⟨rfl, HS.out.turned S1.out O1.out, O1.out⟩

/-- What Take answers, and what is taken then. -/
def TakeR (n : Nat) (f : Nat → Bool) (r : Int) (ok : Bool) (f' : Nat → Bool) : Prop :=
  (ok = true ∧ ∃ j : Nat, r = (j : Int) ∧ j < n ∧ f j = false ∧ (∀ k, k < j → f k = true) ∧ f' = put f j true) ∨ (ok = false ∧ r = 0 ∧ (∀ k, k < n → f k = true) ∧ f' = f)
set_option maxHeartbeats 1000000 in
theorem takeLeast_any (sb b g : Nat) (p c s : Int) (f : Nat → Bool) (w : World) (h : SpanAt w sb b g p c s f) (hT : TabB w) :
    Calls Tryz.prog 222 #[.pointer (some ⟨sb, 3, none⟩)] w fun e w' => ∃ r ok f', e = .returned (.tuple #[.int .i64 r, .bool ok]) ∧ TakeR (slN c) f r ok f' ∧ SpanAt w' sb b g p c s f' ∧ Only g w w' := by
  have b3 := h.at3
  have HS : Hid (SpanAt w sb b g p c s f) := h
  have HT : Hid (TabB w) := hT
  have few := h.set.few
  clear h hT
  obtain ⟨x, hx⟩ : ∃ x, nextL (outB f) (slN c) (Int.toNat 0) = x := ⟨_, rfl⟩
  have HX : Hid (nextL (outB f) (slN c) (Int.toNat 0) = x) := hx
  rcases nextL_cases (outB f) (slN c) (Int.toNat 0) with ⟨e1, e2⟩ | ⟨j, e1, e2, e3, e4, e5⟩
  · rw [hx] at e1
    subst e1
    have P : Hid ((isP (slN c) (-1) && !f (Int.toNat (-1))) = false) := by show _ = _; rw [show isP (slN c) (-1) = false from isP_false.2 (by omega)]; rfl
    have A : Hid (∀ k, k < slN c → f k = true) := fun k hk => by have := e2 k (Nat.zero_le _) hk; unfold outB at this; simpa using this
    have T : Hid (turn (slN c) f (-1) true = f) := by show _ = _; funext y; rw [turn, if_neg]; intro hh; have := isP_true.1 hh.1; omega
    clear e2 hx
    go_enter Tryz.func222, Tryz.ntmps222
    go_wp2_with (first
      | (go_at_call 256; refine (gap_any b g (slN c) f 0 _ HS.out.set HT.out (by omega)).mono ?_; rw [HX.out]; rintro e w' ⟨rfl, rfl⟩)
      | (go_at_call 254; refine (sadd_any b g (slN c) f (-1) _ HS.out.set).mono ?_; rw [P.out, T.out]; rintro e w1 ⟨rfl, s1, o1⟩; have S1 : Hid (SetAt w1 b g (slN c) f) := s1; have O1 : Hid (Only g w w1) := o1; clear s1 o1))
    go_ret2
    exact ⟨_, _, f, rfl, .inr ⟨rfl, rfl, A.out, rfl⟩, HS.out.turned S1.out O1.out, O1.out⟩
  · rw [hx] at e1
    subst e1
    have fj : f j = false := by unfold outB at e4; simpa using e4
    have hp : isP (slN c) (j : Int) = true := isP_true.2 (by omega)
    have P : Hid ((isP (slN c) (j : Int) && !f (Int.toNat (j : Int))) = true) := by show _ = _; rw [hp, Int.toNat_natCast, fj]; rfl
    have T : Hid (turn (slN c) f (j : Int) true = put f j true) := by show _ = _; funext y; rw [← turn_put hp y]; rfl
    have R : Hid (TakeR (slN c) f (j : Int) true (put f j true)) := .inl ⟨rfl, j, rfl, e3, fj, fun k hk => by have := e5 k (Nat.zero_le _) hk; unfold outB at this; simpa using this, rfl⟩
    have hj6 : (j : Int) ≤ 65536 := by omega
    clear e2 e3 e4 e5 hx fj hp
    go_enter Tryz.func222, Tryz.ntmps222
    go_wp2_with (first
      | (go_at_call 256; refine (gap_any b g (slN c) f 0 _ HS.out.set HT.out (by omega)).mono ?_; rw [HX.out]; rintro e w' ⟨rfl, rfl⟩)
      | (go_at_call 254; refine (sadd_any b g (slN c) f (j : Int) _ HS.out.set).mono ?_; rw [P.out, T.out]; rintro e w1 ⟨rfl, s1, o1⟩; have S1 : Hid (SetAt w1 b g (slN c) (put f j true)) := s1; have O1 : Hid (Only g w w1) := o1; have b4 : w1.cell? ⟨sb, 3, none⟩ = some (.pointer (some ⟨b, 0, none⟩)) := (HS.out.turned S1.out O1.out).at3; clear s1 o1))
    go_ret2
    exact ⟨_, _, _, rfl, R.out, HS.out.turned S1.out O1.out, O1.out⟩
theorem take_any (sb b g : Nat) (p c s : Int) (f : Nat → Bool) (w : World) (h : SpanAt w sb b g p c s f) (hT : TabB w) :
    Calls Tryz.prog 182 #[.pointer (some ⟨sb, 0, none⟩)] w fun e w' => ∃ r ok f', e = .returned (.tuple #[.int .i64 r, .bool ok]) ∧ TakeR (slN c) f r ok f' ∧ SpanAt w' sb b g p c s f' ∧ Only g w w' := by
  have HS : Hid (SpanAt w sb b g p c s f) := h
  have HT : Hid (TabB w) := hT
  clear h hT
  go_enter Tryz.func182, Tryz.ntmps182
  go_wp2_with (go_at_call 222; refine (takeLeast_any sb b g p c s f _ HS.out HT.out).mono ?_; rintro e w1 ⟨r, ok, f', rfl, r1, s1, o1⟩; have R1 : Hid (TakeR (slN c) f r ok f') := r1; have S1 : Hid (SpanAt w1 sb b g p c s f') := s1; have O1 : Hid (Only g w w1) := o1; clear r1 s1 o1)
  go_ret2
  exact ⟨r, ok, f', rfl, R1.out, S1.out, O1.out⟩
end Go.Proofs.YtgdjlopnhecmjaaGreatDoor
