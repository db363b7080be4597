/- Slices of numbers: read, one's own, appended, compared. -/
import Derived.Test.YtgdjlopnhecmjaaGreatDoorGzAC
namespace Go.Proofs.YtgdjlopnhecmjaaGreatDoor
open Go.RowKit
set_option linter.unusedVariables false
set_option maxRecDepth 4000


/-- A slice of numbers. -/
def IsI (w : World) (a : Option Addr) (l : List Int) : Prop :=
  (∀ x ∈ l, -9223372036854775808 ≤ x ∧ x ≤ 9223372036854775807) ∧ (l = [] ∨ ∃ b off, a = some ⟨b, off, none⟩ ∧ b < w.heap.size ∧ ∀ i, i < l.length → w.cell? ⟨b, off + i, none⟩ = some (.int .i64 (l.getD i 0)))
theorem IsI.keep {w w' : World} {a : Option Addr} {l : List Int} (h : IsI w a l) (hb : Below w.heap.size w w') : IsI w' a l := by
  obtain ⟨h1, h2 | ⟨b, off, e, hs, hc⟩⟩ := h
  · exact ⟨h1, .inl h2⟩
  · refine ⟨h1, .inr ⟨b, off, e, by have := hb.size; omega, fun i hi => ?_⟩⟩
    rw [hb.cell (p := ⟨b, off + i, none⟩) hs]; exact hc i hi

theorem addr_add (b off i : Nat) : (⟨b, off, none⟩ : Addr).add i = ⟨b, off + i, none⟩ := by by_cases h : i = 0 <;> simp [Addr.add, h]
/-- A list of numbers in a block of the call's own. -/
def OwnsI (w : World) (base : Nat) (a : Option Addr) (l : List Int) (cap : Nat) : Prop := w.ownsRow base 3 1 (.slice a l.length cap) l.length (l.map (Value.int .i64))
theorem ownsI_made (w : World) (base : Nat) (h : base ≤ w.heap.size) : OwnsI (w.alloc (.cells #[] 3)) base (some ⟨w.heap.size, 0, none⟩) [] 0 :=
  World.ownsRow_made w #[] 0 h (Nat.zero_le _) rfl
theorem OwnsI.alloc {w : World} {base cap : Nat} {a : Option Addr} {l : List Int} (h : OwnsI w base a l cap) (o : Obj) : OwnsI (w.alloc o) base a l cap := World.ownsRow.alloc h o
theorem ownsI_isI {w : World} {base : Nat} {a : Option Addr} {l : List Int} {cap : Nat} (hb : ∀ x ∈ l, -9223372036854775808 ≤ x ∧ x ≤ 9223372036854775807) (h : OwnsI w base a l cap) : IsI w a l := by
  refine ⟨hb, ?_⟩
  have h' := h
  obtain ⟨_, ⟨h1, h2⟩ | ⟨g, c', cur, h1, _, h2, _⟩⟩ := h
  · exact .inl (List.eq_nil_of_length_eq_zero h2)
  · cases h1
    refine .inr ⟨g, 0, rfl, (Array.getElem?_eq_some_iff.1 h2).1, ?_⟩
    intro i hi
    have := World.ownsRow.cellAt h' i (by omega)
    rw [Nat.zero_add, this]
    simp [List.getD, hi]
def AllI (l : List Int) : Prop := ∀ x ∈ l, -9223372036854775808 ≤ x ∧ x ≤ 9223372036854775807


theorem IsI.drew {w : World} {a : Option Addr} {l : List Int} (h : IsI w a l) : IsI w.drew a l := h
theorem AllI.at {l : List Int} (h : AllI l) (i : Nat) : -9223372036854775808 ≤ l.getD i 0 ∧ l.getD i 0 ≤ 9223372036854775807 := by
  by_cases hi : i < l.length
  · have := h l[i] (List.getElem_mem hi)
    simpa [List.getD, hi] using this
  · simp [List.getD, List.getElem?_eq_none (Nat.le_of_not_lt hi)]


theorem owns_formI {w : World} {base n : Nat} {v : Value} {xs : List Value} (h : w.ownsRow base 3 1 v n xs) : ∃ a cap, v = .slice a n cap := by
  obtain ⟨_, ⟨rfl, rfl⟩ | ⟨g, c', cur, rfl, _⟩⟩ := h
  · exact ⟨_, _, rfl⟩
  · exact ⟨_, _, rfl⟩
theorem OwnsI.keep {w w' : World} {base cap : Nat} {a : Option Addr} {l : List Int} (h : OwnsI w base a l cap) (hb : Below w.heap.size w w') : OwnsI w' base a l cap := by
  obtain ⟨h0, h1 | ⟨g, c', cur, h1, hg, h2, h3⟩⟩ := h
  · exact ⟨h0, .inl h1⟩
  · exact ⟨h0, .inr ⟨g, c', cur, h1, hg, by rw [hb.block g (Array.getElem?_eq_some_iff.1 h2).1]; exact h2, h3⟩⟩
theorem OwnsI.mono {w : World} {base base' cap : Nat} {a : Option Addr} {l : List Int} (h : OwnsI w base a l cap) (hb : base' ≤ base) : OwnsI w base' a l cap := by
  obtain ⟨h0, h1 | ⟨g, c', cur, h1, hg, h2⟩⟩ := h
  · exact ⟨h0, .inl h1⟩
  · exact ⟨h0, .inr ⟨g, c', cur, h1, by omega, h2⟩⟩
theorem OwnsI.parts {w : World} {base : Nat} {a : Option Addr} {l : List Int} {cap : Nat} (h : OwnsI w base a l cap) : l.length ≤ cap ∧ cap ≤ maxLen ∧ (a = none → l = [] ∧ cap = 0) ∧ (∀ ad, a = some ad → base ≤ ad.block ∧ ad.block < w.heap.size ∧ ad = ⟨ad.block, 0, none⟩) := by
  obtain ⟨_, ⟨h1, h2⟩ | ⟨g, c', cur, h1, hg, h2, h3, h4, _⟩⟩ := h
  · simp only [Value.slice.injEq] at h1
    obtain ⟨rfl, h1, rfl⟩ := h1
    exact ⟨by omega, Nat.zero_le _, fun _ => ⟨List.eq_nil_of_length_eq_zero h2, rfl⟩, fun ad e => by cases e⟩
  · cases h1
    exact ⟨h3, h4, by simp, fun ad e => by cases e; exact ⟨hg, (Array.getElem?_eq_some_iff.1 h2).1, rfl⟩⟩
theorem ownsI_none (w : World) (base : Nat) : OwnsI w base none [] 0 := World.ownsRow_nil _ _ _ _
/-- Numbers appended to none of one's own, as a run. -/
theorem appi_run (w : World) (ad : Addr) (l : List Int) (cx : Nat) (hB : IsI w (some ad) l) (hlen : l.length ≤ 17592186044416) :
    ∃ a' cap' w', (Builtin.append_ #[40, 40] 40 #[.slice (some ⟨w.heap.size, 0, none⟩) 0 0, .slice (some ad) l.length cx]).run Tryz.prog (w.alloc (.cells #[] 3)) = .ok (.slice a' l.length cap') w' ∧ OwnsI w' w.heap.size a' l cap' ∧ a' ≠ none ∧ Below w.heap.size w w' := by
  obtain ⟨i0, hi, hz0, hz1, hz2⟩ := info_parts Tryz.info3
  have hB' := hB.keep ((Below.refl _ w).alloc (Nat.le_refl _) (.cells #[] 3))
  obtain ⟨v', w', h1, h2, h3, h4⟩ := run_append_own (P := Tryz.prog) (w.alloc (.cells #[] 3)) w.heap.size 40 40 3 i0 (.int .i64 0) 1 8 Tryz.underlying40 hi hz0 hz1 hz2 rfl (by decide) _ 0 [] (ownsI_made w w.heap.size (Nat.le_refl _)) ad l.length cx (l.map (Value.int .i64)) (by simp) (by
      intro j u hj
      have hjn : j < l.length := by
        have := (List.getElem?_eq_some_iff.1 hj).1
        simpa using this
      obtain ⟨_, rfl | ⟨b, off, e, _, hc⟩⟩ := hB'
      · simp at hjn
      · cases e
        rw [addr_add, hc j hjn]
        have e : (l.map (Value.int .i64))[j]? = some (Value.int .i64 (l.getD j 0)) := by simp [List.getD, List.getElem?_eq_getElem hjn]
        rw [e] at hj
        exact hj) (by intro u hu; obtain ⟨x, _, rfl⟩ := List.mem_map.1 hu; rfl) (by unfold maxLen; omega) (by omega) (by simp)
  obtain ⟨a', cap', rfl⟩ := owns_formI h2
  rw [Nat.zero_add] at h1 h2
  refine ⟨a', cap', w', h1, by simpa [OwnsI] using h2, ?_, ?_⟩
  · intro e
    subst e
    simp only [List.nil_append] at h2
    obtain ⟨_, ⟨e1, e2⟩ | ⟨g, c', cur, e1, _⟩⟩ := h2
    · simp only [Value.slice.injEq] at e1
      have hl : l.length = 0 := e2
      simp [hl, e1.2.2] at h4
    · cases e1
  · exact ((Below.refl _ w).alloc (Nat.le_refl _) _).grown h3 (by simp) (by intro k hk; simp [Value.ownBlock] at hk; omega)
/-- The same, of none too. -/
theorem appi_any (w : World) (a : Option Addr) (l : List Int) (cx : Nat) (hB : IsI w a l) (hnil : a = none → l = [] ∧ cx = 0) (hlen : l.length ≤ 17592186044416) :
    ∃ a' cap' w', (Builtin.append_ #[40, 40] 40 #[.slice (some ⟨w.heap.size, 0, none⟩) 0 0, .slice a l.length cx]).run Tryz.prog (w.alloc (.cells #[] 3)) = .ok (.slice a' l.length cap') w' ∧ OwnsI w' w.heap.size a' l cap' ∧ a' ≠ none ∧ Below w.heap.size w w' := by
  rcases a with _ | ad
  · obtain ⟨rfl, rfl⟩ := hnil rfl
    obtain ⟨i0, hi, hz0, hz1, hz2⟩ := info_parts Tryz.info3
    have o := ownsI_made w w.heap.size (Nat.le_refl _)
    exact ⟨some ⟨w.heap.size, 0, none⟩, 0, _, run_append_owned_none (P := Tryz.prog) _ w.heap.size 40 40 3 i0 1 Tryz.underlying40 hi _ _ _ o, o, by simp, (Below.refl _ w).alloc (Nat.le_refl _) _⟩
  · exact appi_run w ad l cx hB hlen
/-- The same as a step of the walk. -/
theorem wpList_runi {ops : Array Oper} {rest : List Oper} {o : Oper} {a : Act} {Q : Exit → Act → World → Prop} {w : World} (hgd : o.guard = none) (hty : o.type = 40) (s x : Operand)
    (ho : o.op = .call { callee := .builtin .append, args := #[s, x], argTypes := #[40, 40] }) (v1 v2 v' : Value) (w' : World) (hs : a.eval s = v1) (hx : a.eval x = v2)
    (hrun : (Builtin.append_ #[40, 40] 40 #[v1, v2]).run Tryz.prog w = .ok v' w') (h : wpList Tryz.prog ops Q rest (a.put o.dst v') w') : wpList Tryz.prog ops Q (o :: rest) a w := by
  refine wpList_plain hgd fun K' hK' => ?_
  unfold Oper.wp
  simp [execOp, ho, hty, resolve, invoke, builtin, hs, hx, hrun, Result.andThen]
  exact hK' _ _ h


theorem ints_any (a a' : Option Addr) (n n' cap cap' : Nat) (l l' : List Int) (w : World) (h : IsI w a l) (h' : IsI w a' l') (hn : n = l.length) (hn' : n' = l'.length) (hm : l.length ≤ maxLen) (hm' : l'.length ≤ maxLen) :
    Calls Tryz.prog 167 #[.slice a n cap, .slice a' n' cap'] w fun e w' => e = .returned (.bool (decide (l = l'))) ∧ Below w.heap.size w w' := by
  subst hn hn'
  have H1 : Hid (IsI w a l) := h
  have H2 : Hid (IsI w a' l') := h'
  unfold maxLen at hm hm'
  clear h h'
  by_cases hll : l.length = l'.length
  · have HLL : Hid (l.length = l'.length) := hll
    rw [← hll]
    clear hll
    go_enter Tryz.func167, Tryz.ntmps167
    go_wp2
    go_loopw [13] (fun iv wr => ∃ k m : Nat, k ≤ l.length ∧ iv = .int .i64 k ∧ wr = w.drewN m ∧ l.take k = l'.take k) (fun iv _ => l.length - (intOf iv).toNat)
    case atStart => exact ⟨0, 0, Nat.zero_le _, rfl, rfl, rfl⟩
    case round =>
      obtain ⟨k, m, hk, rfl, rfl, ht⟩ := hrel
      have HT : Hid (l.take k = l'.take k) := ht
      clear ht
      by_cases hlt : k < l.length
      · obtain ⟨_, h0 | ⟨b1, o1, rfl, _, c1⟩⟩ := H1.out
        · rw [h0] at hlt; simp at hlt
        have hlt' : k < l'.length := by have := HLL.out; omega
        obtain ⟨_, h0 | ⟨b2, o2, rfl, _, c2⟩⟩ := H2.out
        · rw [h0] at hlt'; simp at hlt'
        have d1 := c1 k hlt
        have d2 := c2 k hlt'
        have T1 : Hid (l.take (k + 1) = l.take k ++ [l.getD k 0]) := by show _ = _; rw [List.take_succ_eq_append_getElem hlt]; simp [List.getD, hlt]
        have T2 : Hid (l'.take (k + 1) = l'.take k ++ [l'.getD k 0]) := by show _ = _; rw [List.take_succ_eq_append_getElem hlt']; simp [List.getD, hlt']
        obtain ⟨y, hy⟩ : ∃ y, l.getD k 0 = y := ⟨_, rfl⟩
        obtain ⟨y', hy'⟩ : ∃ y', l'.getD k 0 = y' := ⟨_, rfl⟩
        rw [hy] at d1
        rw [hy'] at d2
        have HY : Hid (l.getD k 0 = y) := hy
        have HY' : Hid (l'.getD k 0 = y') := hy'
        clear c1 c2 hy hy' hlt'
        by_cases he : y = y'
        · subst he
          have NX : Hid (l.take (k + 1) = l'.take (k + 1)) := by show _ = _; rw [T1.out, T2.out, HT.out, HY.out, HY'.out]
          go_wp2_with fail
          go_quiet (fail)
          go_wp2
          go_roundw
          case rel => exact ⟨k + 1, m + nq, by omega, by go_num, rfl, NX.out⟩
          case measure => simp [intOf]; omega
        · have hq : (y != y') = true := by rw [bne_iff_ne]; exact he
          have NE : Hid (decide (l = l') = false) := decide_eq_false (fun e => he (by rw [← HY.out, ← HY'.out, e]))
          clear he
          go_wp2_with fail
          go_quiet (fail)
          go_wp2
          go_ret
          exact ⟨ret_bool NE.out.symm, ⟨rfl, rfl, rfl, Nat.le_refl _, fun _ _ => rfl⟩⟩
      · have EQ : Hid (decide (l = l') = true) := decide_eq_true (by
          have := HT.out
          rwa [List.take_of_length_le (by omega), List.take_of_length_le (by have := HLL.out; omega)] at this)
        go_wp2
        go_ret
        exact ⟨ret_bool EQ.out.symm, ⟨rfl, rfl, rfl, Nat.le_refl _, fun _ _ => rfl⟩⟩
  · have NE : Hid (decide (l = l') = false) := decide_eq_false (fun e => hll (by rw [e]))
    have hq : ((l.length : Int) != (l'.length : Int)) = true := by rw [bne_iff_ne]; omega
    have hni : ¬ (l.length : Int) = (l'.length : Int) := by omega
    go_enter Tryz.func167, Tryz.ntmps167
    go_wp2
    go_ret
    exact ⟨ret_bool NE.out.symm, Below.refl _ _⟩
end Go.Proofs.YtgdjlopnhecmjaaGreatDoor

/- A span in memory: noneOf, New; what alive answers. -/
namespace Go.Proofs.YtgdjlopnhecmjaaGreatDoor
open Go.RowKit
set_option linter.unusedVariables false
set_option maxRecDepth 4000

theorem bfrozen {w w' : World} {p : Addr} {v : Value} (hb : Below w.heap.size w w') (h : w.cell? p = some v) (z : w.frozen? p = false) : w'.frozen? p = false := (hb.frozen (World.block_lt_of_cell? w p h)).trans z

theorem noneOf_any (n : Nat) (x : Int) (w : World) (hx : x = (n : Int)) (hn : n ≤ 65536) :
    Calls Tryz.prog 253 #[.int .i64 x] w fun e w' => e = .returned (.agg #[.pointer (some ⟨w.heap.size + 2, 0, none⟩)]) ∧ SetAt w' (w.heap.size + 2) (w.heap.size + 1) n (fun _ => false) ∧ Below w.heap.size w w' := by
  subst hx
  have EC : Hid (clampN (n : Int) = n) := by show _ = _; unfold clampN; rw [if_neg (by omega), if_neg (by omega)]; omega
  obtain ⟨w1, hw1⟩ : ∃ w1, w.alloc (.cells #[.pointer none] 271) = w1 := ⟨_, rfl⟩
  have HW : Hid (w.alloc (.cells #[.pointer none] 271) = w1) := hw1
  have sz1 : w1.heap.size = w.heap.size + 1 := by rw [← hw1]; simp
  have row1 : w1.heap[w.heap.size]? = some (.cells #[.pointer none] 271 (0, 0)) := by rw [← hw1]; exact Go.heap_alloc_new w _
  have q0 : w1.cell? ⟨w.heap.size, 0, none⟩ = some (.pointer none) := cell_of_row _ _ 0 _ _ _ row1
  have z0 : w1.frozen? ⟨w.heap.size, 0, none⟩ = false := frozen_of_row _ _ 0 _ _ row1
  have B1 : Hid (Below w.heap.size w w1) := by show Below _ _ _; rw [← hw1]; exact (Below.refl _ w).alloc (Nat.le_refl _) _
  clear hw1 row1
  have SZ : Hid (w1.heap.size = w.heap.size + 1) := sz1
  clear sz1
  go_enter Tryz.func253, Tryz.ntmps253
  go_wp2_with fail
  rw [HW.out]
  refine (snew_any (n : Int) w1).mono ?_
  rintro e w2 ⟨rfl, hw2⟩
  rw [EC.out] at hw2
  have sz1 := SZ.out
  have b2 : Below w1.heap.size w1 w2 := by rw [← hw2]; exact newW_below w1 n
  have s2 : SetAt w2 (w1.heap.size + 1) w1.heap.size n (fun _ => false) := by rw [← hw2]; exact newW_at w1 n hn
  have q2 := bcell b2 q0
  have z2 := bfrozen b2 q0 z0
  have B2 : Hid (Below w.heap.size w w2) := B1.out.trans (b2.mono (by omega))
  clear hw2 b2 q0 z0
  rw [sz1] at s2
  rw [show w1.heap.size + 1 = w.heap.size + 2 from by omega]
  obtain ⟨k, hk⟩ : ∃ k, w.heap.size + 2 = k := ⟨_, rfl⟩
  rw [show w.heap.size + 1 + 1 = k from hk] at s2
  rw [hk]
  have S3 : Hid (SetAt (w2.setCell ⟨w.heap.size, 0, none⟩ (.pointer (some ⟨k, 0, none⟩))) k (w.heap.size + 1) n (fun _ => false)) := s2.beside (Only.set w.heap.size 0 (.pointer (some ⟨k, 0, none⟩)) w2) (by omega) (by omega)
  have B3 : Hid (Below w.heap.size w (w2.setCell ⟨w.heap.size, 0, none⟩ (.pointer (some ⟨k, 0, none⟩)))) := B2.out.setCell (Nat.le_refl _) _
  have q3 : (w2.setCell ⟨w.heap.size, 0, none⟩ (.pointer (some ⟨k, 0, none⟩))).cell? ⟨w.heap.size, 0, none⟩ = some (.pointer (some ⟨k, 0, none⟩)) := cell_set q2
  have HK : Hid (w.heap.size + 2 = k) := hk
  clear s2 sz1 hk
  go_wp2
  refine bodyPost_ret (v := .agg #[.pointer (some ⟨k, 0, none⟩)]) (by simp [results, Tryz.results253, go_sem, q3]) rfl ?_
  rw [HK.out]
  exact ⟨rfl, S3.out, B3.out⟩

/-- What New lays ahead of the check. -/
theorem newbox (w : World) (p c s : Int) : ∃ w1, w.alloc (.cells #[.int .i64 p, .int .i64 c, .int .i64 s, .pointer none] 273) = w1 ∧ w1.heap.size = w.heap.size + 1 ∧ Bx w1 w.heap.size p c s ∧ w1.cell? ⟨w.heap.size, 3, none⟩ = some (.pointer none) ∧ w1.frozen? ⟨w.heap.size, 3, none⟩ = false ∧ Below w.heap.size w w1 := by
  have row1 := Go.heap_alloc_new w (.cells #[.int .i64 p, .int .i64 c, .int .i64 s, .pointer none] 273)
  exact ⟨_, rfl, by simp, ⟨cell_of_row _ _ 0 _ _ _ row1, cell_of_row _ _ 1 _ _ _ row1, cell_of_row _ _ 2 _ _ _ row1⟩, cell_of_row _ _ 3 _ _ _ row1, frozen_of_row _ _ 3 _ _ row1, (Below.refl _ w).alloc (Nat.le_refl _) _⟩

theorem new_bad (p c s : Int) (w : World) (hT : Tabs w) (hp : -9223372036854775808 ≤ p ∧ p ≤ 9223372036854775807) (x : Int) (hx : newE p c s = x) (h0 : x ≠ 0) :
    Calls Tryz.prog 219 #[.int .i64 p, .int .i64 c, .int .i64 s] w fun e w' => e = .returned (.tuple #[.pointer none, .int .i64 x]) ∧ Below w.heap.size w w' := by
  obtain ⟨w1, hw1, sz1, hB, q3, z3, b1⟩ := newbox w p c s
  have HW : Hid (w.alloc (.cells #[.int .i64 p, .int .i64 c, .int .i64 s, .pointer none] 273) = w1) := hw1
  have HB : Hid (Bx w1 w.heap.size p c s) := hB
  have B1 : Hid (Below w.heap.size w w1) := b1
  have T1 : Hid (TabC w1) := hT.1.keep b1
  have HX : Hid (newE p c s = x) := hx
  have hne : (x == 0) = false := beq_eq_false_iff_ne.2 h0
  have hne' : (x != 0) = true := by rw [bne, hne]; rfl
  clear hw1 hB b1 hT q3 z3 hx h0
  go_enter Tryz.func219, Tryz.ntmps219
  go_wp2_with fail
  rw [HW.out]
  refine (check_any w.heap.size p c s w1 HB.out T1.out hp).mono ?_
  rw [HX.out]
  rintro e w2 ⟨rfl, b2⟩
  have B2 : Hid (Below w.heap.size w w2) := B1.out.trans (b2.mono (by omega))
  clear b2
  go_wp2
  go_ret2
  exact ⟨rfl, B2.out⟩

set_option maxHeartbeats 1000000 in
theorem new_ok (p c s : Int) (w : World) (hT : Tabs w) (r : Rt p c s) (hE : newE p c s = 0) :
    Calls Tryz.prog 219 #[.int .i64 p, .int .i64 c, .int .i64 s] w fun e w' => ∃ sb b g, e = .returned (.tuple #[.pointer (some ⟨sb, 0, none⟩), .int .i64 0]) ∧ SpanAt w' sb b g p c s (fun _ => false) ∧ Below w.heap.size w w' ∧ w.heap.size ≤ sb ∧ w.heap.size ≤ b ∧ w.heap.size ≤ g := by
  obtain ⟨w1, hw1, sz1, hB, q3, z3, b1⟩ := newbox w p c s
  have HW : Hid (w.alloc (.cells #[.int .i64 p, .int .i64 c, .int .i64 s, .pointer none] 273) = w1) := hw1
  have HB : Hid (Bx w1 w.heap.size p c s) := hB
  have B1 : Hid (Below w.heap.size w w1) := b1
  have T1 : Hid (TabC w1) := hT.1.keep b1
  have HX : Hid (newE p c s = 0) := hE
  have R : Hid (Rt p c s) := r
  have hp : -9223372036854775808 ≤ p ∧ p ≤ 9223372036854775807 := by have := r.p0; have := r.p1; omega
  have F : Hid (slN c ≤ 65536) := by show slN c ≤ 65536; have := r.facts.2.1; omega
  clear hw1 hB b1 hT hE r
  go_enter Tryz.func219, Tryz.ntmps219
  go_wp2_with fail
  rw [HW.out]
  refine (check_any w.heap.size p c s w1 HB.out T1.out hp).mono ?_
  rw [HX.out]
  rintro e w2 ⟨rfl, b2⟩
  have B2 : Hid (Below w.heap.size w w2) := B1.out.trans (b2.mono (by omega))
  have HB2 : Hid (Bx w2 w.heap.size p c s) := HB.out.keep b2
  have T2 : Hid (TabC w2) := T1.out.keep b2
  have q32 := bcell b2 q3
  have z32 := bfrozen b2 q3 z3
  have sz2 : w.heap.size + 1 ≤ w2.heap.size := by have := b2.size; omega
  clear b2 q3 z3
  go_wp2_with (first
    | (go_at_call 181; refine (slots_rt w.heap.size p c s w2 HB2.out T2.out R.out (slN c) rfl).mono ?_; rintro e w' ⟨rfl, rfl⟩)
    | (go_at_call 253; refine (noneOf_any (slN c) _ w2 rfl F.out).mono ?_; rintro e w3 ⟨rfl, s3, b3⟩; have S3 : Hid (SetAt w3 (w2.heap.size + 2) (w2.heap.size + 1) (slN c) (fun _ => false)) := s3; have B3 : Hid (Below w2.heap.size w2 w3) := b3; have q33 := bcell b3 q32; have z33 := bfrozen b3 q32 z32; clear s3 b3))
  go_ret2
  have O := Only.set w.heap.size 3 (.pointer (some ⟨w2.heap.size + 2, 0, none⟩)) w3
  have HB3 := HB2.out.keep B3.out
  refine ⟨w.heap.size, w2.heap.size + 2, w2.heap.size + 1, rfl, ⟨⟨?_, ?_, ?_⟩, cell_set q33, S3.out.beside O (by omega) (by omega), by omega, by omega⟩, (B2.out.trans (B3.out.mono (by omega))).setCell (Nat.le_refl _) _, Nat.le_refl _, by omega, by omega⟩
  · rw [cell_else (by decide)]; exact HB3.b0
  · rw [cell_else (by decide)]; exact HB3.b1
  · rw [cell_else (by decide)]; exact HB3.b2

end Go.Proofs.YtgdjlopnhecmjaaGreatDoor
