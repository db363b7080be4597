/- Numbers appended to a slice of one's own. -/
import Derived.Test.YtdfnhbbnadiijabDoorClC
import Derived.OwnWalk
import Derived.Laws.AppendOwnNone
namespace Go.Proofs.YtdfnhbbnadiijabDoor
open Go.RowKit
set_option linter.unusedVariables false

theorem Tryd.info3 : (Tryd.prog.info? 3).map (fun i => (i.zero, i.size, i.bytes)) = some (some (.int .i64 0), 1, 8) := by kernel_rfl
theorem addr_add (b off i : Nat) : (⟨b, off, none⟩ : Addr).add i = ⟨b, off + i, none⟩ := by by_cases h : i = 0 <;> simp [Addr.add, h]

/-- A list of numbers in a block of the call's own. -/
def OwnsI (w : World) (base : Nat) (a : Option Addr) (l : List Int) (cap : Nat) : Prop := w.ownsRow base 3 1 (.slice a l.length cap) l.length (l.map (Value.int .i64))
theorem ownsI_made (w : World) (base : Nat) (h : base ≤ w.heap.size) : OwnsI (w.alloc (.cells #[] 3)) base (some ⟨w.heap.size, 0, none⟩) [] 0 :=
  World.ownsRow_made w #[] 0 h (Nat.zero_le _) rfl
theorem OwnsI.alloc {w : World} {base cap : Nat} {a : Option Addr} {l : List Int} (h : OwnsI w base a l cap) (o : Obj) : OwnsI (w.alloc o) base a l cap := World.ownsRow.alloc h o
theorem ownsI_isI {w : World} {base : Nat} {a : Option Addr} {l : List Int} {cap : Nat} (hb : ∀ x ∈ l, -9223372036854775808 ≤ x ∧ x ≤ 9223372036854775807) (h : OwnsI w base a l cap) : IsI w a l := by
  refine ⟨hb, ?_⟩
  have h' := h
  obtain ⟨_, ⟨h1, h2⟩ | ⟨g, c', cur, h1, _, h2, _⟩⟩ := h
  · exact .inl (List.eq_nil_of_length_eq_zero h2)
  · cases h1
    refine .inr ⟨g, 0, rfl, (Array.getElem?_eq_some_iff.1 h2).1, ?_⟩
    intro i hi
    have := World.ownsRow.cellAt h' i (by omega)
    rw [Nat.zero_add, this]
    simp [List.getD, hi]
theorem wpList_appi {ops : Array Oper} {rest : List Oper} {o : Oper} {a : Act} {Q : Exit → Act → World → Prop} {w : World} (hgd : o.guard = none) (s x : Operand)
    (ho : o.op = .call { callee := .builtin .append, args := #[s, x], argTypes := #[22, 22] })
    (base : Nat) (hbase : base ≤ w.heap.size) (as0 : Option Addr) (L : List Int) (cs : Nat) (hs : a.eval s = .slice as0 L.length cs) (hown : OwnsI w base as0 L cs)
    (ax : Option Addr) (l : List Int) (cx : Nat) (hx : a.eval x = .slice ax l.length cx) (hB : IsI w ax l) (hnil : ax = none → l = [] ∧ cx = 0) (hL : L.length ≤ 100000) (hlen : l.length ≤ 100000)
    (h : ∀ a' cap' w', OwnsI w' base a' (L ++ l) cap' → Below base w w' → wpList Tryd.prog ops Q rest (a.put o.dst (.slice a' (L ++ l).length cap')) w') :
    wpList Tryd.prog ops Q (o :: rest) a w := by
  obtain ⟨i0, hi, hz0, hz1, hz2⟩ := info_parts Tryd.info3
  rcases ax with _ | ad
  · obtain ⟨rfl, rfl⟩ := hnil rfl
    refine wpList_append_own_none hgd s x 22 ho base 3 i0 1 Tryd.underlying22 hi _ _ _ hs hown hx ?_
    have := h as0 cs w (by rw [List.append_nil]; exact hown) (Below.refl _ _)
    rw [List.append_nil] at this
    exact this
  · refine wpList_append_own w hgd s x 22 ho base 3 i0 (.int .i64 0) 1 8 Tryd.underlying22 hi hz0 hz1 hz2 rfl (by decide) _ _ _ hs hown ad l.length cx (l.map (Value.int .i64)) hx (by simp) ?_ ?_ (by unfold maxLen; omega) (by omega) hbase ?_
    · intro j u hj
      have hjn : j < l.length := by
        have := (List.getElem?_eq_some_iff.1 hj).1
        simpa using this
      obtain ⟨_, rfl | ⟨b, off, e, _, hc⟩⟩ := hB
      · simp at hjn
      · cases e
        rw [addr_add, hc j hjn]
        have e : (l.map (Value.int .i64))[j]? = some (Value.int .i64 (l.getD j 0)) := by simp [List.getD, List.getElem?_eq_getElem hjn]
        rw [e] at hj
        exact hj
    · intro u hu; obtain ⟨x, _, rfl⟩ := List.mem_map.1 hu; rfl
    · intro v' w' h1 h2 h3
      have hf : ∃ a' cap', v' = .slice a' (L.length + l.length) cap' := by
        obtain ⟨_, ⟨h4, h5⟩ | ⟨g, c', cur, h4, _⟩⟩ := h1
        · exact ⟨_, _, by rw [h4, h5]⟩
        · exact ⟨_, _, h4⟩
      obtain ⟨a', cap', rfl⟩ := hf
      have := h a' cap' w' (by simpa [OwnsI] using h1) ((Below.refl _ w).grown h2 hbase (by
        intro k hk
        obtain ⟨_, ⟨h4, _⟩ | ⟨g', c', cur, h4, hg, _⟩⟩ := hown
        · rw [h4] at hk; simp [Value.ownBlock] at hk
        · rw [h4] at hk; simp [Value.ownBlock] at hk; omega))
      simpa using this

/-- A slice of one number, as a literal makes it. -/
theorem one_isI (w : World) (n : Int) (h : -9223372036854775808 ≤ n ∧ n ≤ 9223372036854775807) : IsI (w.alloc (.cells #[.int .i64 n] 3)) (some ⟨w.heap.size, 0, none⟩) [n] := by
  refine ⟨by simpa using h, .inr ⟨w.heap.size, 0, rfl, by simp, fun i hi => ?_⟩⟩
  rw [cell_of_row _ _ _ _ _ _ (Go.heap_alloc_new w _)]
  rcases i with _ | i
  · rfl
  · simp at hi
theorem one_owns (w : World) (base : Nat) (n : Int) (h : base ≤ w.heap.size) : OwnsI (w.alloc (.cells #[.int .i64 n] 3)) base (some ⟨w.heap.size, 0, none⟩) [n] 1 := by
  exact ⟨by simp, .inr ⟨w.heap.size, 1, #[.int .i64 n], rfl, h, Go.heap_alloc_new w _, Nat.le_refl _, by unfold maxLen; omega, by simp, by simp⟩⟩
end Go.Proofs.YtdfnhbbnadiijabDoor
