/- The walk of KindApart. -/
import Derived.Test.YtkcnanpojnbepaaKeA
import Derived.Test.YtkcnanpojnbepaaKfC
import Derived.Test.YtkcnanpojnbepaaKfD
namespace Go.Proofs.Ytkcnanpojnbepaa
open Go.RowKit
set_option linter.unusedVariables false

/-- Numbers turned in a list of one's own: the list's block alone is another. -/
theorem OwnsI.turned {w : World} {lb c g : Nat} {l : List Int} (h : OwnsI w lb (some ⟨g, 0, none⟩) l c) (i : Nat) (hi : i < l.length) (v : Int) : OwnsI (w.setCell ⟨g, i, none⟩ (.int .i64 v)) lb (some ⟨g, 0, none⟩) (l.set i v) c ∧ Only g w (w.setCell ⟨g, i, none⟩ (.int .i64 v)) := by
  refine ⟨?_, Only.set g i _ w⟩
  obtain ⟨h0, ⟨h1, _⟩ | ⟨q, c', cur, h1, hg1, h2, h3, h4, h5, h6⟩⟩ := h
  · cases h1
  · cases h1
    refine ⟨by simp, .inr ⟨g, c, cur.setIfInBounds i (.int .i64 v), by simp, hg1, heap_setCell_same w g i _ _ _ h2, by simpa using h3, h4, by simpa using h5, ?_⟩⟩
    simp only [List.length_set, Array.toList_setIfInBounds, List.map_set]
    rw [List.take_set, h6]

theorem OwnsI.on {w w' : World} {lb c g : Nat} {a : Option Addr} {l : List Int} (h : OwnsI w lb a l c) (on : Only g w w') (hne : some g ≠ ob a) : OwnsI w' lb a l c := by
  obtain ⟨h0, h1 | ⟨q, c', cur, h1, hg1, h2, h3⟩⟩ := h
  · exact ⟨h0, .inl h1⟩
  · refine ⟨h0, .inr ⟨q, c', cur, h1, hg1, ?_, h3⟩⟩
    rw [on.block q (fun e => by subst e; cases h1; exact hne rfl)]
    exact h2
theorem OwnsI.block {w : World} {lb c g : Nat} {l : List Int} (h : OwnsI w lb (some ⟨g, 0, none⟩) l c) : ∃ cur, w.heap[g]? = some (.cells cur 3 (0, 0)) := by
  obtain ⟨_, ⟨h1, _⟩ | ⟨q, c', cur, h1, hg1, h2, _⟩⟩ := h
  · cases h1
  · cases h1; exact ⟨cur, h2⟩
theorem box_on {w w' : World} {g b : Nat} {T : TypeId} {cs cur : Array Value} (h : w.heap[b]? = some (.cells cs T (0, 0))) (hg : w.heap[g]? = some (.cells cur 3 (0, 0))) (hT : T ≠ 3) (on : Only g w w') : w'.heap[b]? = some (.cells cs T (0, 0)) := by
  rw [on.block b (fun e => by subst e; rw [h] at hg; simp at hg; exact hT hg.2)]
  exact h
/-- A table stays where another list turns. -/
theorem Tb.on {w w' : World} {base lb t cr g : Nat} {ar : Option Addr} {ks : List Kd} {cur : Array Value} (h : Tb w base lb t ar cr ks) (hg : w.heap[g]? = some (.cells cur 3 (0, 0))) (on : Only g w w') (hne : ∀ k ∈ ks, some g ≠ ob k.a) : Tb w' base lb t ar cr ks := by
  refine ⟨box_on h.box hg (by decide) on, h.row.stay (fun q hq => on.block q ?_), fun k hk => (h.lists k hk).on on (hne k hk), h.right, h.all, h.len, h.ge⟩
  intro e
  subst e
  obtain ⟨c2, hc⟩ := h.row.kind q hq
  rw [hc] at hg
  simp at hg

/-- What lies there behind All: the table, the kind that came in, three boxes, three lists. -/
structure Ap (w W : World) (base lb t : Nat) (ar : Option Addr) (cr : Nat) (k : Kd) (s : Int) (n : Nat) (gi ga gl : Nat) (a a3 a5 ax : Option Addr) (c c3 c5 cx : Nat) (m3 m5 mx : List Int) : Prop where
  tb : Tb W base lb t ar cr [k]
  kbox : W.heap[w.heap.size]? = some (.cells #[.int .i64 s, .slice a n c] 24 (0, 0))
  ibox : W.heap[gi]? = some (.cells #[.int .i64 s, .slice a3 n c3] 24 (0, 0))
  abox : W.heap[ga]? = some (.cells #[.int .i64 s, .slice a5 n c5] 24 (0, 0))
  row : W.heap[gl]? = some (.cells #[.int .i64 s, .slice ax n cx] 24 (0, 0))
  o3 : OwnsI W w.heap.size a3 m3 c3
  o5 : OwnsI W w.heap.size a5 m5 c5
  ox : OwnsI W w.heap.size ax mx cx
  l3 : m3.length = n
  l5 : m5.length = n
  lx : mx.length = n
  p35 : ob a3 = none ∨ ob a3 ≠ ob a5
  p3x : ob a3 = none ∨ ob a3 ≠ ob ax
  p3k : ob a3 = none ∨ ob a3 ≠ ob k.a
  p5x : ob a5 = none ∨ ob a5 ≠ ob ax
  p5k : ob a5 = none ∨ ob a5 ≠ ob k.a
  pxk : ob ax = none ∨ ob ax ≠ ob k.a
  below : Below w.heap.size w W

theorem ne_of {x y : Option Nat} {g : Nat} (h : x = none ∨ x ≠ y) (hx : x = some g) : some g ≠ y := by
  subst hx
  rcases h with h | h
  · cases h
  · exact h
theorem ne_of' {x y : Option Nat} {g : Nat} (h : x = none ∨ x ≠ y) (hy : y = some g) : some g ≠ x := by
  subst hy
  rcases h with h | h
  · rw [h]; simp
  · exact fun e => h e.symm

theorem Ap.turn3 {w W : World} {base lb t cr n gi ga gl c c3 c5 cx g i : Nat} {ar a a5 ax : Option Addr} {k : Kd} {s : Int} {m3 m5 mx : List Int} (h : Ap w W base lb t ar cr k s n gi ga gl a (some ⟨g, 0, none⟩) a5 ax c c3 c5 cx m3 m5 mx) (hi : i < m3.length) (v : Int) :
    Ap w (W.setCell ⟨g, i, none⟩ (.int .i64 v)) base lb t ar cr k s n gi ga gl a (some ⟨g, 0, none⟩) a5 ax c c3 c5 cx (m3.set i v) m5 mx := by
  obtain ⟨cur, hg⟩ := h.o3.block
  obtain ⟨o, on⟩ := h.o3.turned i hi v
  have hgb := (h.o3.parts.2.2.2 _ rfl).1
  exact ⟨h.tb.on hg on (fun k' hk => by simp at hk; subst hk; exact ne_of h.p3k rfl), box_on h.kbox hg (by decide) on, box_on h.ibox hg (by decide) on, box_on h.abox hg (by decide) on, box_on h.row hg (by decide) on, o, h.o5.on on (ne_of h.p35 rfl), h.ox.on on (ne_of h.p3x rfl), by simp [h.l3], h.l5, h.lx, h.p35, h.p3x, h.p3k, h.p5x, h.p5k, h.pxk, h.below.trans (on.below hgb)⟩
theorem Ap.turn5 {w W : World} {base lb t cr n gi ga gl c c3 c5 cx g i : Nat} {ar a a3 ax : Option Addr} {k : Kd} {s : Int} {m3 m5 mx : List Int} (h : Ap w W base lb t ar cr k s n gi ga gl a a3 (some ⟨g, 0, none⟩) ax c c3 c5 cx m3 m5 mx) (hi : i < m5.length) (v : Int) :
    Ap w (W.setCell ⟨g, i, none⟩ (.int .i64 v)) base lb t ar cr k s n gi ga gl a a3 (some ⟨g, 0, none⟩) ax c c3 c5 cx m3 (m5.set i v) mx := by
  obtain ⟨cur, hg⟩ := h.o5.block
  obtain ⟨o, on⟩ := h.o5.turned i hi v
  have hgb := (h.o5.parts.2.2.2 _ rfl).1
  exact ⟨h.tb.on hg on (fun k' hk => by simp at hk; subst hk; exact ne_of h.p5k rfl), box_on h.kbox hg (by decide) on, box_on h.ibox hg (by decide) on, box_on h.abox hg (by decide) on, box_on h.row hg (by decide) on, h.o3.on on (ne_of' h.p35 rfl), o, h.ox.on on (ne_of h.p5x rfl), h.l3, by simp [h.l5], h.lx, h.p35, h.p3x, h.p3k, h.p5x, h.p5k, h.pxk, h.below.trans (on.below hgb)⟩
theorem Ap.turnx {w W : World} {base lb t cr n gi ga gl c c3 c5 cx g i : Nat} {ar a a3 a5 : Option Addr} {k : Kd} {s : Int} {m3 m5 mx : List Int} (h : Ap w W base lb t ar cr k s n gi ga gl a a3 a5 (some ⟨g, 0, none⟩) c c3 c5 cx m3 m5 mx) (hi : i < mx.length) (v : Int) :
    Ap w (W.setCell ⟨g, i, none⟩ (.int .i64 v)) base lb t ar cr k s n gi ga gl a a3 a5 (some ⟨g, 0, none⟩) c c3 c5 cx m3 m5 (mx.set i v) := by
  obtain ⟨cur, hg⟩ := h.ox.block
  obtain ⟨o, on⟩ := h.ox.turned i hi v
  have hgb := (h.ox.parts.2.2.2 _ rfl).1
  exact ⟨h.tb.on hg on (fun k' hk => by simp at hk; subst hk; exact ne_of h.pxk rfl), box_on h.kbox hg (by decide) on, box_on h.ibox hg (by decide) on, box_on h.abox hg (by decide) on, box_on h.row hg (by decide) on, h.o3.on on (ne_of' h.p3x rfl), h.o5.on on (ne_of' h.p5x rfl), o, h.l3, h.l5, by simp [h.lx], h.p35, h.p3x, h.p3k, h.p5x, h.p5k, h.pxk, h.below.trans (on.below hgb)⟩

/-- A list of one's own: where it lies, and a number in it. -/
theorem OwnsI.num {w : World} {lb c : Nat} {a : Option Addr} {l : List Int} (h : OwnsI w lb a l c) (i : Nat) (hi : i < l.length) : ∃ g, a = some ⟨g, 0, none⟩ ∧ w.cell? ⟨g, i, none⟩ = some (.int .i64 (l.getD i 0)) ∧ w.frozen? ⟨g, i, none⟩ = false := by
  have h' := h
  obtain ⟨_, ⟨h1, h2⟩ | ⟨q, c', cur, h1, hg1, h2, _⟩⟩ := h
  · omega
  · cases h1
    refine ⟨q, rfl, ?_, frozen_of_row _ _ i _ _ h2⟩
    rw [World.ownsRow.cellAt h' i (by omega)]
    simp [List.getD, hi]
theorem Tb.lb {w : World} {base lb lb' t cr : Nat} {ar : Option Addr} (h : Tb w base lb t ar cr []) : Tb w base lb' t ar cr [] := ⟨h.box, h.row, fun k hk => by (cases hk), h.right, h.all, h.len, h.ge⟩
theorem Tb.base {w : World} {base base' lb t : Nat} (h : Tb w base lb t none 0 []) (hb : base' ≤ base) : Tb w base' lb t none 0 [] := ⟨h.box, rowK_nil _ _, h.lists, h.right, h.all, h.len, Nat.le_trans hb h.ge⟩
/-- Two lists made one behind the other lie apart. -/
theorem ob_apart {w w' : World} {lb lb' c c' : Nat} {a a' : Option Addr} {l l' : List Int} (h : OwnsI w lb a l c) (h' : OwnsI w' lb' a' l' c') (hs : w.heap.size ≤ lb') : ob a = none ∨ ob a ≠ ob a' := by
  rcases a with _ | ad
  · exact .inl rfl
  · right
    rcases a' with _ | ad'
    · simp [ob]
    · have h1 := (h.parts.2.2.2 ad rfl).2.1
      have h2 := (h'.parts.2.2.2 ad' rfl).1
      simp only [ob, Option.map_some, ne_eq, Option.some.injEq]
      omega
theorem ob_apart' {w w' : World} {lb lb' c c' : Nat} {a a' : Option Addr} {l l' : List Int} (h : OwnsI w lb a l c) (h' : OwnsI w' lb' a' l' c') (hs : w.heap.size ≤ lb') : ob a' = none ∨ ob a' ≠ ob a := by
  rcases a' with _ | ad'
  · exact .inl rfl
  · right
    rcases a with _ | ad
    · simp [ob]
    · have h1 := (h.parts.2.2.2 ad rfl).2.1
      have h2 := (h'.parts.2.2.2 ad' rfl).1
      simp only [ob, Option.map_some, ne_eq, Option.some.injEq]
      omega
end Go.Proofs.Ytkcnanpojnbepaa
