/- Kinds in rows, and a table of them in memory. -/
import Derived.Test.YtkcnanpojnbepaaKdJ
import Derived.Maps.AppendAt
namespace Go.Proofs.Ytkcnanpojnbepaa
open Go.RowKit
set_option linter.unusedVariables false

/-- A kind in memory. -/
structure Kd where
  s : Int
  a : Option Addr
  c : Nat
  l : List Int

/-- The cells of kinds. -/
def cellsK : List Kd → List Value
  | [] => []
  | k :: r => .int .i64 k.s :: .slice k.a k.l.length k.c :: cellsK r
theorem cellsK_append : ∀ (a b : List Kd), cellsK (a ++ b) = cellsK a ++ cellsK b
  | [], _ => rfl
  | k :: a, b => by simp [cellsK, cellsK_append a b]
theorem cellsK_len : ∀ (ks : List Kd), (cellsK ks).length = ks.length * 2
  | [] => rfl
  | k :: r => by simp [cellsK, cellsK_len r]; omega
theorem cellsK_at : ∀ (ks : List Kd) (i : Nat) (h : i < ks.length), (cellsK ks)[i * 2]? = some (.int .i64 ks[i].s) ∧ (cellsK ks)[i * 2 + 1]? = some (.slice ks[i].a ks[i].l.length ks[i].c)
  | k :: r, 0, _ => by simp [cellsK]
  | k :: r, i + 1, h => by
    have := cellsK_at r i (by simpa using h)
    rw [show (i + 1) * 2 = i * 2 + 2 from by omega, show i * 2 + 2 + 1 = i * 2 + 1 + 2 from by omega]
    simpa [cellsK] using this
theorem cellsK_set : ∀ (ks : List Kd) (i : Nat) (k : Kd), i < ks.length → ((cellsK ks).set (i * 2) (.int .i64 k.s)).set (i * 2 + 1) (.slice k.a k.l.length k.c) = cellsK (ks.set i k)
  | x :: r, 0, k, _ => by simp [cellsK]
  | x :: r, i + 1, k, h => by
    have := cellsK_set r i k (by simpa using h)
    rw [show (i + 1) * 2 = i * 2 + 2 from by omega, show i * 2 + 2 + 1 = i * 2 + 1 + 2 from by omega]
    simp only [cellsK, List.set_cons_succ, this]
theorem cellsK_one : ∀ (ks : List Kd), ∀ v ∈ cellsK ks, v.oneCell' = true
  | [], v, h => by cases h
  | k :: r, v, h => by
    simp only [cellsK, List.mem_cons] at h
    rcases h with rfl | rfl | h
    · rfl
    · rfl
    · exact cellsK_one r v h

theorem Try.infoK : (Try.prog.info? 24).map (fun i => (i.zero, i.size, i.bytes)) = some (some (.agg #[.int .i64 0, .slice none 0 0]), 2, 32) := by kernel_rfl

/-- A row of kinds of one's own. -/
def RowK (w : World) (base : Nat) (a : Option Addr) (ks : List Kd) (cap : Nat) : Prop := w.ownsRow base 24 2 (.slice a ks.length cap) ks.length (cellsK ks)
/-- The block of a row. -/
def ob (a : Option Addr) : Option Nat := a.map (fun p => p.block)
theorem ob_own (a : Option Addr) (n c : Nat) : (Value.slice a n c).ownBlock = ob a := by cases a <;> rfl

theorem owns_formK {w : World} {base n : Nat} {v : Value} {xs : List Value} (h : w.ownsRow base 24 2 v n xs) : ∃ a cap, v = .slice a n cap := by
  obtain ⟨_, ⟨rfl, rfl⟩ | ⟨g, c', cur, rfl, _⟩⟩ := h
  · exact ⟨_, _, rfl⟩
  · exact ⟨_, _, rfl⟩
theorem rowK_nil (w : World) (base : Nat) : RowK w base none [] 0 := World.ownsRow_nil _ _ _ _
theorem RowK.ge {w : World} {base cap : Nat} {a : Option Addr} {ks : List Kd} (h : RowK w base a ks cap) : ∀ g, ob a = some g → base ≤ g ∧ g < w.heap.size := fun g hg => World.ownsRow.lt h g (by rw [ob_own]; exact hg)
theorem RowK.keep {w w' : World} {base cap : Nat} {a : Option Addr} {ks : List Kd} (h : RowK w base a ks cap) (hb : Below w.heap.size w w') : RowK w' base a ks cap := by
  obtain ⟨h0, h1 | ⟨g, c', cur, h1, hg, h2, h3⟩⟩ := h
  · exact ⟨h0, .inl h1⟩
  · exact ⟨h0, .inr ⟨g, c', cur, h1, hg, by rw [hb.block g (Array.getElem?_eq_some_iff.1 h2).1]; exact h2, h3⟩⟩
/-- A row whose block stays. -/
theorem RowK.stay {w w' : World} {base cap : Nat} {a : Option Addr} {ks : List Kd} (h : RowK w base a ks cap) (hb : ∀ g, ob a = some g → w'.heap[g]? = w.heap[g]?) : RowK w' base a ks cap := by
  obtain ⟨h0, h1 | ⟨g, c', cur, h1, hg, h2, h3⟩⟩ := h
  · exact ⟨h0, .inl h1⟩
  · refine ⟨h0, .inr ⟨g, c', cur, h1, hg, ?_, h3⟩⟩
    cases h1
    rw [hb g rfl]; exact h2
theorem RowK.cells {w : World} {base cap : Nat} {a : Option Addr} {ks : List Kd} (h : RowK w base a ks cap) (i : Nat) (hi : i < ks.length) : ∃ g, a = some ⟨g, 0, none⟩ ∧ g < w.heap.size ∧ w.cell? ⟨g, i * 2, none⟩ = some (.int .i64 ks[i].s) ∧ w.cell? ⟨g, i * 2 + 1, none⟩ = some (.slice ks[i].a ks[i].l.length ks[i].c) := by
  have h' := h
  obtain ⟨_, ⟨h1, h2⟩ | ⟨g, c', cur, h1, hg, h2, _⟩⟩ := h
  · omega
  · cases h1
    obtain ⟨e0, e1⟩ := cellsK_at ks i hi
    refine ⟨g, rfl, (Array.getElem?_eq_some_iff.1 h2).1, ?_, ?_⟩
    · rw [World.ownsRow.cellAt h' (i * 2) (by omega)]; exact e0
    · rw [World.ownsRow.cellAt h' (i * 2 + 1) (by omega)]; exact e1
theorem RowK.kind {w : World} {base cap : Nat} {a : Option Addr} {ks : List Kd} (h : RowK w base a ks cap) : ∀ g, ob a = some g → ∃ cur, w.heap[g]? = some (.cells cur 24 (0, 0)) := by
  intro g hg
  obtain ⟨_, ⟨h1, _⟩ | ⟨g', c', cur, h1, _, h2, _⟩⟩ := h
  · simp only [Value.slice.injEq] at h1
    obtain ⟨rfl, _⟩ := h1
    cases hg
  · cases h1
    cases hg
    exact ⟨cur, h2⟩

/-- Two rows of different kinds lie in different blocks. -/
theorem rows_apart {w : World} {base base' n n' s s' : Nat} {e e' : TypeId} {v v' : Value} {xs xs' : List Value} (h : w.ownsRow base e s v n xs) (h' : w.ownsRow base' e' s' v' n' xs') (he : e ≠ e') : v.ownBlock = none ∨ v.ownBlock ≠ v'.ownBlock := by
  obtain ⟨_, ⟨rfl, _⟩ | ⟨g, c, cur, rfl, _, hg, _⟩⟩ := h
  · exact .inl rfl
  · refine .inr fun ee => ?_
    obtain ⟨_, ⟨rfl, _⟩ | ⟨g', c', cur', rfl, _, hg', _⟩⟩ := h'
    · simp [Value.ownBlock] at ee
    · simp [Value.ownBlock] at ee
      subst ee
      rw [hg] at hg'
      simp at hg'
      exact he hg'.2

/-- A box of another kind is no row. -/
theorem box_apart {w : World} {g base n s : Nat} {t e : TypeId} {cs : Array Value} {v : Value} {xs : List Value} (h : w.heap[g]? = some (.cells cs t (0, 0))) (h' : w.ownsRow base e s v n xs) (he : t ≠ e) : some g ≠ v.ownBlock := by
  intro ee
  obtain ⟨_, ⟨rfl, _⟩ | ⟨g', c', cur', rfl, _, hg', _⟩⟩ := h'
  · simp [Value.ownBlock] at ee
  · simp [Value.ownBlock] at ee
    subst ee
    rw [h] at hg'
    simp at hg'
    exact he hg'.2

/-- A kind is appended to a row of one's own, as a run. -/
theorem appK (w : World) (base : Nat) (hbase : base ≤ w.heap.size) (a : Option Addr) (ks : List Kd) (cap : Nat) (h : RowK w base a ks cap) (q c : Nat) (k : Kd) (h0 : w.cell? ⟨q, 0, none⟩ = some (.int .i64 k.s)) (h1 : w.cell? ⟨q, 1, none⟩ = some (.slice k.a k.l.length k.c)) (hlen : ks.length ≤ 1000000) :
    ∃ a' cap' w', (Builtin.append_ #[50, 50] 50 #[.slice a ks.length cap, .slice (some ⟨q, 0, none⟩) 1 c]).run Try.prog w = .ok (.slice a' (ks.length + 1) cap') w' ∧ RowK w' base a' (ks ++ [k]) cap' ∧ w.grownBy w' (ob a) ∧ (ob a' = ob a ∨ ob a' = some w.heap.size) := by
  obtain ⟨i0, hi, hz0, hz1, hz2⟩ := info_parts Try.infoK
  obtain ⟨v', w', hr, h2, h3, _, h4⟩ := run_append_own_at (P := Try.prog) w base 50 50 24 i0 (.agg #[.int .i64 0, .slice none 0 0]) 2 32 Try.underlying50 hi hz0 hz1 hz2 rfl (by decide)
    (.slice a ks.length cap) ks.length (cellsK ks) h ⟨q, 0, none⟩ 1 c [.int .i64 k.s, .slice k.a k.l.length k.c] rfl (by
      intro j u hj
      match j, hj with
      | 0, hj => simp at hj; subst hj; simpa [Addr.add] using h0
      | 1, hj => simp at hj; subst hj; simpa [Addr.add] using h1) (by
      intro u hu
      simp at hu
      rcases hu with rfl | rfl <;> rfl) (by unfold maxLen; omega) (by omega) hbase
  obtain ⟨a', cap', rfl⟩ := owns_formK h2
  have e : cellsK (ks ++ [k]) = cellsK ks ++ [.int .i64 k.s, .slice k.a k.l.length k.c] := by rw [cellsK_append]; rfl
  rw [ob_own] at h3 h4
  rw [ob_own] at h4
  exact ⟨a', cap', w', hr, by rw [RowK, e, List.length_append]; exact h2, h3, h4⟩

/-- Of the blocks that are there just t and r may be others. -/
structure T2 (t : Nat) (r : Option Nat) (w w' : World) : Prop where
  os : w'.os = w.os
  tape : w'.tape = w.tape
  output : w'.output = w.output
  size : w.heap.size ≤ w'.heap.size
  block : ∀ i, i < w.heap.size → i ≠ t → some i ≠ r → w'.heap[i]? = w.heap[i]?
theorem T2.below {t : Nat} {r : Option Nat} {w w' : World} {base : Nat} (h : T2 t r w w') (h1 : base ≤ t) (h2 : ∀ g, r = some g → base ≤ g) (hs : base ≤ w.heap.size) : Below base w w' :=
  ⟨h.os, h.tape, h.output, h.size, fun i hi => h.block i (by omega) (by omega) (fun e => by have := h2 i e.symm; omega)⟩

/-- A table: its box, its row, a list for each kind. -/
structure Tb (w : World) (base lb t : Nat) (ar : Option Addr) (cr : Nat) (ks : List Kd) : Prop where
  box : w.heap[t]? = some (.cells #[.slice ar ks.length cr] 70 (0, 0))
  row : RowK w base ar ks cr
  lists : ∀ k ∈ ks, OwnsI w lb k.a k.l k.c
  right : ∀ k ∈ ks, checkK k.s k.l = 0
  all : ∀ k ∈ ks, AllI k.l
  len : ks.length ≤ 64
  ge : base ≤ t
theorem Tb.lt {w : World} {base lb t cr : Nat} {ar : Option Addr} {ks : List Kd} (h : Tb w base lb t ar cr ks) : t < w.heap.size := (Array.getElem?_eq_some_iff.1 h.box).1
theorem Tb.cell {w : World} {base lb t cr : Nat} {ar : Option Addr} {ks : List Kd} (h : Tb w base lb t ar cr ks) : w.cell? ⟨t, 0, none⟩ = some (.slice ar ks.length cr) := cell_of_row _ _ 0 _ _ _ h.box
theorem Tb.thawed {w : World} {base lb t cr : Nat} {ar : Option Addr} {ks : List Kd} (h : Tb w base lb t ar cr ks) : w.frozen? ⟨t, 0, none⟩ = false := frozen_of_row _ _ 0 _ _ h.box
theorem Tb.keep {w w' : World} {base lb t cr : Nat} {ar : Option Addr} {ks : List Kd} (h : Tb w base lb t ar cr ks) (hb : Below w.heap.size w w') : Tb w' base lb t ar cr ks :=
  ⟨by rw [hb.block t h.lt]; exact h.box, h.row.keep hb, fun k hk => (h.lists k hk).keep hb, h.right, h.all, h.len, h.ge⟩
theorem Tb.drew {w : World} {base lb t cr : Nat} {ar : Option Addr} {ks : List Kd} (h : Tb w base lb t ar cr ks) : Tb w.drew base lb t ar cr ks := ⟨h.box, h.row, h.lists, h.right, h.all, h.len, h.ge⟩
theorem Tb.isI {w : World} {base lb t cr : Nat} {ar : Option Addr} {ks : List Kd} (h : Tb w base lb t ar cr ks) (k : Kd) (hk : k ∈ ks) : IsI w k.a k.l ∧ (k.a = none → k.l = [] ∧ k.c = 0) ∧ k.l.length ≤ 16 :=
  ⟨ownsI_isI (h.all k hk) (h.lists k hk), (h.lists k hk).parts.2.2.1, (check_zero.1 (h.right k hk)).2.2.1⟩
/-- Another row of kinds may grow beside it. -/
theorem Tb.grown {w w' : World} {base base' lb t cr cw : Nat} {ar aw : Option Addr} {ks ws : List Kd} (h : Tb w base lb t ar cr ks) (hw : RowK w base' aw ws cw) (ha : ob ar = none ∨ ob ar ≠ ob aw) (g : w.grownBy w' (ob aw)) : Tb w' base lb t ar cr ks := by
  have hw' : w.ownsRow base' 24 2 (.slice aw ws.length cw) ws.length (cellsK ws) := hw
  have g' : w.grownBy w' (Value.slice aw ws.length cw).ownBlock := by rw [ob_own]; exact g
  refine ⟨?_, ?_, fun k hk => ?_, h.right, h.all, h.len, h.ge⟩
  · rw [g'.block t h.lt (box_apart h.box hw' (by decide))]; exact h.box
  · exact World.ownsRow.kept h.row g' (by rw [ob_own, ob_own]; exact ha)
  · exact World.ownsRow.kept (h.lists k hk) g' (rows_apart (h.lists k hk) hw' (by decide))
/-- Another row of kinds stays where the table turns. -/
theorem RowK.t2 {w w' : World} {base base' lb t cr cw : Nat} {ar aw : Option Addr} {ks ws : List Kd} (h : Tb w base lb t ar cr ks) (hw : RowK w base' aw ws cw) (ha : ob aw = none ∨ ob aw ≠ ob ar) (g : T2 t (ob ar) w w') : RowK w' base' aw ws cw := by
  refine hw.stay (fun i hi => g.block i (hw.ge i hi).2 ?_ ?_)
  · intro e
    subst e
    obtain ⟨cur, hc⟩ := hw.kind i hi
    rw [h.box] at hc
    simp at hc
  · intro e
    rcases ha with ha | ha
    · rw [ha] at hi; cases hi
    · exact ha (hi.trans e)
end Go.Proofs.Ytkcnanpojnbepaa
