/- Lists, moves and spans in memory, by labels: what the document's Plan works on. -/
import Derived.Test.YtebmegghojiegaaDoorLcB
namespace Go.Proofs.YtebmegghojiegaaDoor
open Go.RowKit
set_option linter.unusedVariables false

/-- Only blocks whose labels are in Z turned. -/
structure Wk (Z : Nat → Prop) (L : Nat → Nat) (wr : World) (L' : Nat → Nat) (w' : World) : Prop where
  ext : ∀ k, k < wr.heap.size → L' k = L k
  tu : Tu (fun k => Z (L k)) wr w'
theorem Wk.below {Z : Nat → Prop} {L : Nat → Nat} {wr w' : World} (hb : Below wr.heap.size wr w') : Wk Z L wr L w' := ⟨fun _ _ => rfl, Tu.ofBelow hb⟩
theorem Wk.mono {Z Z' : Nat → Prop} {L L' : Nat → Nat} {wr w' : World} (h : Wk Z L wr L' w') (hz : ∀ x, Z x → Z' x) : Wk Z' L wr L' w' := ⟨h.ext, h.tu.mono (fun k _ hk => hz _ hk)⟩
theorem Wk.trans {Z : Nat → Prop} {L L1 L2 : Nat → Nat} {wr w1 w2 : World} (h : Wk Z L wr L1 w1) (k : Wk Z L1 w1 L2 w2) : Wk Z L wr L2 w2 := by
  have hs := h.tu.size
  refine ⟨fun j hj => (k.ext j (by omega)).trans (h.ext j hj), ⟨k.tu.os.trans h.tu.os, k.tu.tape.trans h.tu.tape, k.tu.output.trans h.tu.output, Nat.le_trans hs k.tu.size, fun i o ho hk => k.tu.block i o (h.tu.block i o ho hk) (by rw [h.ext i (hlt ho)]; exact hk)⟩⟩
/-- Labels: a block that is new belongs to x. -/
def setL (L : Nat → Nat) (n : Nat) (a : Option Addr) (x : Nat) : Nat → Nat := fun k => if k < n then L k else if ob a = some k then x else 0
/-- A list of numbers with the label x. -/
def Li (w wr : World) (L : Nat → Nat) (x : Nat) (a : Option Addr) (l : List Int) (c : Nat) : Prop := OwnsI wr w.heap.size a l c ∧ ∀ g, ob a = some g → L g = x
theorem Li.nil (w wr : World) (L : Nat → Nat) (x : Nat) : Li w wr L x none [] 0 := ⟨ownsI_none _ _, fun g hg => by cases hg⟩
theorem Li.wk {w wr w' : World} {L L' : Nat → Nat} {y : Nat} {a : Option Addr} {l : List Int} {c : Nat} {Z : Nat → Prop} (h : Li w wr L y a l c) (hy : ¬ Z y) (k : Wk Z L wr L' w') : Li w w' L' y a l c :=
  ⟨h.1.same (fun g o hg ho => k.tu.block g o ho (by rw [h.2 g hg]; exact hy)), fun g hg => by rw [k.ext g (h.1.lt g hg)]; exact h.2 g hg⟩
theorem li_app {w wr : World} {L : Nat → Nat} {x : Nat} {a : Option Addr} {l : List Int} {c : Nat} (h : Li w wr L x a l c) (hw : w.heap.size ≤ wr.heap.size) (n : Nat) (hn : l.length = n) (v : Int) (hl : n ≤ 1000000) (D : World) (hD : wr.alloc (.cells #[.int .i64 v] 3) = D) :
    ∃ a' c' w' L', (Builtin.append_ #[51, 51] 51 #[.slice a n c, .slice (some ⟨wr.heap.size, 0, none⟩) 1 1]).run Tryd.prog D = .ok (.slice a' (n + 1) c') w' ∧ Li w w' L' x a' (l ++ [v]) c' ∧ Wk (fun y => y = x) L wr L' w' := by
  have bD : Below wr.heap.size wr D := by rw [← hD]; exact (Below.refl _ wr).alloc (Nat.le_refl _) _
  have cD : D.cell? ⟨wr.heap.size, 0, none⟩ = some (.int .i64 v) := by rw [← hD]; exact cell_of_row _ _ 0 _ _ _ (Go.heap_alloc_new wr _)
  have sD := bD.size
  obtain ⟨a', c', w', hr, o, u, ho⟩ := appI_run w.heap.size D (by omega) a l n c (h.1.keep bD) hn wr.heap.size v 1 cD (by omega)
  refine ⟨a', c', w', setL L D.heap.size a' x, hr, ⟨o, fun g hg => ?_⟩, ⟨fun k hk => if_pos (by omega), (Tu.ofBelow bD).trans (u.mono (fun k _ hk => h.2 k hk))⟩⟩
  rcases ho with e | e
  · rw [e] at hg
    have := h.1.lt g hg
    show (if g < D.heap.size then L g else if ob a' = some g then x else 0) = x
    rw [if_pos (by omega)]; exact h.2 g hg
  · have hg' := hg
    rw [e] at hg'
    have : D.heap.size = g := Option.some.inj hg'
    show (if g < D.heap.size then L g else if ob a' = some g then x else 0) = x
    rw [if_neg (by omega), if_pos hg]
/-- Moves with the label 2. -/
def Lm (w wr : World) (L : Nat → Nat) (a : Option Addr) (l : List Mv) (c : Nat) : Prop := Vs wr w.heap.size a l c ∧ ∀ g, ob a = some g → L g = 2
theorem Lm.wk {w wr w' : World} {L L' : Nat → Nat} {a : Option Addr} {l : List Mv} {c : Nat} {Z : Nat → Prop} (h : Lm w wr L a l c) (hy : ¬ Z 2) (k : Wk Z L wr L' w') : Lm w w' L' a l c :=
  ⟨h.1.same (fun g o hg ho => k.tu.block g o ho (by rw [h.2 g hg]; exact hy)), fun g hg => by rw [k.ext g (h.1.ge g hg).2.1]; exact h.2 g hg⟩
theorem lm_app {w wr : World} {L : Nat → Nat} {a : Option Addr} {l : List Mv} {c : Nat} (h : Lm w wr L a l c) (hw : w.heap.size ≤ wr.heap.size) (n : Nat) (hn : l.length = n) (v : Mv) (hl : n < 1000000) (D : World) (hD : wr.alloc (.cells #[.int .i64 v.fr, .int .i64 v.to, .int .i64 v.ln] 92) = D) :
    ∃ a' c' w' L', (Builtin.append_ #[88, 88] 88 #[.slice a n c, .slice (some ⟨wr.heap.size, 0, none⟩) 1 1]).run Tryd.prog D = .ok (.slice a' (n + 1) c') w' ∧ Lm w w' L' a' (l ++ [v]) c' ∧ Wk (fun y => y = 2) L wr L' w' := by
  have bD : Below wr.heap.size wr D := by rw [← hD]; exact (Below.refl _ wr).alloc (Nat.le_refl _) _
  have cD : D.heap[wr.heap.size]? = some (.cells #[.int .i64 v.fr, .int .i64 v.to, .int .i64 v.ln] 92 (0, 0)) := by rw [← hD]; exact Go.heap_alloc_new wr _
  have sD := bD.size
  obtain ⟨a', c', w', hr, o, u, ho⟩ := appV_run3 w.heap.size D (by omega) a l n c (h.1.keep bD) hn wr.heap.size v 1 cD (by omega)
  refine ⟨a', c', w', setL L D.heap.size a' 2, hr, ⟨o, fun g hg => ?_⟩, ⟨fun k hk => if_pos (by omega), (Tu.ofBelow bD).trans (u.mono (fun k _ hk => h.2 k hk))⟩⟩
  rcases ho with e | e
  · rw [e] at hg
    have := (h.1.ge g hg).2.1
    show (if g < D.heap.size then L g else if ob a' = some g then 2 else 0) = 2
    rw [if_pos (by omega)]; exact h.2 g hg
  · have hg' := hg
    rw [e] at hg'
    have : D.heap.size = g := Option.some.inj hg'
    show (if g < D.heap.size then L g else if ob a' = some g then 2 else 0) = 2
    rw [if_neg (by omega), if_pos hg]
theorem ownsRow_put {w : World} {B : Nat} {e : TypeId} {size g n c : Nat} {xs : List Value} (h : w.ownsRow B e size (.slice (some ⟨g, 0, none⟩) n c) n xs) (j : Nat) (v : Value) : (w.setCell ⟨g, j, none⟩ v).ownsRow B e size (.slice (some ⟨g, 0, none⟩) n c) n (xs.set j v) := by
  obtain ⟨h0, ⟨h1, _⟩ | ⟨q, c', cur, h1, hg1, h2, h3, h4, h5, h6⟩⟩ := h
  · cases h1
  · cases h1
    refine ⟨by simp [h0], .inr ⟨g, c, cur.setIfInBounds j v, rfl, hg1, heap_put h2, h3, h4, by simpa using h5, ?_⟩⟩
    rw [Array.toList_setIfInBounds, List.take_set, h6]
/-- The list of a row is another. -/
def Rw.re (r : Rw) (a : Option Addr) (l : List Int) (k : Nat) : Rw := ⟨⟨r.p, r.c, r.s, l⟩, a, k⟩
theorem flat_set : ∀ (rs : List Rw) (i : Nat) (h : i < rs.length) (a : Option Addr) (l : List Int) (k : Nat), (rs.set i (rs[i].re a l k)).flatMap Rw.cs = (rs.flatMap Rw.cs).set (i * 4 + 3) (.slice a l.length k)
  | r :: rs, 0, _, a, l, k => by simp [Rw.cs, Rw.re]
  | r :: rs, i + 1, h, a, l, k => by
    have := flat_set rs i (by simpa using h) a l k
    rw [List.set_cons_succ, List.flatMap_cons, List.flatMap_cons, List.getElem_cons_succ, this]
    rw [List.set_append_right _ _ (by simp [Rw.cs]; omega)]
    congr 2
    simp [Rw.cs]; omega
/-- Spans with their lists, each list with a label of its own. -/
def Dp (w wr : World) (L : Nat → Nat) (ga : Option Addr) (cap : Nat) (us : List Td) : Prop := ∃ rs : List Rw, rs.map Rw.toTd = us ∧ wr.ownsRow w.heap.size 58 4 (.slice ga us.length cap) us.length (rs.flatMap Rw.cs) ∧ (∀ g, ob ga = some g → L g = 1) ∧
  ∀ i (hi : i < rs.length), Li w wr L (10 + i) rs[i].a rs[i].l rs[i].k
theorem Dp.nil (w wr : World) (L : Nat → Nat) : Dp w wr L none 0 [] := ⟨[], rfl, World.ownsRow_nil _ _ _ _, (fun g hg => by cases hg), (fun i hi => by simp at hi)⟩
theorem Dp.blk {w wr : World} {L : Nat → Nat} {ga : Option Addr} {cap : Nat} {us : List Td} (h : Dp w wr L ga cap us) : ∀ g, ob ga = some g → ga = some ⟨g, 0, none⟩ ∧ L g = 1 ∧ w.heap.size ≤ g ∧ ∃ cur, wr.heap[g]? = some (.cells cur 58 (0, 0)) := by
  obtain ⟨rs, _, ⟨_, ⟨h1, _⟩ | ⟨q, c', cur, h1, hb, h2, _⟩⟩, hL, _⟩ := h
  · intro g hg; injection h1 with e1; subst e1; cases hg
  · intro g hg
    cases h1; cases hg
    exact ⟨rfl, hL q rfl, hb, cur, h2⟩
theorem row_same {w w' : World} {B : Nat} {e : TypeId} {size n cap : Nat} {ga : Option Addr} {xs : List Value} (h : w.ownsRow B e size (.slice ga n cap) n xs) (he : ∀ g o, ob ga = some g → w.heap[g]? = some o → w'.heap[g]? = some o) : w'.ownsRow B e size (.slice ga n cap) n xs := by
  obtain ⟨h0, h1' | ⟨q, c', cu, e1, hb, h3, h4⟩⟩ := h
  · exact ⟨h0, .inl h1'⟩
  · exact ⟨h0, .inr ⟨q, c', cu, e1, hb, he q _ (by cases e1; rfl) h3, h4⟩⟩
theorem Dp.wk {w wr w' : World} {L L' : Nat → Nat} {ga : Option Addr} {cap : Nat} {us : List Td} {Z : Nat → Prop} (h : Dp w wr L ga cap us) (h1 : ¬ Z 1) (h10 : ∀ i, ¬ Z (10 + i)) (k : Wk Z L wr L' w') : Dp w w' L' ga cap us := by
  have hb := h.blk
  obtain ⟨rs, e, hr, hg, hl⟩ := h
  refine ⟨rs, e, row_same hr (fun g o hgo ho => k.tu.block g o ho (by rw [hg g hgo]; exact h1)), fun g hgo => ?_, fun i hi => (hl i hi).wk (h10 i) k⟩
  obtain ⟨_, q1, _, cur, q2⟩ := hb g hgo
  rw [k.ext g (hlt q2)]; exact q1
theorem Dp.told {w wr : World} {L : Nat → Nat} {ga : Option Addr} {cap : Nat} {us : List Td} (h : Dp w wr L ga cap us) : Told wr w.heap.size (.slice ga us.length cap) us := by
  obtain ⟨rs, e, hr, _, hl⟩ := h
  refine ⟨rs, e, hr, fun r hm => ?_⟩
  obtain ⟨i, hi, rfl⟩ := List.getElem_of_mem hm
  exact (hl i hi).1
/-- The span i: its cells, and its list. -/
theorem Dp.at {w wr : World} {L : Nat → Nat} {ga : Option Addr} {cap : Nat} {us : List Td} (h : Dp w wr L ga cap us) (i : Nat) (hi : i < us.length) : ∃ g la lk, ga = some ⟨g, 0, none⟩ ∧ wr.cell? ⟨g, i * 4, none⟩ = some (.int .i64 us[i].p) ∧ wr.cell? ⟨g, i * 4 + 1, none⟩ = some (.int .i64 us[i].c) ∧ wr.cell? ⟨g, i * 4 + 2, none⟩ = some (.int .i64 us[i].s) ∧ wr.cell? ⟨g, i * 4 + 3, none⟩ = some (.slice la us[i].l.length lk) ∧ Li w wr L (10 + i) la us[i].l lk := by
  have hb := h.blk
  obtain ⟨rs, rfl, hr, _, hl⟩ := h
  have hi' : i < rs.length := by simpa using hi
  obtain ⟨q0, q1, q2, q3⟩ := flat_at rs i hi'
  have hll : (rs.map Rw.toTd).length = rs.length := by simp
  obtain ⟨g, rfl⟩ : ∃ g, ga = some ⟨g, 0, none⟩ := by
    obtain ⟨_, ⟨_, h2⟩ | ⟨q, c', cur, h1, _⟩⟩ := hr
    · omega
    · cases h1; exact ⟨q, rfl⟩
  refine ⟨g, rs[i].a, rs[i].k, rfl, ?_, ?_, ?_, ?_, ?_⟩
  · rw [World.ownsRow.cellAt hr (i * 4) (by omega)]; simpa using q0
  · rw [World.ownsRow.cellAt hr (i * 4 + 1) (by omega)]; simpa using q1
  · rw [World.ownsRow.cellAt hr (i * 4 + 2) (by omega)]; simpa using q2
  · rw [World.ownsRow.cellAt hr (i * 4 + 3) (by omega)]; simpa using q3
  · simpa using hl i hi'
/-- The list of the span i becomes another, with its label. -/
theorem Dp.relist {w wr w9 : World} {L L' : Nat → Nat} {g cap : Nat} {us : List Td} (h : Dp w wr L (some ⟨g, 0, none⟩) cap us) (i : Nat) (hi : i < us.length) (k : Wk (fun y => y = 10 + i) L wr L' w9) (a' : Option Addr) (l' : List Int) (c' n' : Nat) (hn : l'.length = n') (hl' : Li w w9 L' (10 + i) a' l' c') :
    Dp w (w9.setCell ⟨g, i * 4 + 3, none⟩ (.slice a' n' c')) L' (some ⟨g, 0, none⟩) cap (us.set i ⟨us[i].p, us[i].c, us[i].s, l'⟩) ∧ Wk (fun y => y = 1 ∨ y = 10 + i) L wr L' (w9.setCell ⟨g, i * 4 + 3, none⟩ (.slice a' n' c')) ∧ w9.frozen? ⟨g, i * 4 + 3, none⟩ = false := by
  subst hn
  obtain ⟨_, hg, _, cur, hc⟩ := h.blk g rfl
  obtain ⟨rs, rfl, hr, _, hl⟩ := h
  have hi' : i < rs.length := by simpa using hi
  have on : Only g w9 (w9.setCell ⟨g, i * 4 + 3, none⟩ (.slice a' l'.length c')) := Only.set g _ _ w9
  have hg9 : L' g = 1 := by rw [k.ext g (hlt hc)]; exact hg
  have b9 := k.tu.block g _ hc (by rw [hg]; omega)
  have hll : (rs.map Rw.toTd).length = rs.length := by simp
  have hr9 : w9.ownsRow w.heap.size 58 4 (.slice (some ⟨g, 0, none⟩) (rs.map Rw.toTd).length cap) (rs.map Rw.toTd).length (rs.flatMap Rw.cs) := row_same hr (fun q o hq ho => by cases hq; exact k.tu.block g o ho (by rw [hg]; omega))
  have lne : ∀ (x : Nat) (a : Option Addr) (l : List Int) (c : Nat), x ≠ 1 → Li w w9 L' x a l c → Li w (w9.setCell ⟨g, i * 4 + 3, none⟩ (.slice a' l'.length c')) L' x a l c := fun x a l c hx hL =>
    ⟨hL.1.same (fun q o hq ho => by rw [on.block q (fun e => by have := hL.2 q hq; rw [e, hg9] at this; exact hx this.symm)]; exact ho), hL.2⟩
  refine ⟨⟨rs.set i (rs[i].re a' l' c'), ?_, ?_, fun q hq => by cases hq; exact hg9, fun j hj => ?_⟩, ⟨k.ext, (k.tu.mono (fun q _ hq => .inr hq)).trans (Tu.ofOnly on (.inl hg))⟩, frozen_of_row _ _ _ _ _ b9⟩
  · rw [List.map_set]; simp [Rw.re]
  · rw [List.length_set, flat_set rs i hi']
    exact ownsRow_put hr9 _ _
  · rw [List.length_set] at hj
    by_cases e : i = j
    · subst e
      simp only [List.getElem_set_self]
      exact lne _ _ _ _ (by omega) hl'
    · rw [List.getElem_set_ne e]
      exact lne _ _ _ _ (by omega) ((hl j hj).wk (by omega) k)
/-- One span more behind, its list in blocks that are new. -/
theorem dp_app {w wr X : World} {L L1 : Nat → Nat} {ga : Option Addr} {cap : Nat} {us : List Td} (h : Dp w wr L ga cap us) (hw : w.heap.size ≤ wr.heap.size) (n : Nat) (hn : us.length = n) (hl : n ≤ 100000) (hX : Wk (fun y => y = 10 + n) L wr L1 X) (t : Td) (a9 : Option Addr) (c9 ln : Nat) (hln : t.l.length = ln) (hL9 : Li w X L1 (10 + n) a9 t.l c9) (D : World) (hD : X.alloc (.cells #[.int .i64 t.p, .int .i64 t.c, .int .i64 t.s, .slice a9 ln c9] 58) = D) :
    ∃ ga' cap' w' L', (Builtin.append_ #[24, 24] 24 #[.slice ga n cap, .slice (some ⟨X.heap.size, 0, none⟩) 1 1]).run Tryd.prog D = .ok (.slice ga' (n + 1) cap') w' ∧ Dp w w' L' ga' cap' (us ++ [t]) ∧ Wk (fun y => y = 1 ∨ y = 10 + n) L wr L' w' := by
  subst hln
  subst hn
  have sX := hX.tu.size
  have bD : Below X.heap.size X D := by rw [← hD]; exact (Below.refl _ X).alloc (Nat.le_refl _) _
  have sD := bD.size
  have rD : D.heap[X.heap.size]? = some (.cells (dcells t.p t.c t.s a9 t.l.length c9) 58 (0, 0)) := by rw [← hD]; exact Go.heap_alloc_new X _
  have hb := h.blk
  obtain ⟨rs, e, hr, hg, hli⟩ := h
  have hrl : rs.length = us.length := by rw [← e, List.length_map]
  have hrX : X.ownsRow w.heap.size 58 4 (.slice ga us.length cap) us.length (rs.flatMap Rw.cs) := row_same hr (fun g o hgo ho => hX.tu.block g o ho (by rw [hg g hgo]; omega))
  have hgX : ∀ g, ob ga = some g → L1 g = 1 ∧ g < X.heap.size := fun g hgo => by
    obtain ⟨_, q1, _, cur, q2⟩ := hb g hgo
    exact ⟨by rw [hX.ext g (hlt q2)]; exact q1, by have := hlt q2; omega⟩
  obtain ⟨i0, hi, hz0, hz2, hz3⟩ := info_parts Tryd.infoSpan
  obtain ⟨v', w', hr', k2, k3, _, k4⟩ := run_append_own_at (P := Tryd.prog) D w.heap.size 24 24 58 i0 _ 4 48 Tryd.undSpans hi hz0 hz2 hz3 rfl (by decide) (.slice ga us.length cap) us.length (rs.flatMap Rw.cs) (ownsRow_keepB hrX bD) ⟨X.heap.size, 0, none⟩ 1 1 (Rw.cs ⟨t, a9, c9⟩) rfl (fun j u hj => by
      rw [addr_add, Nat.zero_add, cell_of_row _ _ _ _ _ _ rD]
      show ((Rw.cs ⟨t, a9, c9⟩).toArray)[j]? = some u
      rw [List.getElem?_toArray]; exact hj) (fun u hu => by
      simp [Rw.cs] at hu
      rcases hu with rfl | rfl | rfl | rfl <;> rfl) (by unfold maxLen; omega) (by omega) (by omega)
  obtain ⟨ga', cap', rfl⟩ : ∃ a' cap', v' = .slice a' (us.length + 1) cap' := by
    obtain ⟨_, ⟨h4, h5⟩ | ⟨g, c', cur, h4, _⟩⟩ := k2
    · exact ⟨_, _, by rw [h4, h5]⟩
    · exact ⟨_, _, h4⟩
  rw [ob_own] at k3 k4
  rw [ob_own] at k4
  have tuD : Tu (fun k => L1 k = 1) D w' := Tu.grown k3 (fun g hgo => (hgX g hgo).1)
  have W2 : Wk (fun y => y = 1) L1 X (setL L1 D.heap.size ga' 1) w' := ⟨fun k hk => if_pos (by omega), (Tu.ofBelow bD).trans tuD⟩
  refine ⟨ga', cap', w', setL L1 D.heap.size ga' 1, hr', ⟨rs ++ [⟨t, a9, c9⟩], by rw [List.map_append, e]; rfl, ?_, fun g hgo => ?_, fun i hi => ?_⟩, (hX.mono (fun y hy => .inr hy)).trans (W2.mono (fun y hy => .inl hy))⟩
  · rw [List.flatMap_append, List.length_append]
    simpa using k2
  · rcases k4 with e4 | e4
    · rw [e4] at hgo
      obtain ⟨q1, q2⟩ := hgX g hgo
      show (if g < D.heap.size then L1 g else if ob ga' = some g then 1 else 0) = 1
      rw [if_pos (by omega)]; exact q1
    · have hg' := hgo
      rw [e4] at hg'
      have : D.heap.size = g := Option.some.inj hg'
      show (if g < D.heap.size then L1 g else if ob ga' = some g then 1 else 0) = 1
      rw [if_neg (by omega), if_pos hgo]
  · rw [List.length_append, List.length_singleton] at hi
    by_cases ei : i = rs.length
    · subst ei
      simp only [List.getElem_append_right (Nat.le_refl rs.length), Nat.sub_self, List.getElem_cons_zero]
      rw [hrl]
      exact hL9.wk (by omega) W2
    · have hi2 : i < rs.length := by omega
      rw [List.getElem_append_left hi2]
      exact ((hli i hi2).wk (by omega) hX).wk (by omega) W2
end Go.Proofs.YtebmegghojiegaaDoor

/- The document's Copy, its lists told apart by labels. -/
namespace Go.Proofs.YtebmegghojiegaaDoor
open Go.RowKit
set_option linter.unusedVariables false

set_option maxRecDepth 20000 in
set_option maxHeartbeats 4000000 in
theorem rcopy2_any (a : Option Addr) (n cap : Nat) (ts : List Td) (w : World) (h : RdT w a ts) (hn : ts.length = n) (hl : n ≤ 100000) (hL : ∀ t ∈ ts, t.l.length ≤ 17592186044416) :
    Calls Tryd.prog 22 #[.slice a n cap] w fun e w' => ∃ a' c' L, e = .returned (.slice a' n c') ∧ Dp w w' L a' c' ts ∧ (∀ k, k < w.heap.size → L k = 0) ∧ Below w.heap.size w w' := by
  have H : Hid (RdT w a ts) := h
  have HN : Hid (ts.length = n) := hn
  have HL : Hid (∀ t ∈ ts, t.l.length ≤ 17592186044416) := hL
  clear h hn hL
  go_enter Tryd.func22, Tryd.ntmps22
  go_wp2_with fail
  go_loopw [3, 8] (fun lv iv wr => ∃ (k : Nat) (av : Option Addr) (cv : Nat) (L : Nat → Nat), k ≤ n ∧ iv = .int .i64 (k : Nat) ∧ lv = .slice av k cv ∧ Dp w wr L av cv (ts.take k) ∧ (∀ j, j < w.heap.size → L j = 0) ∧ Below w.heap.size w wr) (fun _ iv _ => n - lenW iv)
  case atStart => exact ⟨0, none, 0, fun _ => 0, Nat.zero_le _, rfl, rfl, Dp.nil _ _ _, fun _ _ => rfl, Below.refl _ _⟩
  case round =>
    obtain ⟨k, av, cv, L, hk, rfl, rfl, ht, hlow, hb⟩ := hrel
    rename World => wr
    have HT : Hid (Dp w wr L av cv (ts.take k)) := ht
    have HLW : Hid (∀ j, j < w.heap.size → L j = 0) := hlow
    have HB : Hid (Below w.heap.size w wr) := hb
    clear ht hb hlow
    by_cases hkn : k < n
    · have hkt : k < ts.length := by rw [HN.out]; exact hkn
      obtain ⟨g, off, la, lk, rfl, c0, c1, c2, c3, hI, hl0⟩ := (H.out.keep HB.out) k hkt
      have hl1 := HL.out ts[k] (List.getElem_mem hkt)
      have ET : ts.take k ++ [ts[k]] = ts.take (k + 1) := (List.take_succ_eq_append_getElem hkt).symm
      obtain ⟨t, ht⟩ : ∃ t, ts[k] = t := ⟨_, rfl⟩
      rw [ht] at c0 c1 c2 c3 hI hl0 hl1 ET
      have HET : Hid (ts.take k ++ [t] = ts.take (k + 1)) := ET
      obtain ⟨p, c, s, l⟩ := t
      simp only at c0 c1 c2 c3 hI hl0 hl1
      obtain ⟨ln, hln⟩ : ∃ ln, l.length = ln := ⟨_, rfl⟩
      have HLN : Hid (l.length = ln) := hln
      rw [hln] at c3
      obtain ⟨E1, hE1⟩ : ∃ E1, wr.alloc (.cells #[.int .i64 p, .int .i64 c, .int .i64 s, .slice la ln lk] 58) = E1 := ⟨_, rfl⟩
      have HE1 : Hid (wr.alloc (.cells #[.int .i64 p, .int .i64 c, .int .i64 s, .slice la ln lk] 58) = E1) := hE1
      have B1 : Below wr.heap.size wr E1 := by rw [← hE1]; exact (Below.refl _ wr).alloc (Nat.le_refl _) _
      have R1 : E1.heap[wr.heap.size]? = some (.cells (dcells p c s la ln lk) 58 (0, 0)) := by rw [← hE1]; exact Go.heap_alloc_new wr _
      have z1 : E1.heap.size = wr.heap.size + 1 := by rw [← hE1]; simp
      obtain ⟨E2, hE2⟩ : ∃ E2, E1.alloc (.cells #[] 3) = E2 := ⟨_, rfl⟩
      have HE2 : Hid (E1.alloc (.cells #[] 3) = E2) := hE2
      have B2 : Below E1.heap.size E1 E2 := by rw [← hE2]; exact (Below.refl _ E1).alloc (Nat.le_refl _) _
      have O2 : OwnsI E2 (wr.heap.size + 1) (some ⟨E1.heap.size, 0, none⟩) [] 0 := by
        rw [← hE2]; exact World.ownsRow_made E1 #[] 0 (by omega) (Nat.zero_le _) rfl
      have R2 := bblock B2 R1
      have hw0 := HB.out.size
      obtain ⟨a9, c9, w9, run9, o9, u9⟩ := appAll_run (wr.heap.size + 1) E2 (by have := B2.size; omega) E1.heap.size O2 la l ln lk hln ((hI.keep B1).keep B2) hl1
      have R9 : w9.heap[wr.heap.size]? = some (.cells (dcells p c s la ln lk) 58 (0, 0)) := u9.block _ _ R2 (by omega)
      have B9 : Below wr.heap.size wr w9 := (B1.trans (B2.mono B1.size)).trans ((u9.below (B := wr.heap.size + 1) (fun i e => by omega) (by have := B2.size; omega)).mono (by omega))
      obtain ⟨X, hX⟩ : ∃ X, w9.setCell ⟨wr.heap.size, 3, none⟩ (.slice a9 ln c9) = X := ⟨_, rfl⟩
      have HX : Hid (w9.setCell ⟨wr.heap.size, 3, none⟩ (.slice a9 ln c9) = X) := hX
      have on : Only wr.heap.size w9 X := by rw [← hX]; exact Only.set _ 3 _ w9
      have RX : X.heap[wr.heap.size]? = some (.cells (dcells p c s a9 ln c9) 58 (0, 0)) := by
        rw [← hX, heap_put R9]; simp [dcells]
      have BX : Below wr.heap.size wr X := B9.trans (on.below (Nat.le_refl _))
      have OX : OwnsI X (wr.heap.size + 1) a9 l c9 := by
        obtain ⟨h0, h1 | ⟨g', c'', cur, h1, hb, h3, h4⟩⟩ := o9
        · exact ⟨h0, .inl h1⟩
        · exact ⟨h0, .inr ⟨g', c'', cur, h1, hb, by rw [on.block g' (by omega)]; exact h3, h4⟩⟩
      obtain ⟨D, hD⟩ : ∃ D, X.alloc (.cells #[.int .i64 p, .int .i64 c, .int .i64 s, .slice a9 ln c9] 58) = D := ⟨_, rfl⟩
      have HD : Hid (X.alloc (.cells #[.int .i64 p, .int .i64 c, .int .i64 s, .slice a9 ln c9] 58) = D) := hD
      have KL : (ts.take k).length = k := by rw [List.length_take, HN.out]; omega
      have LW : Li w X (setL L wr.heap.size a9 (10 + k)) (10 + k) a9 l c9 := ⟨OX.mono (by omega), fun g hg => by
        have := OX.ge g hg
        show (if g < wr.heap.size then L g else if ob a9 = some g then 10 + k else 0) = 10 + k
        rw [if_neg (by omega), if_pos hg]⟩
      obtain ⟨ga', cap', w', L', runD, DP', WK'⟩ := dp_app HT.out hw0 k KL (by omega) (X := X) (L1 := setL L wr.heap.size a9 (10 + k)) ⟨fun j hj => if_pos hj, Tu.ofBelow BX⟩ ⟨p, c, s, l⟩ a9 c9 ln hln LW D hD
      have RUND : Hid ((Builtin.append_ #[24, 24] 24 #[.slice av k cv, .slice (some ⟨X.heap.size, 0, none⟩) 1 1]).run Tryd.prog D = .ok (.slice ga' (k + 1) cap') w') := runD
      have DP2 : Hid (Dp w w' L' ga' cap' (ts.take (k + 1))) := by rw [← HET.out]; exact DP'
      have BW' : Hid (Below w.heap.size w w') := HB.out.trans (WK'.tu.below (fun i hi => by
        rcases Nat.lt_or_ge i w.heap.size with e | e
        · have := HLW.out i e; omega
        · exact e) hw0)
      have LW' : Hid (∀ j, j < w.heap.size → L' j = 0) := fun j hj => by rw [WK'.ext j (by omega)]; exact HLW.out j hj
      have RUN9 : Hid ((Builtin.append_ #[51, 51] 51 #[.slice (some ⟨E1.heap.size, 0, none⟩) 0 0, .slice la ln lk]).run Tryd.prog E2 = .ok (.slice a9 ln c9) w9) := run9
      have e3 := dcell3 R2
      have d3 := dcell3 R1
      have f9 : w9.frozen? ⟨wr.heap.size, 3, none⟩ = false := frozen_of_row _ _ _ _ _ R9
      have y3 := dcell3 R9
      have x0 := dcell0 RX
      have x1 := dcell1 RX
      have x2 := dcell2 RX
      have x3 := dcell3 RX
      have k0 : (k : Int) < (n : Int) := by omega
      clear hI hl0 hl1 ET ht hln B1 R1 z1 B2 O2 R2 hw0 run9 o9 u9 B9 on RX BX OX R9 hE1 KL LW runD DP' WK'
      go_upto_region 5 with (fail)
      rw [HE1.out]
      go_wp2_with (first
        | (have q9 := f9; at_builtin; (try rw [HE2.out]); refine wpList_runi rfl rfl _ _ rfl (.slice (some ⟨E1.heap.size, 0, none⟩) 0 0) (.slice la ln lk) _ _ rfl rfl RUN9.out ?_; clear f9)
        | (at_builtin; (try rw [HX.out]); (try rw [HD.out]); refine wpList_run rfl 24 rfl _ _ rfl (.slice av k cv) (.slice (some ⟨X.heap.size, 0, none⟩) 1 1) _ _ rfl rfl RUND.out ?_))
      go_roundw
      case rel => exact ⟨k + 1, ga', cap', L', by omega, by congr 1, rfl, DP2.out, LW'.out, BW'.out⟩
      case measure => simp [lenW]; omega
    · obtain rfl : k = n := by omega
      have F : Hid (Dp w wr L av cv ts) := by
        have := HT.out
        rw [List.take_of_length_le (Nat.le_of_eq HN.out)] at this
        exact this
      go_wp2
      go_ret
      exact ⟨av, cv, L, rfl, F.out, HLW.out, HB.out⟩
end Go.Proofs.YtebmegghojiegaaDoor

/- The rows of spans that the document's Plan works on. -/
namespace Go.Proofs.YtebmegghojiegaaDoor
open Go.RowKit
set_option linter.unusedVariables false

/-- A span as a row, with a list. -/
def rowI (m : List Sn) (i : Nat) (l : List Int) : Td := ⟨((sn m i).pg : Int), ((sn m i).cl : Int), ((sn m i).bts : Int), l⟩
def rowsT (m : List Sn) (G : Nat → Nat → Bool) : List Td := (List.range m.length).map (fun i => rowI m i (lsL (G i) (sn m i).sl))
/-- The rows while a class is collected. -/
def rowsU (m : List Sn) (G : Nat → Nat → Bool) (c k : Nat) : List Td := (List.range m.length).map (fun i => rowI m i (if i < k ∧ (sn m i).cl = c then [] else lsL (G i) (sn m i).sl))
theorem rowsT_len (m : List Sn) (G : Nat → Nat → Bool) : (rowsT m G).length = m.length := by simp [rowsT]
theorem rowsU_len (m : List Sn) (G : Nat → Nat → Bool) (c k : Nat) : (rowsU m G c k).length = m.length := by simp [rowsU]
theorem rowsT_at (m : List Sn) (G : Nat → Nat → Bool) (i : Nat) (h : i < (rowsT m G).length) : (rowsT m G)[i] = rowI m i (lsL (G i) (sn m i).sl) := by simp [rowsT]
theorem rowsU_at (m : List Sn) (G : Nat → Nat → Bool) (c k : Nat) (i : Nat) (h : i < (rowsU m G c k).length) : (rowsU m G c k)[i] = rowI m i (if i < k ∧ (sn m i).cl = c then [] else lsL (G i) (sn m i).sl) := by simp [rowsU]
theorem rowsU_zero (m : List Sn) (G : Nat → Nat → Bool) (c : Nat) : rowsU m G c 0 = rowsT m G := by
  unfold rowsU rowsT
  apply List.map_congr_left
  intro i _
  rw [if_neg (by omega)]
theorem lsL_none (n : Nat) : lsL (fun _ => false) n = [] := by
  induction n with
  | zero => rfl
  | succ n ih => rw [lsL, ih]; simp
theorem rowsU_all (m : List Sn) (G : Nat → Nat → Bool) (c : Nat) : rowsU m G c m.length = rowsT m (clrF G (ownL c m)) := by
  unfold rowsU rowsT
  apply List.map_congr_left
  intro i hi
  have hi := List.mem_range.1 hi
  by_cases h : (sn m i).cl = c
  · have hm : i ∈ ownL c m := (ownU_mem c m i _).2 ⟨hi, h⟩
    rw [if_pos ⟨hi, h⟩, clrF, if_pos hm, lsL_none]
  · have hm : i ∉ ownL c m := fun k => h ((ownU_mem c m i _).1 k).2
    rw [if_neg (fun k => h k.2), clrF, if_neg hm]
theorem rowsU_no (m : List Sn) (G : Nat → Nat → Bool) (c k : Nat) (h : (sn m k).cl ≠ c) : rowsU m G c (k + 1) = rowsU m G c k := by
  unfold rowsU
  apply List.map_congr_left
  intro i _
  by_cases e : i = k
  · subst e; rw [if_neg (fun q => h q.2), if_neg (fun q => h q.2)]
  · have : (i < k + 1 ∧ (sn m i).cl = c) = (i < k ∧ (sn m i).cl = c) := propext ⟨fun q => ⟨by omega, q.2⟩, fun q => ⟨by omega, q.2⟩⟩
    simp only [this]
theorem rowsU_yes (m : List Sn) (G : Nat → Nat → Bool) (c k : Nat) (hk : k < m.length) (h : (sn m k).cl = c) : rowsU m G c (k + 1) = (rowsU m G c k).set k (rowI m k []) := by
  apply List.ext_getElem
  · simp [rowsU]
  · intro i h1 h2
    rw [List.getElem_set, rowsU_at, rowsU_at]
    by_cases e : k = i
    · subst e; rw [if_pos rfl, if_pos ⟨by omega, h⟩]
    · rw [if_neg e]
      have : (i < k + 1 ∧ (sn m i).cl = c) = (i < k ∧ (sn m i).cl = c) := propext ⟨fun q => ⟨by omega, q.2⟩, fun q => ⟨by omega, q.2⟩⟩
      simp only [this]
/-- The numbers of a list of places. -/
def toI (l : List Nat) : List Int := l.map (fun (x : Nat) => (x : Int))
theorem lsL_range {f : Nat → Bool} {sl x : Nat} (hx : x ≤ sl) (h : ∀ y, y < sl → f y = decide (y < x)) : lsL f sl = toI (List.range x) := by
  rw [lsL_N, lsN_congr (g := fun y => decide (y < x)) (fun y hy => h y hy), lsN_upto, Nat.min_eq_left hx]
  rfl
/-- One slot more is filled. -/
theorem rows_fill {m : List Sn} {F : Nat → Nat → Bool} {c : Nat} (hc : c < 7) (j : Nat) (hj : j < (ownL c m).length * clSl c) :
    (ownL c m).getD (j / clSl c) 0 < m.length ∧ lsL (fillF (ownL c m) (clSl c) (clrF F (ownL c m)) j ((ownL c m).getD (j / clSl c) 0)) (sn m ((ownL c m).getD (j / clSl c) 0)).sl = toI (List.range (j % clSl c)) ∧
    rowsT m (fillF (ownL c m) (clSl c) (clrF F (ownL c m)) (j + 1)) = (rowsT m (fillF (ownL c m) (clSl c) (clrF F (ownL c m)) j)).set ((ownL c m).getD (j / clSl c) 0) (rowI m ((ownL c m).getD (j / clSl c) 0) (toI (List.range (j % clSl c)) ++ [((j % clSl c : Nat) : Int)])) := by
  have hs := (clSl_pos c (by omega)).1
  have hr : j / clSl c < (ownL c m).length := Nat.div_lt_of_lt_mul (by rw [Nat.mul_comm]; exact hj)
  have hm : j % clSl c < clSl c := Nat.mod_lt _ hs
  have hd : j = j / clSl c * clSl c + j % clSl c := by have := Nat.div_add_mod j (clSl c); rw [Nat.mul_comm] at this; omega
  have inj : ∀ r q, r < (ownL c m).length → q < (ownL c m).length → (ownL c m).getD r 0 = (ownL c m).getD q 0 → r = q := fun r q h1 h2 h3 => own_inj h1 h2 h3
  obtain ⟨hk, hcl⟩ := own_lt hr
  have e0 := fill_at (F := F) hs inj (j / clSl c) hr j (by omega)
  have e1 := fill_at (F := F) hs inj (j / clSl c) hr (j + 1) (by omega)
  obtain ⟨r, hre⟩ : ∃ r, j / clSl c = r := ⟨_, rfl⟩
  obtain ⟨x, hxe⟩ : ∃ x, j % clSl c = x := ⟨_, rfl⟩
  rw [hre] at hr hk hcl e0 e1 hd ⊢
  rw [hxe] at hm hd ⊢
  obtain ⟨k, hke⟩ : ∃ k, (ownL c m).getD r 0 = k := ⟨_, rfl⟩
  rw [hke] at hk hcl e0 e1 ⊢
  have hsl := clSl_eq hcl
  have l0 : lsL (fillF (ownL c m) (clSl c) (clrF F (ownL c m)) j k) (sn m k).sl = toI (List.range x) := by
    rw [e0, hsl]
    exact lsL_range (by omega) (fun y hy => by congr 1; apply propext; omega)
  have l1 : lsL (fillF (ownL c m) (clSl c) (clrF F (ownL c m)) (j + 1) k) (sn m k).sl = toI (List.range (x + 1)) := by
    rw [e1, hsl]
    exact lsL_range (by omega) (fun y hy => by congr 1; apply propext; omega)
  refine ⟨hk, l0, ?_⟩
  apply List.ext_getElem
  · simp [rowsT]
  · intro i h1 h2
    rw [List.getElem_set, rowsT_at, rowsT_at]
    by_cases e : k = i
    · subst e
      rw [if_pos rfl, l1, List.range_succ]
      simp [toI]
    · rw [if_neg e]
      congr 2
      show fillF (ownL c m) (clSl c) (clrF F (ownL c m)) (j + 1) i = _
      rw [fillF, updF, hre, hke, if_neg (fun q => e q.symm)]
theorem fromU_snoc (m : List Sn) (G : Nat → Nat → Bool) (l : List Nat) (k : Nat) : fromU m G (l ++ [k]) = fromU m G l ++ (lsN (G k) (sn m k).sl).map (sn m k).at := by
  unfold fromU; rw [List.flatMap_append]; simp
theorem ownU_yes {c : Nat} {m : List Sn} {k : Nat} (h : (sn m k).cl = c) : ownU c m (k + 1) = ownU c m k ++ [k] := by rw [ownU, if_pos h]
theorem ownU_no {c : Nat} {m : List Sn} {k : Nat} (h : (sn m k).cl ≠ c) : ownU c m (k + 1) = ownU c m k := by rw [ownU, if_neg h, List.append_nil]
theorem fromU_len {P : Nat} {m : List Sn} (h : Std P m) (G : Nat → Nat → Bool) (c : Nat) : ∀ k, k ≤ m.length → (fromU m G (ownU c m k)).length ≤ 16 * k
  | 0, _ => by simp [ownU, fromU]
  | k + 1, hk => by
    have ih := fromU_len h G c k (by omega)
    by_cases hc : (sn m k).cl = c
    · rw [ownU_yes hc, fromU_snoc, List.length_append, List.length_map, lsN_len]
      have := cnt_le (G k) (sn m k).sl
      have := (h.ok k (by omega)).facts.2.1
      omega
    · rw [ownU_no hc]; omega
/-- Labels: what is new has none. -/
def cutL (L : Nat → Nat) (n : Nat) : Nat → Nat := fun k => if k < n then L k else 0
theorem Wk.fresh {Z : Nat → Prop} {L : Nat → Nat} {wr w' : World} (hb : Below wr.heap.size wr w') : Wk Z L wr (cutL L wr.heap.size) w' := ⟨fun k hk => if_pos hk, Tu.ofBelow hb⟩
theorem cutL_new {L : Nat → Nat} {n k : Nat} (h : n ≤ k) : cutL L n k = 0 := if_neg (by omega)
/-- The spans, the moves. -/
structure Sd (w wr : World) (L : Nat → Nat) (ga : Option Addr) (cap : Nat) (us : List Td) (av : Option Addr) (V : List Mv) (nv cm : Nat) : Prop where
  dp : Dp w wr L ga cap us
  mv : Lm w wr L av V cm
  nvl : V.length = nv
  low : ∀ k, k < w.heap.size → L k = 0
  bel : Below w.heap.size w wr
theorem Wk.bel {Z : Nat → Prop} {L L' : Nat → Nat} {w wr w' : World} (k : Wk Z L wr L' w') (h0 : ¬ Z 0) (low : ∀ j, j < w.heap.size → L j = 0) (bel : Below w.heap.size w wr) : Below w.heap.size w w' ∧ ∀ j, j < w.heap.size → L' j = 0 := by
  have hs := bel.size
  refine ⟨bel.trans (k.tu.below (fun i hi => ?_) hs), fun j hj => by rw [k.ext j (by omega)]; exact low j hj⟩
  rcases Nat.lt_or_ge i w.heap.size with e | e
  · rw [low i e] at hi; exact absurd hi h0
  · exact e
theorem Sd.wk {w wr w' : World} {L L' : Nat → Nat} {ga : Option Addr} {cap : Nat} {us : List Td} {av : Option Addr} {V : List Mv} {nv cm : Nat} {Z : Nat → Prop} (h : Sd w wr L ga cap us av V nv cm) (k : Wk Z L wr L' w') (h0 : ¬ Z 0) (h1 : ¬ Z 1) (h2 : ¬ Z 2) (h10 : ∀ i, ¬ Z (10 + i)) : Sd w w' L' ga cap us av V nv cm := by
  obtain ⟨b, l⟩ := k.bel h0 h.low h.bel
  exact ⟨h.dp.wk h1 h10 k, h.mv.wk h2 k, h.nvl, l, b⟩
/-- A move more. -/
theorem Sd.moved {w wr w' : World} {L L' : Nat → Nat} {ga : Option Addr} {cap : Nat} {us : List Td} {av av' : Option Addr} {V : List Mv} {nv cm cm' : Nat} {v : Mv} (h : Sd w wr L ga cap us av V nv cm) (k : Wk (fun y => y = 2) L wr L' w') (hm : Lm w w' L' av' (V ++ [v]) cm') : Sd w w' L' ga cap us av' (V ++ [v]) (nv + 1) cm' := by
  obtain ⟨b, l⟩ := k.bel (by omega) h.low h.bel
  exact ⟨h.dp.wk (by omega) (fun i => by omega) k, hm, by rw [List.length_append, h.nvl]; rfl, l, b⟩
/-- The list of a span is another. -/
theorem Sd.listed {w wr w' : World} {L L' : Nat → Nat} {ga : Option Addr} {cap : Nat} {us us' : List Td} {av : Option Addr} {V : List Mv} {nv cm i : Nat} (h : Sd w wr L ga cap us av V nv cm) (k : Wk (fun y => y = 1 ∨ y = 10 + i) L wr L' w') (hd : Dp w w' L' ga cap us') : Sd w w' L' ga cap us' av V nv cm := by
  obtain ⟨b, l⟩ := k.bel (by omega) h.low h.bel
  exact ⟨hd, h.mv.wk (by omega) k, h.nvl, l, b⟩
theorem Li.cell {w wr : World} {L : Nat → Nat} {x : Nat} {a : Option Addr} {l : List Int} {c : Nat} (h : Li w wr L x a l c) (i : Nat) (hi : i < l.length) : ∃ g, a = some ⟨g, 0, none⟩ ∧ wr.cell? ⟨g, i, none⟩ = some (.int .i64 l[i]) := by
  have h' := h.1
  obtain ⟨_, ⟨h1, h2⟩ | ⟨q, c', cur, h1, hg1, h2, _⟩⟩ := h.1
  · exfalso; have : l.length = 0 := h2; omega
  · cases h1
    refine ⟨q, rfl, ?_⟩
    rw [World.ownsRow.cellAt h' i (by omega)]
    simp [hi]
theorem toI_len (l : List Nat) : (toI l).length = l.length := by simp [toI]
theorem toI_at (l : List Nat) (i : Nat) (h : i < (toI l).length) : (toI l)[i] = ((l.getD i 0 : Nat) : Int) := by
  have h' : i < l.length := by rw [toI_len] at h; exact h
  simp [toI, List.getElem?_eq_getElem h']
/-- Rows of spans that stand. -/
theorem rows_std {P : Nat} {ts : List Td} (h : stdB (P : Int) ts = true) : rowsT (ts.map snT) (FT ts) = ts := by
  unfold stdB at h
  rw [Bool.and_eq_true] at h
  apply List.ext_getElem
  · simp [rowsT]
  · intro k h1 h2
    obtain ⟨ok1, ok2, _, _⟩ := of_decide_eq_true (stdU_ok h.2 h2)
    rw [rowsT_at]
    unfold rowI
    rw [sn_map h2]
    have r := newE_rt ok1
    have e1 : (((tdD ts k).p.toNat : Nat) : Int) = (tdD ts k).p := by have := r.p0; omega
    have e2 : (((tdD ts k).c.toNat : Nat) : Int) = (tdD ts k).c := by have := r.c0; omega
    have e3 : (((tdD ts k).s.toNat : Nat) : Int) = (tdD ts k).s := by
      by_cases e : (tdD ts k).c = 7
      · have f := r.facts.2.2.2.1
        unfold szI at f
        rw [if_pos e] at f
        omega
      · have := r.sm (by have := r.c7; omega); omega
    have e4 : lsL (FT ts k) (snT (tdD ts k)).sl = (tdD ts k).l := by
      unfold Sn.sl FT
      show lsL (fOf (tdD ts k).l) (slN (((tdD ts k).c.toNat : Nat) : Int)) = _
      rw [e2]; exact ls_of ok2
    rw [e4]
    show Td.mk (((tdD ts k).p.toNat : Nat) : Int) (((tdD ts k).c.toNat : Nat) : Int) (((tdD ts k).s.toNat : Nat) : Int) (tdD ts k).l = ts[k]
    rw [e1, e2, e3, ← tdD_at h2]
end Go.Proofs.YtebmegghojiegaaDoor
