/- Lists, moves and spans in memory, by labels: what the document's Plan works on. -/
import Derived.Test.YtbnmbkohmmiamaaDoorLcB
namespace Go.Proofs.YtbnmbkohmmiamaaDoor
open Go.RowKit
set_option linter.unusedVariables false

/-- Only blocks whose labels are in Z turned. -/
structure Wk (Z : Nat → Prop) (L : Nat → Nat) (wr : World) (L' : Nat → Nat) (w' : World) : Prop where
  ext : ∀ k, k < wr.heap.size → L' k = L k
  tu : Tu (fun k => Z (L k)) wr w'
theorem Wk.below {Z : Nat → Prop} {L : Nat → Nat} {wr w' : World} (hb : Below wr.heap.size wr w') : Wk Z L wr L w' := ⟨fun _ _ => rfl, Tu.ofBelow hb⟩
theorem Wk.mono {Z Z' : Nat → Prop} {L L' : Nat → Nat} {wr w' : World} (h : Wk Z L wr L' w') (hz : ∀ x, Z x → Z' x) : Wk Z' L wr L' w' := ⟨h.ext, h.tu.mono (fun k _ hk => hz _ hk)⟩
theorem Wk.trans {Z : Nat → Prop} {L L1 L2 : Nat → Nat} {wr w1 w2 : World} (h : Wk Z L wr L1 w1) (k : Wk Z L1 w1 L2 w2) : Wk Z L wr L2 w2 := by
  have hs := h.tu.size
  refine ⟨fun j hj => (k.ext j (by omega)).trans (h.ext j hj), ⟨k.tu.os.trans h.tu.os, k.tu.tape.trans h.tu.tape, k.tu.output.trans h.tu.output, Nat.le_trans hs k.tu.size, fun i o ho hk => k.tu.block i o (h.tu.block i o ho hk) (by rw [h.ext i (hlt ho)]; exact hk)⟩⟩
/-- Labels: a block that is new belongs to x. -/
def setL (L : Nat → Nat) (n : Nat) (a : Option Addr) (x : Nat) : Nat → Nat := fun k => if k < n then L k else if ob a = some k then x else 0
/-- A list of numbers with the label x. -/
def Li (w wr : World) (L : Nat → Nat) (x : Nat) (a : Option Addr) (l : List Int) (c : Nat) : Prop := OwnsI wr w.heap.size a l c ∧ ∀ g, ob a = some g → L g = x
theorem Li.nil (w wr : World) (L : Nat → Nat) (x : Nat) : Li w wr L x none [] 0 := ⟨ownsI_none _ _, fun g hg => by cases hg⟩
theorem Li.wk {w wr w' : World} {L L' : Nat → Nat} {y : Nat} {a : Option Addr} {l : List Int} {c : Nat} {Z : Nat → Prop} (h : Li w wr L y a l c) (hy : ¬ Z y) (k : Wk Z L wr L' w') : Li w w' L' y a l c :=
  ⟨h.1.same (fun g o hg ho => k.tu.block g o ho (by rw [h.2 g hg]; exact hy)), fun g hg => by rw [k.ext g (h.1.lt g hg)]; exact h.2 g hg⟩
theorem li_app {w wr : World} {L : Nat → Nat} {x : Nat} {a : Option Addr} {l : List Int} {c : Nat} (h : Li w wr L x a l c) (hw : w.heap.size ≤ wr.heap.size) (n : Nat) (hn : l.length = n) (v : Int) (hl : n ≤ 1000000) (D : World) (hD : wr.alloc (.cells #[.int .i64 v] 3) = D) :
    ∃ a' c' w' L', (Builtin.append_ #[44, 44] 44 #[.slice a n c, .slice (some ⟨wr.heap.size, 0, none⟩) 1 1]).run Tryd.prog D = .ok (.slice a' (n + 1) c') w' ∧ Li w w' L' x a' (l ++ [v]) c' ∧ Wk (fun y => y = x) L wr L' w' := by
  have bD : Below wr.heap.size wr D := by rw [← hD]; exact (Below.refl _ wr).alloc (Nat.le_refl _) _
  have cD : D.cell? ⟨wr.heap.size, 0, none⟩ = some (.int .i64 v) := by rw [← hD]; exact cell_of_row _ _ 0 _ _ _ (Go.heap_alloc_new wr _)
  have sD := bD.size
  obtain ⟨a', c', w', hr, o, u, ho⟩ := appI_run w.heap.size D (by omega) a l n c (h.1.keep bD) hn wr.heap.size v 1 cD (by omega)
  refine ⟨a', c', w', setL L D.heap.size a' x, hr, ⟨o, fun g hg => ?_⟩, ⟨fun k hk => if_pos (by omega), (Tu.ofBelow bD).trans (u.mono (fun k _ hk => h.2 k hk))⟩⟩
  rcases ho with e | e
  · rw [e] at hg
    have := h.1.lt g hg
    show (if g < D.heap.size then L g else if ob a' = some g then x else 0) = x
    rw [if_pos (by omega)]; exact h.2 g hg
  · have hg' := hg
    rw [e] at hg'
    have : D.heap.size = g := Option.some.inj hg'
    show (if g < D.heap.size then L g else if ob a' = some g then x else 0) = x
    rw [if_neg (by omega), if_pos hg]
/-- Moves with the label 2. -/
def Lm (w wr : World) (L : Nat → Nat) (a : Option Addr) (l : List Mv) (c : Nat) : Prop := Vs wr w.heap.size a l c ∧ ∀ g, ob a = some g → L g = 2
theorem Lm.wk {w wr w' : World} {L L' : Nat → Nat} {a : Option Addr} {l : List Mv} {c : Nat} {Z : Nat → Prop} (h : Lm w wr L a l c) (hy : ¬ Z 2) (k : Wk Z L wr L' w') : Lm w w' L' a l c :=
  ⟨h.1.same (fun g o hg ho => k.tu.block g o ho (by rw [h.2 g hg]; exact hy)), fun g hg => by rw [k.ext g (h.1.ge g hg).2.1]; exact h.2 g hg⟩
theorem lm_app {w wr : World} {L : Nat → Nat} {a : Option Addr} {l : List Mv} {c : Nat} (h : Lm w wr L a l c) (hw : w.heap.size ≤ wr.heap.size) (n : Nat) (hn : l.length = n) (v : Mv) (hl : n < 1000000) (D : World) (hD : wr.alloc (.cells #[.int .i64 v.fr, .int .i64 v.to, .int .i64 v.ln] 35) = D) :
    ∃ a' c' w' L', (Builtin.append_ #[25, 25] 25 #[.slice a n c, .slice (some ⟨wr.heap.size, 0, none⟩) 1 1]).run Tryd.prog D = .ok (.slice a' (n + 1) c') w' ∧ Lm w w' L' a' (l ++ [v]) c' ∧ Wk (fun y => y = 2) L wr L' w' := by
  have bD : Below wr.heap.size wr D := by rw [← hD]; exact (Below.refl _ wr).alloc (Nat.le_refl _) _
  have cD : D.heap[wr.heap.size]? = some (.cells #[.int .i64 v.fr, .int .i64 v.to, .int .i64 v.ln] 35 (0, 0)) := by rw [← hD]; exact Go.heap_alloc_new wr _
  have sD := bD.size
  obtain ⟨a', c', w', hr, o, u, ho⟩ := appV_run3 w.heap.size D (by omega) a l n c (h.1.keep bD) hn wr.heap.size v 1 cD (by omega)
  refine ⟨a', c', w', setL L D.heap.size a' 2, hr, ⟨o, fun g hg => ?_⟩, ⟨fun k hk => if_pos (by omega), (Tu.ofBelow bD).trans (u.mono (fun k _ hk => h.2 k hk))⟩⟩
  rcases ho with e | e
  · rw [e] at hg
    have := (h.1.ge g hg).2.1
    show (if g < D.heap.size then L g else if ob a' = some g then 2 else 0) = 2
    rw [if_pos (by omega)]; exact h.2 g hg
  · have hg' := hg
    rw [e] at hg'
    have : D.heap.size = g := Option.some.inj hg'
    show (if g < D.heap.size then L g else if ob a' = some g then 2 else 0) = 2
    rw [if_neg (by omega), if_pos hg]
theorem ownsRow_put {w : World} {B : Nat} {e : TypeId} {size g n c : Nat} {xs : List Value} (h : w.ownsRow B e size (.slice (some ⟨g, 0, none⟩) n c) n xs) (j : Nat) (v : Value) : (w.setCell ⟨g, j, none⟩ v).ownsRow B e size (.slice (some ⟨g, 0, none⟩) n c) n (xs.set j v) := by
  obtain ⟨h0, ⟨h1, _⟩ | ⟨q, c', cur, h1, hg1, h2, h3, h4, h5, h6⟩⟩ := h
  · cases h1
  · cases h1
    refine ⟨by simp [h0], .inr ⟨g, c, cur.setIfInBounds j v, rfl, hg1, heap_put h2, h3, h4, by simpa using h5, ?_⟩⟩
    rw [Array.toList_setIfInBounds, List.take_set, h6]
/-- The list of a row is another. -/
def Rw.re (r : Rw) (a : Option Addr) (l : List Int) (k : Nat) : Rw := ⟨⟨r.p, r.c, r.s, l⟩, a, k⟩
theorem flat_set : ∀ (rs : List Rw) (i : Nat) (h : i < rs.length) (a : Option Addr) (l : List Int) (k : Nat), (rs.set i (rs[i].re a l k)).flatMap Rw.cs = (rs.flatMap Rw.cs).set (i * 4 + 3) (.slice a l.length k)
  | r :: rs, 0, _, a, l, k => by simp [Rw.cs, Rw.re]
  | r :: rs, i + 1, h, a, l, k => by
    have := flat_set rs i (by simpa using h) a l k
    rw [List.set_cons_succ, List.flatMap_cons, List.flatMap_cons, List.getElem_cons_succ, this]
    rw [List.set_append_right _ _ (by simp [Rw.cs]; omega)]
    congr 2
    simp [Rw.cs]; omega
/-- Spans with their lists, each list with a label of its own. -/
def Dp (w wr : World) (L : Nat → Nat) (ga : Option Addr) (cap : Nat) (us : List Td) : Prop := ∃ rs : List Rw, rs.map Rw.toTd = us ∧ wr.ownsRow w.heap.size 46 4 (.slice ga us.length cap) us.length (rs.flatMap Rw.cs) ∧ (∀ g, ob ga = some g → L g = 1) ∧
  ∀ i (hi : i < rs.length), Li w wr L (10 + i) rs[i].a rs[i].l rs[i].k
theorem Dp.nil (w wr : World) (L : Nat → Nat) : Dp w wr L none 0 [] := ⟨[], rfl, World.ownsRow_nil _ _ _ _, (fun g hg => by cases hg), (fun i hi => by simp at hi)⟩
theorem Dp.blk {w wr : World} {L : Nat → Nat} {ga : Option Addr} {cap : Nat} {us : List Td} (h : Dp w wr L ga cap us) : ∀ g, ob ga = some g → ga = some ⟨g, 0, none⟩ ∧ L g = 1 ∧ w.heap.size ≤ g ∧ ∃ cur, wr.heap[g]? = some (.cells cur 46 (0, 0)) := by
  obtain ⟨rs, _, ⟨_, ⟨h1, _⟩ | ⟨q, c', cur, h1, hb, h2, _⟩⟩, hL, _⟩ := h
  · intro g hg; injection h1 with e1; subst e1; cases hg
  · intro g hg
    cases h1; cases hg
    exact ⟨rfl, hL q rfl, hb, cur, h2⟩
theorem row_same {w w' : World} {B : Nat} {e : TypeId} {size n cap : Nat} {ga : Option Addr} {xs : List Value} (h : w.ownsRow B e size (.slice ga n cap) n xs) (he : ∀ g o, ob ga = some g → w.heap[g]? = some o → w'.heap[g]? = some o) : w'.ownsRow B e size (.slice ga n cap) n xs := by
  obtain ⟨h0, h1' | ⟨q, c', cu, e1, hb, h3, h4⟩⟩ := h
  · exact ⟨h0, .inl h1'⟩
  · exact ⟨h0, .inr ⟨q, c', cu, e1, hb, he q _ (by cases e1; rfl) h3, h4⟩⟩
theorem Dp.wk {w wr w' : World} {L L' : Nat → Nat} {ga : Option Addr} {cap : Nat} {us : List Td} {Z : Nat → Prop} (h : Dp w wr L ga cap us) (h1 : ¬ Z 1) (h10 : ∀ i, ¬ Z (10 + i)) (k : Wk Z L wr L' w') : Dp w w' L' ga cap us := by
  have hb := h.blk
  obtain ⟨rs, e, hr, hg, hl⟩ := h
  refine ⟨rs, e, row_same hr (fun g o hgo ho => k.tu.block g o ho (by rw [hg g hgo]; exact h1)), fun g hgo => ?_, fun i hi => (hl i hi).wk (h10 i) k⟩
  obtain ⟨_, q1, _, cur, q2⟩ := hb g hgo
  rw [k.ext g (hlt q2)]; exact q1
theorem Dp.told {w wr : World} {L : Nat → Nat} {ga : Option Addr} {cap : Nat} {us : List Td} (h : Dp w wr L ga cap us) : Told wr w.heap.size (.slice ga us.length cap) us := by
  obtain ⟨rs, e, hr, _, hl⟩ := h
  refine ⟨rs, e, hr, fun r hm => ?_⟩
  obtain ⟨i, hi, rfl⟩ := List.getElem_of_mem hm
  exact (hl i hi).1
/-- The span i: its cells, and its list. -/
theorem Dp.at {w wr : World} {L : Nat → Nat} {ga : Option Addr} {cap : Nat} {us : List Td} (h : Dp w wr L ga cap us) (i : Nat) (hi : i < us.length) : ∃ g la lk, ga = some ⟨g, 0, none⟩ ∧ wr.cell? ⟨g, i * 4, none⟩ = some (.int .i64 us[i].p) ∧ wr.cell? ⟨g, i * 4 + 1, none⟩ = some (.int .i64 us[i].c) ∧ wr.cell? ⟨g, i * 4 + 2, none⟩ = some (.int .i64 us[i].s) ∧ wr.cell? ⟨g, i * 4 + 3, none⟩ = some (.slice la us[i].l.length lk) ∧ Li w wr L (10 + i) la us[i].l lk := by
  have hb := h.blk
  obtain ⟨rs, rfl, hr, _, hl⟩ := h
  have hi' : i < rs.length := by simpa using hi
  obtain ⟨q0, q1, q2, q3⟩ := flat_at rs i hi'
  have hll : (rs.map Rw.toTd).length = rs.length := by simp
  obtain ⟨g, rfl⟩ : ∃ g, ga = some ⟨g, 0, none⟩ := by
    obtain ⟨_, ⟨_, h2⟩ | ⟨q, c', cur, h1, _⟩⟩ := hr
    · omega
    · cases h1; exact ⟨q, rfl⟩
  refine ⟨g, rs[i].a, rs[i].k, rfl, ?_, ?_, ?_, ?_, ?_⟩
  · rw [World.ownsRow.cellAt hr (i * 4) (by omega)]; simpa using q0
  · rw [World.ownsRow.cellAt hr (i * 4 + 1) (by omega)]; simpa using q1
  · rw [World.ownsRow.cellAt hr (i * 4 + 2) (by omega)]; simpa using q2
  · rw [World.ownsRow.cellAt hr (i * 4 + 3) (by omega)]; simpa using q3
  · simpa using hl i hi'
/-- The list of the span i becomes another, with its label. -/
theorem Dp.relist {w wr w9 : World} {L L' : Nat → Nat} {g cap : Nat} {us : List Td} (h : Dp w wr L (some ⟨g, 0, none⟩) cap us) (i : Nat) (hi : i < us.length) (k : Wk (fun y => y = 10 + i) L wr L' w9) (a' : Option Addr) (l' : List Int) (c' n' : Nat) (hn : l'.length = n') (hl' : Li w w9 L' (10 + i) a' l' c') :
    Dp w (w9.setCell ⟨g, i * 4 + 3, none⟩ (.slice a' n' c')) L' (some ⟨g, 0, none⟩) cap (us.set i ⟨us[i].p, us[i].c, us[i].s, l'⟩) ∧ Wk (fun y => y = 1 ∨ y = 10 + i) L wr L' (w9.setCell ⟨g, i * 4 + 3, none⟩ (.slice a' n' c')) ∧ w9.frozen? ⟨g, i * 4 + 3, none⟩ = false := by
  subst hn
  obtain ⟨_, hg, _, cur, hc⟩ := h.blk g rfl
  obtain ⟨rs, rfl, hr, _, hl⟩ := h
  have hi' : i < rs.length := by simpa using hi
  have on : Only g w9 (w9.setCell ⟨g, i * 4 + 3, none⟩ (.slice a' l'.length c')) := Only.set g _ _ w9
  have hg9 : L' g = 1 := by rw [k.ext g (hlt hc)]; exact hg
  have b9 := k.tu.block g _ hc (by rw [hg]; omega)
  have hll : (rs.map Rw.toTd).length = rs.length := by simp
  have hr9 : w9.ownsRow w.heap.size 46 4 (.slice (some ⟨g, 0, none⟩) (rs.map Rw.toTd).length cap) (rs.map Rw.toTd).length (rs.flatMap Rw.cs) := row_same hr (fun q o hq ho => by cases hq; exact k.tu.block g o ho (by rw [hg]; omega))
  have lne : ∀ (x : Nat) (a : Option Addr) (l : List Int) (c : Nat), x ≠ 1 → Li w w9 L' x a l c → Li w (w9.setCell ⟨g, i * 4 + 3, none⟩ (.slice a' l'.length c')) L' x a l c := fun x a l c hx hL =>
    ⟨hL.1.same (fun q o hq ho => by rw [on.block q (fun e => by have := hL.2 q hq; rw [e, hg9] at this; exact hx this.symm)]; exact ho), hL.2⟩
  refine ⟨⟨rs.set i (rs[i].re a' l' c'), ?_, ?_, fun q hq => by cases hq; exact hg9, fun j hj => ?_⟩, ⟨k.ext, (k.tu.mono (fun q _ hq => .inr hq)).trans (Tu.ofOnly on (.inl hg))⟩, frozen_of_row _ _ _ _ _ b9⟩
  · rw [List.map_set]; simp [Rw.re]
  · rw [List.length_set, flat_set rs i hi']
    exact ownsRow_put hr9 _ _
  · rw [List.length_set] at hj
    by_cases e : i = j
    · subst e
      simp only [List.getElem_set_self]
      exact lne _ _ _ _ (by omega) hl'
    · rw [List.getElem_set_ne e]
      exact lne _ _ _ _ (by omega) ((hl j hj).wk (by omega) k)
/-- One span more behind, its list in blocks that are new. -/
theorem dp_app {w wr X : World} {L L1 : Nat → Nat} {ga : Option Addr} {cap : Nat} {us : List Td} (h : Dp w wr L ga cap us) (hw : w.heap.size ≤ wr.heap.size) (n : Nat) (hn : us.length = n) (hl : n ≤ 100000) (hX : Wk (fun y => y = 10 + n) L wr L1 X) (t : Td) (a9 : Option Addr) (c9 ln : Nat) (hln : t.l.length = ln) (hL9 : Li w X L1 (10 + n) a9 t.l c9) (D : World) (hD : X.alloc (.cells #[.int .i64 t.p, .int .i64 t.c, .int .i64 t.s, .slice a9 ln c9] 46) = D) :
    ∃ ga' cap' w' L', (Builtin.append_ #[22, 22] 22 #[.slice ga n cap, .slice (some ⟨X.heap.size, 0, none⟩) 1 1]).run Tryd.prog D = .ok (.slice ga' (n + 1) cap') w' ∧ Dp w w' L' ga' cap' (us ++ [t]) ∧ Wk (fun y => y = 1 ∨ y = 10 + n) L wr L' w' := by
  subst hln
  subst hn
  have sX := hX.tu.size
  have bD : Below X.heap.size X D := by rw [← hD]; exact (Below.refl _ X).alloc (Nat.le_refl _) _
  have sD := bD.size
  have rD : D.heap[X.heap.size]? = some (.cells (dcells t.p t.c t.s a9 t.l.length c9) 46 (0, 0)) := by rw [← hD]; exact Go.heap_alloc_new X _
  have hb := h.blk
  obtain ⟨rs, e, hr, hg, hli⟩ := h
  have hrl : rs.length = us.length := by rw [← e, List.length_map]
  have hrX : X.ownsRow w.heap.size 46 4 (.slice ga us.length cap) us.length (rs.flatMap Rw.cs) := row_same hr (fun g o hgo ho => hX.tu.block g o ho (by rw [hg g hgo]; omega))
  have hgX : ∀ g, ob ga = some g → L1 g = 1 ∧ g < X.heap.size := fun g hgo => by
    obtain ⟨_, q1, _, cur, q2⟩ := hb g hgo
    exact ⟨by rw [hX.ext g (hlt q2)]; exact q1, by have := hlt q2; omega⟩
  obtain ⟨i0, hi, hz0, hz2, hz3⟩ := info_parts Tryd.infoSpan
  obtain ⟨v', w', hr', k2, k3, _, k4⟩ := run_append_own_at (P := Tryd.prog) D w.heap.size 22 22 46 i0 _ 4 48 Tryd.undSpans hi hz0 hz2 hz3 rfl (by decide) (.slice ga us.length cap) us.length (rs.flatMap Rw.cs) (ownsRow_keepB hrX bD) ⟨X.heap.size, 0, none⟩ 1 1 (Rw.cs ⟨t, a9, c9⟩) rfl (fun j u hj => by
      rw [addr_add, Nat.zero_add, cell_of_row _ _ _ _ _ _ rD]
      show ((Rw.cs ⟨t, a9, c9⟩).toArray)[j]? = some u
      rw [List.getElem?_toArray]; exact hj) (fun u hu => by
      simp [Rw.cs] at hu
      rcases hu with rfl | rfl | rfl | rfl <;> rfl) (by unfold maxLen; omega) (by omega) (by omega)
  obtain ⟨ga', cap', rfl⟩ : ∃ a' cap', v' = .slice a' (us.length + 1) cap' := by
    obtain ⟨_, ⟨h4, h5⟩ | ⟨g, c', cur, h4, _⟩⟩ := k2
    · exact ⟨_, _, by rw [h4, h5]⟩
    · exact ⟨_, _, h4⟩
  rw [ob_own] at k3 k4
  rw [ob_own] at k4
  have tuD : Tu (fun k => L1 k = 1) D w' := Tu.grown k3 (fun g hgo => (hgX g hgo).1)
  have W2 : Wk (fun y => y = 1) L1 X (setL L1 D.heap.size ga' 1) w' := ⟨fun k hk => if_pos (by omega), (Tu.ofBelow bD).trans tuD⟩
  refine ⟨ga', cap', w', setL L1 D.heap.size ga' 1, hr', ⟨rs ++ [⟨t, a9, c9⟩], by rw [List.map_append, e]; rfl, ?_, fun g hgo => ?_, fun i hi => ?_⟩, (hX.mono (fun y hy => .inr hy)).trans (W2.mono (fun y hy => .inl hy))⟩
  · rw [List.flatMap_append, List.length_append]
    simpa using k2
  · rcases k4 with e4 | e4
    · rw [e4] at hgo
      obtain ⟨q1, q2⟩ := hgX g hgo
      show (if g < D.heap.size then L1 g else if ob ga' = some g then 1 else 0) = 1
      rw [if_pos (by omega)]; exact q1
    · have hg' := hgo
      rw [e4] at hg'
      have : D.heap.size = g := Option.some.inj hg'
      show (if g < D.heap.size then L1 g else if ob ga' = some g then 1 else 0) = 1
      rw [if_neg (by omega), if_pos hgo]
  · rw [List.length_append, List.length_singleton] at hi
    by_cases ei : i = rs.length
    · subst ei
      simp only [List.getElem_append_right (Nat.le_refl rs.length), Nat.sub_self, List.getElem_cons_zero]
      rw [hrl]
      exact hL9.wk (by omega) W2
    · have hi2 : i < rs.length := by omega
      rw [List.getElem_append_left hi2]
      exact ((hli i hi2).wk (by omega) hX).wk (by omega) W2
end Go.Proofs.YtbnmbkohmmiamaaDoor
