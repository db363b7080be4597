/- The rows of spans that the document's Plan works on. -/
import Derived.Test.YtbnmbkohmmiamaaDoorLeD
namespace Go.Proofs.YtbnmbkohmmiamaaDoor
open Go.RowKit
set_option linter.unusedVariables false

/-- A span as a row, with a list. -/
def rowI (m : List Sn) (i : Nat) (l : List Int) : Td := ⟨((sn m i).pg : Int), ((sn m i).cl : Int), ((sn m i).bts : Int), l⟩
def rowsT (m : List Sn) (G : Nat → Nat → Bool) : List Td := (List.range m.length).map (fun i => rowI m i (lsL (G i) (sn m i).sl))
/-- The rows while a class is collected. -/
def rowsU (m : List Sn) (G : Nat → Nat → Bool) (c k : Nat) : List Td := (List.range m.length).map (fun i => rowI m i (if i < k ∧ (sn m i).cl = c then [] else lsL (G i) (sn m i).sl))
theorem rowsT_len (m : List Sn) (G : Nat → Nat → Bool) : (rowsT m G).length = m.length := by simp [rowsT]
theorem rowsU_len (m : List Sn) (G : Nat → Nat → Bool) (c k : Nat) : (rowsU m G c k).length = m.length := by simp [rowsU]
theorem rowsT_at (m : List Sn) (G : Nat → Nat → Bool) (i : Nat) (h : i < (rowsT m G).length) : (rowsT m G)[i] = rowI m i (lsL (G i) (sn m i).sl) := by simp [rowsT]
theorem rowsU_at (m : List Sn) (G : Nat → Nat → Bool) (c k : Nat) (i : Nat) (h : i < (rowsU m G c k).length) : (rowsU m G c k)[i] = rowI m i (if i < k ∧ (sn m i).cl = c then [] else lsL (G i) (sn m i).sl) := by simp [rowsU]
theorem rowsU_zero (m : List Sn) (G : Nat → Nat → Bool) (c : Nat) : rowsU m G c 0 = rowsT m G := by
  unfold rowsU rowsT
  apply List.map_congr_left
  intro i _
  rw [if_neg (by omega)]
theorem lsL_none (n : Nat) : lsL (fun _ => false) n = [] := by
  induction n with
  | zero => rfl
  | succ n ih => rw [lsL, ih]; simp
theorem rowsU_all (m : List Sn) (G : Nat → Nat → Bool) (c : Nat) : rowsU m G c m.length = rowsT m (clrF G (ownL c m)) := by
  unfold rowsU rowsT
  apply List.map_congr_left
  intro i hi
  have hi := List.mem_range.1 hi
  by_cases h : (sn m i).cl = c
  · have hm : i ∈ ownL c m := (ownU_mem c m i _).2 ⟨hi, h⟩
    rw [if_pos ⟨hi, h⟩, clrF, if_pos hm, lsL_none]
  · have hm : i ∉ ownL c m := fun k => h ((ownU_mem c m i _).1 k).2
    rw [if_neg (fun k => h k.2), clrF, if_neg hm]
theorem rowsU_no (m : List Sn) (G : Nat → Nat → Bool) (c k : Nat) (h : (sn m k).cl ≠ c) : rowsU m G c (k + 1) = rowsU m G c k := by
  unfold rowsU
  apply List.map_congr_left
  intro i _
  by_cases e : i = k
  · subst e; rw [if_neg (fun q => h q.2), if_neg (fun q => h q.2)]
  · have : (i < k + 1 ∧ (sn m i).cl = c) = (i < k ∧ (sn m i).cl = c) := propext ⟨fun q => ⟨by omega, q.2⟩, fun q => ⟨by omega, q.2⟩⟩
    simp only [this]
theorem rowsU_yes (m : List Sn) (G : Nat → Nat → Bool) (c k : Nat) (hk : k < m.length) (h : (sn m k).cl = c) : rowsU m G c (k + 1) = (rowsU m G c k).set k (rowI m k []) := by
  apply List.ext_getElem
  · simp [rowsU]
  · intro i h1 h2
    rw [List.getElem_set, rowsU_at, rowsU_at]
    by_cases e : k = i
    · subst e; rw [if_pos rfl, if_pos ⟨by omega, h⟩]
    · rw [if_neg e]
      have : (i < k + 1 ∧ (sn m i).cl = c) = (i < k ∧ (sn m i).cl = c) := propext ⟨fun q => ⟨by omega, q.2⟩, fun q => ⟨by omega, q.2⟩⟩
      simp only [this]
/-- The numbers of a list of places. -/
def toI (l : List Nat) : List Int := l.map (fun (x : Nat) => (x : Int))
theorem lsL_range {f : Nat → Bool} {sl x : Nat} (hx : x ≤ sl) (h : ∀ y, y < sl → f y = decide (y < x)) : lsL f sl = toI (List.range x) := by
  rw [lsL_N, lsN_congr (g := fun y => decide (y < x)) (fun y hy => h y hy), lsN_upto, Nat.min_eq_left hx]
  rfl
/-- One slot more is filled. -/
theorem rows_fill {m : List Sn} {F : Nat → Nat → Bool} {c : Nat} (hc : c < 7) (j : Nat) (hj : j < (ownL c m).length * clSl c) :
    (ownL c m).getD (j / clSl c) 0 < m.length ∧ lsL (fillF (ownL c m) (clSl c) (clrF F (ownL c m)) j ((ownL c m).getD (j / clSl c) 0)) (sn m ((ownL c m).getD (j / clSl c) 0)).sl = toI (List.range (j % clSl c)) ∧
    rowsT m (fillF (ownL c m) (clSl c) (clrF F (ownL c m)) (j + 1)) = (rowsT m (fillF (ownL c m) (clSl c) (clrF F (ownL c m)) j)).set ((ownL c m).getD (j / clSl c) 0) (rowI m ((ownL c m).getD (j / clSl c) 0) (toI (List.range (j % clSl c)) ++ [((j % clSl c : Nat) : Int)])) := by
  have hs := (clSl_pos c (by omega)).1
  have hr : j / clSl c < (ownL c m).length := Nat.div_lt_of_lt_mul (by rw [Nat.mul_comm]; exact hj)
  have hm : j % clSl c < clSl c := Nat.mod_lt _ hs
  have hd : j = j / clSl c * clSl c + j % clSl c := by have := Nat.div_add_mod j (clSl c); rw [Nat.mul_comm] at this; omega
  have inj : ∀ r q, r < (ownL c m).length → q < (ownL c m).length → (ownL c m).getD r 0 = (ownL c m).getD q 0 → r = q := fun r q h1 h2 h3 => own_inj h1 h2 h3
  obtain ⟨hk, hcl⟩ := own_lt hr
  have e0 := fill_at (F := F) hs inj (j / clSl c) hr j (by omega)
  have e1 := fill_at (F := F) hs inj (j / clSl c) hr (j + 1) (by omega)
  obtain ⟨r, hre⟩ : ∃ r, j / clSl c = r := ⟨_, rfl⟩
  obtain ⟨x, hxe⟩ : ∃ x, j % clSl c = x := ⟨_, rfl⟩
  rw [hre] at hr hk hcl e0 e1 hd ⊢
  rw [hxe] at hm hd ⊢
  obtain ⟨k, hke⟩ : ∃ k, (ownL c m).getD r 0 = k := ⟨_, rfl⟩
  rw [hke] at hk hcl e0 e1 ⊢
  have hsl := clSl_eq hcl
  have l0 : lsL (fillF (ownL c m) (clSl c) (clrF F (ownL c m)) j k) (sn m k).sl = toI (List.range x) := by
    rw [e0, hsl]
    exact lsL_range (by omega) (fun y hy => by congr 1; apply propext; omega)
  have l1 : lsL (fillF (ownL c m) (clSl c) (clrF F (ownL c m)) (j + 1) k) (sn m k).sl = toI (List.range (x + 1)) := by
    rw [e1, hsl]
    exact lsL_range (by omega) (fun y hy => by congr 1; apply propext; omega)
  refine ⟨hk, l0, ?_⟩
  apply List.ext_getElem
  · simp [rowsT]
  · intro i h1 h2
    rw [List.getElem_set, rowsT_at, rowsT_at]
    by_cases e : k = i
    · subst e
      rw [if_pos rfl, l1, List.range_succ]
      simp [toI]
    · rw [if_neg e]
      congr 2
      show fillF (ownL c m) (clSl c) (clrF F (ownL c m)) (j + 1) i = _
      rw [fillF, updF, hre, hke, if_neg (fun q => e q.symm)]
theorem fromU_snoc (m : List Sn) (G : Nat → Nat → Bool) (l : List Nat) (k : Nat) : fromU m G (l ++ [k]) = fromU m G l ++ (lsN (G k) (sn m k).sl).map (sn m k).at := by
  unfold fromU; rw [List.flatMap_append]; simp
theorem ownU_yes {c : Nat} {m : List Sn} {k : Nat} (h : (sn m k).cl = c) : ownU c m (k + 1) = ownU c m k ++ [k] := by rw [ownU, if_pos h]
theorem ownU_no {c : Nat} {m : List Sn} {k : Nat} (h : (sn m k).cl ≠ c) : ownU c m (k + 1) = ownU c m k := by rw [ownU, if_neg h, List.append_nil]
theorem fromU_len {P : Nat} {m : List Sn} (h : Std P m) (G : Nat → Nat → Bool) (c : Nat) : ∀ k, k ≤ m.length → (fromU m G (ownU c m k)).length ≤ 16 * k
  | 0, _ => by simp [ownU, fromU]
  | k + 1, hk => by
    have ih := fromU_len h G c k (by omega)
    by_cases hc : (sn m k).cl = c
    · rw [ownU_yes hc, fromU_snoc, List.length_append, List.length_map, lsN_len]
      have := cnt_le (G k) (sn m k).sl
      have := (h.ok k (by omega)).facts.2.1
      omega
    · rw [ownU_no hc]; omega
/-- Labels: what is new has none. -/
def cutL (L : Nat → Nat) (n : Nat) : Nat → Nat := fun k => if k < n then L k else 0
theorem Wk.fresh {Z : Nat → Prop} {L : Nat → Nat} {wr w' : World} (hb : Below wr.heap.size wr w') : Wk Z L wr (cutL L wr.heap.size) w' := ⟨fun k hk => if_pos hk, Tu.ofBelow hb⟩
theorem cutL_new {L : Nat → Nat} {n k : Nat} (h : n ≤ k) : cutL L n k = 0 := if_neg (by omega)
/-- The spans, the moves. -/
structure Sd (w wr : World) (L : Nat → Nat) (ga : Option Addr) (cap : Nat) (us : List Td) (av : Option Addr) (V : List Mv) (nv cm : Nat) : Prop where
  dp : Dp w wr L ga cap us
  mv : Lm w wr L av V cm
  nvl : V.length = nv
  low : ∀ k, k < w.heap.size → L k = 0
  bel : Below w.heap.size w wr
theorem Wk.bel {Z : Nat → Prop} {L L' : Nat → Nat} {w wr w' : World} (k : Wk Z L wr L' w') (h0 : ¬ Z 0) (low : ∀ j, j < w.heap.size → L j = 0) (bel : Below w.heap.size w wr) : Below w.heap.size w w' ∧ ∀ j, j < w.heap.size → L' j = 0 := by
  have hs := bel.size
  refine ⟨bel.trans (k.tu.below (fun i hi => ?_) hs), fun j hj => by rw [k.ext j (by omega)]; exact low j hj⟩
  rcases Nat.lt_or_ge i w.heap.size with e | e
  · rw [low i e] at hi; exact absurd hi h0
  · exact e
theorem Sd.wk {w wr w' : World} {L L' : Nat → Nat} {ga : Option Addr} {cap : Nat} {us : List Td} {av : Option Addr} {V : List Mv} {nv cm : Nat} {Z : Nat → Prop} (h : Sd w wr L ga cap us av V nv cm) (k : Wk Z L wr L' w') (h0 : ¬ Z 0) (h1 : ¬ Z 1) (h2 : ¬ Z 2) (h10 : ∀ i, ¬ Z (10 + i)) : Sd w w' L' ga cap us av V nv cm := by
  obtain ⟨b, l⟩ := k.bel h0 h.low h.bel
  exact ⟨h.dp.wk h1 h10 k, h.mv.wk h2 k, h.nvl, l, b⟩
/-- A move more. -/
theorem Sd.moved {w wr w' : World} {L L' : Nat → Nat} {ga : Option Addr} {cap : Nat} {us : List Td} {av av' : Option Addr} {V : List Mv} {nv cm cm' : Nat} {v : Mv} (h : Sd w wr L ga cap us av V nv cm) (k : Wk (fun y => y = 2) L wr L' w') (hm : Lm w w' L' av' (V ++ [v]) cm') : Sd w w' L' ga cap us av' (V ++ [v]) (nv + 1) cm' := by
  obtain ⟨b, l⟩ := k.bel (by omega) h.low h.bel
  exact ⟨h.dp.wk (by omega) (fun i => by omega) k, hm, by rw [List.length_append, h.nvl]; rfl, l, b⟩
/-- The list of a span is another. -/
theorem Sd.listed {w wr w' : World} {L L' : Nat → Nat} {ga : Option Addr} {cap : Nat} {us us' : List Td} {av : Option Addr} {V : List Mv} {nv cm i : Nat} (h : Sd w wr L ga cap us av V nv cm) (k : Wk (fun y => y = 1 ∨ y = 10 + i) L wr L' w') (hd : Dp w w' L' ga cap us') : Sd w w' L' ga cap us' av V nv cm := by
  obtain ⟨b, l⟩ := k.bel (by omega) h.low h.bel
  exact ⟨hd, h.mv.wk (by omega) k, h.nvl, l, b⟩
theorem Li.cell {w wr : World} {L : Nat → Nat} {x : Nat} {a : Option Addr} {l : List Int} {c : Nat} (h : Li w wr L x a l c) (i : Nat) (hi : i < l.length) : ∃ g, a = some ⟨g, 0, none⟩ ∧ wr.cell? ⟨g, i, none⟩ = some (.int .i64 l[i]) := by
  have h' := h.1
  obtain ⟨_, ⟨h1, h2⟩ | ⟨q, c', cur, h1, hg1, h2, _⟩⟩ := h.1
  · exfalso; have : l.length = 0 := h2; omega
  · cases h1
    refine ⟨q, rfl, ?_⟩
    rw [World.ownsRow.cellAt h' i (by omega)]
    simp [hi]
theorem toI_len (l : List Nat) : (toI l).length = l.length := by simp [toI]
theorem toI_at (l : List Nat) (i : Nat) (h : i < (toI l).length) : (toI l)[i] = ((l.getD i 0 : Nat) : Int) := by
  have h' : i < l.length := by rw [toI_len] at h; exact h
  simp [toI, List.getElem?_eq_getElem h']
/-- Rows of spans that stand. -/
theorem rows_std {P : Nat} {ts : List Td} (h : stdB (P : Int) ts = true) : rowsT (ts.map snT) (FT ts) = ts := by
  unfold stdB at h
  rw [Bool.and_eq_true] at h
  apply List.ext_getElem
  · simp [rowsT]
  · intro k h1 h2
    obtain ⟨ok1, ok2, _, _⟩ := of_decide_eq_true (stdU_ok h.2 h2)
    rw [rowsT_at]
    unfold rowI
    rw [sn_map h2]
    have r := newE_rt ok1
    have e1 : (((tdD ts k).p.toNat : Nat) : Int) = (tdD ts k).p := by have := r.p0; omega
    have e2 : (((tdD ts k).c.toNat : Nat) : Int) = (tdD ts k).c := by have := r.c0; omega
    have e3 : (((tdD ts k).s.toNat : Nat) : Int) = (tdD ts k).s := by
      by_cases e : (tdD ts k).c = 7
      · have f := r.facts.2.2.2.1
        unfold szI at f
        rw [if_pos e] at f
        omega
      · have := r.sm (by have := r.c7; omega); omega
    have e4 : lsL (FT ts k) (snT (tdD ts k)).sl = (tdD ts k).l := by
      unfold Sn.sl FT
      show lsL (fOf (tdD ts k).l) (slN (((tdD ts k).c.toNat : Nat) : Int)) = _
      rw [e2]; exact ls_of ok2
    rw [e4]
    show Td.mk (((tdD ts k).p.toNat : Nat) : Int) (((tdD ts k).c.toNat : Nat) : Int) (((tdD ts k).s.toNat : Nat) : Int) (tdD ts k).l = ts[k]
    rw [e1, e2, e3, ← tdD_at h2]
end Go.Proofs.YtbnmbkohmmiamaaDoor
