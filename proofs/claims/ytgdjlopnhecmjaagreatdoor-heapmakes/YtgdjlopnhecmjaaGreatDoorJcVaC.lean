/- Layer 15: VaC again -/
import Derived.Test.YtgdjlopnhecmjaaGreatDoorJcVaB
import Derived.Test.YtgdjlopnhecmjaaGreatDoorGzAJ
namespace Go.Proofs.YtgdjlopnhecmjaaGreatDoor
open Go.RowKit
set_option linter.unusedVariables false
set_option maxRecDepth 4000
/-- A row, a value more laid in. -/
theorem ins_cells (cur l : List Value) (i : Nat) (v : Value) (h : cur.take l.length = l) (hi : i < l.length) (hr : l.length + 1 ≤ cur.length) (X Y : List Value) (hX : X = cur.take (i + 1) ++ l.drop i ++ cur.drop (i + 1 + (l.drop i).length)) (hY : Y = X.take i ++ [v] ++ X.drop (i + 1)) :
    Y.length = cur.length ∧ Y.take (l.take i ++ v :: l.drop i).length = l.take i ++ v :: l.drop i := by
  have e1 : l.take i = cur.take i := by rw [← h, List.take_take, Nat.min_eq_left (by omega)]
  have hXl : X.length = cur.length := by rw [hX]; simp; omega
  have e2 : X.take i = l.take i := by
    rw [hX, List.append_assoc, List.take_append_of_le_length (by simp; omega), List.take_take, Nat.min_eq_left (by omega), e1]
  have e3 : X.drop (i + 1) = l.drop i ++ cur.drop (i + 1 + (l.drop i).length) := by
    rw [hX, List.append_assoc, List.drop_left' (by simp; omega)]
  refine ⟨by rw [hY]; simp; omega, ?_⟩
  rw [hY, e2, e3]
  rw [show l.take i ++ [v] ++ (l.drop i ++ cur.drop (i + 1 + (l.drop i).length)) = (l.take i ++ v :: l.drop i) ++ cur.drop (i + 1 + (l.drop i).length) by simp]
  exact List.take_left' rfl
/-- A new row, a value and the old values laid in. -/
theorem grow_cells (N l : List Value) (i : Nat) (v : Value) (zs : List Value) (hi : i < l.length) (hN : N = l.take i ++ zs) (hz : l.length + 1 - i ≤ zs.length) (X Y : List Value) (hX : X = N.take i ++ [v] ++ N.drop (i + 1)) (hY : Y = X.take (i + 1) ++ l.drop i ++ X.drop (i + 1 + (l.drop i).length)) :
    Y.length = N.length ∧ Y.take (l.take i ++ v :: l.drop i).length = l.take i ++ v :: l.drop i := by
  have hNl : N.length = i + zs.length := by rw [hN]; simp; omega
  have hXl : X.length = N.length := by rw [hX]; simp; omega
  have e1 : N.take i = l.take i := by rw [hN]; exact List.take_left' (by simp; omega)
  have e2 : X.take (i + 1) = l.take i ++ [v] := by rw [hX, e1]; exact List.take_left' (by simp; omega)
  refine ⟨by rw [hY]; simp; omega, ?_⟩
  rw [hY, e2]
  rw [show l.take i ++ [v] ++ l.drop i = l.take i ++ v :: l.drop i by simp]
  exact List.take_left' rfl
theorem wpList_appN (ts t : TypeId) (z : Value) (hz1 : z.cells.size = 1) (hu : Tryz.prog.underlying ts = some (.slice t)) (hinf : (Tryz.prog.info? t).map (fun i => (i.zero, i.size, i.bytes)) = some (some z, 1, 8))
    {ops : Array Oper} {rest : List Oper} {o : Oper} {a : Act} {Q : Exit → Act → World → Prop} {w : World} (hgd : o.guard = none) (s x : Operand)
    (ho : o.op = .call { callee := .builtin .append, args := #[s, x], argTypes := #[ts, ts] })
    (S : Nat → Prop) (hS : ∀ i, w.heap.size ≤ i → S i) (as0 : Option Addr) (n0 : Nat) (L : List Value) (hn0 : L.length = n0) (cs : Nat) (hs : a.eval s = .slice as0 n0 cs) (h : VAt w S t as0 L cs)
    (q : Addr) (v : Value) (c : Nat) (hx : a.eval x = .slice (some q) 1 c) (hq : w.cell? q = some v) (h1 : v.oneCell' = true) (hL : L.length ≤ 100000)
    (K : ∀ a' cap' w', VAt w' S t a' (L ++ [v]) cap' → Tu (fun k => ob as0 = some k) w w' → (ob a' = ob as0 ∨ ob a' = some w.heap.size) → wpList Tryz.prog ops Q rest (a.put o.dst (.slice a' (n0 + 1) cap')) w') :
    wpList Tryz.prog ops Q (o :: rest) a w := by
  subst hn0
  refine wpList_appV ts t z hz1 hu hinf hgd s x ho S hS as0 L cs hs h q [v] 1 c hx rfl (fun j u hu => ?_) (by simpa using h1) hL (by simp) (fun a' cap' w' r1 r2 r3 => ?_)
  · rcases j with _ | j
    · simp at hu; subst hu
      rw [show q.add 0 = q by simp [Addr.add]]; exact hq
    · simp at hu
  · have := K a' cap' w' r1 r2 r3
    rw [show L.length + 1 = (L ++ [v]).length by simp] at this
    exact this
theorem hlt' {w : World} {k : Nat} {o : Obj} (h : w.heap[k]? = some o) : k < w.heap.size := (Array.getElem?_eq_some_iff.1 h).1
theorem addr_ite (cap j g : Nat) : ∃ A : Addr, (if cap = j then some (⟨g, 0, none⟩ : Addr) else some ⟨g, j, none⟩) = some A := by
  by_cases e : cap = j
  · exact ⟨_, by rw [if_pos e]⟩
  · exact ⟨_, by rw [if_neg e]⟩

theorem ov_I (w : World) (q g o lb cb : Nat) (v : Value) (cur : Array Value) (hne : q ≠ g) (hq : w.heap[q]? = some (.cells #[v] 3 (0, 0))) (hg : w.heap[g]? = some (.cells cur 3 (0, 0))) (hc : cur.size ≠ 0) :
    (callFunc 241 #[.slice (some ⟨q, 0, none⟩) 1 1, .slice (some ⟨g, o, none⟩) lb cb]).run Tryz.prog w = .ok (.value (.bool false)) w := by
  rw [run_callFunc_extern Tryz.func241 (by kernel_rfl) (by kernel_rfl) (by kernel_rfl) (e := Extern.SlicesOverlaps.overlaps #[40, 40] #[4]) (by kernel_rfl),
    Lib.run_overlaps_apart w 40 4 3 Tryz.underlying40 1 (fun w => by kernel_rfl) ⟨q, 0, none⟩ ⟨g, o, none⟩ 1 1 lb cb hne 3 3 1 cur.size (by simp [World.shape?, hq]) (by simp [World.shape?, hg]) hc (frozen_of_row _ _ _ _ _ hq) (frozen_of_row _ _ _ _ _ hq)]
  rfl
set_option maxHeartbeats 2000000 in
/-- There is room. -/
theorem insI_room (S : Nat → Prop) (g q : Nat) (l : List Value) (cap i : Nat) (v : Value) (w : World) (h : VAt w S 3 (some ⟨g, 0, none⟩) l cap) (hi : i < l.length) (hr : l.length + 1 ≤ cap) (hl : l.length ≤ 100000) (h1 : ∀ v ∈ l, v.oneCell' = true) (hv : v.oneCell' = true) (hq : w.heap[q]? = some (.cells #[v] 3 (0, 0))) (hne : q ≠ g) :
    Calls Tryz.prog 210 #[.slice (some ⟨g, 0, none⟩) l.length cap, .int .i64 (i : Nat), .slice (some ⟨q, 0, none⟩) 1 1] w fun e w' => e = .returned (.slice (some ⟨g, 0, none⟩) (l.length + 1) cap) ∧ VAt w' S 3 (some ⟨g, 0, none⟩) (l.take i ++ v :: l.drop i) cap ∧ Only g w w' := by
  obtain ⟨cur, hs, hg, hc, hm, hsz, ht⟩ := h.cur
  have hz2 : (Tryz.prog.info? 3).map (·.size) = some 1 := by kernel_rfl
  obtain ⟨n, hn⟩ : ∃ n, l.length = n := ⟨_, rfl⟩
  obtain ⟨X, hX⟩ : ∃ X, X = cur.toList.take (i + 1) ++ l.drop i ++ cur.toList.drop (i + 1 + (l.drop i).length) := ⟨_, rfl⟩
  obtain ⟨Y, hY⟩ : ∃ Y, Y = X.take i ++ [v] ++ X.drop (i + 1) := ⟨_, rfl⟩
  have HY : Hid (Y.length = cap ∧ Y.take (l.take i ++ v :: l.drop i).length = l.take i ++ v :: l.drop i) := by
    have := ins_cells cur.toList l i v ht hi (by simp; omega) X Y hX hY
    exact ⟨this.1.trans (by simpa using hsz), this.2⟩
  have hXl : X.length = cap := by rw [hX]; simp; omega
  have hcm : cap ≤ 9223372036854775807 := by unfold maxLen at hm; omega
  have hov : ∀ lb cb, (callFunc 241 #[.slice (some ⟨q, 0, none⟩) 1 1, .slice (some ⟨g, i + 1, none⟩) lb cb]).run Tryz.prog w = .ok (.value (.bool false)) w := fun lb cb => ov_I w q g (i + 1) lb cb v cur hne hq hg (by omega)
  have HC1 : Hid (∀ (W : World) (ty : TypeId), W.heap = w.heap → (Builtin.copy_ #[40, 40] ty #[.slice (some ⟨g, i + 1, none⟩) (n + 1 - (i + 1)) (cap - (i + 1)), .slice (some ⟨g, i, none⟩) (n + 1 - i) (cap - i)]).run Tryz.prog W = .ok (goInt ((n - i : Nat) : Int)) (W.setRow g X.toArray)) := by
    intro W ty hW
    have hgW : W.heap[g]? = some (.cells cur 3 (0, 0)) := by rw [hW]; exact hg
    have := run_copy_row (P := Tryz.prog) W 40 40 ty 3 g (i + 1) (n + 1 - (i + 1)) (cap - (i + 1)) ⟨g, i, none⟩ (n + 1 - i) (cap - i) cur 3 (l.drop i) Tryz.underlying40 hz2 hgW (by simp only [Nat.min_def, List.length_drop]; split <;> omega) (fun j u hu => by
      rw [addr_add, cell_of_row _ _ _ _ _ _ hgW]
      rw [List.getElem?_drop] at hu
      have hq : i + j < l.length := (List.getElem?_eq_some_iff.1 hu).1
      rw [← ht, List.getElem?_take, if_pos hq] at hu
      simpa using hu) (by simp; omega) (fun u hu => h1 u (List.mem_of_mem_drop hu))
    rw [← hX] at this
    rw [this, List.length_drop, hn]
  have HX : Hid (∀ W : World, W.heap = w.heap → (W.setRow g X.toArray).heap[g]? = some (.cells X.toArray 3 (0, 0))) := fun W hW => by
    have hgW : W.heap[g]? = some (.cells cur 3 (0, 0)) := by rw [hW]; exact hg
    rw [setRow_heap W g _ _ 3 _ hgW]
  have HC2 : Hid (∀ (W : World) (ty : TypeId) (dl dc : Nat), W.heap = w.heap → 0 < dl → (Builtin.copy_ #[40, 40] ty #[.slice (some ⟨g, i, none⟩) dl dc, .slice (some ⟨q, 0, none⟩) 1 1]).run Tryz.prog (W.setRow g X.toArray) = .ok (goInt 1) ((W.setRow g X.toArray).setRow g Y.toArray)) := by
    intro W ty dl dc hW hdl
    have := run_copy_row (P := Tryz.prog) (W.setRow g X.toArray) 40 40 ty 3 g i dl dc ⟨q, 0, none⟩ 1 1 X.toArray 3 [v] Tryz.underlying40 hz2 (HX.out W hW) (by simp only [Nat.min_def, List.length_singleton]; split <;> omega) (fun j u hu => by
      rcases j with _ | j
      · simp at hu; subst hu
        rw [addr_add, World.cell?_of_block (w := w) (by rw [setRow_other _ _ _ _ hne, hW])]
        exact cell_of_row _ _ 0 _ _ _ hq
      · simp at hu) (by simp; omega) (by simpa using hv)
    rw [show X.toArray.toList = X from rfl, List.length_singleton, ← hY] at this
    exact this
  have HF : Hid (S g ∧ cap ≤ maxLen) := ⟨hs, hm⟩
  have hb1 : ((i : Int) == (n : Int)) = false := beq_eq_false_iff_ne.2 (by omega)
  have hb2 : ¬ (cap = i + 1) := by omega
  have hb4 : ¬ (cap = i) := by omega
  have hw1 : IntKind.i64.wrap ((i : Int) + 1) = (i : Int) + 1 := by rw [IntKind.wrap_i64]; omega
  have hb5 : (0 : Int) ≤ (i : Int) + 1 := by omega
  have hb6 : (i : Int) + 1 ≤ (n : Int) + 1 := by omega
  have hb7 : (i : Int) ≤ (n : Int) + 1 := by omega
  have htn : ((i : Int) + 1).toNat = i + 1 := by omega
  rw [hn] at hi hr hl hc ⊢
  clear h hg hm hX h1 ht hsz hY hz2 hv hq
  go_enter Tryz.func210, Tryz.ntmps210
  go_wp2_with (simp only [hov])
  go_region_law (refine step_copy rfl _ _ 40 rfl _ _ (by simp [Act.eval, Act.put]) (by simp [Act.eval, Act.put]) _ _ (HC1.out _ _ rfl) ?_)
  go_wp2_with (refine wpList_copyV rfl _ _ 40 rfl _ _ rfl rfl _ _ (HC2.out _ _ _ _ rfl (by omega)) ?_)
  go_ret
  refine ⟨rfl, VAt.put (w := w) HF.out.1 (cur := Y.toArray) (setRow_heap _ g _ _ 3 _ (HX.out _ rfl)) (by simpa using HY.out.1) HF.out.2 (by simp; omega) HY.out.2, ?_⟩
  exact Only.of ((Only.setRow _ _ _).trans (Only.setRow _ _ _)) rfl rfl rfl rfl
set_option maxHeartbeats 2000000 in
/-- There is no room. -/
theorem insI_grow (S : Nat → Prop) (g q : Nat) (l : List Value) (i : Nat) (v : Value) (w : World) (h : VAt w S 3 (some ⟨g, 0, none⟩) l l.length) (hS : ∀ k, w.heap.size ≤ k → S k) (hi : i < l.length) (hl : l.length ≤ 100000) (h1 : ∀ v ∈ l, v.oneCell' = true) (hv : v.oneCell' = true) (hq : w.heap[q]? = some (.cells #[v] 3 (0, 0))) :
    Calls Tryz.prog 210 #[.slice (some ⟨g, 0, none⟩) l.length l.length, .int .i64 (i : Nat), .slice (some ⟨q, 0, none⟩) 1 1] w fun e w' => ∃ cap', e = .returned (.slice (some ⟨w.heap.size, 0, none⟩) (l.length + 1) cap') ∧ VAt w' S 3 (some ⟨w.heap.size, 0, none⟩) (l.take i ++ v :: l.drop i) cap' ∧ Below w.heap.size w w' := by
  obtain ⟨cur, hs, hg, hc, hm, hsz, ht⟩ := h.cur
  have hz2 : (Tryz.prog.info? 3).map (·.size) = some 1 := by kernel_rfl
  obtain ⟨i0, hi0, hz0, hs0, hb0⟩ := info_parts Tryz.info3
  have hgl := hlt' hg
  have hql := hlt' hq
  obtain ⟨n, hn⟩ : ∃ n, l.length = n := ⟨_, rfl⟩
  have hcell : ∀ j u, l[j]? = some u → w.cell? ⟨g, j, none⟩ = some u := fun j u hu => by
    rw [cell_of_row _ _ _ _ _ _ hg]
    have hq : j < l.length := (List.getElem?_eq_some_iff.1 hu).1
    rw [← ht, List.getElem?_take, if_pos hq] at hu
    simpa using hu
  have hGn : n + 1 ≤ grownCap w (n + 1) n 3 := grownCap_ge w _ _ _
  have hGm := grownCap_le_maxLen w (n + 1) n 3 (by unfold maxLen; omega)
  have hold : (Builtin.firstCells i0.size i (.slice (some ⟨g, 0, none⟩) i n)).run Tryz.prog w.drew = .ok (l.take i).toArray w.drew :=
    run_firstCells_some w.drew i0.size i _ i n (l.take i) (by rw [hs0]; simp; omega) (fun j u hu => by
      rw [addr_add, Nat.zero_add]
      have e : w.drew.cell? ⟨g, j, none⟩ = w.cell? ⟨g, j, none⟩ := rfl
      rw [e]
      rw [List.getElem?_take] at hu
      split at hu
      · exact hcell j u hu
      · cases hu)
  obtain ⟨G, hG⟩ : ∃ G, grownCap w (n + 1) n 3 = G := ⟨_, rfl⟩
  rw [hG] at hGn hGm
  obtain ⟨zs, hzs⟩ : ∃ zs, zs = List.replicate (n + 1 - i) (Value.int .i64 0) ++ List.replicate (G - (n + 1)) (Value.int .i64 0) := ⟨_, rfl⟩
  obtain ⟨N, hN⟩ : ∃ N, N = l.take i ++ zs := ⟨_, rfl⟩
  have hzl : zs.length = G - i := by rw [hzs]; simp; omega
  have hNl : N.length = G := by rw [hN]; simp; omega
  obtain ⟨W1, hW1⟩ : ∃ W1, W1 = w.drew.alloc (.cells N.toArray 3) := ⟨_, rfl⟩
  have RZ : Hid (∀ ty, (Builtin.append_ #[40, 3] ty #[.slice (some ⟨g, 0, none⟩) i n, .int .i64 ((n : Int) + 1 - (i : Int))]).run Tryz.prog w = .ok (.slice (some ⟨w.heap.size, 0, none⟩) (n + 1) G) W1) := fun ty => by
    have hck : i + (n + 1 - i) = n + 1 := by omega
    have h := Lib.run_append_grow_zeros w 40 3 ty 3 i0 _ .i64 .i64 Tryz.underlying40 Tryz.underlying3 hi0 hz0 (some ⟨g, 0, none⟩) i n (l.take i) hold (n + 1 - i) (by omega) (by omega) (by omega) (by omega) (by rw [hb0]; omega)
      (by rw [hck, hb0]; exact growslice_fits (by omega) (by omega))
    rw [hck] at h
    rw [show (n : Int) + 1 - (i : Int) = ((n + 1 - i : Nat) : Int) by omega, h, hG, hW1, hN, hzs]
    congr 3
    apply Array.toList_inj.1
    simp [Value.cells, zeroCells_one]
  have hb1w : Below w.heap.size w W1 := by rw [hW1]; exact (Below.refl _ w).drew.alloc (Nat.le_refl _) _
  have hN1 : W1.heap[w.heap.size]? = some (.cells N.toArray 3 (0, 0)) := by rw [hW1]; exact Go.heap_alloc_new w.drew _
  obtain ⟨X, hX⟩ : ∃ X, X = N.take i ++ [v] ++ N.drop (i + 1) := ⟨_, rfl⟩
  obtain ⟨Y, hY⟩ : ∃ Y, Y = X.take (i + 1) ++ l.drop i ++ X.drop (i + 1 + (l.drop i).length) := ⟨_, rfl⟩
  have hXl : X.length = G := by rw [hX]; simp; omega
  have HY : Hid (Y.length = G ∧ Y.take (l.take i ++ v :: l.drop i).length = l.take i ++ v :: l.drop i) := by
    have := grow_cells N l i v zs hi hN (by omega) X Y hX hY
    exact ⟨this.1.trans hNl, this.2⟩
  have HC1 : Hid (∀ (ty : TypeId) (dl dc : Nat), 0 < dl → (Builtin.copy_ #[40, 40] ty #[.slice (some ⟨w.heap.size, i, none⟩) dl dc, .slice (some ⟨q, 0, none⟩) 1 1]).run Tryz.prog W1 = .ok (goInt 1) (W1.setRow w.heap.size X.toArray)) := by
    intro ty dl dc hdl
    have := run_copy_row (P := Tryz.prog) W1 40 40 ty 3 w.heap.size i dl dc ⟨q, 0, none⟩ 1 1 N.toArray 3 [v] Tryz.underlying40 hz2 hN1 (by simp only [Nat.min_def, List.length_singleton]; split <;> omega) (fun j u hu => by
      rcases j with _ | j
      · simp at hu; subst hu
        rw [addr_add, hb1w.cell (p := ⟨q, 0 + 0, none⟩) hql]
        exact cell_of_row _ _ 0 _ _ _ hq
      · simp at hu) (by simp; omega) (by simpa using hv)
    rw [show N.toArray.toList = N from rfl, List.length_singleton, ← hX] at this
    exact this
  have hXg : (W1.setRow w.heap.size X.toArray).heap[w.heap.size]? = some (.cells X.toArray 3 (0, 0)) := by rw [setRow_heap W1 _ _ _ 3 _ hN1]
  obtain ⟨W2, hW2⟩ : ∃ W2, W2 = W1.setRow w.heap.size X.toArray := ⟨_, rfl⟩
  rw [← hW2] at HC1 hXg
  have hb2w : Below w.heap.size w W2 := by rw [hW2]; exact hb1w.trans (Only.below (Only.setRow _ _ _) (Nat.le_refl _))
  have HC2 : Hid (∀ (W : World) (ty : TypeId) (dl dc sc : Nat), W.heap = W2.heap → n - i ≤ dl → (Builtin.copy_ #[40, 40] ty #[.slice (some ⟨w.heap.size, i + 1, none⟩) dl dc, .slice (some ⟨g, i, none⟩) (n - i) sc]).run Tryz.prog W = .ok (goInt ((n - i : Nat) : Int)) (W.setRow w.heap.size Y.toArray)) := by
    intro W ty dl dc sc hW hdl
    have hgW : W.heap[w.heap.size]? = some (.cells X.toArray 3 (0, 0)) := by rw [hW]; exact hXg
    have := run_copy_row (P := Tryz.prog) W 40 40 ty 3 w.heap.size (i + 1) dl dc ⟨g, i, none⟩ (n - i) sc X.toArray 3 (l.drop i) Tryz.underlying40 hz2 hgW (by simp only [Nat.min_def, List.length_drop]; split <;> omega) (fun j u hu => by
      rw [addr_add, World.cell?_of_block (w := w) (by rw [hW]; exact hb2w.block g hgl)]
      rw [List.getElem?_drop] at hu
      exact hcell _ u hu) (by simp; omega) (fun u hu => h1 u (List.mem_of_mem_drop hu))
    rw [show X.toArray.toList = X from rfl, ← hY] at this
    rw [this, List.length_drop, hn]
  have HB : Hid (∀ W : World, W.heap = W2.heap → W.os = W2.os → W.tape = W2.tape → W.output = W2.output → VAt (W.setRow w.heap.size Y.toArray) S 3 (some ⟨w.heap.size, 0, none⟩) (l.take i ++ v :: l.drop i) G ∧ Below w.heap.size w (W.setRow w.heap.size Y.toArray)) := fun W e1 e2 e3 e4 => by
    have hgW : W.heap[w.heap.size]? = some (.cells X.toArray 3 (0, 0)) := by rw [e1]; exact hXg
    refine ⟨VAt.put (w := w) (hS _ (Nat.le_refl _)) (cur := Y.toArray) (setRow_heap _ _ _ _ 3 _ hgW) (by simpa using HY.out.1) hGm (by simp; omega) HY.out.2, ?_⟩
    exact hb2w.trans (Only.below (Only.of (Only.setRow _ _ W) e1 e2 e3 e4) (Nat.le_refl _))
  have hb1 : ((i : Int) == (n : Int)) = false := beq_eq_false_iff_ne.2 (by omega)
  have hb2 : ¬ (G = i + 1) := by omega
  have hb4 : ¬ (n = i) := by omega
  have hb8 : ¬ (G = i) := by omega
  have hw1 : IntKind.i64.wrap ((i : Int) + 1) = (i : Int) + 1 := by rw [IntKind.wrap_i64]; omega
  have hb5 : (0 : Int) ≤ (i : Int) + 1 := by omega
  have hb6 : (i : Int) + 1 ≤ (n : Int) + 1 := by omega
  have hb7 : (i : Int) ≤ (n : Int) + 1 := by omega
  have htn : ((i : Int) + 1).toNat = i + 1 := by omega
  have hb9 : i ≤ n := by omega
  have hb10 : (i : Int) ≤ (n : Int) := by omega
  have hGb : G ≤ 9223372036854775807 := by unfold maxLen at hGm; omega
  rw [hn] at hi hl hc ⊢
  clear h hg hm hX h1 ht hsz hY hz2 hv hq hS hi0 hz0 hs0 hb0 hG hold hcell hzs hN hW1 hXg hW2 hb2w hGm hN1 hb1w hzl hNl hXl
  go_enter Tryz.func210, Tryz.ntmps210
  go_wp2_with (first
    | (at_builtin; refine Lib.wpList_append_run _ rfl _ _ _ _ rfl _ _ rfl rfl _ _ (RZ.out _) ?_)
    | (refine wpList_copyV rfl _ _ 40 rfl _ _ rfl rfl _ _ (HC1.out _ _ _ (by omega)) ?_))
  go_region_law (refine step_copy rfl _ _ 40 rfl _ _ (by simp [Act.eval, Act.put]) (by simp [Act.eval, Act.put]) _ _ (HC2.out _ _ (n + 1 - (i + 1)) (G - (i + 1)) (n - i) rfl (by omega)) ?_)
  go_wp2
  go_ret
  exact ⟨G, rfl, HB.out _ rfl rfl rfl rfl⟩
set_option maxHeartbeats 2000000 in
/-- At the end. -/
theorem insI_end (S : Nat → Prop) (a : Option Addr) (q : Nat) (l : List Value) (cap : Nat) (v : Value) (w : World) (h : VAt w S 3 a l cap) (hS : ∀ k, w.heap.size ≤ k → S k) (hl : l.length ≤ 100000) (hv : v.oneCell' = true) (hq : w.heap[q]? = some (.cells #[v] 3 (0, 0))) :
    Calls Tryz.prog 210 #[.slice a l.length cap, .int .i64 (l.length : Nat), .slice (some ⟨q, 0, none⟩) 1 1] w fun e w' => ∃ a' cap', e = .returned (.slice a' (l.length + 1) cap') ∧ VAt w' S 3 a' (l ++ [v]) cap' ∧ Tu (fun k => ob a = some k) w w' ∧ (ob a' = ob a ∨ ob a' = some w.heap.size) := by
  have HV : Hid (VAt w S 3 a l cap) := h
  have HS : Hid (∀ k, w.heap.size ≤ k → S k) := hS
  have hc := h.len
  have HQ : Hid (w.cell? ⟨q, 0, none⟩ = some v) := cell_of_row _ _ 0 _ _ _ hq
  obtain ⟨A, hA⟩ : ∃ A, (if cap = l.length then a else a.map (·.add l.length)) = A := ⟨_, rfl⟩
  have EL : Hid ((l ++ [v]).length = l.length + 1) := by show _ = _; simp
  rcases a with _ | ad
  · obtain ⟨rfl, rfl⟩ : l = [] ∧ cap = 0 := by
      rcases h with ⟨_, h1, h2⟩ | ⟨g, cur, h1, _⟩
      · exact ⟨h1, h2⟩
      · cases h1
    clear h hS hq hA
    go_enter Tryz.func210, Tryz.ntmps210
    go_wp2_with (at_builtin; refine wpList_appN 40 3 (Value.int .i64 0) rfl Tryz.underlying40 Tryz.info3 rfl _ _ rfl S HS.out none 0 [] rfl 0 rfl HV.out ⟨q, 0, none⟩ v 1 rfl HQ.out hv (by simp) ?_)
    intro a' cap' w' r1 r2 r3
    go_wp2
    go_ret
    exact ⟨a', cap', rfl, r1, r2, r3⟩
  · obtain ⟨g, rfl⟩ : ∃ g, ad = ⟨g, 0, none⟩ := by
      rcases h with ⟨h1, _⟩ | ⟨g, cur, h1, _⟩
      · cases h1
      · cases h1; exact ⟨g, rfl⟩
    obtain ⟨n, hn⟩ : ∃ n, l.length = n := ⟨_, rfl⟩
    have EN : Hid (l.length = n) := hn
    have hA' : (if cap = n then some (⟨g, 0, none⟩ : Addr) else some ⟨g, n, none⟩) = A := by
      rw [← hA, hn]; split <;> simp [addr_add]
    rw [hn] at hc hl EL ⊢
    clear h hS hq hA hn
    go_enter Tryz.func210, Tryz.ntmps210
    go_wp2_with (at_builtin; refine wpList_appN 40 3 (Value.int .i64 0) rfl Tryz.underlying40 Tryz.info3 rfl _ _ rfl S HS.out (some ⟨g, 0, none⟩) n l EN.out cap rfl HV.out ⟨q, 0, none⟩ v 1 rfl HQ.out hv (by rw [EN.out]; exact hl) ?_)
    intro a' cap' w' r1 r2 r3
    go_wp2
    go_ret
    exact ⟨a', cap', rfl, r1, r2, r3⟩
theorem insI_any (S : Nat → Prop) (a : Option Addr) (q : Nat) (l : List Value) (cap i : Nat) (v : Value) (w : World) (h : VAt w S 3 a l cap) (hS : ∀ k, w.heap.size ≤ k → S k) (hi : i ≤ l.length) (hl : l.length ≤ 100000) (h1 : ∀ v ∈ l, v.oneCell' = true) (hv : v.oneCell' = true) (hq : w.heap[q]? = some (.cells #[v] 3 (0, 0))) (hne : ∀ g, ob a = some g → q ≠ g) :
    Calls Tryz.prog 210 #[.slice a l.length cap, .int .i64 (i : Nat), .slice (some ⟨q, 0, none⟩) 1 1] w fun e w' => ∃ a' cap', e = .returned (.slice a' (l.length + 1) cap') ∧ VAt w' S 3 a' (l.take i ++ v :: l.drop i) cap' ∧ Tu (fun k => ob a = some k) w w' ∧ (ob a' = ob a ∨ ob a' = some w.heap.size) := by
  rcases Nat.lt_or_eq_of_le hi with e | e
  · obtain ⟨g, rfl, hs, _⟩ := h.at i e
    rcases Nat.lt_or_eq_of_le h.len.1 with k | k
    · refine (insI_room S g q l cap i v w h e k hl h1 hv hq (hne g rfl)).mono ?_
      rintro e w' ⟨rfl, r1, r2⟩
      exact ⟨_, _, rfl, r1, Tu.ofOnly r2 rfl, .inl rfl⟩
    · subst k
      refine (insI_grow S g q l i v w h hS e hl h1 hv hq).mono ?_
      rintro e w' ⟨cap', rfl, r1, r2⟩
      exact ⟨_, _, rfl, r1, Tu.ofBelow r2, .inr rfl⟩
  · subst e
    refine (insI_end S a q l cap v w h hS hl hv hq).mono ?_
    rintro e w' ⟨a', cap', rfl, r1, r2, r3⟩
    exact ⟨a', cap', rfl, by simpa using r1, r2, r3⟩

theorem ov_P (w : World) (q g o lb cb : Nat) (v : Value) (cur : Array Value) (hne : q ≠ g) (hq : w.heap[q]? = some (.cells #[v] 190 (0, 0))) (hg : w.heap[g]? = some (.cells cur 190 (0, 0))) (hc : cur.size ≠ 0) :
    (callFunc 259 #[.slice (some ⟨q, 0, none⟩) 1 1, .slice (some ⟨g, o, none⟩) lb cb]).run Tryz.prog w = .ok (.value (.bool false)) w := by
  rw [run_callFunc_extern Tryz.func259 (by kernel_rfl) (by kernel_rfl) (by kernel_rfl) (e := Extern.SlicesOverlaps.overlaps #[186, 186] #[4]) (by kernel_rfl),
    Lib.run_overlaps_apart w 186 4 190 Tryz.underlying186 1 (fun w => by kernel_rfl) ⟨q, 0, none⟩ ⟨g, o, none⟩ 1 1 lb cb hne 190 190 1 cur.size (by simp [World.shape?, hq]) (by simp [World.shape?, hg]) hc (frozen_of_row _ _ _ _ _ hq) (frozen_of_row _ _ _ _ _ hq)]
  rfl
set_option maxHeartbeats 2000000 in
/-- There is room. -/
theorem insP_room (S : Nat → Prop) (g q : Nat) (l : List Value) (cap i : Nat) (v : Value) (w : World) (h : VAt w S 190 (some ⟨g, 0, none⟩) l cap) (hi : i < l.length) (hr : l.length + 1 ≤ cap) (hl : l.length ≤ 100000) (h1 : ∀ v ∈ l, v.oneCell' = true) (hv : v.oneCell' = true) (hq : w.heap[q]? = some (.cells #[v] 190 (0, 0))) (hne : q ≠ g) :
    Calls Tryz.prog 233 #[.slice (some ⟨g, 0, none⟩) l.length cap, .int .i64 (i : Nat), .slice (some ⟨q, 0, none⟩) 1 1] w fun e w' => e = .returned (.slice (some ⟨g, 0, none⟩) (l.length + 1) cap) ∧ VAt w' S 190 (some ⟨g, 0, none⟩) (l.take i ++ v :: l.drop i) cap ∧ Only g w w' := by
  obtain ⟨cur, hs, hg, hc, hm, hsz, ht⟩ := h.cur
  have hz2 : (Tryz.prog.info? 190).map (·.size) = some 1 := by kernel_rfl
  obtain ⟨n, hn⟩ : ∃ n, l.length = n := ⟨_, rfl⟩
  obtain ⟨X, hX⟩ : ∃ X, X = cur.toList.take (i + 1) ++ l.drop i ++ cur.toList.drop (i + 1 + (l.drop i).length) := ⟨_, rfl⟩
  obtain ⟨Y, hY⟩ : ∃ Y, Y = X.take i ++ [v] ++ X.drop (i + 1) := ⟨_, rfl⟩
  have HY : Hid (Y.length = cap ∧ Y.take (l.take i ++ v :: l.drop i).length = l.take i ++ v :: l.drop i) := by
    have := ins_cells cur.toList l i v ht hi (by simp; omega) X Y hX hY
    exact ⟨this.1.trans (by simpa using hsz), this.2⟩
  have hXl : X.length = cap := by rw [hX]; simp; omega
  have hcm : cap ≤ 9223372036854775807 := by unfold maxLen at hm; omega
  have hov : ∀ lb cb, (callFunc 259 #[.slice (some ⟨q, 0, none⟩) 1 1, .slice (some ⟨g, i + 1, none⟩) lb cb]).run Tryz.prog w = .ok (.value (.bool false)) w := fun lb cb => ov_P w q g (i + 1) lb cb v cur hne hq hg (by omega)
  have HC1 : Hid (∀ (W : World) (ty : TypeId), W.heap = w.heap → (Builtin.copy_ #[186, 186] ty #[.slice (some ⟨g, i + 1, none⟩) (n + 1 - (i + 1)) (cap - (i + 1)), .slice (some ⟨g, i, none⟩) (n + 1 - i) (cap - i)]).run Tryz.prog W = .ok (goInt ((n - i : Nat) : Int)) (W.setRow g X.toArray)) := by
    intro W ty hW
    have hgW : W.heap[g]? = some (.cells cur 190 (0, 0)) := by rw [hW]; exact hg
    have := run_copy_row (P := Tryz.prog) W 186 186 ty 190 g (i + 1) (n + 1 - (i + 1)) (cap - (i + 1)) ⟨g, i, none⟩ (n + 1 - i) (cap - i) cur 190 (l.drop i) Tryz.underlying186 hz2 hgW (by simp only [Nat.min_def, List.length_drop]; split <;> omega) (fun j u hu => by
      rw [addr_add, cell_of_row _ _ _ _ _ _ hgW]
      rw [List.getElem?_drop] at hu
      have hq : i + j < l.length := (List.getElem?_eq_some_iff.1 hu).1
      rw [← ht, List.getElem?_take, if_pos hq] at hu
      simpa using hu) (by simp; omega) (fun u hu => h1 u (List.mem_of_mem_drop hu))
    rw [← hX] at this
    rw [this, List.length_drop, hn]
  have HX : Hid (∀ W : World, W.heap = w.heap → (W.setRow g X.toArray).heap[g]? = some (.cells X.toArray 190 (0, 0))) := fun W hW => by
    have hgW : W.heap[g]? = some (.cells cur 190 (0, 0)) := by rw [hW]; exact hg
    rw [setRow_heap W g _ _ 190 _ hgW]
  have HC2 : Hid (∀ (W : World) (ty : TypeId) (dl dc : Nat), W.heap = w.heap → 0 < dl → (Builtin.copy_ #[186, 186] ty #[.slice (some ⟨g, i, none⟩) dl dc, .slice (some ⟨q, 0, none⟩) 1 1]).run Tryz.prog (W.setRow g X.toArray) = .ok (goInt 1) ((W.setRow g X.toArray).setRow g Y.toArray)) := by
    intro W ty dl dc hW hdl
    have := run_copy_row (P := Tryz.prog) (W.setRow g X.toArray) 186 186 ty 190 g i dl dc ⟨q, 0, none⟩ 1 1 X.toArray 190 [v] Tryz.underlying186 hz2 (HX.out W hW) (by simp only [Nat.min_def, List.length_singleton]; split <;> omega) (fun j u hu => by
      rcases j with _ | j
      · simp at hu; subst hu
        rw [addr_add, World.cell?_of_block (w := w) (by rw [setRow_other _ _ _ _ hne, hW])]
        exact cell_of_row _ _ 0 _ _ _ hq
      · simp at hu) (by simp; omega) (by simpa using hv)
    rw [show X.toArray.toList = X from rfl, List.length_singleton, ← hY] at this
    exact this
  have HF : Hid (S g ∧ cap ≤ maxLen) := ⟨hs, hm⟩
  have hb1 : ((i : Int) == (n : Int)) = false := beq_eq_false_iff_ne.2 (by omega)
  have hb2 : ¬ (cap = i + 1) := by omega
  have hb4 : ¬ (cap = i) := by omega
  have hw1 : IntKind.i64.wrap ((i : Int) + 1) = (i : Int) + 1 := by rw [IntKind.wrap_i64]; omega
  have hb5 : (0 : Int) ≤ (i : Int) + 1 := by omega
  have hb6 : (i : Int) + 1 ≤ (n : Int) + 1 := by omega
  have hb7 : (i : Int) ≤ (n : Int) + 1 := by omega
  have htn : ((i : Int) + 1).toNat = i + 1 := by omega
  rw [hn] at hi hr hl hc ⊢
  clear h hg hm hX h1 ht hsz hY hz2 hv hq
  go_enter Tryz.func233, Tryz.ntmps233
  go_wp2_with (simp only [hov])
  go_region_law (refine step_copy rfl _ _ 186 rfl _ _ (by simp [Act.eval, Act.put]) (by simp [Act.eval, Act.put]) _ _ (HC1.out _ _ rfl) ?_)
  go_wp2_with (refine wpList_copyV rfl _ _ 186 rfl _ _ rfl rfl _ _ (HC2.out _ _ _ _ rfl (by omega)) ?_)
  go_ret
  refine ⟨rfl, VAt.put (w := w) HF.out.1 (cur := Y.toArray) (setRow_heap _ g _ _ 190 _ (HX.out _ rfl)) (by simpa using HY.out.1) HF.out.2 (by simp; omega) HY.out.2, ?_⟩
  exact Only.of ((Only.setRow _ _ _).trans (Only.setRow _ _ _)) rfl rfl rfl rfl
set_option maxHeartbeats 2000000 in
/-- There is no room. -/
theorem insP_grow (S : Nat → Prop) (g q : Nat) (l : List Value) (i : Nat) (v : Value) (w : World) (h : VAt w S 190 (some ⟨g, 0, none⟩) l l.length) (hS : ∀ k, w.heap.size ≤ k → S k) (hi : i < l.length) (hl : l.length ≤ 100000) (h1 : ∀ v ∈ l, v.oneCell' = true) (hv : v.oneCell' = true) (hq : w.heap[q]? = some (.cells #[v] 190 (0, 0))) :
    Calls Tryz.prog 233 #[.slice (some ⟨g, 0, none⟩) l.length l.length, .int .i64 (i : Nat), .slice (some ⟨q, 0, none⟩) 1 1] w fun e w' => ∃ cap', e = .returned (.slice (some ⟨w.heap.size, 0, none⟩) (l.length + 1) cap') ∧ VAt w' S 190 (some ⟨w.heap.size, 0, none⟩) (l.take i ++ v :: l.drop i) cap' ∧ Below w.heap.size w w' := by
  obtain ⟨cur, hs, hg, hc, hm, hsz, ht⟩ := h.cur
  have hz2 : (Tryz.prog.info? 190).map (·.size) = some 1 := by kernel_rfl
  obtain ⟨i0, hi0, hz0, hs0, hb0⟩ := info_parts Tryz.info190
  have hgl := hlt' hg
  have hql := hlt' hq
  obtain ⟨n, hn⟩ : ∃ n, l.length = n := ⟨_, rfl⟩
  have hcell : ∀ j u, l[j]? = some u → w.cell? ⟨g, j, none⟩ = some u := fun j u hu => by
    rw [cell_of_row _ _ _ _ _ _ hg]
    have hq : j < l.length := (List.getElem?_eq_some_iff.1 hu).1
    rw [← ht, List.getElem?_take, if_pos hq] at hu
    simpa using hu
  have hGn : n + 1 ≤ grownCap w (n + 1) n 190 := grownCap_ge w _ _ _
  have hGm := grownCap_le_maxLen w (n + 1) n 190 (by unfold maxLen; omega)
  have hold : (Builtin.firstCells i0.size i (.slice (some ⟨g, 0, none⟩) i n)).run Tryz.prog w.drew = .ok (l.take i).toArray w.drew :=
    run_firstCells_some w.drew i0.size i _ i n (l.take i) (by rw [hs0]; simp; omega) (fun j u hu => by
      rw [addr_add, Nat.zero_add]
      have e : w.drew.cell? ⟨g, j, none⟩ = w.cell? ⟨g, j, none⟩ := rfl
      rw [e]
      rw [List.getElem?_take] at hu
      split at hu
      · exact hcell j u hu
      · cases hu)
  obtain ⟨G, hG⟩ : ∃ G, grownCap w (n + 1) n 190 = G := ⟨_, rfl⟩
  rw [hG] at hGn hGm
  obtain ⟨zs, hzs⟩ : ∃ zs, zs = List.replicate (n + 1 - i) (Value.pointer none) ++ List.replicate (G - (n + 1)) (Value.pointer none) := ⟨_, rfl⟩
  obtain ⟨N, hN⟩ : ∃ N, N = l.take i ++ zs := ⟨_, rfl⟩
  have hzl : zs.length = G - i := by rw [hzs]; simp; omega
  have hNl : N.length = G := by rw [hN]; simp; omega
  obtain ⟨W1, hW1⟩ : ∃ W1, W1 = w.drew.alloc (.cells N.toArray 190) := ⟨_, rfl⟩
  have RZ : Hid (∀ ty, (Builtin.append_ #[186, 3] ty #[.slice (some ⟨g, 0, none⟩) i n, .int .i64 ((n : Int) + 1 - (i : Int))]).run Tryz.prog w = .ok (.slice (some ⟨w.heap.size, 0, none⟩) (n + 1) G) W1) := fun ty => by
    have hck : i + (n + 1 - i) = n + 1 := by omega
    have h := Lib.run_append_grow_zeros w 186 3 ty 190 i0 _ .i64 .i64 Tryz.underlying186 Tryz.underlying3 hi0 hz0 (some ⟨g, 0, none⟩) i n (l.take i) hold (n + 1 - i) (by omega) (by omega) (by omega) (by omega) (by rw [hb0]; omega)
      (by rw [hck, hb0]; exact growslice_fits (by omega) (by omega))
    rw [hck] at h
    rw [show (n : Int) + 1 - (i : Int) = ((n + 1 - i : Nat) : Int) by omega, h, hG, hW1, hN, hzs]
    congr 3
    apply Array.toList_inj.1
    simp [Value.cells, zeroCells_one]
  have hb1w : Below w.heap.size w W1 := by rw [hW1]; exact (Below.refl _ w).drew.alloc (Nat.le_refl _) _
  have hN1 : W1.heap[w.heap.size]? = some (.cells N.toArray 190 (0, 0)) := by rw [hW1]; exact Go.heap_alloc_new w.drew _
  obtain ⟨X, hX⟩ : ∃ X, X = N.take i ++ [v] ++ N.drop (i + 1) := ⟨_, rfl⟩
  obtain ⟨Y, hY⟩ : ∃ Y, Y = X.take (i + 1) ++ l.drop i ++ X.drop (i + 1 + (l.drop i).length) := ⟨_, rfl⟩
  have hXl : X.length = G := by rw [hX]; simp; omega
  have HY : Hid (Y.length = G ∧ Y.take (l.take i ++ v :: l.drop i).length = l.take i ++ v :: l.drop i) := by
    have := grow_cells N l i v zs hi hN (by omega) X Y hX hY
    exact ⟨this.1.trans hNl, this.2⟩
  have HC1 : Hid (∀ (ty : TypeId) (dl dc : Nat), 0 < dl → (Builtin.copy_ #[186, 186] ty #[.slice (some ⟨w.heap.size, i, none⟩) dl dc, .slice (some ⟨q, 0, none⟩) 1 1]).run Tryz.prog W1 = .ok (goInt 1) (W1.setRow w.heap.size X.toArray)) := by
    intro ty dl dc hdl
    have := run_copy_row (P := Tryz.prog) W1 186 186 ty 190 w.heap.size i dl dc ⟨q, 0, none⟩ 1 1 N.toArray 190 [v] Tryz.underlying186 hz2 hN1 (by simp only [Nat.min_def, List.length_singleton]; split <;> omega) (fun j u hu => by
      rcases j with _ | j
      · simp at hu; subst hu
        rw [addr_add, hb1w.cell (p := ⟨q, 0 + 0, none⟩) hql]
        exact cell_of_row _ _ 0 _ _ _ hq
      · simp at hu) (by simp; omega) (by simpa using hv)
    rw [show N.toArray.toList = N from rfl, List.length_singleton, ← hX] at this
    exact this
  have hXg : (W1.setRow w.heap.size X.toArray).heap[w.heap.size]? = some (.cells X.toArray 190 (0, 0)) := by rw [setRow_heap W1 _ _ _ 190 _ hN1]
  obtain ⟨W2, hW2⟩ : ∃ W2, W2 = W1.setRow w.heap.size X.toArray := ⟨_, rfl⟩
  rw [← hW2] at HC1 hXg
  have hb2w : Below w.heap.size w W2 := by rw [hW2]; exact hb1w.trans (Only.below (Only.setRow _ _ _) (Nat.le_refl _))
  have HC2 : Hid (∀ (W : World) (ty : TypeId) (dl dc sc : Nat), W.heap = W2.heap → n - i ≤ dl → (Builtin.copy_ #[186, 186] ty #[.slice (some ⟨w.heap.size, i + 1, none⟩) dl dc, .slice (some ⟨g, i, none⟩) (n - i) sc]).run Tryz.prog W = .ok (goInt ((n - i : Nat) : Int)) (W.setRow w.heap.size Y.toArray)) := by
    intro W ty dl dc sc hW hdl
    have hgW : W.heap[w.heap.size]? = some (.cells X.toArray 190 (0, 0)) := by rw [hW]; exact hXg
    have := run_copy_row (P := Tryz.prog) W 186 186 ty 190 w.heap.size (i + 1) dl dc ⟨g, i, none⟩ (n - i) sc X.toArray 190 (l.drop i) Tryz.underlying186 hz2 hgW (by simp only [Nat.min_def, List.length_drop]; split <;> omega) (fun j u hu => by
      rw [addr_add, World.cell?_of_block (w := w) (by rw [hW]; exact hb2w.block g hgl)]
      rw [List.getElem?_drop] at hu
      exact hcell _ u hu) (by simp; omega) (fun u hu => h1 u (List.mem_of_mem_drop hu))
    rw [show X.toArray.toList = X from rfl, ← hY] at this
    rw [this, List.length_drop, hn]
  have HB : Hid (∀ W : World, W.heap = W2.heap → W.os = W2.os → W.tape = W2.tape → W.output = W2.output → VAt (W.setRow w.heap.size Y.toArray) S 190 (some ⟨w.heap.size, 0, none⟩) (l.take i ++ v :: l.drop i) G ∧ Below w.heap.size w (W.setRow w.heap.size Y.toArray)) := fun W e1 e2 e3 e4 => by
    have hgW : W.heap[w.heap.size]? = some (.cells X.toArray 190 (0, 0)) := by rw [e1]; exact hXg
    refine ⟨VAt.put (w := w) (hS _ (Nat.le_refl _)) (cur := Y.toArray) (setRow_heap _ _ _ _ 190 _ hgW) (by simpa using HY.out.1) hGm (by simp; omega) HY.out.2, ?_⟩
    exact hb2w.trans (Only.below (Only.of (Only.setRow _ _ W) e1 e2 e3 e4) (Nat.le_refl _))
  have hb1 : ((i : Int) == (n : Int)) = false := beq_eq_false_iff_ne.2 (by omega)
  have hb2 : ¬ (G = i + 1) := by omega
  have hb4 : ¬ (n = i) := by omega
  have hb8 : ¬ (G = i) := by omega
  have hw1 : IntKind.i64.wrap ((i : Int) + 1) = (i : Int) + 1 := by rw [IntKind.wrap_i64]; omega
  have hb5 : (0 : Int) ≤ (i : Int) + 1 := by omega
  have hb6 : (i : Int) + 1 ≤ (n : Int) + 1 := by omega
  have hb7 : (i : Int) ≤ (n : Int) + 1 := by omega
  have htn : ((i : Int) + 1).toNat = i + 1 := by omega
  have hb9 : i ≤ n := by omega
  have hb10 : (i : Int) ≤ (n : Int) := by omega
  have hGb : G ≤ 9223372036854775807 := by unfold maxLen at hGm; omega
  rw [hn] at hi hl hc ⊢
  clear h hg hm hX h1 ht hsz hY hz2 hv hq hS hi0 hz0 hs0 hb0 hG hold hcell hzs hN hW1 hXg hW2 hb2w hGm hN1 hb1w hzl hNl hXl
  go_enter Tryz.func233, Tryz.ntmps233
  go_wp2_with (first
    | (at_builtin; refine Lib.wpList_append_run _ rfl _ _ _ _ rfl _ _ rfl rfl _ _ (RZ.out _) ?_)
    | (refine wpList_copyV rfl _ _ 186 rfl _ _ rfl rfl _ _ (HC1.out _ _ _ (by omega)) ?_))
  go_region_law (refine step_copy rfl _ _ 186 rfl _ _ (by simp [Act.eval, Act.put]) (by simp [Act.eval, Act.put]) _ _ (HC2.out _ _ (n + 1 - (i + 1)) (G - (i + 1)) (n - i) rfl (by omega)) ?_)
  go_wp2
  go_ret
  exact ⟨G, rfl, HB.out _ rfl rfl rfl rfl⟩
set_option maxHeartbeats 2000000 in
/-- At the end. -/
theorem insP_end (S : Nat → Prop) (a : Option Addr) (q : Nat) (l : List Value) (cap : Nat) (v : Value) (w : World) (h : VAt w S 190 a l cap) (hS : ∀ k, w.heap.size ≤ k → S k) (hl : l.length ≤ 100000) (hv : v.oneCell' = true) (hq : w.heap[q]? = some (.cells #[v] 190 (0, 0))) :
    Calls Tryz.prog 233 #[.slice a l.length cap, .int .i64 (l.length : Nat), .slice (some ⟨q, 0, none⟩) 1 1] w fun e w' => ∃ a' cap', e = .returned (.slice a' (l.length + 1) cap') ∧ VAt w' S 190 a' (l ++ [v]) cap' ∧ Tu (fun k => ob a = some k) w w' ∧ (ob a' = ob a ∨ ob a' = some w.heap.size) := by
  have HV : Hid (VAt w S 190 a l cap) := h
  have HS : Hid (∀ k, w.heap.size ≤ k → S k) := hS
  have hc := h.len
  have HQ : Hid (w.cell? ⟨q, 0, none⟩ = some v) := cell_of_row _ _ 0 _ _ _ hq
  obtain ⟨A, hA⟩ : ∃ A, (if cap = l.length then a else a.map (·.add l.length)) = A := ⟨_, rfl⟩
  have EL : Hid ((l ++ [v]).length = l.length + 1) := by show _ = _; simp
  rcases a with _ | ad
  · obtain ⟨rfl, rfl⟩ : l = [] ∧ cap = 0 := by
      rcases h with ⟨_, h1, h2⟩ | ⟨g, cur, h1, _⟩
      · exact ⟨h1, h2⟩
      · cases h1
    clear h hS hq hA
    go_enter Tryz.func233, Tryz.ntmps233
    go_wp2_with (at_builtin; refine wpList_appN 186 190 (Value.pointer none) rfl Tryz.underlying186 Tryz.info190 rfl _ _ rfl S HS.out none 0 [] rfl 0 rfl HV.out ⟨q, 0, none⟩ v 1 rfl HQ.out hv (by simp) ?_)
    intro a' cap' w' r1 r2 r3
    go_wp2
    go_ret
    exact ⟨a', cap', rfl, r1, r2, r3⟩
  · obtain ⟨g, rfl⟩ : ∃ g, ad = ⟨g, 0, none⟩ := by
      rcases h with ⟨h1, _⟩ | ⟨g, cur, h1, _⟩
      · cases h1
      · cases h1; exact ⟨g, rfl⟩
    obtain ⟨n, hn⟩ : ∃ n, l.length = n := ⟨_, rfl⟩
    have EN : Hid (l.length = n) := hn
    have hA' : (if cap = n then some (⟨g, 0, none⟩ : Addr) else some ⟨g, n, none⟩) = A := by
      rw [← hA, hn]; split <;> simp [addr_add]
    rw [hn] at hc hl EL ⊢
    clear h hS hq hA hn
    go_enter Tryz.func233, Tryz.ntmps233
    go_wp2_with (at_builtin; refine wpList_appN 186 190 (Value.pointer none) rfl Tryz.underlying186 Tryz.info190 rfl _ _ rfl S HS.out (some ⟨g, 0, none⟩) n l EN.out cap rfl HV.out ⟨q, 0, none⟩ v 1 rfl HQ.out hv (by rw [EN.out]; exact hl) ?_)
    intro a' cap' w' r1 r2 r3
    go_wp2
    go_ret
    exact ⟨a', cap', rfl, r1, r2, r3⟩
theorem insP_any (S : Nat → Prop) (a : Option Addr) (q : Nat) (l : List Value) (cap i : Nat) (v : Value) (w : World) (h : VAt w S 190 a l cap) (hS : ∀ k, w.heap.size ≤ k → S k) (hi : i ≤ l.length) (hl : l.length ≤ 100000) (h1 : ∀ v ∈ l, v.oneCell' = true) (hv : v.oneCell' = true) (hq : w.heap[q]? = some (.cells #[v] 190 (0, 0))) (hne : ∀ g, ob a = some g → q ≠ g) :
    Calls Tryz.prog 233 #[.slice a l.length cap, .int .i64 (i : Nat), .slice (some ⟨q, 0, none⟩) 1 1] w fun e w' => ∃ a' cap', e = .returned (.slice a' (l.length + 1) cap') ∧ VAt w' S 190 a' (l.take i ++ v :: l.drop i) cap' ∧ Tu (fun k => ob a = some k) w w' ∧ (ob a' = ob a ∨ ob a' = some w.heap.size) := by
  rcases Nat.lt_or_eq_of_le hi with e | e
  · obtain ⟨g, rfl, hs, _⟩ := h.at i e
    rcases Nat.lt_or_eq_of_le h.len.1 with k | k
    · refine (insP_room S g q l cap i v w h e k hl h1 hv hq (hne g rfl)).mono ?_
      rintro e w' ⟨rfl, r1, r2⟩
      exact ⟨_, _, rfl, r1, Tu.ofOnly r2 rfl, .inl rfl⟩
    · subst k
      refine (insP_grow S g q l i v w h hS e hl h1 hv hq).mono ?_
      rintro e w' ⟨cap', rfl, r1, r2⟩
      exact ⟨_, _, rfl, r1, Tu.ofBelow r2, .inr rfl⟩
  · subst e
    refine (insP_end S a q l cap v w h hS hl hv hq).mono ?_
    rintro e w' ⟨a', cap', rfl, r1, r2, r3⟩
    exact ⟨a', cap', rfl, by simpa using r1, r2, r3⟩
end Go.Proofs.YtgdjlopnhecmjaaGreatDoor
