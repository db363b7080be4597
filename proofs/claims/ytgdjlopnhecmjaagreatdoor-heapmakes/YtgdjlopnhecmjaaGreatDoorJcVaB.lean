/- Layer 15: VaB again -/
import Derived.Test.YtgdjlopnhecmjaaGreatDoorGzAL
import Derived.Deep.RegionLaw
import Derived.Test.YtgdjlopnhecmjaaGreatDoorGzAJ
namespace Go.Proofs.YtgdjlopnhecmjaaGreatDoor
open Go.RowKit
set_option linter.unusedVariables false
set_option maxRecDepth 4000
/-- A copy whose run is known, in a region that draws. -/
theorem step_copy {ops : Array Oper} {o : Oper} {a : Act} {K : Act → World → Prop} {Q : Exit → Act → World → Prop} {E : Prop} {w : World} (hgd : o.guard = none) (s x : Operand) (t : TypeId)
    (ho : o.op = .call { callee := .builtin .copy, args := #[s, x], argTypes := #[t, t] }) (v1 v2 : Value) (hs : a.eval s = v1) (hx : a.eval x = v2) (v' : Value) (w' : World)
    (hr : (Builtin.copy_ #[t, t] o.type #[v1, v2]).run Tryz.prog w = .ok v' w') (h : K (a.put o.dst v') w') :
    if Region.wanted o (yielded ops a.tmps) = true then Oper.wp Tryz.prog o a w K Q else E := by
  have hw : Region.wanted o (yielded ops a.tmps) = true := by simp [Region.wanted, hgd]
  rw [if_pos hw]
  unfold Oper.wp execOp
  simp only [ho, resolve, invoke, builtin, Sem.run_bind, Sem.run_pure, Result.andThen_ok, List.map_toArray, List.map_cons, List.map_nil, hs, hx, hr]
  exact h
theorem wpList_copyV {ops : Array Oper} {rest : List Oper} {o : Oper} {a : Act} {Q : Exit → Act → World → Prop} {w : World} (hgd : o.guard = none) (s x : Operand) (t : TypeId)
    (ho : o.op = .call { callee := .builtin .copy, args := #[s, x], argTypes := #[t, t] }) (v1 v2 : Value) (hs : a.eval s = v1) (hx : a.eval x = v2) (v' : Value) (w' : World)
    (hr : (Builtin.copy_ #[t, t] o.type #[v1, v2]).run Tryz.prog w = .ok v' w') (h : wpList Tryz.prog ops Q rest (a.put o.dst v') w') : wpList Tryz.prog ops Q (o :: rest) a w := by
  refine wpList_plain hgd fun K' hK' => ?_
  unfold Oper.wp
  simp [execOp, ho, resolve, invoke, builtin, hs, hx, hr, Result.andThen]
  exact hK' _ _ h
theorem zeroCells_one (z : Value) (n : Nat) : (Builtin.zeroCells #[z] n).toList = List.replicate n z := by
  simp only [Builtin.zeroCells]
  apply List.ext_getElem
  · simp
  · intro i h1 h2
    simp [Nat.mod_one]
theorem replicate_one (z : Value) (hz : z.oneCell' = true) (n : Nat) : ∀ v ∈ List.replicate n z, v.oneCell' = true := fun v hv => by rw [List.eq_of_mem_replicate hv]; exact hz
theorem Only.of {g : Nat} {w W w' : World} (h : Only g W w') (h0 : W.heap = w.heap) (h1 : W.os = w.os) (h2 : W.tape = w.tape) (h3 : W.output = w.output) : Only g w w' :=
  ⟨h.os.trans h1, h.tape.trans h2, h.output.trans h3, by rw [h.size, h0], fun k hk => by rw [h.block k hk, h0]⟩
/-- What is left of a row behind a deletion. -/
theorem del_cells (cur : List Value) (l : List Value) (i j n : Nat) (z : List Value) (h : cur.take l.length = l) (hij : i ≤ j) (hj : j ≤ l.length) (hn : n = i + (l.length - j)) (X : List Value) (hX : X = cur.take i ++ l.drop j ++ cur.drop (i + (l.drop j).length)) :
    (X.take n ++ z).take (l.take i ++ l.drop j).length = l.take i ++ l.drop j := by
  have hl : l.length ≤ cur.length := by have := congrArg List.length h; simp at this; omega
  have e1 : l.take i = cur.take i := by rw [← h, List.take_take, Nat.min_eq_left (by omega)]
  have hlen : (cur.take i ++ l.drop j).length = n := by simp; omega
  have e2 : X.take n = cur.take i ++ l.drop j := by
    rw [hX, List.take_left' hlen]
  rw [e2, e1, List.take_left' rfl]

theorem clearI_run (w : World) (g o n c : Nat) (cur : Array Value) (hg : w.heap[g]? = some (.cells cur 3 (0, 0))) (hfit : o + n ≤ cur.size) (hn : 0 < n) (ty : TypeId) :
    (Builtin.clear_ #[40] ty #[.slice (some ⟨g, o, none⟩) n c]).run Tryz.prog w = .ok (.tuple #[]) (w.setRow g (cur.toList.take o ++ List.replicate n (Value.int .i64 0) ++ cur.toList.drop (o + n)).toArray) := by
  have hst := run_storeCells_at Tryz.prog g o 3 (List.replicate n (Value.int .i64 0)) 0 cur w hg (by simpa using hfit) (replicate_one _ rfl n)
  rw [List.length_replicate, Nat.add_zero] at hst
  obtain ⟨m, rfl⟩ : ∃ m, n = m + 1 := ⟨n - 1, by omega⟩
  have hz := zeroCells_one (Value.int .i64 0) (m + 1)
  simp only [Builtin.clear_, Value.cells]
  simp [run_underlying Tryz.underlying40, hz, hst]
theorem wpList_clearI {ops : Array Oper} {rest : List Oper} {o : Oper} {a : Act} {Q : Exit → Act → World → Prop} {w : World} (hgd : o.guard = none) (s : Operand)
    (ho : o.op = .call { callee := .builtin .clear, args := #[s], argTypes := #[40] })
    (g off n c : Nat) (cur : Array Value) (hs : a.eval s = .slice (some ⟨g, off, none⟩) n c) (hg : w.heap[g]? = some (.cells cur 3 (0, 0))) (hfit : off + n ≤ cur.size) (hn : 0 < n) (Y : Array Value) (hY : (cur.toList.take off ++ List.replicate n (Value.int .i64 0) ++ cur.toList.drop (off + n)).toArray = Y)
    (h : wpList Tryz.prog ops Q rest (a.put o.dst (.tuple #[])) (w.setRow g Y)) : wpList Tryz.prog ops Q (o :: rest) a w := by
  refine wpList_plain hgd fun K' hK' => ?_
  have hrun := fun ty => clearI_run w g off n c cur hg hfit hn ty
  simp only [hY] at hrun
  unfold Oper.wp
  simp [execOp, ho, resolve, invoke, builtin, hs, hrun, Result.andThen]
  exact hK' _ _ h
set_option maxHeartbeats 4000000 in
theorem delI_any (S : Nat → Prop) (g : Nat) (l : List Value) (cap i j : Nat) (w : World) (h : VAt w S 3 (some ⟨g, 0, none⟩) l cap) (hij : i < j) (hj : j ≤ l.length) (hl : l.length ≤ 100000) (h1 : ∀ v ∈ l, v.oneCell' = true) :
    Calls Tryz.prog 196 #[.slice (some ⟨g, 0, none⟩) l.length cap, .int .i64 (i : Nat), .int .i64 (j : Nat)] w fun e w' => e = .returned (.slice (some ⟨g, 0, none⟩) (l.take i ++ l.drop j).length cap) ∧ VAt w' S 3 (some ⟨g, 0, none⟩) (l.take i ++ l.drop j) cap ∧ Only g w w' := by
  obtain ⟨cur, hs, hg, hc, hm, hsz, ht⟩ := h.cur
  obtain ⟨i0, hi0, hz0, hz2, hz3⟩ := info_parts Tryz.info3
  obtain ⟨n, hn⟩ : ∃ n, l.length = n := ⟨_, rfl⟩
  obtain ⟨k, hk⟩ : ∃ k, i + (n - j) = k := ⟨_, rfl⟩
  obtain ⟨X, hX⟩ : ∃ X, cur.toList.take i ++ l.drop j ++ cur.toList.drop (i + (l.drop j).length) = X := ⟨_, rfl⟩
  have hXl : X.length = cap := by rw [← hX]; simp; omega
  have hcm : cap ≤ 9223372036854775807 := by unfold maxLen at hm; omega
  have hlen : (l.take i ++ l.drop j).length = k := by simp; omega
  obtain ⟨A, hA, hsrc⟩ : ∃ A : Addr, (if cap = j then some (⟨g, 0, none⟩ : Addr) else some ⟨g, j, none⟩) = some A ∧ ∀ q u, (l.drop j)[q]? = some u → w.cell? (A.add q) = some u := by
    by_cases e : cap = j
    · exact ⟨⟨g, 0, none⟩, by simp [e], fun q u hu => by rw [List.drop_eq_nil_of_le (by omega)] at hu; cases hu⟩
    · refine ⟨⟨g, j, none⟩, by simp [e], fun q u hu => ?_⟩
      rw [addr_add, cell_of_row _ _ _ _ _ _ hg]
      rw [List.getElem?_drop] at hu
      have hq : j + q < l.length := (List.getElem?_eq_some_iff.1 hu).1
      rw [← ht, List.getElem?_take, if_pos hq] at hu
      simpa using hu
  have HR : Hid (∀ (W : World) (ty : TypeId), W.heap = w.heap → (Builtin.append_ #[40, 40] ty #[.slice (some ⟨g, 0, none⟩) i cap, .slice (some A) (n - j) (cap - j)]).run Tryz.prog W = .ok (.slice (some ⟨g, 0, none⟩) k cap) (W.setRow g X.toArray)) := by
    intro W ty hW
    have hgW : W.heap[g]? = some (.cells cur 3 (0, 0)) := by rw [hW]; exact hg
    have h1' : ∀ u ∈ l.drop j, u.oneCell' = true := fun u hu => h1 u (List.mem_of_mem_drop hu)
    have key := run_append_room (P := Tryz.prog) W 40 ty 3 i0 Tryz.underlying40 hi0 g i cap cur hgW A (n - j) (cap - j) (l.drop j) (by rw [hz2]; simp; omega) (fun q u hu => by rw [World.cell?_of_block (w := w) (by rw [hW])]; exact hsrc q u hu) h1' (by omega) (by rw [hz2]; simp; omega)
    rw [hz2] at key
    simp only [Nat.mul_one] at key
    rw [hX, hk] at key
    exact key
  have HX : Hid (∀ W : World, W.heap = w.heap → (W.setRow g X.toArray).heap[g]? = some (.cells X.toArray 3 (0, 0))) := fun W hW => by
    have hgW : W.heap[g]? = some (.cells cur 3 (0, 0)) := by rw [hW]; exact hg
    rw [setRow_heap W g _ _ 3 _ hgW]
  obtain ⟨Y, hY⟩ : ∃ Y, X.take k ++ List.replicate (n - k) (Value.int .i64 0) ++ X.drop (k + (n - k)) = Y := ⟨_, rfl⟩
  have EY : Hid (X.take k ++ List.replicate (n - k) (Value.int .i64 0) ++ X.drop (k + (n - k)) = Y) := hY
  have HY : Hid (Y.length = cap ∧ Y.take (l.take i ++ l.drop j).length = l.take i ++ l.drop j) := by
    refine ⟨by rw [← hY]; simp; omega, ?_⟩
    rw [← hY, List.append_assoc]
    exact del_cells cur.toList l i j k _ ht (by omega) hj (by omega) X hX.symm
  have HF : Hid (S g ∧ cap ≤ maxLen) := ⟨hs, hm⟩
  have hkn : k < n := by omega
  have hncap : n ≤ cap := by omega
  have hkc : ¬ cap = k := by omega
  have hne : ((i : Int) == (j : Int)) = false := beq_eq_false_iff_ne.2 (by omega)
  have hcj : n - j ≤ cap - j := by omega
  have hiL : i ≤ cap := by omega
  rw [hlen, hn]
  rw [hn] at hj hl hc
  clear h hg hm hX h1 ht hsz hi0 hz0 hz2 hz3 hY hsrc
  go_enter Tryz.func196, Tryz.ntmps196
  go_wp2_with fail
  go_region_law (refine step_app rfl _ _ 40 rfl _ _ (by simp [Act.eval, Act.put]) (by simp [Act.eval, Act.put]) _ _ (HR.out _ _ rfl) ?_)
  go_wp2_with (refine wpList_clearI rfl _ rfl g k (n - k) _ X.toArray rfl (HX.out _ rfl) (by simp; omega) (by omega) Y.toArray (by rw [← EY.out]) ?_)
  go_ret
  refine ⟨rfl, VAt.put (w := w) HF.out.1 (cur := Y.toArray) (setRow_heap _ g _ _ 3 _ (HX.out _ rfl)) (by simpa using HY.out.1) HF.out.2 (by rw [hlen]; omega) HY.out.2, ?_⟩
  exact Only.of ((Only.setRow _ _ _).trans (Only.setRow _ _ _)) rfl rfl rfl rfl

theorem clearP_run (w : World) (g o n c : Nat) (cur : Array Value) (hg : w.heap[g]? = some (.cells cur 190 (0, 0))) (hfit : o + n ≤ cur.size) (hn : 0 < n) (ty : TypeId) :
    (Builtin.clear_ #[186] ty #[.slice (some ⟨g, o, none⟩) n c]).run Tryz.prog w = .ok (.tuple #[]) (w.setRow g (cur.toList.take o ++ List.replicate n (Value.pointer none) ++ cur.toList.drop (o + n)).toArray) := by
  have hst := run_storeCells_at Tryz.prog g o 190 (List.replicate n (Value.pointer none)) 0 cur w hg (by simpa using hfit) (replicate_one _ rfl n)
  rw [List.length_replicate, Nat.add_zero] at hst
  obtain ⟨m, rfl⟩ : ∃ m, n = m + 1 := ⟨n - 1, by omega⟩
  have hz := zeroCells_one (Value.pointer none) (m + 1)
  simp only [Builtin.clear_, Value.cells]
  simp [run_underlying Tryz.underlying186, hz, hst]
theorem wpList_clearP {ops : Array Oper} {rest : List Oper} {o : Oper} {a : Act} {Q : Exit → Act → World → Prop} {w : World} (hgd : o.guard = none) (s : Operand)
    (ho : o.op = .call { callee := .builtin .clear, args := #[s], argTypes := #[186] })
    (g off n c : Nat) (cur : Array Value) (hs : a.eval s = .slice (some ⟨g, off, none⟩) n c) (hg : w.heap[g]? = some (.cells cur 190 (0, 0))) (hfit : off + n ≤ cur.size) (hn : 0 < n) (Y : Array Value) (hY : (cur.toList.take off ++ List.replicate n (Value.pointer none) ++ cur.toList.drop (off + n)).toArray = Y)
    (h : wpList Tryz.prog ops Q rest (a.put o.dst (.tuple #[])) (w.setRow g Y)) : wpList Tryz.prog ops Q (o :: rest) a w := by
  refine wpList_plain hgd fun K' hK' => ?_
  have hrun := fun ty => clearP_run w g off n c cur hg hfit hn ty
  simp only [hY] at hrun
  unfold Oper.wp
  simp [execOp, ho, resolve, invoke, builtin, hs, hrun, Result.andThen]
  exact hK' _ _ h
set_option maxHeartbeats 4000000 in
theorem delP_any (S : Nat → Prop) (g : Nat) (l : List Value) (cap i j : Nat) (w : World) (h : VAt w S 190 (some ⟨g, 0, none⟩) l cap) (hij : i < j) (hj : j ≤ l.length) (hl : l.length ≤ 100000) (h1 : ∀ v ∈ l, v.oneCell' = true) :
    Calls Tryz.prog 155 #[.slice (some ⟨g, 0, none⟩) l.length cap, .int .i64 (i : Nat), .int .i64 (j : Nat)] w fun e w' => e = .returned (.slice (some ⟨g, 0, none⟩) (l.take i ++ l.drop j).length cap) ∧ VAt w' S 190 (some ⟨g, 0, none⟩) (l.take i ++ l.drop j) cap ∧ Only g w w' := by
  obtain ⟨cur, hs, hg, hc, hm, hsz, ht⟩ := h.cur
  obtain ⟨i0, hi0, hz0, hz2, hz3⟩ := info_parts Tryz.info190
  obtain ⟨n, hn⟩ : ∃ n, l.length = n := ⟨_, rfl⟩
  obtain ⟨k, hk⟩ : ∃ k, i + (n - j) = k := ⟨_, rfl⟩
  obtain ⟨X, hX⟩ : ∃ X, cur.toList.take i ++ l.drop j ++ cur.toList.drop (i + (l.drop j).length) = X := ⟨_, rfl⟩
  have hXl : X.length = cap := by rw [← hX]; simp; omega
  have hcm : cap ≤ 9223372036854775807 := by unfold maxLen at hm; omega
  have hlen : (l.take i ++ l.drop j).length = k := by simp; omega
  obtain ⟨A, hA, hsrc⟩ : ∃ A : Addr, (if cap = j then some (⟨g, 0, none⟩ : Addr) else some ⟨g, j, none⟩) = some A ∧ ∀ q u, (l.drop j)[q]? = some u → w.cell? (A.add q) = some u := by
    by_cases e : cap = j
    · exact ⟨⟨g, 0, none⟩, by simp [e], fun q u hu => by rw [List.drop_eq_nil_of_le (by omega)] at hu; cases hu⟩
    · refine ⟨⟨g, j, none⟩, by simp [e], fun q u hu => ?_⟩
      rw [addr_add, cell_of_row _ _ _ _ _ _ hg]
      rw [List.getElem?_drop] at hu
      have hq : j + q < l.length := (List.getElem?_eq_some_iff.1 hu).1
      rw [← ht, List.getElem?_take, if_pos hq] at hu
      simpa using hu
  have HR : Hid (∀ (W : World) (ty : TypeId), W.heap = w.heap → (Builtin.append_ #[186, 186] ty #[.slice (some ⟨g, 0, none⟩) i cap, .slice (some A) (n - j) (cap - j)]).run Tryz.prog W = .ok (.slice (some ⟨g, 0, none⟩) k cap) (W.setRow g X.toArray)) := by
    intro W ty hW
    have hgW : W.heap[g]? = some (.cells cur 190 (0, 0)) := by rw [hW]; exact hg
    have h1' : ∀ u ∈ l.drop j, u.oneCell' = true := fun u hu => h1 u (List.mem_of_mem_drop hu)
    have key := run_append_room (P := Tryz.prog) W 186 ty 190 i0 Tryz.underlying186 hi0 g i cap cur hgW A (n - j) (cap - j) (l.drop j) (by rw [hz2]; simp; omega) (fun q u hu => by rw [World.cell?_of_block (w := w) (by rw [hW])]; exact hsrc q u hu) h1' (by omega) (by rw [hz2]; simp; omega)
    rw [hz2] at key
    simp only [Nat.mul_one] at key
    rw [hX, hk] at key
    exact key
  have HX : Hid (∀ W : World, W.heap = w.heap → (W.setRow g X.toArray).heap[g]? = some (.cells X.toArray 190 (0, 0))) := fun W hW => by
    have hgW : W.heap[g]? = some (.cells cur 190 (0, 0)) := by rw [hW]; exact hg
    rw [setRow_heap W g _ _ 190 _ hgW]
  obtain ⟨Y, hY⟩ : ∃ Y, X.take k ++ List.replicate (n - k) (Value.pointer none) ++ X.drop (k + (n - k)) = Y := ⟨_, rfl⟩
  have EY : Hid (X.take k ++ List.replicate (n - k) (Value.pointer none) ++ X.drop (k + (n - k)) = Y) := hY
  have HY : Hid (Y.length = cap ∧ Y.take (l.take i ++ l.drop j).length = l.take i ++ l.drop j) := by
    refine ⟨by rw [← hY]; simp; omega, ?_⟩
    rw [← hY, List.append_assoc]
    exact del_cells cur.toList l i j k _ ht (by omega) hj (by omega) X hX.symm
  have HF : Hid (S g ∧ cap ≤ maxLen) := ⟨hs, hm⟩
  have hkn : k < n := by omega
  have hncap : n ≤ cap := by omega
  have hkc : ¬ cap = k := by omega
  have hne : ((i : Int) == (j : Int)) = false := beq_eq_false_iff_ne.2 (by omega)
  have hcj : n - j ≤ cap - j := by omega
  have hiL : i ≤ cap := by omega
  rw [hlen, hn]
  rw [hn] at hj hl hc
  clear h hg hm hX h1 ht hsz hi0 hz0 hz2 hz3 hY hsrc
  go_enter Tryz.func155, Tryz.ntmps155
  go_wp2_with fail
  go_region_law (refine step_app rfl _ _ 186 rfl _ _ (by simp [Act.eval, Act.put]) (by simp [Act.eval, Act.put]) _ _ (HR.out _ _ rfl) ?_)
  go_wp2_with (refine wpList_clearP rfl _ rfl g k (n - k) _ X.toArray rfl (HX.out _ rfl) (by simp; omega) (by omega) Y.toArray (by rw [← EY.out]) ?_)
  go_ret
  refine ⟨rfl, VAt.put (w := w) HF.out.1 (cur := Y.toArray) (setRow_heap _ g _ _ 190 _ (HX.out _ rfl)) (by simpa using HY.out.1) HF.out.2 (by rw [hlen]; omega) HY.out.2, ?_⟩
  exact Only.of ((Only.setRow _ _ _).trans (Only.setRow _ _ _)) rfl rfl rfl rfl
end Go.Proofs.YtgdjlopnhecmjaaGreatDoor
