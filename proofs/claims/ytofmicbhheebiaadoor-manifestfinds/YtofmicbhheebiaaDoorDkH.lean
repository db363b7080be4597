/- What settle does: laws of its operations. -/
import Derived.Test.YtofmicbhheebiaaDoorDkG
namespace Go.Proofs.YtofmicbhheebiaaDoor
open Go.RowKit Go.Maps
set_option linter.unusedVariables false
set_option maxRecDepth 4000

/-- A write in a block of its own. -/
def RowX (w : World) (g : Nat) (x : Wr) : Prop := w.heap[g]? = some (.cells (cellsX x).toArray 77 (0, 0))
theorem RowX.cell0 {w : World} {g : Nat} {x : Wr} (h : RowX w g x) : w.cell? ⟨g, 0, none⟩ = some (.int .i64 (x.at : Nat)) := by rw [cell_of_row w g 0 _ _ _ h]; simp [cellsX]
theorem RowX.isB {w : World} {g : Nat} {x : Wr} (h : RowX w g x) (hb : AllB x.by) : IsB w (some ⟨g, 1, none⟩) x.by :=
  ⟨hb, .inr ⟨g, 1, rfl, (Array.getElem?_eq_some_iff.1 h).1, fun i hi => by
    rw [cell_of_row w g (1 + i) _ _ _ h, Nat.add_comm 1 i]
    simpa [cellsX] using cellsB_at x.by i hi⟩⟩

theorem zero74 (w : World) : (zeroValue 77).run Tryd.prog w = .ok (.agg (cellsX ⟨0, zeros⟩).toArray) w := by
  obtain ⟨i0, hi, hz0, hz1, hz2⟩ := info_parts info74
  simp [zeroValue, typeInfo, hi, hz0]

theorem wpList_allocX {ops : Array Oper} {rest : List Oper} {o : Oper} {a : Act} {Q : Exit → Act → World → Prop} {w : World} (hgd : o.guard = none) (ho : o.op = .alloc 77)
    (h : ∀ w1, RowX w1 w.heap.size ⟨0, zeros⟩ → Below w.heap.size w w1 → w1.heap.size = w.heap.size + 1 → wpList Tryd.prog ops Q rest (a.put o.dst (.pointer (some ⟨w.heap.size, 0, none⟩))) w1) : wpList Tryd.prog ops Q (o :: rest) a w := by
  refine wpList_plain hgd fun K' hK' => ?_
  have := h (w.alloc (.cells (cellsX ⟨0, zeros⟩).toArray 77)) (Go.heap_alloc_new w _) ((Below.refl _ w).alloc (Nat.le_refl _) _) (by simp)
  unfold Oper.wp
  simp only [execOp, ho, Sem.run_bind, alloc_run w (zero74 w), Result.andThen_ok, Sem.run_pure]
  exact hK' _ _ this

theorem wpList_storeX {ops : Array Oper} {rest : List Oper} {o : Oper} {a : Act} {w : World} {Q : Exit → Act → World → Prop} (hgd : o.guard = none) (x y : Operand) (ho : o.op = .store 77 x y)
    (g : Nat) (X : Wr) (hx : a.eval x = .pointer (some ⟨g, 0, none⟩)) (hy : a.eval y = .agg (cellsX X).toArray) (cur : Wr) (hg : RowX w g cur) (hc : cur.by.length = 64) (hl : X.by.length = 64)
    (h : ∀ w1, RowX w1 g X → Only g w w1 → wpList Tryd.prog ops Q rest (a.put o.dst undef) w1) : wpList Tryd.prog ops Q (o :: rest) a w :=
  wpList_store_row hgd 77 x y ho g _ hx hy 77 _ hg (by rw [size65]; simpa using (cellsX_len hl).symm) (by simp [cellsX_len hc, cellsX_len hl]) (all_oneCell_toArray (cellsX_one X))
    (h _ (setRow_heap w g _ _ 77 _ hg) (Only.setRow _ _ _))

/-- A sector's block is laid, in a region that draws. -/
theorem wp_allocB {o : Oper} {a : Act} {K : Act → World → Prop} {Q : Exit → Act → World → Prop} {w : World} (ho : o.op = .alloc 74) (h : K (a.put o.dst (.pointer (some ⟨w.heap.size, 0, none⟩))) (zeroW w)) : o.wp Tryd.prog a w K Q := by
  unfold Oper.wp
  simp only [execOp, ho, Sem.run_bind, alloc71, Result.andThen_ok, Sem.run_pure]
  exact h
theorem wp_storeB {o : Oper} {a : Act} {K : Act → World → Prop} {Q : Exit → Act → World → Prop} {w : World} (x y : Operand) (ho : o.op = .store 74 x y)
    (g : Nat) (l : List Int) (hx : a.eval x = .pointer (some ⟨g, 0, none⟩)) (hy : a.eval y = .agg (cellsB l).toArray) (t : TypeId) (cur : List Int) (hg : RowB w g t cur) (hc : cur.length = 64) (hl : l.length = 64)
    (h : ∀ w1, RowB w1 g t l → Only g w w1 → K (a.put o.dst undef) w1) : o.wp Tryd.prog a w K Q :=
  wp_store_row 74 x y ho g _ hx hy t _ hg (by rw [size64]; simp [cellsB_len, hl]) (by simp [cellsB_len, hc, hl]) (all_oneCell_toArray (cellsB_one l))
    (h _ (setRow_heap w g _ _ t _ hg) (Only.setRow _ _ _))

/-- copy, in a region that draws. -/
theorem step_copyB {ops : Array Oper} {o : Oper} {a : Act} {K : Act → World → Prop} {Q : Exit → Act → World → Prop} {E : Prop} {w : World} (hgd : o.guard = none) (s x : Operand)
    (ho : o.op = .call { callee := .builtin .copy, args := #[s, x], argTypes := #[22, 22] })
    (g off dl dc : Nat) (t : TypeId) (cur l : List Int) (ax : Option Addr) (n cap k : Nat) (hs : a.eval s = .slice (some ⟨g, off, none⟩) dl dc) (hx : a.eval x = .slice ax n cap) (hn : n = l.length) (hk : k = min n dl) (hg : RowB w g t cur) (hB : IsB w ax l) (hfit : off + k ≤ cur.length)
    (h : ∀ w1, RowB w1 g t (cur.take off ++ l.take k ++ cur.drop (off + k)) → Only g w w1 → K (a.put o.dst (goInt k)) w1) :
    if Region.wanted o (yielded ops a.tmps) = true then Oper.wp Tryd.prog o a w K Q else E := by
  have hw : Region.wanted o (yielded ops a.tmps) = true := by simp [Region.wanted, hgd]
  rw [if_pos hw]
  obtain ⟨w1, hrun, r1, r2⟩ := copy_run w o.type g off dl dc t cur l ax n cap k hn hk hg hB hfit
  unfold Oper.wp
  simp [execOp, ho, resolve, invoke, builtin, hs, hx, hrun, Result.andThen]
  exact h w1 r1 r2

/-- A call of a function value by its contract, in a region that draws. -/
theorem step_callv {ops : Array Oper} {o : Oper} {a : Act} {K : Act → World → Prop} {Q : Exit → Act → World → Prop} {E : Prop} {w : World} (hgd : o.guard = none) (v : Operand) (xs : List Operand) (ts : Array TypeId)
    (ho : o.op = .call { callee := .value v, args := xs.toArray, argTypes := ts }) (f : Nat) (caps : List Value) (hv : a.eval v = .func (.func f) #[] caps.toArray) (vs : List Value) (hx : xs.map a.eval = vs) (R : Ending → World → Prop) (C : Calls Tryd.prog f (vs ++ caps).toArray w R)
    (hf : (match Tryd.prog.funcs[f]? with | some fn => !(fn.name == "runtime.NumGoroutine") && !fn.body.isNone | none => false) = true) (h : ∀ e w', R e w' → ∃ v, e = .returned v ∧ K (a.put o.dst v) w') :
    if Region.wanted o (yielded ops a.tmps) = true then Oper.wp Tryd.prog o a w K Q else E := by
  have hw : Region.wanted o (yielded ops a.tmps) = true := by simp [Region.wanted, hgd]
  rw [if_pos hw]
  subst hx
  obtain ⟨dst, op, type, pos, after, guard⟩ := o
  simp only at ho
  subst ho
  unfold Oper.wp
  have e1 : (execOp a.eval { dst, op := .call { callee := .value v, args := xs.toArray, argTypes := ts }, type, pos, after, guard }).run Tryd.prog w = (callFunc f (xs.map a.eval ++ caps).toArray).run Tryd.prog w := by
    simp [execOp, resolve, hv, Deferred.ofValue, invoke]
  rw [e1, enter_run f _ w hf]
  refine C.mono ?_
  intro e w' hR
  obtain ⟨v, rfl, hK⟩ := h e w' hR
  exact hK

theorem wp_of_step {o : Oper} {a : Act} {K : Act → World → Prop} {Q : Exit → Act → World → Prop} {w : World} {ops : Array Oper} (hgd : o.guard = none) (h : if Region.wanted o (yielded ops a.tmps) = true then Oper.wp Tryd.prog o a w K Q else True) : o.wp Tryd.prog a w K Q := by
  rwa [if_pos (by simp [Region.wanted, hgd])] at h

/-- Under way: so many writes have been laid over what is sure. -/
structure Settling (w wr : World) (base b bs bn : Nat) (ap : Option Addr) (cp ns : Nat) (keep : Nat → Nat) (d : Dk) (k : Nat) (f : Int → Option (List Int)) : Prop where
  box : wr.heap[b]? = some (.cells (boxC bs bn ap cp d) 66 (0, 0))
  sure : MapS wr bs (ns + k) f
  row : RowW wr base ap d.pend cp
  fit : ∀ i : Nat, i < d.n → (f i).getD zeros = layAll keep 0 (d.pend.take k) d.sure i
  keys : ∀ i l, f i = some l → ∃ k : Nat, i = k ∧ k < d.n
  turn : Turn base KC w wr

def updF (f : Int → Option (List Int)) (i : Int) (l : List Int) : Int → Option (List Int) := fun j => if j = i then some l else f j

theorem Settling.next {w wr w4 w5 : World} {base b bs bn cp ns k : Nat} {ap : Option Addr} {keep : Nat → Nat} {d : Dk} {f : Int → Option (List Int)} (h : Settling w wr base b bs bn ap cp ns keep d k f) (hk : k < d.pend.length) (hat : d.pend[k].at < d.n)
    (hb : Below wr.heap.size wr w4) (hS : MapS w5 bs (ns + k + 1) (updF f d.pend[k].at (over (keep k) d.pend[k].by (layAll keep 0 (d.pend.take k) d.sure d.pend[k].at)))) (ht : w4.mapTurned w5 bs) (hge : base ≤ bs) :
    Settling w w5 base b bs bn ap cp ns keep d (k + 1) (updF f d.pend[k].at (over (keep k) d.pend[k].by (layAll keep 0 (d.pend.take k) d.sure d.pend[k].at))) := by
  have hel := turned_else ht
  obtain ⟨es, c, hq⟩ := h.sure.block
  have hq4 : w4.heap[bs]? = some (.map es c) := same_below hb _ _ hq rfl
  have hne : ∀ (i : Nat) (o : Obj), w4.heap[i]? = some o → (∀ es c, o ≠ .map es c) → w5.heap[i]? = some o := fun i o ho hn => by
    rw [hel.2 i (fun e => by subst e; rw [hq4] at ho; cases ho; exact hn _ _ rfl)]; exact ho
  refine ⟨?_, hS, ?_, fun i hi => ?_, fun i l hl => ?_, (h.turn.trans (Turn.ofBelow hb)).trans (turned_turn ht hge)⟩
  · exact hne b _ (same_below hb _ _ h.box rfl) (fun _ _ e => by cases e)
  · obtain ⟨h0, h1 | ⟨q, c', cur, h1, hg1, e2, e3⟩⟩ := RowW.same h.row (same_below hb)
    · exact ⟨h0, .inl h1⟩
    · exact ⟨h0, .inr ⟨q, c', cur, h1, hg1, hne q _ e2 (fun _ _ e => by cases e), e3⟩⟩
  · rw [layAll_step keep d.pend k hk]
    unfold updF updS
    by_cases e : i = d.pend[k].at
    · simp [e]
    · have e' : ¬ (i : Int) = (d.pend[k].at : Int) := by omega
      simp only [e, e', if_false]
      exact h.fit i hi
  · unfold updF at hl
    by_cases e : i = (d.pend[k].at : Int)
    · exact ⟨_, e, hat⟩
    · simp only [e, if_false] at hl
      exact h.keys i l hl

/-- The end: nothing is pending. -/
theorem Settling.done {w wr w' : World} {base b bs bn cp ns m q : Nat} {ap : Option Addr} {keep : Nat → Nat} {d : Dk} {f : Int → Option (List Int)} (h : Settling w wr base b bs bn ap cp ns keep d d.pend.length f) (hok : DkOk d) (hge : base ≤ b ∧ base ≤ bs) (hq : base ≤ q) (hm : ns + d.pend.length ≤ m)
    (hI : MapI w' q 0 (fun _ => none)) (hne : bs ≠ q) (hb : w'.heap[b]? = some (.cells (boxC bs q none 0 (settleD keep d)) 66 (0, 0))) (hs : ∀ o, wr.heap[bs]? = some o → w'.heap[bs]? = some o) : IsD w' base b m (settleD keep d) := by
  refine ⟨bs, q, none, 0, ns + d.pend.length, 0, f, fun _ => none, ⟨hb, h.sure.same (fun o ho _ => hs o ho), hI, rowW_nil _ _, hne, ⟨hge.1, hge.2, hq⟩, fun i hi => ?_, h.keys, newest_none⟩, by simpa [settleD] using hm, Nat.zero_le _, settleD_ok hok⟩
  have := h.fit i hi
  rw [List.take_length] at this
  exact this
end Go.Proofs.YtofmicbhheebiaaDoor
