/- What begin does. -/
import Derived.Test.YtgmljgogmbaioaaGreatDoorKaE
namespace Go.Proofs.YtgmljgogmbaioaaGreatDoor
open Go.RowKit
set_option linter.unusedVariables false
set_option maxRecDepth 4000

theorem enter_run (f : Nat) (vs : Array Value) (w : World) (hf : (match Tryz.prog.funcs[f]? with | some fn => !(fn.name == "runtime.NumGoroutine") && !fn.body.isNone | none => false) = true) : (callFunc f vs).run Tryz.prog w = .ok (.enter f vs) w := by
  unfold callFunc
  simp only [Sem.run_bind, go_sem]
  cases hq : Tryz.prog.funcs[f]? with
  | none => rw [hq] at hf; cases hf
  | some fn =>
    rw [hq] at hf
    simp at hf
    simp [hf.1, hq]
    intro h
    rw [h] at hf
    simp at hf


/-- A call of a Go function by its contract, in a region that draws. -/
theorem step_call {ops : Array Oper} {o : Oper} {a : Act} {K : Act → World → Prop} {Q : Exit → Act → World → Prop} {E : Prop} {w : World} (hgd : o.guard = none) (f : Nat) (xs : List Operand) (ts : Array TypeId)
    (ho : o.op = .call { callee := .value (.func f), args := xs.toArray, argTypes := ts }) (vs : List Value) (hx : xs.map a.eval = vs) (R : Ending → World → Prop) (C : Calls Tryz.prog f vs.toArray w R)
    (hf : (match Tryz.prog.funcs[f]? with | some fn => !(fn.name == "runtime.NumGoroutine") && !fn.body.isNone | none => false) = true) (h : ∀ e w', R e w' → ∃ v, e = .returned v ∧ K (a.put o.dst v) w') :
    if Region.wanted o (yielded ops a.tmps) = true then Oper.wp Tryz.prog o a w K Q else E := by
  have hw : Region.wanted o (yielded ops a.tmps) = true := by simp [Region.wanted, hgd]
  rw [if_pos hw]
  subst hx
  obtain ⟨dst, op, type, pos, after, guard⟩ := o
  simp only at ho
  subst ho
  unfold Oper.wp
  have e1 : execOp a.eval { dst, op := .call { callee := .value (.func f), args := xs.toArray, argTypes := ts }, type, pos, after, guard } = callFunc f (#[] ++ xs.toArray.map a.eval ++ #[]) := rfl
  rw [e1, show (#[] : Array Value) ++ xs.toArray.map a.eval ++ #[] = (xs.map a.eval).toArray from by simp, enter_run f _ w hf]
  refine C.mono ?_
  intro e w' hR
  obtain ⟨v, rfl, hK⟩ := h e w' hR
  exact hK


theorem ent_find : (match Tryz.prog.funcs[49]? with | some fn => !(fn.name == "runtime.NumGoroutine") && !fn.body.isNone | none => false) = true := by kernel_rfl
theorem ent_insP : (match Tryz.prog.funcs[124]? with | some fn => !(fn.name == "runtime.NumGoroutine") && !fn.body.isNone | none => false) = true := by kernel_rfl
/-- What stays where just the parts of Z turn. -/
theorem keepZ {w w' : World} {L L' : Nat → Nat} {Z : Nat → Prop} {l2 : Nat} (hL : Ext w L L') (ht : Tu (fun k => Z (L k) ∨ w.heap.size ≤ k) w w') (hne : ¬ Z l2) : ∀ (i : Nat) (o : Obj), w.heap[i]? = some o → L' i = l2 → w'.heap[i]? = some o := fun i o ho hi =>
  ht.block i o ho (by have hlt := (Array.getElem?_eq_some_iff.1 ho).1; rw [hL i hlt] at hi; rintro (h | h); exact hne (hi ▸ h); omega)
structure StayZ (Z : Nat → Prop) (w w' : World) (L' : Nat → Nat) (cb fb hb : Nat) (a : Option Addr) (cap : Nat) (ps : List Nat) (sh : List Value) (P W : Nat) (φ : Nat → Bool) (m : List Sg) (K : Nat → Nat → List Nat) : Prop where
  tab : Tabs w'
  l0 : L' 0 = 0
  l1 : L' 1 = 0
  box : ¬ Z 1 → w'.heap[cb]? = some (.cells #[.pointer (some ⟨fb, 0, none⟩), .slice a m.length cap, .slice (some ⟨hb, 0, none⟩) W W] 89 (0, 0))
  lb : L' cb = 1
  free : ¬ Z 2 → IsR w' (fun k => L' k = 2) fb P φ
  row : ¬ Z 3 → VAt w' (fun k => L' k = 3) 92 a (ps.map ptrV) cap
  spans : ∀ i (h : i < m.length) (h' : i < ps.length), ¬ Z (5 + 2 * m[i].pg) → SpS w' (fun k => L' k = 5 + 2 * m[i].pg) ps[i] m[i]
  hrow : ¬ Z 4 → w'.heap[hb]? = some (.cells sh.toArray 99 (0, 0))
  lh : L' hb = 4
  shelf : ∀ v c, v < W → c < 7 → ¬ Z (6 + 2 * (v * 7 + c)) → ∃ a cap, sh[v * 7 + c]? = some (.slice a (K v c).length cap) ∧ VAt w' (fun k => L' k = 6 + 2 * (v * 7 + c)) 3 a ((K v c).map numV) cap
theorem Cm.stayZ {w w' : World} {L L' : Nat → Nat} {cb fb hb : Nat} {a : Option Addr} {cap : Nat} {ps : List Nat} {sh : List Value} {P W : Nat} {φ : Nat → Bool} {m : List Sg} {K : Nat → Nat → List Nat} (h : Cm w L cb fb hb a cap ps sh P W φ m K) (Z : Nat → Prop) (hl : ¬ Z 0) (hL : Ext w L L') (ht : Tu (fun k => Z (L k) ∨ w.heap.size ≤ k) w w') :
    StayZ Z w w' L' cb fb hb a cap ps sh P W φ m K := by
  have t0 := h.tab.1.1
  have t1 := h.tab.2.1
  have hm : ∀ l2 i, i < w.heap.size → L i = l2 → L' i = l2 := fun l2 i hi e => (hL i hi).trans e
  refine ⟨h.tab.tu ht (fun e => ?_) (fun e => ?_), hm _ _ t0 h.l0, hm _ _ t1 h.l1, fun e => keepZ hL ht e cb _ h.box (hm _ _ (hlt h.box) h.lb), hm _ _ (hlt h.box) h.lb, fun e => (h.free.mono (hm 2)).same (keepZ hL ht e), fun e => (h.row.mono (hm 3)).same (keepZ hL ht e), fun i hi hi' e => ((h.spans i hi).mono (hm _)).same (keepZ hL ht e) ht.size, fun e => keepZ hL ht e hb _ h.hrow (hm _ _ (hlt h.hrow) h.lh), hm _ _ (hlt h.hrow) h.lh, fun v c hv hc e => ?_⟩
  · rcases e with e | e
    · rw [h.l0] at e; exact hl e
    · omega
  · rcases e with e | e
    · rw [h.l1] at e; exact hl e
    · omega
  · obtain ⟨a', cap', h1, h2⟩ := h.shelf v c hv hc
    exact ⟨a', cap', h1, (h2.mono (hm _)).same (keepZ hL ht e)⟩
/-- A span more lies among the spans. -/
theorem Cm.laid {w w' : World} {L L' : Nat → Nat} {cb fb hb : Nat} {a a' : Option Addr} {cap cap' : Nat} {ps : List Nat} {sh : List Value} {P W : Nat} {φ : Nat → Bool} {m : List Sg} {K : Nat → Nat → List Nat} (h : Cm w L cb fb hb a cap ps sh P W φ m K) (hL : Ext w L L') (ht : Tu (fun k => (L k = 1 ∨ L k = 3) ∨ w.heap.size ≤ k) w w') (i : Nat) (hi : i ≤ m.length) (t : Sg) (p : Nat)
    (hsp : SpS w' (fun k => L' k = 5 + 2 * t.pg) p t) (hrow : VAt w' (fun k => L' k = 3) 92 a' ((ps.take i ++ p :: ps.drop i).map ptrV) cap') (hbox : w'.heap[cb]? = some (.cells #[.pointer (some ⟨fb, 0, none⟩), .slice a' (m.length + 1) cap', .slice (some ⟨hb, 0, none⟩) W W] 89 (0, 0))) :
    Cm w' L' cb fb hb a' cap' (ps.take i ++ p :: ps.drop i) sh P W φ (m.take i ++ t :: m.drop i) K := by
  have s := h.stayZ (fun l => l = 1 ∨ l = 3) (by omega) hL ht
  have hpl := h.plen
  have hm : (m.take i ++ t :: m.drop i).length = m.length + 1 := by simp; omega
  refine ⟨s.tab, s.l0, s.l1, by rw [hm]; exact hbox, s.lb, s.free (by omega), hrow, by rw [hm]; simp; omega, fun j hj => ?_, s.hrow (by omega), s.lh, h.shl, fun v c hv hc => s.shelf v c hv hc (by omega)⟩
  rcases Nat.lt_trichotomy j i with e | e | e
  · have e1 : (m.take i ++ t :: m.drop i)[j] = m[j]'(by omega) := by rw [List.getElem_append_left (by simp; omega)]; simp
    have e2 : (ps.take i ++ p :: ps.drop i)[j]'(by simp; omega) = ps[j]'(by omega) := by rw [List.getElem_append_left (by simp; omega)]; simp
    rw [e1, e2]; exact s.spans j (by omega) (by omega) (by omega)
  · subst e
    have e1 : (m.take j ++ t :: m.drop j)[j] = t := by rw [List.getElem_append_right (by simp; omega)]; simp [Nat.min_eq_left hi]
    have e2 : (ps.take j ++ p :: ps.drop j)[j]'(by simp; omega) = p := by rw [List.getElem_append_right (by simp; omega)]; simp [Nat.min_eq_left (by omega : j ≤ ps.length)]
    rw [e1, e2]; exact hsp
  · obtain ⟨q, rfl⟩ : ∃ q, j = i + 1 + q := ⟨j - i - 1, by omega⟩
    rw [hm] at hj
    have e1 : (m.take i ++ t :: m.drop i)[i + 1 + q]'(by rw [hm]; omega) = m[i + q]'(by omega) := by
      rw [List.getElem_append_right (by simp; omega)]
      simp only [List.length_take, Nat.min_eq_left hi, show i + 1 + q - i = q + 1 by omega, List.getElem_cons_succ, List.getElem_drop]
    have e2 : (ps.take i ++ p :: ps.drop i)[i + 1 + q]'(by simp; omega) = ps[i + q]'(by omega) := by
      rw [List.getElem_append_right (by simp; omega)]
      simp only [List.length_take, Nat.min_eq_left (by omega : i ≤ ps.length), show i + 1 + q - i = q + 1 by omega, List.getElem_cons_succ, List.getElem_drop]
    rw [e1, e2]; exact s.spans (i + q) (by omega) (by omega) (by omega)
/-- A call has turned just the cache's own blocks. -/
structure Mv (L : Nat → Nat) (w : World) (L' : Nat → Nat) (w' : World) : Prop where
  ext : Ext w L L'
  tu : Tu (fun k => L k ≠ 0) w w'
theorem Mv.refl (L : Nat → Nat) (w : World) : Mv L w L w := ⟨Ext.refl _ _, Tu.refl _ _⟩
theorem Mv.trans {L L1 L2 : Nat → Nat} {w w1 w2 : World} (h : Mv L w L1 w1) (k : Mv L1 w1 L2 w2) : Mv L w L2 w2 :=
  ⟨h.ext.trans k.ext h.tu.size, ⟨k.tu.os.trans h.tu.os, k.tu.tape.trans h.tu.tape, k.tu.output.trans h.tu.output, Nat.le_trans h.tu.size k.tu.size, fun i o ho hk => k.tu.block i o (h.tu.block i o ho hk) (by rw [h.ext i (hlt ho)]; exact hk)⟩⟩
theorem Mv.below {L L' : Nat → Nat} {w w' : World} (hL : Ext w L L') (hb : Below w.heap.size w w') : Mv L w L' w' := ⟨hL, Tu.ofBelow hb⟩
theorem Mv.of {L L' : Nat → Nat} {w w' : World} (Z : Nat → Prop) (hZ : ¬ Z 0) (hL : Ext w L L') (ht : Tu (fun k => Z (L k) ∨ w.heap.size ≤ k) w w') : Mv L w L' w' := ⟨hL, ht.mono (fun k hk h e => by rcases h with h | h; rw [e] at h; exact hZ h; omega)⟩
end Go.Proofs.YtgmljgogmbaioaaGreatDoor
