/- What Write answers. -/
import Derived.Test.YtofmicbhheebiaaDkF
import Derived.Deep.RegionLaw
namespace Go.Proofs.Ytofmicbhheebiaa
open Go.RowKit Go.Maps
set_option linter.unusedVariables false
set_option maxRecDepth 4000

/-- An append whose run is known, in a region that draws. -/
theorem step_app {ops : Array Oper} {o : Oper} {a : Act} {K : Act → World → Prop} {Q : Exit → Act → World → Prop} {E : Prop} {w : World} (hgd : o.guard = none) (s x : Operand) (t : TypeId)
    (ho : o.op = .call { callee := .builtin .append, args := #[s, x], argTypes := #[t, t] }) (v1 v2 : Value) (hs : a.eval s = v1) (hx : a.eval x = v2) (v' : Value) (w' : World)
    (hr : (Builtin.append_ #[t, t] o.type #[v1, v2]).run Try.prog w = .ok v' w') (h : K (a.put o.dst v') w') :
    if Region.wanted o (yielded ops a.tmps) = true then Oper.wp Try.prog o a w K Q else E := by
  have hw : Region.wanted o (yielded ops a.tmps) = true := by simp [Region.wanted, hgd]
  rw [if_pos hw]
  unfold Oper.wp execOp
  simp only [ho, resolve, invoke, builtin, Sem.run_bind, Sem.run_pure, Result.andThen_ok, List.map_toArray, List.map_cons, List.map_nil, hs, hx, hr]
  exact h

theorem enter_run (f : Nat) (vs : Array Value) (w : World) (hf : (match Try.prog.funcs[f]? with | some fn => !(fn.name == "runtime.NumGoroutine") && !fn.body.isNone | none => false) = true) : (callFunc f vs).run Try.prog w = .ok (.enter f vs) w := by
  unfold callFunc
  simp only [Sem.run_bind, go_sem]
  cases hq : Try.prog.funcs[f]? with
  | none => rw [hq] at hf; cases hf
  | some fn =>
    rw [hq] at hf
    simp at hf
    simp [hf.1, hq]
    intro h
    rw [h] at hf
    simp at hf

/-- A call of a Go function by its contract, in a region that draws. -/
theorem step_call {ops : Array Oper} {o : Oper} {a : Act} {K : Act → World → Prop} {Q : Exit → Act → World → Prop} {E : Prop} {w : World} (hgd : o.guard = none) (f : Nat) (xs : List Operand) (ts : Array TypeId)
    (ho : o.op = .call { callee := .value (.func f), args := xs.toArray, argTypes := ts }) (vs : List Value) (hx : xs.map a.eval = vs) (R : Ending → World → Prop) (C : Calls Try.prog f vs.toArray w R)
    (hf : (match Try.prog.funcs[f]? with | some fn => !(fn.name == "runtime.NumGoroutine") && !fn.body.isNone | none => false) = true) (h : ∀ e w', R e w' → ∃ v, e = .returned v ∧ K (a.put o.dst v) w') :
    if Region.wanted o (yielded ops a.tmps) = true then Oper.wp Try.prog o a w K Q else E := by
  have hw : Region.wanted o (yielded ops a.tmps) = true := by simp [Region.wanted, hgd]
  rw [if_pos hw]
  subst hx
  obtain ⟨dst, op, type, pos, after, guard⟩ := o
  simp only at ho
  subst ho
  unfold Oper.wp
  have e1 : execOp a.eval { dst, op := .call { callee := .value (.func f), args := xs.toArray, argTypes := ts }, type, pos, after, guard } = callFunc f (#[] ++ xs.toArray.map a.eval ++ #[]) := rfl
  rw [e1, show (#[] : Array Value) ++ xs.toArray.map a.eval ++ #[] = (xs.map a.eval).toArray from by simp, enter_run f _ w hf]
  refine C.mono ?_
  intro e w' hR
  obtain ⟨v, rfl, hK⟩ := h e w' hR
  exact hK

theorem fold_arr (C Z : Array Value) (off : Nat) (h : off + C.size = Z.size) : Array.foldl (fun cs x => cs.setIfInBounds (off + x.snd) x.fst) Z C.zipIdx 0 C.size = (Z.toList.take off ++ C.toList).toArray := by
  have h1 := fold_fill C.toList off 0 Z (by simp; omega)
  apply Array.toList_inj.1
  have h2 : Array.foldl (fun cs x => cs.setIfInBounds (off + x.snd) x.fst) Z C.zipIdx 0 C.size = (C.toList.zipIdx 0).foldl (fun (cs : Array Value) (p : Value × Nat) => cs.setIfInBounds (off + p.2) p.1) Z := by
    rw [← Array.toList_zipIdx, Array.foldl_toList]
    simp
  rw [h2, h1]
  simp only [Nat.add_zero]
  rw [List.drop_of_length_le (by simp; omega), List.append_nil]

theorem IsB.turned {w w' : World} {a : Option Addr} {l : List Int} {q : Nat} (h : IsB w a l) (ht : w.mapTurned w' q) : IsB w' a l := by
  obtain ⟨h1, h2 | ⟨b, off, e, hs, hc⟩⟩ := h
  · exact ⟨h1, .inl h2⟩
  · have hel := turned_else ht
    obtain ⟨es, c, es', c', hq, _⟩ := ht
    refine ⟨h1, .inr ⟨b, off, e, by rw [hel.1]; exact hs, fun i hi => ?_⟩⟩
    rw [← hc i hi]
    refine World.cell?_of_block (hel.2 b ?_)
    rintro rfl
    have := hc i hi
    simp [World.cell?, hq] at this

end Go.Proofs.Ytofmicbhheebiaa
