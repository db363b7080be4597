/- What settle does: laws of its operations. -/
import Derived.Test.YtofmicbhheebiaaDkG
namespace Go.Proofs.Ytofmicbhheebiaa
open Go.RowKit Go.Maps
set_option linter.unusedVariables false
set_option maxRecDepth 4000

/-- copy, in a region that draws. -/
theorem step_copyB {ops : Array Oper} {o : Oper} {a : Act} {K : Act → World → Prop} {Q : Exit → Act → World → Prop} {E : Prop} {w : World} (hgd : o.guard = none) (s x : Operand)
    (ho : o.op = .call { callee := .builtin .copy, args := #[s, x], argTypes := #[25, 25] })
    (g off dl dc : Nat) (t : TypeId) (cur l : List Int) (ax : Option Addr) (n cap k : Nat) (hs : a.eval s = .slice (some ⟨g, off, none⟩) dl dc) (hx : a.eval x = .slice ax n cap) (hn : n = l.length) (hk : k = min n dl) (hg : RowB w g t cur) (hB : IsB w ax l) (hfit : off + k ≤ cur.length)
    (h : ∀ w1, RowB w1 g t (cur.take off ++ l.take k ++ cur.drop (off + k)) → Only g w w1 → K (a.put o.dst (goInt k)) w1) :
    if Region.wanted o (yielded ops a.tmps) = true then Oper.wp Try.prog o a w K Q else E := by
  have hw : Region.wanted o (yielded ops a.tmps) = true := by simp [Region.wanted, hgd]
  rw [if_pos hw]
  obtain ⟨w1, hrun, r1, r2⟩ := copy_run w o.type g off dl dc t cur l ax n cap k hn hk hg hB hfit
  unfold Oper.wp
  simp [execOp, ho, resolve, invoke, builtin, hs, hx, hrun, Result.andThen]
  exact h w1 r1 r2

/-- A call of a function value by its contract, in a region that draws. -/
theorem step_callv {ops : Array Oper} {o : Oper} {a : Act} {K : Act → World → Prop} {Q : Exit → Act → World → Prop} {E : Prop} {w : World} (hgd : o.guard = none) (v : Operand) (xs : List Operand) (ts : Array TypeId)
    (ho : o.op = .call { callee := .value v, args := xs.toArray, argTypes := ts }) (f : Nat) (caps : List Value) (hv : a.eval v = .func (.func f) #[] caps.toArray) (vs : List Value) (hx : xs.map a.eval = vs) (R : Ending → World → Prop) (C : Calls Try.prog f (vs ++ caps).toArray w R)
    (hf : (match Try.prog.funcs[f]? with | some fn => !(fn.name == "runtime.NumGoroutine") && !fn.body.isNone | none => false) = true) (h : ∀ e w', R e w' → ∃ v, e = .returned v ∧ K (a.put o.dst v) w') :
    if Region.wanted o (yielded ops a.tmps) = true then Oper.wp Try.prog o a w K Q else E := by
  have hw : Region.wanted o (yielded ops a.tmps) = true := by simp [Region.wanted, hgd]
  rw [if_pos hw]
  subst hx
  obtain ⟨dst, op, type, pos, after, guard⟩ := o
  simp only at ho
  subst ho
  unfold Oper.wp
  have e1 : (execOp a.eval { dst, op := .call { callee := .value v, args := xs.toArray, argTypes := ts }, type, pos, after, guard }).run Try.prog w = (callFunc f (xs.map a.eval ++ caps).toArray).run Try.prog w := by
    simp [execOp, resolve, hv, Deferred.ofValue, invoke]
  rw [e1, enter_run f _ w hf]
  refine C.mono ?_
  intro e w' hR
  obtain ⟨v, rfl, hK⟩ := h e w' hR
  exact hK

theorem wp_of_step {o : Oper} {a : Act} {K : Act → World → Prop} {Q : Exit → Act → World → Prop} {w : World} {ops : Array Oper} (hgd : o.guard = none) (h : if Region.wanted o (yielded ops a.tmps) = true then Oper.wp Try.prog o a w K Q else True) : o.wp Try.prog a w K Q := by
  rwa [if_pos (by simp [Region.wanted, hgd])] at h

def updF (f : Int → Option (List Int)) (i : Int) (l : List Int) : Int → Option (List Int) := fun j => if j = i then some l else f j

end Go.Proofs.Ytofmicbhheebiaa
