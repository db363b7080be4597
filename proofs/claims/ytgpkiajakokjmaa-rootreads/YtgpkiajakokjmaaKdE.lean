/- What is wrong with a kind: what placed, Check and right answer. -/
import Derived.Test.YtgpkiajakokjmaaKdA
namespace Go.Proofs.Ytgpkiajakokjmaa
open Go.RowKit
set_option linter.unusedVariables false
set_option maxRecDepth 4000

theorem IsI.drewN {w : World} {a : Option Addr} {l : List Int} (h : IsI w a l) (m : Nat) : IsI (w.drewN m) a l := h
theorem IsI.drew {w : World} {a : Option Addr} {l : List Int} (h : IsI w a l) : IsI w.drew a l := h
theorem IsI.all {w : World} {a : Option Addr} {l : List Int} (h : IsI w a l) : AllI l := h.1
theorem IsI.nil (w : World) (a : Option Addr) : IsI w a [] := ⟨fun x hx => by (cases hx), .inl rfl⟩
theorem AllI.at {l : List Int} (h : AllI l) (i : Nat) : -9223372036854775808 ≤ l.getD i 0 ∧ l.getD i 0 ≤ 9223372036854775807 := by
  by_cases hi : i < l.length
  · have := h l[i] (List.getElem_mem hi)
    simpa [List.getD, hi] using this
  · simp [List.getD, List.getElem?_eq_none (Nat.le_of_not_lt hi)]

/-- An append whose run is known, in a region that draws. -/
theorem step_app {ops : Array Oper} {o : Oper} {a : Act} {K : Act → World → Prop} {Q : Exit → Act → World → Prop} {E : Prop} {w : World} (hgd : o.guard = none) (s x : Operand) (t : TypeId)
    (ho : o.op = .call { callee := .builtin .append, args := #[s, x], argTypes := #[t, t] }) (v1 v2 : Value) (hs : a.eval s = v1) (hx : a.eval x = v2) (v' : Value) (w' : World)
    (hr : (Builtin.append_ #[t, t] o.type #[v1, v2]).run Try.prog w = .ok v' w') (h : K (a.put o.dst v') w') :
    if Region.wanted o (yielded ops a.tmps) = true then Oper.wp Try.prog o a w K Q else E := by
  have hw : Region.wanted o (yielded ops a.tmps) = true := by simp [Region.wanted, hgd]
  rw [if_pos hw]
  unfold Oper.wp execOp
  simp only [ho, resolve, invoke, builtin, Sem.run_bind, Sem.run_pure, Result.andThen_ok, List.map_toArray, List.map_cons, List.map_nil, hs, hx, hr]
  exact h

end Go.Proofs.Ytgpkiajakokjmaa
