/- What settle does. -/
import Derived.Test.YtofmicbhheebiaaDkH
namespace Go.Proofs.Ytofmicbhheebiaa
open Go.RowKit Go.Maps
set_option linter.unusedVariables false
set_option maxRecDepth 4000

def intOf : Value → Int
  | .int _ n => n
  | _ => 0

/-! The operations of 's := d.sure[w.at]', whose order the model draws. -/
def s31 : Oper := { dst := some 18, op := Op.nilCheck (Operand.tmp 17), type := 0, pos := "disk.go:190", after := #[{ on := 0, ground := Ground.data }], guard := none }
def s35 : Oper := { dst := some 22, op := Op.load 3 (Operand.tmp 21), type := 3, pos := "disk.go:190", after := #[{ on := 4, ground := Ground.data }], guard := none }
def s42 : Oper := { dst := some 26, op := Op.move (Operand.tmp 1), type := 77, pos := "disk.go:191", after := #[], guard := none }
def s43 : Oper := { dst := some 27, op := Op.move (Operand.tmp 4), type := 3, pos := "disk.go:191", after := #[], guard := none }
def s44 : Oper := { dst := some 28, op := Op.call { callee := Callee.value (Operand.tmp 26), args := #[Operand.tmp 27], argTypes := #[3] }, type := 3, pos := "disk.go:191", after := #[{ on := 2, ground := Ground.data }, { on := 3, ground := Ground.data }], guard := none }
def s46 : Oper := { dst := some 30, op := Op.call { callee := Callee.builtin Builtin.copy, args := #[Operand.tmp 24, Operand.tmp 29], argTypes := #[25, 25] }, type := 3, pos := "disk.go:191", after := #[{ on := 0, ground := Ground.data }, { on := 5, ground := Ground.data }, { on := 4, ground := Ground.chain }], guard := none }

theorem wpOp_plain' {ops : Array Oper} {Q : Exit → Act → World → Prop} {i : Nat} {o : Oper} {K : Act → World → Prop} {a : Act} {w : World} (ho : ops[i]? = some o) (hg : o.guard = none) (h : o.wp Try.prog a w K Q) : wpOp Try.prog ops Q i K a w := by
  unfold wpOp
  simp only [ho]
  rw [if_pos (by simp [Region.wanted, hg])]
  exact .inl h

end Go.Proofs.Ytofmicbhheebiaa
