/- The rules as a list of functions: rules. -/
import Derived.Test.YtbfamjnnlcopiaaGreatDoorGzAM
import Derived.Deep.RegionHeld3
import Derived.BigQuiet
import Derived.Deep.RegionLaw
namespace Go.Proofs.YtbfamjnnlcopiaaGreatDoor
open Go.RowKit Go.Maps
set_option linter.unusedVariables false
set_option maxRecDepth 4000

/-- A rule's function. -/
def ruV (lb j : Nat) : Value := .func (.func (117 + j)) #[.pointer (some ⟨lb, 0, none⟩)] #[]
def ruCells (lb kn rn sn : Nat) : List Value := [.int .i64 1, ruV lb 0, .int .i64 (kn : Nat), ruV lb 1, .int .i64 (sn : Nat), ruV lb 2, .int .i64 (rn : Nat), ruV lb 3, .int .i64 (rn : Nat), ruV lb 4, .int .i64 (sn : Nat), ruV lb 5, .int .i64 (rn : Nat), ruV lb 6]
theorem wp_by_run {o : Oper} {a : Act} {K : Act → World → Prop} {Q : Exit → Act → World → Prop} {w w' : World} {v : Value} (hr : (execOp a.eval o).run Tryz.prog w = .ok (.value v) w') (h : K (a.put o.dst v) w') : o.wp Tryz.prog a w K Q := by
  unfold Oper.wp
  rw [hr]
  exact h
theorem wpOp_plain' {ops : Array Oper} {Q : Exit → Act → World → Prop} {i : Nat} {o : Oper} {K : Act → World → Prop} {a : Act} {w : World} (ho : ops[i]? = some o) (hg : o.guard = none) (h : o.wp Tryz.prog a w K Q) : wpOp Tryz.prog ops Q i K a w := by
  unfold wpOp
  simp only [ho]
  rw [if_pos (by simp [Region.wanted, hg])]
  exact .inl h
/-! The operations of the list of rules, whose order the model draws. -/
def vr0 : Oper := { dst := some 3, op := Op.move (Operand.tmp 0), type := 106, pos := "audit.go:80", after := #[], guard := none }
def vr1 : Oper := { dst := some 4, op := Op.makeFunc (Fn.func 117) #[Operand.tmp 3] #[], type := 69, pos := "audit.go:80", after := #[{ on := 0, ground := Ground.data }], guard := none }
def vr2 : Oper := { dst := some 5, op := Op.build 149 #[(0, Operand.const (Value.int IntKind.i64 1)), (1, Operand.tmp 4)], type := 149, pos := "audit.go:80", after := #[{ on := 1, ground := Ground.data }], guard := none }
def vr3 : Oper := { dst := some 6, op := Op.move (Operand.tmp 0), type := 106, pos := "audit.go:80", after := #[], guard := none }
def vr4 : Oper := { dst := some 7, op := Op.nilCheck (Operand.tmp 6), type := 0, pos := "audit.go:80", after := #[{ on := 3, ground := Ground.data }], guard := none }
def vr5 : Oper := { dst := some 8, op := Op.fieldAddr 142 (Operand.tmp 7) 0, type := 0, pos := "audit.go:80", after := #[{ on := 4, ground := Ground.data }], guard := none }
def vr6 : Oper := { dst := some 9, op := Op.fieldAddr 27 (Operand.tmp 8) 2, type := 0, pos := "audit.go:80", after := #[{ on := 5, ground := Ground.data }], guard := none }
def vr7 : Oper := { dst := some 10, op := Op.load 22 (Operand.tmp 9), type := 22, pos := "audit.go:80", after := #[{ on := 6, ground := Ground.data }], guard := none }
def vr8 : Oper := { dst := some 11, op := Op.call { callee := Callee.builtin Builtin.len, args := #[Operand.tmp 10], argTypes := #[22] }, type := 3, pos := "audit.go:80", after := #[{ on := 7, ground := Ground.data }], guard := none }
def vr9 : Oper := { dst := some 12, op := Op.move (Operand.tmp 0), type := 106, pos := "audit.go:80", after := #[], guard := none }
def vr10 : Oper := { dst := some 13, op := Op.makeFunc (Fn.func 118) #[Operand.tmp 12] #[], type := 69, pos := "audit.go:80", after := #[{ on := 9, ground := Ground.data }], guard := none }
def vr11 : Oper := { dst := some 14, op := Op.build 149 #[(0, Operand.tmp 11), (1, Operand.tmp 13)], type := 149, pos := "audit.go:80", after := #[{ on := 8, ground := Ground.data }, { on := 10, ground := Ground.data }], guard := none }
def vr12 : Oper := { dst := some 15, op := Op.move (Operand.tmp 0), type := 106, pos := "audit.go:80", after := #[], guard := none }
def vr13 : Oper := { dst := some 16, op := Op.nilCheck (Operand.tmp 15), type := 0, pos := "audit.go:80", after := #[{ on := 12, ground := Ground.data }], guard := none }
def vr14 : Oper := { dst := some 17, op := Op.fieldAddr 142 (Operand.tmp 16) 0, type := 0, pos := "audit.go:80", after := #[{ on := 13, ground := Ground.data }], guard := none }
def vr15 : Oper := { dst := some 18, op := Op.fieldAddr 27 (Operand.tmp 17) 4, type := 0, pos := "audit.go:80", after := #[{ on := 14, ground := Ground.data }], guard := none }
def vr16 : Oper := { dst := some 19, op := Op.load 24 (Operand.tmp 18), type := 24, pos := "audit.go:80", after := #[{ on := 15, ground := Ground.data }], guard := none }
def vr17 : Oper := { dst := some 20, op := Op.call { callee := Callee.builtin Builtin.len, args := #[Operand.tmp 19], argTypes := #[24] }, type := 3, pos := "audit.go:80", after := #[{ on := 16, ground := Ground.data }], guard := none }
def vr18 : Oper := { dst := some 21, op := Op.move (Operand.tmp 0), type := 106, pos := "audit.go:80", after := #[], guard := none }
def vr19 : Oper := { dst := some 22, op := Op.makeFunc (Fn.func 119) #[Operand.tmp 21] #[], type := 69, pos := "audit.go:80", after := #[{ on := 18, ground := Ground.data }], guard := none }
def vr20 : Oper := { dst := some 23, op := Op.build 149 #[(0, Operand.tmp 20), (1, Operand.tmp 22)], type := 149, pos := "audit.go:80", after := #[{ on := 17, ground := Ground.data }, { on := 19, ground := Ground.data }], guard := none }
def vr21 : Oper := { dst := some 24, op := Op.move (Operand.tmp 0), type := 106, pos := "audit.go:80", after := #[], guard := none }
def vr22 : Oper := { dst := some 25, op := Op.nilCheck (Operand.tmp 24), type := 0, pos := "audit.go:80", after := #[{ on := 21, ground := Ground.data }], guard := none }
def vr23 : Oper := { dst := some 26, op := Op.fieldAddr 142 (Operand.tmp 25) 0, type := 0, pos := "audit.go:80", after := #[{ on := 22, ground := Ground.data }], guard := none }
def vr24 : Oper := { dst := some 27, op := Op.fieldAddr 27 (Operand.tmp 26) 3, type := 0, pos := "audit.go:80", after := #[{ on := 23, ground := Ground.data }], guard := none }
def vr25 : Oper := { dst := some 28, op := Op.load 23 (Operand.tmp 27), type := 23, pos := "audit.go:80", after := #[{ on := 24, ground := Ground.data }], guard := none }
def vr26 : Oper := { dst := some 29, op := Op.call { callee := Callee.builtin Builtin.len, args := #[Operand.tmp 28], argTypes := #[23] }, type := 3, pos := "audit.go:80", after := #[{ on := 25, ground := Ground.data }], guard := none }
def vr27 : Oper := { dst := some 30, op := Op.move (Operand.tmp 0), type := 106, pos := "audit.go:80", after := #[], guard := none }
def vr28 : Oper := { dst := some 31, op := Op.makeFunc (Fn.func 120) #[Operand.tmp 30] #[], type := 69, pos := "audit.go:80", after := #[{ on := 27, ground := Ground.data }], guard := none }
def vr29 : Oper := { dst := some 32, op := Op.build 149 #[(0, Operand.tmp 29), (1, Operand.tmp 31)], type := 149, pos := "audit.go:80", after := #[{ on := 26, ground := Ground.data }, { on := 28, ground := Ground.data }], guard := none }
def vr30 : Oper := { dst := some 33, op := Op.move (Operand.tmp 0), type := 106, pos := "audit.go:80", after := #[], guard := none }
def vr31 : Oper := { dst := some 34, op := Op.nilCheck (Operand.tmp 33), type := 0, pos := "audit.go:80", after := #[{ on := 30, ground := Ground.data }], guard := none }
def vr32 : Oper := { dst := some 35, op := Op.fieldAddr 142 (Operand.tmp 34) 0, type := 0, pos := "audit.go:80", after := #[{ on := 31, ground := Ground.data }], guard := none }
def vr33 : Oper := { dst := some 36, op := Op.fieldAddr 27 (Operand.tmp 35) 3, type := 0, pos := "audit.go:80", after := #[{ on := 32, ground := Ground.data }], guard := none }
def vr34 : Oper := { dst := some 37, op := Op.load 23 (Operand.tmp 36), type := 23, pos := "audit.go:80", after := #[{ on := 33, ground := Ground.data }], guard := none }
def vr35 : Oper := { dst := some 38, op := Op.call { callee := Callee.builtin Builtin.len, args := #[Operand.tmp 37], argTypes := #[23] }, type := 3, pos := "audit.go:80", after := #[{ on := 34, ground := Ground.data }], guard := none }
def vr36 : Oper := { dst := some 39, op := Op.move (Operand.tmp 0), type := 106, pos := "audit.go:80", after := #[], guard := none }
def vr37 : Oper := { dst := some 40, op := Op.makeFunc (Fn.func 121) #[Operand.tmp 39] #[], type := 69, pos := "audit.go:80", after := #[{ on := 36, ground := Ground.data }], guard := none }
def vr38 : Oper := { dst := some 41, op := Op.build 149 #[(0, Operand.tmp 38), (1, Operand.tmp 40)], type := 149, pos := "audit.go:80", after := #[{ on := 35, ground := Ground.data }, { on := 37, ground := Ground.data }], guard := none }
def vr39 : Oper := { dst := some 42, op := Op.move (Operand.tmp 0), type := 106, pos := "audit.go:80", after := #[], guard := none }
def vr40 : Oper := { dst := some 43, op := Op.nilCheck (Operand.tmp 42), type := 0, pos := "audit.go:80", after := #[{ on := 39, ground := Ground.data }], guard := none }
def vr41 : Oper := { dst := some 44, op := Op.fieldAddr 142 (Operand.tmp 43) 0, type := 0, pos := "audit.go:80", after := #[{ on := 40, ground := Ground.data }], guard := none }
def vr42 : Oper := { dst := some 45, op := Op.fieldAddr 27 (Operand.tmp 44) 4, type := 0, pos := "audit.go:80", after := #[{ on := 41, ground := Ground.data }], guard := none }
def vr43 : Oper := { dst := some 46, op := Op.load 24 (Operand.tmp 45), type := 24, pos := "audit.go:80", after := #[{ on := 42, ground := Ground.data }], guard := none }
def vr44 : Oper := { dst := some 47, op := Op.call { callee := Callee.builtin Builtin.len, args := #[Operand.tmp 46], argTypes := #[24] }, type := 3, pos := "audit.go:80", after := #[{ on := 43, ground := Ground.data }], guard := none }
def vr45 : Oper := { dst := some 48, op := Op.move (Operand.tmp 0), type := 106, pos := "audit.go:80", after := #[], guard := none }
def vr46 : Oper := { dst := some 49, op := Op.makeFunc (Fn.func 122) #[Operand.tmp 48] #[], type := 69, pos := "audit.go:80", after := #[{ on := 45, ground := Ground.data }], guard := none }
def vr47 : Oper := { dst := some 50, op := Op.build 149 #[(0, Operand.tmp 47), (1, Operand.tmp 49)], type := 149, pos := "audit.go:80", after := #[{ on := 44, ground := Ground.data }, { on := 46, ground := Ground.data }], guard := none }
def vr48 : Oper := { dst := some 51, op := Op.move (Operand.tmp 0), type := 106, pos := "audit.go:80", after := #[], guard := none }
def vr49 : Oper := { dst := some 52, op := Op.nilCheck (Operand.tmp 51), type := 0, pos := "audit.go:80", after := #[{ on := 48, ground := Ground.data }], guard := none }
def vr50 : Oper := { dst := some 53, op := Op.fieldAddr 142 (Operand.tmp 52) 0, type := 0, pos := "audit.go:80", after := #[{ on := 49, ground := Ground.data }], guard := none }
def vr51 : Oper := { dst := some 54, op := Op.fieldAddr 27 (Operand.tmp 53) 3, type := 0, pos := "audit.go:80", after := #[{ on := 50, ground := Ground.data }], guard := none }
def vr52 : Oper := { dst := some 55, op := Op.load 23 (Operand.tmp 54), type := 23, pos := "audit.go:80", after := #[{ on := 51, ground := Ground.data }], guard := none }
def vr53 : Oper := { dst := some 56, op := Op.call { callee := Callee.builtin Builtin.len, args := #[Operand.tmp 55], argTypes := #[23] }, type := 3, pos := "audit.go:80", after := #[{ on := 52, ground := Ground.data }], guard := none }
def vr54 : Oper := { dst := some 57, op := Op.move (Operand.tmp 0), type := 106, pos := "audit.go:80", after := #[], guard := none }
def vr55 : Oper := { dst := some 58, op := Op.makeFunc (Fn.func 123) #[Operand.tmp 57] #[], type := 69, pos := "audit.go:80", after := #[{ on := 54, ground := Ground.data }], guard := none }
def vr56 : Oper := { dst := some 59, op := Op.build 149 #[(0, Operand.tmp 56), (1, Operand.tmp 58)], type := 149, pos := "audit.go:80", after := #[{ on := 53, ground := Ground.data }, { on := 55, ground := Ground.data }], guard := none }
def vr57 : Oper := { dst := some 60, op := Op.buildSlice 146 7 #[(0, Operand.tmp 5), (1, Operand.tmp 14), (2, Operand.tmp 23), (3, Operand.tmp 32), (4, Operand.tmp 41), (5, Operand.tmp 50), (6, Operand.tmp 59)], type := 146, pos := "audit.go:80", after := #[{ on := 2, ground := Ground.data }, { on := 11, ground := Ground.data }, { on := 20, ground := Ground.data }, { on := 29, ground := Ground.data }, { on := 38, ground := Ground.data }, { on := 47, ground := Ground.data }, { on := 56, ground := Ground.data }], guard := none }
def vr58 : Oper := { dst := some 2, op := Op.assign (Operand.tmp 60), type := 146, pos := "audit.go:80", after := #[{ on := 57, ground := Ground.data }, { on := 0, ground := Ground.phase }, { on := 1, ground := Ground.phase }, { on := 2, ground := Ground.phase }, { on := 3, ground := Ground.phase }, { on := 4, ground := Ground.phase }, { on := 5, ground := Ground.phase }, { on := 6, ground := Ground.phase }, { on := 7, ground := Ground.phase }, { on := 8, ground := Ground.phase }, { on := 9, ground := Ground.phase }, { on := 10, ground := Ground.phase }, { on := 11, ground := Ground.phase }, { on := 12, ground := Ground.phase }, { on := 13, ground := Ground.phase }, { on := 14, ground := Ground.phase }, { on := 15, ground := Ground.phase }, { on := 16, ground := Ground.phase }, { on := 17, ground := Ground.phase }, { on := 18, ground := Ground.phase }, { on := 19, ground := Ground.phase }, { on := 20, ground := Ground.phase }, { on := 21, ground := Ground.phase }, { on := 22, ground := Ground.phase }, { on := 23, ground := Ground.phase }, { on := 24, ground := Ground.phase }, { on := 25, ground := Ground.phase }, { on := 26, ground := Ground.phase }, { on := 27, ground := Ground.phase }, { on := 28, ground := Ground.phase }, { on := 29, ground := Ground.phase }, { on := 30, ground := Ground.phase }, { on := 31, ground := Ground.phase }, { on := 32, ground := Ground.phase }, { on := 33, ground := Ground.phase }, { on := 34, ground := Ground.phase }, { on := 35, ground := Ground.phase }, { on := 36, ground := Ground.phase }, { on := 37, ground := Ground.phase }, { on := 38, ground := Ground.phase }, { on := 39, ground := Ground.phase }, { on := 40, ground := Ground.phase }, { on := 41, ground := Ground.phase }, { on := 42, ground := Ground.phase }, { on := 43, ground := Ground.phase }, { on := 44, ground := Ground.phase }, { on := 45, ground := Ground.phase }, { on := 46, ground := Ground.phase }, { on := 47, ground := Ground.phase }, { on := 48, ground := Ground.phase }, { on := 49, ground := Ground.phase }, { on := 50, ground := Ground.phase }, { on := 51, ground := Ground.phase }, { on := 52, ground := Ground.phase }, { on := 53, ground := Ground.phase }, { on := 54, ground := Ground.phase }, { on := 55, ground := Ground.phase }, { on := 56, ground := Ground.phase }, { on := 57, ground := Ground.phase }], guard := none }

set_option maxRecDepth 20000 in
set_option maxHeartbeats 4000000 in
theorem rules_any (lb kn rn sn kc rc sc : Nat) (ka ra sa : Option Addr) (w : World) (c2 : w.cell? ⟨lb, 2, none⟩ = some (.slice ka kn kc)) (c3 : w.cell? ⟨lb, 3, none⟩ = some (.slice ra rn rc)) (c4 : w.cell? ⟨lb, 4, none⟩ = some (.slice sa sn sc)) :
    Calls Tryz.prog 99 #[.pointer (some ⟨lb, 0, none⟩)] w fun e w' => ∃ g, e = .returned (.slice (some ⟨g, 0, none⟩) 7 7) ∧ w.heap.size ≤ g ∧ w'.heap[g]? = some (.cells (ruCells lb kn rn sn).toArray 149 (0, 0)) ∧ Below w.heap.size w w' := by
  go_enter Tryz.func99, Tryz.ntmps99
  go_wp2_with fail
  refine wp_region_held_drew (S := (fun w' => w'.cell? ⟨lb, 2, none⟩ = some (.slice ka kn kc) ∧ w'.cell? ⟨lb, 3, none⟩ = some (.slice ra rn rc) ∧ w'.cell? ⟨lb, 4, none⟩ = some (.slice sa sn sc))) (by kernel_rfl) ⟨c2, c3, c4⟩ (fun _ => ?_)
  refine wpAnyH_take (i := 0) (oi := vr0) (v := .pointer (some ⟨lb, 0, none⟩)) rfl (by kernel_rfl) (by kernel_rfl) (by kernel_rfl) (fun _ _ _ h => h) (.inl ⟨rfl, fun _ _ => rfl⟩) ⟨c2, c3, c4⟩ ?_
  simp only [vr0, Act.put, List.setIfInBounds_toArray, List.set_cons_succ, List.set_cons_zero]
  refine wpAnyH_take (i := 1) (oi := vr1) (v := .func (.func 117) #[.pointer (some ⟨lb, 0, none⟩)] #[]) rfl (by kernel_rfl) (by kernel_rfl) (by kernel_rfl) (fun _ _ _ h => h) (.inl ⟨rfl, by intro wz hz; clear hz; unfold vr1; go_simp⟩) ⟨c2, c3, c4⟩ ?_
  simp only [vr1, Act.put, List.setIfInBounds_toArray, List.set_cons_succ, List.set_cons_zero]
  refine wpAnyH_take (i := 2) (oi := vr2) (v := .agg #[.int .i64 1, .func (.func 117) #[.pointer (some ⟨lb, 0, none⟩)] #[]]) rfl (by kernel_rfl) (by kernel_rfl) (by kernel_rfl) (fun _ _ _ h => h) (.inl ⟨rfl, by intro wz hz; clear hz; unfold vr2; go_simp⟩) ⟨c2, c3, c4⟩ ?_
  simp only [vr2, Act.put, List.setIfInBounds_toArray, List.set_cons_succ, List.set_cons_zero]
  refine wpAnyH_take (i := 3) (oi := vr3) (v := .pointer (some ⟨lb, 0, none⟩)) rfl (by kernel_rfl) (by kernel_rfl) (by kernel_rfl) (fun _ _ _ h => h) (.inl ⟨rfl, fun _ _ => rfl⟩) ⟨c2, c3, c4⟩ ?_
  simp only [vr3, Act.put, List.setIfInBounds_toArray, List.set_cons_succ, List.set_cons_zero]
  refine wpAnyH_take (i := 4) (oi := vr4) (v := .pointer (some ⟨lb, 0, none⟩)) rfl (by kernel_rfl) (by kernel_rfl) (by kernel_rfl) (fun _ _ _ h => h) (.inl ⟨rfl, by intro wz hz; clear hz; unfold vr4; go_simp⟩) ⟨c2, c3, c4⟩ ?_
  simp only [vr4, Act.put, List.setIfInBounds_toArray, List.set_cons_succ, List.set_cons_zero]
  refine wpAnyH_take (i := 5) (oi := vr5) (v := .pointer (some ⟨lb, 0, none⟩)) rfl (by kernel_rfl) (by kernel_rfl) (by kernel_rfl) (fun _ _ _ h => h) (.inl ⟨rfl, by intro wz hz; clear hz; unfold vr5; go_simp⟩) ⟨c2, c3, c4⟩ ?_
  simp only [vr5, Act.put, List.setIfInBounds_toArray, List.set_cons_succ, List.set_cons_zero]
  refine wpAnyH_take (i := 6) (oi := vr6) (v := .pointer (some ⟨lb, 2, none⟩)) rfl (by kernel_rfl) (by kernel_rfl) (by kernel_rfl) (fun _ _ _ h => h) (.inl ⟨rfl, by intro wz hz; clear hz; unfold vr6; go_simp⟩) ⟨c2, c3, c4⟩ ?_
  simp only [vr6, Act.put, List.setIfInBounds_toArray, List.set_cons_succ, List.set_cons_zero]
  refine wpAnyH_take (i := 7) (oi := vr7) (v := .slice ka kn kc) rfl (by kernel_rfl) (by kernel_rfl) (by kernel_rfl) (fun _ _ _ h => h) (.inl ⟨rfl, by intro wz hz; obtain ⟨h2, h3, h4⟩ := hz; unfold vr7; go_simp⟩) ⟨c2, c3, c4⟩ ?_
  simp only [vr7, Act.put, List.setIfInBounds_toArray, List.set_cons_succ, List.set_cons_zero]
  refine wpAnyH_take (i := 8) (oi := vr8) (v := .int .i64 (kn : Nat)) rfl (by kernel_rfl) (by kernel_rfl) (by kernel_rfl) (fun _ _ _ h => h) (.inl ⟨rfl, by intro wz hz; clear hz; unfold vr8; go_simp⟩) ⟨c2, c3, c4⟩ ?_
  simp only [vr8, Act.put, List.setIfInBounds_toArray, List.set_cons_succ, List.set_cons_zero]
  refine wpAnyH_take (i := 9) (oi := vr9) (v := .pointer (some ⟨lb, 0, none⟩)) rfl (by kernel_rfl) (by kernel_rfl) (by kernel_rfl) (fun _ _ _ h => h) (.inl ⟨rfl, fun _ _ => rfl⟩) ⟨c2, c3, c4⟩ ?_
  simp only [vr9, Act.put, List.setIfInBounds_toArray, List.set_cons_succ, List.set_cons_zero]
  refine wpAnyH_take (i := 10) (oi := vr10) (v := .func (.func 118) #[.pointer (some ⟨lb, 0, none⟩)] #[]) rfl (by kernel_rfl) (by kernel_rfl) (by kernel_rfl) (fun _ _ _ h => h) (.inl ⟨rfl, by intro wz hz; clear hz; unfold vr10; go_simp⟩) ⟨c2, c3, c4⟩ ?_
  simp only [vr10, Act.put, List.setIfInBounds_toArray, List.set_cons_succ, List.set_cons_zero]
  refine wpAnyH_take (i := 11) (oi := vr11) (v := .agg #[.int .i64 (kn : Nat), .func (.func 118) #[.pointer (some ⟨lb, 0, none⟩)] #[]]) rfl (by kernel_rfl) (by kernel_rfl) (by kernel_rfl) (fun _ _ _ h => h) (.inl ⟨rfl, by intro wz hz; clear hz; unfold vr11; go_simp⟩) ⟨c2, c3, c4⟩ ?_
  simp only [vr11, Act.put, List.setIfInBounds_toArray, List.set_cons_succ, List.set_cons_zero]
  refine wpAnyH_take (i := 12) (oi := vr12) (v := .pointer (some ⟨lb, 0, none⟩)) rfl (by kernel_rfl) (by kernel_rfl) (by kernel_rfl) (fun _ _ _ h => h) (.inl ⟨rfl, fun _ _ => rfl⟩) ⟨c2, c3, c4⟩ ?_
  simp only [vr12, Act.put, List.setIfInBounds_toArray, List.set_cons_succ, List.set_cons_zero]
  refine wpAnyH_take (i := 13) (oi := vr13) (v := .pointer (some ⟨lb, 0, none⟩)) rfl (by kernel_rfl) (by kernel_rfl) (by kernel_rfl) (fun _ _ _ h => h) (.inl ⟨rfl, by intro wz hz; clear hz; unfold vr13; go_simp⟩) ⟨c2, c3, c4⟩ ?_
  simp only [vr13, Act.put, List.setIfInBounds_toArray, List.set_cons_succ, List.set_cons_zero]
  refine wpAnyH_take (i := 14) (oi := vr14) (v := .pointer (some ⟨lb, 0, none⟩)) rfl (by kernel_rfl) (by kernel_rfl) (by kernel_rfl) (fun _ _ _ h => h) (.inl ⟨rfl, by intro wz hz; clear hz; unfold vr14; go_simp⟩) ⟨c2, c3, c4⟩ ?_
  simp only [vr14, Act.put, List.setIfInBounds_toArray, List.set_cons_succ, List.set_cons_zero]
  refine wpAnyH_take (i := 15) (oi := vr15) (v := .pointer (some ⟨lb, 4, none⟩)) rfl (by kernel_rfl) (by kernel_rfl) (by kernel_rfl) (fun _ _ _ h => h) (.inl ⟨rfl, by intro wz hz; clear hz; unfold vr15; go_simp⟩) ⟨c2, c3, c4⟩ ?_
  simp only [vr15, Act.put, List.setIfInBounds_toArray, List.set_cons_succ, List.set_cons_zero]
  refine wpAnyH_take (i := 16) (oi := vr16) (v := .slice sa sn sc) rfl (by kernel_rfl) (by kernel_rfl) (by kernel_rfl) (fun _ _ _ h => h) (.inl ⟨rfl, by intro wz hz; obtain ⟨h2, h3, h4⟩ := hz; unfold vr16; go_simp⟩) ⟨c2, c3, c4⟩ ?_
  simp only [vr16, Act.put, List.setIfInBounds_toArray, List.set_cons_succ, List.set_cons_zero]
  refine wpAnyH_take (i := 17) (oi := vr17) (v := .int .i64 (sn : Nat)) rfl (by kernel_rfl) (by kernel_rfl) (by kernel_rfl) (fun _ _ _ h => h) (.inl ⟨rfl, by intro wz hz; clear hz; unfold vr17; go_simp⟩) ⟨c2, c3, c4⟩ ?_
  simp only [vr17, Act.put, List.setIfInBounds_toArray, List.set_cons_succ, List.set_cons_zero]
  refine wpAnyH_take (i := 18) (oi := vr18) (v := .pointer (some ⟨lb, 0, none⟩)) rfl (by kernel_rfl) (by kernel_rfl) (by kernel_rfl) (fun _ _ _ h => h) (.inl ⟨rfl, fun _ _ => rfl⟩) ⟨c2, c3, c4⟩ ?_
  simp only [vr18, Act.put, List.setIfInBounds_toArray, List.set_cons_succ, List.set_cons_zero]
  refine wpAnyH_take (i := 19) (oi := vr19) (v := .func (.func 119) #[.pointer (some ⟨lb, 0, none⟩)] #[]) rfl (by kernel_rfl) (by kernel_rfl) (by kernel_rfl) (fun _ _ _ h => h) (.inl ⟨rfl, by intro wz hz; clear hz; unfold vr19; go_simp⟩) ⟨c2, c3, c4⟩ ?_
  simp only [vr19, Act.put, List.setIfInBounds_toArray, List.set_cons_succ, List.set_cons_zero]
  refine wpAnyH_take (i := 20) (oi := vr20) (v := .agg #[.int .i64 (sn : Nat), .func (.func 119) #[.pointer (some ⟨lb, 0, none⟩)] #[]]) rfl (by kernel_rfl) (by kernel_rfl) (by kernel_rfl) (fun _ _ _ h => h) (.inl ⟨rfl, by intro wz hz; clear hz; unfold vr20; go_simp⟩) ⟨c2, c3, c4⟩ ?_
  simp only [vr20, Act.put, List.setIfInBounds_toArray, List.set_cons_succ, List.set_cons_zero]
  refine wpAnyH_take (i := 21) (oi := vr21) (v := .pointer (some ⟨lb, 0, none⟩)) rfl (by kernel_rfl) (by kernel_rfl) (by kernel_rfl) (fun _ _ _ h => h) (.inl ⟨rfl, fun _ _ => rfl⟩) ⟨c2, c3, c4⟩ ?_
  simp only [vr21, Act.put, List.setIfInBounds_toArray, List.set_cons_succ, List.set_cons_zero]
  refine wpAnyH_take (i := 22) (oi := vr22) (v := .pointer (some ⟨lb, 0, none⟩)) rfl (by kernel_rfl) (by kernel_rfl) (by kernel_rfl) (fun _ _ _ h => h) (.inl ⟨rfl, by intro wz hz; clear hz; unfold vr22; go_simp⟩) ⟨c2, c3, c4⟩ ?_
  simp only [vr22, Act.put, List.setIfInBounds_toArray, List.set_cons_succ, List.set_cons_zero]
  refine wpAnyH_take (i := 23) (oi := vr23) (v := .pointer (some ⟨lb, 0, none⟩)) rfl (by kernel_rfl) (by kernel_rfl) (by kernel_rfl) (fun _ _ _ h => h) (.inl ⟨rfl, by intro wz hz; clear hz; unfold vr23; go_simp⟩) ⟨c2, c3, c4⟩ ?_
  simp only [vr23, Act.put, List.setIfInBounds_toArray, List.set_cons_succ, List.set_cons_zero]
  refine wpAnyH_take (i := 24) (oi := vr24) (v := .pointer (some ⟨lb, 3, none⟩)) rfl (by kernel_rfl) (by kernel_rfl) (by kernel_rfl) (fun _ _ _ h => h) (.inl ⟨rfl, by intro wz hz; clear hz; unfold vr24; go_simp⟩) ⟨c2, c3, c4⟩ ?_
  simp only [vr24, Act.put, List.setIfInBounds_toArray, List.set_cons_succ, List.set_cons_zero]
  refine wpAnyH_take (i := 25) (oi := vr25) (v := .slice ra rn rc) rfl (by kernel_rfl) (by kernel_rfl) (by kernel_rfl) (fun _ _ _ h => h) (.inl ⟨rfl, by intro wz hz; obtain ⟨h2, h3, h4⟩ := hz; unfold vr25; go_simp⟩) ⟨c2, c3, c4⟩ ?_
  simp only [vr25, Act.put, List.setIfInBounds_toArray, List.set_cons_succ, List.set_cons_zero]
  refine wpAnyH_take (i := 26) (oi := vr26) (v := .int .i64 (rn : Nat)) rfl (by kernel_rfl) (by kernel_rfl) (by kernel_rfl) (fun _ _ _ h => h) (.inl ⟨rfl, by intro wz hz; clear hz; unfold vr26; go_simp⟩) ⟨c2, c3, c4⟩ ?_
  simp only [vr26, Act.put, List.setIfInBounds_toArray, List.set_cons_succ, List.set_cons_zero]
  refine wpAnyH_take (i := 27) (oi := vr27) (v := .pointer (some ⟨lb, 0, none⟩)) rfl (by kernel_rfl) (by kernel_rfl) (by kernel_rfl) (fun _ _ _ h => h) (.inl ⟨rfl, fun _ _ => rfl⟩) ⟨c2, c3, c4⟩ ?_
  simp only [vr27, Act.put, List.setIfInBounds_toArray, List.set_cons_succ, List.set_cons_zero]
  refine wpAnyH_take (i := 28) (oi := vr28) (v := .func (.func 120) #[.pointer (some ⟨lb, 0, none⟩)] #[]) rfl (by kernel_rfl) (by kernel_rfl) (by kernel_rfl) (fun _ _ _ h => h) (.inl ⟨rfl, by intro wz hz; clear hz; unfold vr28; go_simp⟩) ⟨c2, c3, c4⟩ ?_
  simp only [vr28, Act.put, List.setIfInBounds_toArray, List.set_cons_succ, List.set_cons_zero]
  refine wpAnyH_take (i := 29) (oi := vr29) (v := .agg #[.int .i64 (rn : Nat), .func (.func 120) #[.pointer (some ⟨lb, 0, none⟩)] #[]]) rfl (by kernel_rfl) (by kernel_rfl) (by kernel_rfl) (fun _ _ _ h => h) (.inl ⟨rfl, by intro wz hz; clear hz; unfold vr29; go_simp⟩) ⟨c2, c3, c4⟩ ?_
  simp only [vr29, Act.put, List.setIfInBounds_toArray, List.set_cons_succ, List.set_cons_zero]
  refine wpAnyH_take (i := 30) (oi := vr30) (v := .pointer (some ⟨lb, 0, none⟩)) rfl (by kernel_rfl) (by kernel_rfl) (by kernel_rfl) (fun _ _ _ h => h) (.inl ⟨rfl, fun _ _ => rfl⟩) ⟨c2, c3, c4⟩ ?_
  simp only [vr30, Act.put, List.setIfInBounds_toArray, List.set_cons_succ, List.set_cons_zero]
  refine wpAnyH_take (i := 31) (oi := vr31) (v := .pointer (some ⟨lb, 0, none⟩)) rfl (by kernel_rfl) (by kernel_rfl) (by kernel_rfl) (fun _ _ _ h => h) (.inl ⟨rfl, by intro wz hz; clear hz; unfold vr31; go_simp⟩) ⟨c2, c3, c4⟩ ?_
  simp only [vr31, Act.put, List.setIfInBounds_toArray, List.set_cons_succ, List.set_cons_zero]
  refine wpAnyH_take (i := 32) (oi := vr32) (v := .pointer (some ⟨lb, 0, none⟩)) rfl (by kernel_rfl) (by kernel_rfl) (by kernel_rfl) (fun _ _ _ h => h) (.inl ⟨rfl, by intro wz hz; clear hz; unfold vr32; go_simp⟩) ⟨c2, c3, c4⟩ ?_
  simp only [vr32, Act.put, List.setIfInBounds_toArray, List.set_cons_succ, List.set_cons_zero]
  refine wpAnyH_take (i := 33) (oi := vr33) (v := .pointer (some ⟨lb, 3, none⟩)) rfl (by kernel_rfl) (by kernel_rfl) (by kernel_rfl) (fun _ _ _ h => h) (.inl ⟨rfl, by intro wz hz; clear hz; unfold vr33; go_simp⟩) ⟨c2, c3, c4⟩ ?_
  simp only [vr33, Act.put, List.setIfInBounds_toArray, List.set_cons_succ, List.set_cons_zero]
  refine wpAnyH_take (i := 34) (oi := vr34) (v := .slice ra rn rc) rfl (by kernel_rfl) (by kernel_rfl) (by kernel_rfl) (fun _ _ _ h => h) (.inl ⟨rfl, by intro wz hz; obtain ⟨h2, h3, h4⟩ := hz; unfold vr34; go_simp⟩) ⟨c2, c3, c4⟩ ?_
  simp only [vr34, Act.put, List.setIfInBounds_toArray, List.set_cons_succ, List.set_cons_zero]
  refine wpAnyH_take (i := 35) (oi := vr35) (v := .int .i64 (rn : Nat)) rfl (by kernel_rfl) (by kernel_rfl) (by kernel_rfl) (fun _ _ _ h => h) (.inl ⟨rfl, by intro wz hz; clear hz; unfold vr35; go_simp⟩) ⟨c2, c3, c4⟩ ?_
  simp only [vr35, Act.put, List.setIfInBounds_toArray, List.set_cons_succ, List.set_cons_zero]
  refine wpAnyH_take (i := 36) (oi := vr36) (v := .pointer (some ⟨lb, 0, none⟩)) rfl (by kernel_rfl) (by kernel_rfl) (by kernel_rfl) (fun _ _ _ h => h) (.inl ⟨rfl, fun _ _ => rfl⟩) ⟨c2, c3, c4⟩ ?_
  simp only [vr36, Act.put, List.setIfInBounds_toArray, List.set_cons_succ, List.set_cons_zero]
  refine wpAnyH_take (i := 37) (oi := vr37) (v := .func (.func 121) #[.pointer (some ⟨lb, 0, none⟩)] #[]) rfl (by kernel_rfl) (by kernel_rfl) (by kernel_rfl) (fun _ _ _ h => h) (.inl ⟨rfl, by intro wz hz; clear hz; unfold vr37; go_simp⟩) ⟨c2, c3, c4⟩ ?_
  simp only [vr37, Act.put, List.setIfInBounds_toArray, List.set_cons_succ, List.set_cons_zero]
  refine wpAnyH_take (i := 38) (oi := vr38) (v := .agg #[.int .i64 (rn : Nat), .func (.func 121) #[.pointer (some ⟨lb, 0, none⟩)] #[]]) rfl (by kernel_rfl) (by kernel_rfl) (by kernel_rfl) (fun _ _ _ h => h) (.inl ⟨rfl, by intro wz hz; clear hz; unfold vr38; go_simp⟩) ⟨c2, c3, c4⟩ ?_
  simp only [vr38, Act.put, List.setIfInBounds_toArray, List.set_cons_succ, List.set_cons_zero]
  refine wpAnyH_take (i := 39) (oi := vr39) (v := .pointer (some ⟨lb, 0, none⟩)) rfl (by kernel_rfl) (by kernel_rfl) (by kernel_rfl) (fun _ _ _ h => h) (.inl ⟨rfl, fun _ _ => rfl⟩) ⟨c2, c3, c4⟩ ?_
  simp only [vr39, Act.put, List.setIfInBounds_toArray, List.set_cons_succ, List.set_cons_zero]
  refine wpAnyH_take (i := 40) (oi := vr40) (v := .pointer (some ⟨lb, 0, none⟩)) rfl (by kernel_rfl) (by kernel_rfl) (by kernel_rfl) (fun _ _ _ h => h) (.inl ⟨rfl, by intro wz hz; clear hz; unfold vr40; go_simp⟩) ⟨c2, c3, c4⟩ ?_
  simp only [vr40, Act.put, List.setIfInBounds_toArray, List.set_cons_succ, List.set_cons_zero]
  refine wpAnyH_take (i := 41) (oi := vr41) (v := .pointer (some ⟨lb, 0, none⟩)) rfl (by kernel_rfl) (by kernel_rfl) (by kernel_rfl) (fun _ _ _ h => h) (.inl ⟨rfl, by intro wz hz; clear hz; unfold vr41; go_simp⟩) ⟨c2, c3, c4⟩ ?_
  simp only [vr41, Act.put, List.setIfInBounds_toArray, List.set_cons_succ, List.set_cons_zero]
  refine wpAnyH_take (i := 42) (oi := vr42) (v := .pointer (some ⟨lb, 4, none⟩)) rfl (by kernel_rfl) (by kernel_rfl) (by kernel_rfl) (fun _ _ _ h => h) (.inl ⟨rfl, by intro wz hz; clear hz; unfold vr42; go_simp⟩) ⟨c2, c3, c4⟩ ?_
  simp only [vr42, Act.put, List.setIfInBounds_toArray, List.set_cons_succ, List.set_cons_zero]
  refine wpAnyH_take (i := 43) (oi := vr43) (v := .slice sa sn sc) rfl (by kernel_rfl) (by kernel_rfl) (by kernel_rfl) (fun _ _ _ h => h) (.inl ⟨rfl, by intro wz hz; obtain ⟨h2, h3, h4⟩ := hz; unfold vr43; go_simp⟩) ⟨c2, c3, c4⟩ ?_
  simp only [vr43, Act.put, List.setIfInBounds_toArray, List.set_cons_succ, List.set_cons_zero]
  refine wpAnyH_take (i := 44) (oi := vr44) (v := .int .i64 (sn : Nat)) rfl (by kernel_rfl) (by kernel_rfl) (by kernel_rfl) (fun _ _ _ h => h) (.inl ⟨rfl, by intro wz hz; clear hz; unfold vr44; go_simp⟩) ⟨c2, c3, c4⟩ ?_
  simp only [vr44, Act.put, List.setIfInBounds_toArray, List.set_cons_succ, List.set_cons_zero]
  refine wpAnyH_take (i := 45) (oi := vr45) (v := .pointer (some ⟨lb, 0, none⟩)) rfl (by kernel_rfl) (by kernel_rfl) (by kernel_rfl) (fun _ _ _ h => h) (.inl ⟨rfl, fun _ _ => rfl⟩) ⟨c2, c3, c4⟩ ?_
  simp only [vr45, Act.put, List.setIfInBounds_toArray, List.set_cons_succ, List.set_cons_zero]
  refine wpAnyH_take (i := 46) (oi := vr46) (v := .func (.func 122) #[.pointer (some ⟨lb, 0, none⟩)] #[]) rfl (by kernel_rfl) (by kernel_rfl) (by kernel_rfl) (fun _ _ _ h => h) (.inl ⟨rfl, by intro wz hz; clear hz; unfold vr46; go_simp⟩) ⟨c2, c3, c4⟩ ?_
  simp only [vr46, Act.put, List.setIfInBounds_toArray, List.set_cons_succ, List.set_cons_zero]
  refine wpAnyH_take (i := 47) (oi := vr47) (v := .agg #[.int .i64 (sn : Nat), .func (.func 122) #[.pointer (some ⟨lb, 0, none⟩)] #[]]) rfl (by kernel_rfl) (by kernel_rfl) (by kernel_rfl) (fun _ _ _ h => h) (.inl ⟨rfl, by intro wz hz; clear hz; unfold vr47; go_simp⟩) ⟨c2, c3, c4⟩ ?_
  simp only [vr47, Act.put, List.setIfInBounds_toArray, List.set_cons_succ, List.set_cons_zero]
  refine wpAnyH_take (i := 48) (oi := vr48) (v := .pointer (some ⟨lb, 0, none⟩)) rfl (by kernel_rfl) (by kernel_rfl) (by kernel_rfl) (fun _ _ _ h => h) (.inl ⟨rfl, fun _ _ => rfl⟩) ⟨c2, c3, c4⟩ ?_
  simp only [vr48, Act.put, List.setIfInBounds_toArray, List.set_cons_succ, List.set_cons_zero]
  refine wpAnyH_take (i := 49) (oi := vr49) (v := .pointer (some ⟨lb, 0, none⟩)) rfl (by kernel_rfl) (by kernel_rfl) (by kernel_rfl) (fun _ _ _ h => h) (.inl ⟨rfl, by intro wz hz; clear hz; unfold vr49; go_simp⟩) ⟨c2, c3, c4⟩ ?_
  simp only [vr49, Act.put, List.setIfInBounds_toArray, List.set_cons_succ, List.set_cons_zero]
  refine wpAnyH_take (i := 50) (oi := vr50) (v := .pointer (some ⟨lb, 0, none⟩)) rfl (by kernel_rfl) (by kernel_rfl) (by kernel_rfl) (fun _ _ _ h => h) (.inl ⟨rfl, by intro wz hz; clear hz; unfold vr50; go_simp⟩) ⟨c2, c3, c4⟩ ?_
  simp only [vr50, Act.put, List.setIfInBounds_toArray, List.set_cons_succ, List.set_cons_zero]
  refine wpAnyH_take (i := 51) (oi := vr51) (v := .pointer (some ⟨lb, 3, none⟩)) rfl (by kernel_rfl) (by kernel_rfl) (by kernel_rfl) (fun _ _ _ h => h) (.inl ⟨rfl, by intro wz hz; clear hz; unfold vr51; go_simp⟩) ⟨c2, c3, c4⟩ ?_
  simp only [vr51, Act.put, List.setIfInBounds_toArray, List.set_cons_succ, List.set_cons_zero]
  refine wpAnyH_take (i := 52) (oi := vr52) (v := .slice ra rn rc) rfl (by kernel_rfl) (by kernel_rfl) (by kernel_rfl) (fun _ _ _ h => h) (.inl ⟨rfl, by intro wz hz; obtain ⟨h2, h3, h4⟩ := hz; unfold vr52; go_simp⟩) ⟨c2, c3, c4⟩ ?_
  simp only [vr52, Act.put, List.setIfInBounds_toArray, List.set_cons_succ, List.set_cons_zero]
  refine wpAnyH_take (i := 53) (oi := vr53) (v := .int .i64 (rn : Nat)) rfl (by kernel_rfl) (by kernel_rfl) (by kernel_rfl) (fun _ _ _ h => h) (.inl ⟨rfl, by intro wz hz; clear hz; unfold vr53; go_simp⟩) ⟨c2, c3, c4⟩ ?_
  simp only [vr53, Act.put, List.setIfInBounds_toArray, List.set_cons_succ, List.set_cons_zero]
  refine wpAnyH_take (i := 54) (oi := vr54) (v := .pointer (some ⟨lb, 0, none⟩)) rfl (by kernel_rfl) (by kernel_rfl) (by kernel_rfl) (fun _ _ _ h => h) (.inl ⟨rfl, fun _ _ => rfl⟩) ⟨c2, c3, c4⟩ ?_
  simp only [vr54, Act.put, List.setIfInBounds_toArray, List.set_cons_succ, List.set_cons_zero]
  refine wpAnyH_take (i := 55) (oi := vr55) (v := .func (.func 123) #[.pointer (some ⟨lb, 0, none⟩)] #[]) rfl (by kernel_rfl) (by kernel_rfl) (by kernel_rfl) (fun _ _ _ h => h) (.inl ⟨rfl, by intro wz hz; clear hz; unfold vr55; go_simp⟩) ⟨c2, c3, c4⟩ ?_
  simp only [vr55, Act.put, List.setIfInBounds_toArray, List.set_cons_succ, List.set_cons_zero]
  refine wpAnyH_take (i := 56) (oi := vr56) (v := .agg #[.int .i64 (rn : Nat), .func (.func 123) #[.pointer (some ⟨lb, 0, none⟩)] #[]]) rfl (by kernel_rfl) (by kernel_rfl) (by kernel_rfl) (fun _ _ _ h => h) (.inl ⟨rfl, by intro wz hz; clear hz; unfold vr56; go_simp⟩) ⟨c2, c3, c4⟩ ?_
  simp only [vr56, Act.put, List.setIfInBounds_toArray, List.set_cons_succ, List.set_cons_zero]
  refine wpAnyH_all (rs := [57]) (by kernel_rfl) (by simp) ?_
  intro i hi
  obtain rfl : i = 57 := by simpa using hi
  refine wpOp_plain' (o := vr57) rfl rfl ?_
  refine wp_by_run (by unfold vr57; go_simp; exact ⟨rfl, rfl⟩) ?_
  refine ⟨⟨bcell (((Below.refl _ w).alloc (Nat.le_refl _) _).drew) c2, bcell (((Below.refl _ w).alloc (Nat.le_refl _) _).drew) c3, bcell (((Below.refl _ w).alloc (Nat.le_refl _) _).drew) c4⟩, ?_⟩
  simp only [vr57, Act.put, List.setIfInBounds_toArray, List.set_cons_succ, List.set_cons_zero]
  refine wpAnyH_take (i := 58) (oi := vr58) (v := .slice (some ⟨w.heap.size, 0, none⟩) 7 7) rfl (by kernel_rfl) (by kernel_rfl) (by kernel_rfl) (fun _ _ _ h => h) (.inl ⟨rfl, fun _ _ => rfl⟩) ⟨bcell (((Below.refl _ w).alloc (Nat.le_refl _) _).drew) c2, bcell (((Below.refl _ w).alloc (Nat.le_refl _) _).drew) c3, bcell (((Below.refl _ w).alloc (Nat.le_refl _) _).drew) c4⟩ ?_
  simp only [vr58, Act.put, List.setIfInBounds_toArray, List.set_cons_succ, List.set_cons_zero]
  refine wpAnyH_done (by kernel_rfl) ?_ _
  go_wp2
  go_ret
  exact ⟨w.heap.size, rfl, Nat.le_refl _, Go.heap_alloc_new w _, ((Below.refl _ w).alloc (Nat.le_refl _) _).drew⟩
end Go.Proofs.YtbfamjnnlcopiaaGreatDoor
