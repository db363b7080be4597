/- errors.Is and errors.As by their contracts, at the errors that the program makes: a number (Errno), 1 behind a struct of the package's own (noDisk), one at a sector (*api.Fault). -/
import Derived.Test.YtofmicbhheebiaaDoorGzAF
import Derived.LaidEql
import Derived.Stop.Asserts
import Derived.RowKitTokens
namespace Go.Proofs.YtofmicbhheebiaaDoor
open Go.RowKit Go.Extern.Stop Go.Stop Go.Extern
set_option linter.unusedVariables false
set_option maxRecDepth 4000

/-- The package's own struct, without a field. -/
def refE : Value := .iface 83 (.agg #[])
/-- A number at a sector. -/
def fltE (b : Nat) : Value := .iface 91 (.pointer (some ⟨b, 0, none⟩))
def numE (k : Int) : Value := .iface 27 (.int .i64 k)
def FltAt (w : World) (b : Nat) (s k : Int) : Prop := w.heap[b]? = some (.cells #[.int .i64 s, .iface 27 (.int .i64 k)] 95 (0, 0))

theorem erTypeOf (v : Value) (w : World) : (callFunc 51 #[.iface 27 v]).run Tryd.prog w = .ok (.value (.iface 132 (.agg #[.pointer (some ⟨1, 27, none⟩)]))) w := by
  rw [@run_callFunc_extern Tryd.prog 51 _ ReflectliteType.typeOf Tryd.func51 (by kernel_rfl) (by kernel_rfl) (by kernel_rfl) (by kernel_rfl)]
  kernel_rfl
theorem erComparable (w : World) : (callFunc 105 #[.agg #[.pointer (some ⟨1, 27, none⟩)]]).run Tryd.prog w = .ok (.value (.bool true)) w := by
  rw [@run_callFunc_extern Tryd.prog 105 _ (ReflectliteType.method fun t => do Rtype.noPackHeld "Comparable" t; pure (.bool (← typeInfo t).comparable)) Tryd.func105 (by kernel_rfl) (by kernel_rfl) (by kernel_rfl) (by kernel_rfl)]
  kernel_rfl
theorem erMethodComparable (v : Value) (w : World) : (Go.method 279 132 v "Comparable").run Tryd.prog w = .ok (105, v) w := by kernel_rfl

theorem noIsE (v : Value) (xT : TypeId) (w : World) : (Instr.typeAssert (.iface 27 v) xT 134 true).run Tryd.prog w = .ok (.tuple #[.nilIface, .bool false]) w := run_typeAssert_lacksB Tryd.underlying134 (by kernel_rfl) (by kernel_rfl) v xT w
theorem noUnE (v : Value) (xT : TypeId) (w : World) : (Instr.typeAssert (.iface 27 v) xT 137 true).run Tryd.prog w = .ok (.tuple #[.nilIface, .bool false]) w := run_typeAssert_lacksB Tryd.underlying137 (by kernel_rfl) (by kernel_rfl) v xT w
theorem noUnsE (v : Value) (xT : TypeId) (w : World) : (Instr.typeAssert (.iface 27 v) xT 139 true).run Tryd.prog w = .ok (.tuple #[.nilIface, .bool false]) w := run_typeAssert_lacksB Tryd.underlying139 (by kernel_rfl) (by kernel_rfl) v xT w
theorem noAsE (v : Value) (xT : TypeId) (w : World) : (Instr.typeAssert (.iface 27 v) xT 144 true).run Tryd.prog w = .ok (.tuple #[.nilIface, .bool false]) w := run_typeAssert_lacksB Tryd.underlying144 (by kernel_rfl) (by kernel_rfl) v xT w
theorem noIsR (v : Value) (xT : TypeId) (w : World) : (Instr.typeAssert (.iface 83 v) xT 134 true).run Tryd.prog w = .ok (.tuple #[.nilIface, .bool false]) w := run_typeAssert_lacksB Tryd.underlying134 (by kernel_rfl) (by kernel_rfl) v xT w
theorem noAsR (v : Value) (xT : TypeId) (w : World) : (Instr.typeAssert (.iface 83 v) xT 144 true).run Tryd.prog w = .ok (.tuple #[.nilIface, .bool false]) w := run_typeAssert_lacksB Tryd.underlying144 (by kernel_rfl) (by kernel_rfl) v xT w
theorem hasUnR (v : Value) (xT : TypeId) (w : World) : (Instr.typeAssert (.iface 83 v) xT 137 true).run Tryd.prog w = .ok (.tuple #[.iface 83 v, .bool true]) w := run_typeAssert_hasB Tryd.underlying137 (by kernel_rfl) v xT w
theorem noIsF (v : Value) (xT : TypeId) (w : World) : (Instr.typeAssert (.iface 91 v) xT 134 true).run Tryd.prog w = .ok (.tuple #[.nilIface, .bool false]) w := run_typeAssert_lacksB Tryd.underlying134 (by kernel_rfl) (by kernel_rfl) v xT w
theorem hasUnF (v : Value) (xT : TypeId) (w : World) : (Instr.typeAssert (.iface 91 v) xT 137 true).run Tryd.prog w = .ok (.tuple #[.iface 91 v, .bool true]) w := run_typeAssert_hasB Tryd.underlying137 (by kernel_rfl) v xT w
theorem methodUnR (v : Value) (w : World) : (Go.method 279 83 v "Unwrap").run Tryd.prog w = .ok (97, v) w := by kernel_rfl
theorem methodUnF (v : Value) (w : World) : (Go.method 279 91 v "Unwrap").run Tryd.prog w = .ok (99, v) w := by kernel_rfl
theorem erComp : (Tryd.prog.info? 27).map (·.comparable) = some true := by kernel_rfl
theorem eql_errno (k n : Int) (w : World) : (binOp .eql 40 (.iface 27 (.int .i64 k)) (.iface 27 (.int .i64 n))).run Tryd.prog w = .ok (.bool (decide (k = n))) w := by
  obtain ⟨i, hi, hcmp⟩ := Option.map_eq_some_iff.1 erComp
  have h : ∀ d : Nat, (Op.equalIn (d + 2) 40 (.iface 27 (.int .i64 k)) (.iface 27 (.int .i64 n))).run Tryd.prog w = .ok (decide (k = n)) w := fun d => by
    simp [Op.equalIn, run_underlying Tryd.underlying40, run_underlying Tryd.underlying27, typeInfo, hi, hcmp]
    try rfl
  simp only [binOp]
  simp [Op.equal, Op.maxDepth, h 9998]

set_option maxRecDepth 20000 in
set_option maxHeartbeats 4000000 in
theorem is_ref (n : Int) (w : World) :
    Calls Tryd.prog 35 #[refE, numE n] w fun e w' => e = .returned (.bool (decide ((1 : Int) = n))) ∧ Below w.heap.size w w' := by
  unfold refE numE
  have tT := erTypeOf
  have cT := erComparable
  have mR := erMethodComparable
  have n1 := noIsE
  have n2 := noUnE
  have n3 := noUnsE
  have m1 := noIsR
  have m2 := hasUnR
  have m3 := methodUnR
  have hty : ∀ v u w, (binOp .eql 40 (.iface 83 v) (.iface 27 u)).run Tryd.prog w = .ok (.bool false) w := fun v u w => run_eql_iface_types (P := Tryd.prog) 83 27 v u Tryd.underlying40 (by decide) w
  have EQ := eql_errno 1 n
  by_cases hk : (1 : Int) = n
  · rw [decide_eq_true hk] at EQ ⊢
    clear hk
    go_enter Tryd.func35, Tryd.ntmps35
    go_wp2
    refine wp_loop_rounds 2 ?_
    rw [rounds_succ]
    go_wp2
    rw [rounds_succ]
    go_wp2
    go_ret
    exact ⟨rfl, (Below.refl _ w).alloc (Nat.le_refl _) _⟩
  · rw [decide_eq_false hk] at EQ ⊢
    clear hk
    go_enter Tryd.func35, Tryd.ntmps35
    go_wp2
    refine wp_loop_rounds 2 ?_
    rw [rounds_succ]
    go_wp2
    rw [rounds_succ]
    go_wp2
    go_ret
    exact ⟨rfl, (Below.refl _ w).alloc (Nat.le_refl _) _⟩

set_option maxRecDepth 20000 in
set_option maxHeartbeats 4000000 in
theorem is_flt (b : Nat) (s k n : Int) (w : World) (h : FltAt w b s k) :
    Calls Tryd.prog 35 #[fltE b, numE n] w fun e w' => e = .returned (.bool (decide (k = n))) ∧ Below w.heap.size w w' := by
  unfold fltE numE
  have tT := erTypeOf
  have cT := erComparable
  have mR := erMethodComparable
  have n1 := noIsE
  have n2 := noUnE
  have n3 := noUnsE
  have m1 := noIsF
  have m2 := hasUnF
  have m3 := methodUnF
  have hty : ∀ v u w, (binOp .eql 40 (.iface 91 v) (.iface 27 u)).run Tryd.prog w = .ok (.bool false) w := fun v u w => run_eql_iface_types (P := Tryd.prog) 91 27 v u Tryd.underlying40 (by decide) w
  have h1 : w.cell? ⟨b, 1, none⟩ = some (.iface 27 (.int .i64 k)) := cell_of_row _ _ 1 _ _ _ h
  clear h
  have EQ := eql_errno k n
  by_cases hk : k = n
  · rw [decide_eq_true hk] at EQ ⊢
    clear hk
    go_enter Tryd.func35, Tryd.ntmps35
    go_wp2
    refine wp_loop_rounds 2 ?_
    rw [rounds_succ]
    go_wp2
    rw [rounds_succ]
    go_wp2
    go_ret
    exact ⟨rfl, Below.refl _ w⟩
  · rw [decide_eq_false hk] at EQ ⊢
    clear hk
    go_enter Tryd.func35, Tryd.ntmps35
    go_wp2
    refine wp_loop_rounds 2 ?_
    rw [rounds_succ]
    go_wp2
    rw [rounds_succ]
    go_wp2
    go_ret
    exact ⟨rfl, Below.refl _ w⟩

/-- An error, as the program makes them: its number, and its sector (-1: none). -/
def ErrIs (w : World) (v : Value) (c s : Int) : Prop := (v = .nilIface ∧ c = 0 ∧ s = -1) ∨ (1 ≤ c ∧ c ≤ 17 ∧ ((s = -1 ∧ v = refE ∧ c = 1) ∨ ∃ b, v = fltE b ∧ FltAt w b s c))
theorem FltAt.keep {w w' : World} {b : Nat} {s k : Int} (h : FltAt w b s k) (hb : Below w.heap.size w w') : FltAt w' b s k := by
  unfold FltAt at h ⊢
  rw [hb.block b (Array.getElem?_eq_some_iff.1 h).1]; exact h
theorem ErrIs.keep {w w' : World} {v : Value} {c s : Int} (h : ErrIs w v c s) (hb : Below w.heap.size w w') : ErrIs w' v c s := by
  rcases h with h | ⟨h0, h1, h | ⟨b, h2, h3⟩⟩
  · exact .inl h
  · exact .inr ⟨h0, h1, .inl h⟩
  · exact .inr ⟨h0, h1, .inr ⟨b, h2, h3.keep hb⟩⟩
theorem is_err (v : Value) (c s n : Int) (w : World) (h : ErrIs w v c s) (hc : c ≠ 0) :
    Calls Tryd.prog 35 #[v, numE n] w fun e w' => e = .returned (.bool (decide (c = n))) ∧ Below w.heap.size w w' := by
  rcases h with ⟨_, h, _⟩ | ⟨h0, h1, ⟨_, rfl, rfl⟩ | ⟨b, rfl, h3⟩⟩
  · exact absurd h hc
  · exact is_ref n w
  · exact is_flt b s c n w h3
theorem err_eqn (v : Value) (c s : Int) (w : World) (h : ErrIs w v c s) (hc : c ≠ 0) : ∃ t x, v = .iface t x := by
  rcases h with ⟨_, h, _⟩ | ⟨h0, h1, ⟨_, rfl, rfl⟩ | ⟨b, rfl, h3⟩⟩
  · exact absurd h hc
  · exact ⟨_, _, rfl⟩
  · exact ⟨_, _, rfl⟩
set_option maxRecDepth 20000 in
set_option maxHeartbeats 4000000 in
theorem code_nil (w : World) : Calls Tryd.prog 15 #[.nilIface] w fun e w' => e = .returned (.int .i64 0) ∧ w = w' := by
  go_enter Tryd.func15, Tryd.ntmps15
  go_wp2
  go_ret
  exact ⟨rfl, rfl⟩
set_option maxRecDepth 20000 in
set_option maxHeartbeats 4000000 in
/-- An error's number. -/
theorem code_any (v : Value) (c s : Int) (w : World) (h : ErrIs w v c s) : Calls Tryd.prog 15 #[v] w fun e w' => e = .returned (.int .i64 c) ∧ Below w.heap.size w w' := by
  by_cases hc : c = 0
  · rcases h with ⟨rfl, rfl, _⟩ | ⟨h0, _⟩
    · refine (code_nil w).mono ?_
      rintro e w' ⟨rfl, rfl⟩
      exact ⟨rfl, Below.refl _ _⟩
    · omega
  · have IS : Hid (∀ (n : Int) (wr : World), Below w.heap.size w wr → Calls Tryd.prog 35 #[v, numE n] wr fun e w' => e = .returned (.bool (decide (c = n))) ∧ Below wr.heap.size wr w') := fun n wr b => is_err v c s n wr (h.keep b) hc
    obtain ⟨t, x, rfl⟩ := err_eqn v c s w h hc
    have c17 : 1 ≤ c ∧ c ≤ 17 := by
      rcases h with ⟨_, h, _⟩ | ⟨h0, h1, _⟩
      · exact absurd h hc
      · exact ⟨h0, h1⟩
    obtain ⟨c0, c1⟩ := c17
    clear h
    go_enter Tryd.func15, Tryd.ntmps15
    go_wp2
    go_loopw [3] (fun nv wr => ∃ n : Int, 1 ≤ n ∧ n ≤ c ∧ nv = .int .i64 n ∧ Below w.heap.size w wr) (fun nv _ => (c + 1 - intOf nv).toNat)
    case atStart => exact ⟨1, by omega, c0, rfl, Below.refl _ _⟩
    case round =>
      obtain ⟨n, n0, n1, rfl, hb⟩ := hrel
      have HB : Hid (Below w.heap.size w wr) := hb
      clear hb
      have IN : Hid (Calls Tryd.prog 35 #[.iface t x, .iface 27 (.int .i64 n)] wr fun e w' => e = .returned (.bool (decide (c = n))) ∧ Below wr.heap.size wr w') := IS.out n wr HB.out
      have n17 : n ≤ 17 := by omega
      have wn : IntKind.i64.wrap (n + 1) = n + 1 := by rw [IntKind.wrap_i64]; omega
      by_cases hn : c = n
      · rw [decide_eq_true hn] at IN
        subst hn
        go_wp2_with (go_at_call 35; refine Calls.mono IN.out ?_; rintro e w1 ⟨rfl, b1⟩; have B1 : Hid (Below w.heap.size w w1) := HB.out.trans (b1.mono HB.out.size); clear b1)
        go_ret
        exact ⟨rfl, B1.out⟩
      · rw [decide_eq_false hn] at IN
        go_wp2_with (go_at_call 35; refine Calls.mono IN.out ?_; rintro e w1 ⟨rfl, b1⟩; have B1 : Hid (Below w.heap.size w w1) := HB.out.trans (b1.mono HB.out.size); clear b1)
        go_roundw
        case rel => exact ⟨n + 1, by omega, by omega, rfl, B1.out⟩
        case measure => simp [intOf]; omega
end Go.Proofs.YtofmicbhheebiaaDoor
