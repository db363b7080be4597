/- A table's calls, going on: what Add answers. -/
import Derived.Test.YtkcnanpojnbepaaKfB
import Derived.Deep.CutBlock
import Derived.Deep.RegionLaw
import Derived.Deep.CutRange
namespace Go.Proofs.Ytkcnanpojnbepaa
open Go.RowKit
set_option linter.unusedVariables false

theorem add_bad (base lb t : Nat) (ar : Option Addr) (cr : Nat) (ks : List Kd) (s : Int) (a : Option Addr) (c : Nat) (l : List Int) (r : Int) (w : World) (h : Tb w base lb t ar cr ks) (hI : IsI w a l) (hm : l.length ≤ maxLen) (hr : checkK s l = r) (hne : r ≠ 0) :
    Calls Try.prog 28 #[.pointer (some ⟨t, 0, none⟩), .agg #[.int .i64 s, .slice a l.length c]] w fun e w' => e = .returned (.tuple #[.int .i64 0, .int .i64 r]) ∧ Below w.heap.size w w' := by
  have B0 : Hid (Below w.heap.size w (w.alloc (.cells #[.int .i64 s, .slice a l.length c] 24))) := box_below w s a _ c
  have HI : Hid (IsI (w.alloc (.cells #[.int .i64 s, .slice a l.length c] 24)) a l) := hI.keep B0.out
  have ER : Hid (checkK s l = r) := hr
  have hq : (r != 0) = true := by rw [bne_iff_ne]; exact hne
  clear h hI hr
  go_enter Try.func28, Try.ntmps28
  go_wp2_with (go_at_call 11; refine (check_is s a c _ l r _ rfl ER.out HI.out hm).mono ?_; rintro e w1 ⟨rfl, b1⟩)
  go_ret2
  exact ⟨rfl, B0.out.trans (b1.mono B0.out.size)⟩

theorem add_full (base lb t : Nat) (ar : Option Addr) (cr : Nat) (ks : List Kd) (s : Int) (a : Option Addr) (c : Nat) (l : List Int) (w : World) (h : Tb w base lb t ar cr ks) (hI : IsI w a l) (hm : l.length ≤ maxLen) (hr : checkK s l = 0) (hf : ks.length = 64) :
    Calls Try.prog 28 #[.pointer (some ⟨t, 0, none⟩), .agg #[.int .i64 s, .slice a l.length c]] w fun e w' => e = .returned (.tuple #[.int .i64 0, .int .i64 7]) ∧ Below w.heap.size w w' := by
  have B0 : Hid (Below w.heap.size w (w.alloc (.cells #[.int .i64 s, .slice a l.length c] 24))) := box_below w s a _ c
  have HI : Hid (IsI (w.alloc (.cells #[.int .i64 s, .slice a l.length c] 24)) a l) := hI.keep B0.out
  have ER : Hid (checkK s l = 0) := hr
  have HT : Hid (Tb (w.alloc (.cells #[.int .i64 s, .slice a l.length c] 24)) base lb t ar cr ks) := h.keep B0.out
  have HF : Hid (ks.length = 64) := hf
  clear h hI hr hf
  go_enter Try.func28, Try.ntmps28
  go_wp2_with (go_at_call 11; refine (check_is s a c _ l 0 _ rfl ER.out HI.out hm).mono ?_; rintro e w1 ⟨rfl, b1⟩; have c1 := (HT.out.keep b1).cell; rw [HF.out] at c1)
  go_ret2
  exact ⟨rfl, B0.out.trans (b1.mono B0.out.size)⟩

theorem T2.pre {t : Nat} {r : Option Nat} {w wx w' : World} (h : T2 t r wx w') (b : Below w.heap.size w wx) : T2 t r w w' :=
  ⟨h.os.trans b.os, h.tape.trans b.tape, h.output.trans b.output, Nat.le_trans b.size h.size, fun i hi h1 h2 => (h.block i (Nat.lt_of_lt_of_le hi b.size) h1 h2).trans (b.block i hi)⟩
/-- A kind more lies in the table. -/
theorem Tb.next {w1 w3 : World} {base lb t cr : Nat} {ar : Option Addr} {ks : List Kd} (h : Tb w1 base lb t ar cr ks) {s : Int} {l : List Int} {a2 : Option Addr} {c2 : Nat} (o2 : OwnsI w1 lb a2 l c2) (hr : checkK s l = 0) (ha : AllI l) (hl : ks.length < 64)
    {a3 : Option Addr} {c3 : Nat} (r3 : RowK w3 base a3 (ks ++ [⟨s, a2, c2, l⟩]) c3) (g3 : w1.grownBy w3 (ob ar)) :
    Tb (w3.setCell ⟨t, 0, none⟩ (.slice a3 (ks.length + 1) c3)) base lb t a3 c3 (ks ++ [⟨s, a2, c2, l⟩]) ∧ T2 t (ob ar) w1 (w3.setCell ⟨t, 0, none⟩ (.slice a3 (ks.length + 1) c3)) ∧ ∀ {lb' : Nat} {b : Option Addr} {m : List Int} {d : Nat}, OwnsI w1 lb' b m d → OwnsI (w3.setCell ⟨t, 0, none⟩ (.slice a3 (ks.length + 1) c3)) lb' b m d := by
  have hrow : w1.ownsRow base 24 2 (.slice ar ks.length cr) ks.length (cellsK ks) := h.row
  have g' : w1.grownBy w3 (Value.slice ar ks.length cr).ownBlock := by rw [ob_own]; exact g3
  have hb3 : w3.heap[t]? = some (.cells #[.slice ar ks.length cr] 70 (0, 0)) := by rw [g'.block t h.lt (box_apart h.box hrow (by decide))]; exact h.box
  have on := Only.set t 0 (.slice a3 (ks.length + 1) c3) w3
  have stI : ∀ {lb' : Nat} {b : Option Addr} {m : List Int} {d : Nat}, OwnsI w1 lb' b m d → OwnsI (w3.setCell ⟨t, 0, none⟩ (.slice a3 (ks.length + 1) c3)) lb' b m d := by
    intro lb' b m d ho
    have o3 : OwnsI w3 lb' b m d := World.ownsRow.kept ho g' (rows_apart ho hrow (by decide))
    have ap := box_apart hb3 o3 (by decide)
    obtain ⟨h0, h1 | ⟨q, c', cur, h1, hg1, h2, h3⟩⟩ := o3
    · exact ⟨h0, .inl h1⟩
    · refine ⟨h0, .inr ⟨q, c', cur, h1, hg1, ?_, h3⟩⟩
      rw [on.block q (fun e => by subst e; rw [h1] at ap; exact ap rfl)]
      exact h2
  refine ⟨⟨?_, ?_, ?_, ?_, ?_, by simp; omega, h.ge⟩, ⟨on.os.trans g'.os, on.tape.trans g'.tape, on.output.trans g'.output, by rw [on.size]; exact g'.size, fun i hi h1 h2 => ?_⟩, stI⟩
  · rw [heap_setCell_same w3 t 0 _ _ _ hb3, List.length_append]; rfl
  · refine r3.stay (fun g hg => on.block g ?_)
    intro e
    subst e
    obtain ⟨cur, hc⟩ := r3.kind g hg
    rw [hb3] at hc
    simp at hc
  · intro k hk
    rcases List.mem_append.1 hk with hk | hk
    · exact stI (h.lists k hk)
    · simp at hk; subst hk; exact stI o2
  · intro k hk
    rcases List.mem_append.1 hk with hk | hk
    · exact h.right k hk
    · simp at hk; subst hk; exact hr
  · intro k hk
    rcases List.mem_append.1 hk with hk | hk
    · exact h.all k hk
    · simp at hk; subst hk; exact ha
  · rw [on.block i h1, g3.block i hi h2]

theorem enter_run (f : Nat) (vs : Array Value) (w : World) (hf : (match Try.prog.funcs[f]? with | some fn => !(fn.name == "runtime.NumGoroutine") && !fn.body.isNone | none => false) = true) : (callFunc f vs).run Try.prog w = .ok (.enter f vs) w := by
  unfold callFunc
  simp only [Sem.run_bind, go_sem]
  cases hq : Try.prog.funcs[f]? with
  | none => rw [hq] at hf; cases hf
  | some fn =>
    rw [hq] at hf
    simp at hf
    simp [hf.1, hq]
    intro h
    rw [h] at hf
    simp at hf

/-- A call of a Go function by its contract, in a region that draws. -/
theorem step_call {ops : Array Oper} {o : Oper} {a : Act} {K : Act → World → Prop} {Q : Exit → Act → World → Prop} {E : Prop} {w : World} (hgd : o.guard = none) (f : Nat) (xs : List Operand) (ts : Array TypeId)
    (ho : o.op = .call { callee := .value (.func f), args := xs.toArray, argTypes := ts }) (vs : List Value) (hx : xs.map a.eval = vs) (R : Ending → World → Prop) (C : Calls Try.prog f vs.toArray w R)
    (hf : (match Try.prog.funcs[f]? with | some fn => !(fn.name == "runtime.NumGoroutine") && !fn.body.isNone | none => false) = true) (h : ∀ e w', R e w' → ∃ v, e = .returned v ∧ K (a.put o.dst v) w') :
    if Region.wanted o (yielded ops a.tmps) = true then Oper.wp Try.prog o a w K Q else E := by
  have hw : Region.wanted o (yielded ops a.tmps) = true := by simp [Region.wanted, hgd]
  rw [if_pos hw]
  subst hx
  obtain ⟨dst, op, type, pos, after, guard⟩ := o
  simp only at ho
  subst ho
  unfold Oper.wp
  have e1 : execOp a.eval { dst, op := .call { callee := .value (.func f), args := xs.toArray, argTypes := ts }, type, pos, after, guard } = callFunc f (#[] ++ xs.toArray.map a.eval ++ #[]) := rfl
  rw [e1, show (#[] : Array Value) ++ xs.toArray.map a.eval ++ #[] = (xs.map a.eval).toArray from by simp, enter_run f _ w hf]
  refine C.mono ?_
  intro e w' hR
  obtain ⟨v, rfl, hK⟩ := h e w' hR
  exact hK

theorem ent_alike : (match Try.prog.funcs[44]? with | some fn => !(fn.name == "runtime.NumGoroutine") && !fn.body.isNone | none => false) = true := by kernel_rfl
/-- A kind appended to a row of one's own, in a region that draws. -/
theorem step_appK {ops : Array Oper} {o : Oper} {a : Act} {K : Act → World → Prop} {Q : Exit → Act → World → Prop} {E : Prop} {w : World} (hgd : o.guard = none) (hty : o.type = 50) (s x : Operand)
    (ho : o.op = .call { callee := .builtin .append, args := #[s, x], argTypes := #[50, 50] }) (base : Nat) (hbase : base ≤ w.heap.size) (ar : Option Addr) (ks : List Kd) (cr q c : Nat) (k : Kd)
    (hs : a.eval s = .slice ar ks.length cr) (hx : a.eval x = .slice (some ⟨q, 0, none⟩) 1 c) (hr : RowK w base ar ks cr) (h0 : w.cell? ⟨q, 0, none⟩ = some (.int .i64 k.s)) (h1 : w.cell? ⟨q, 1, none⟩ = some (.slice k.a k.l.length k.c)) (hlen : ks.length ≤ 1000000)
    (h : ∀ a' cap' w', RowK w' base a' (ks ++ [k]) cap' → w.grownBy w' (ob ar) → (ob a' = ob ar ∨ ob a' = some w.heap.size) → K (a.put o.dst (.slice a' (ks.length + 1) cap')) w') :
    if Region.wanted o (yielded ops a.tmps) = true then Oper.wp Try.prog o a w K Q else E := by
  obtain ⟨a', cap', w', hrun, r1, r2, r3⟩ := appK w base hbase ar ks cr hr q c k h0 h1 hlen
  refine step_app hgd s x 50 ho _ _ hs hx _ w' (by rw [hty]; exact hrun) ?_
  exact h a' cap' w' r1 r2 r3

set_option maxRecDepth 20000 in
set_option maxHeartbeats 4000000 in
theorem add_ok (base lb t : Nat) (ar : Option Addr) (cr : Nat) (ks : List Kd) (s : Int) (a : Option Addr) (c : Nat) (l : List Int) (w : World) (h : Tb w base lb t ar cr ks) (hI : IsI w a l) (hnil : a = none → l = [] ∧ c = 0) (hr : checkK s l = 0) (hf : ks.length < 64) (hbase : base ≤ w.heap.size) (hlb : lb ≤ w.heap.size) :
    Calls Try.prog 28 #[.pointer (some ⟨t, 0, none⟩), .agg #[.int .i64 s, .slice a l.length c]] w fun e w' => e = .returned (.tuple #[.int .i64 ks.length, .int .i64 0]) ∧ ∃ ar' cr' a' c', Tb w' base lb t ar' cr' (ks ++ [⟨s, a', c', l⟩]) ∧ OwnsI w' w.heap.size a' l c' ∧ T2 t (ob ar) w w' ∧ (ob ar' = ob ar ∨ ∃ g, ob ar' = some g ∧ w.heap.size ≤ g) := by
  have hl16 := (check_zero.1 hr).2.2.1
  have B0 : Hid (Below w.heap.size w (w.alloc (.cells #[.int .i64 s, .slice a l.length c] 24))) := box_below w s a _ c
  have HI : Hid (IsI (w.alloc (.cells #[.int .i64 s, .slice a l.length c] 24)) a l) := hI.keep B0.out
  have AI : Hid (AllI l) := hI.1
  have HN : Hid (a = none → l = [] ∧ c = 0) := hnil
  have ER : Hid (checkK s l = 0) := hr
  have HT : Hid (Tb (w.alloc (.cells #[.int .i64 s, .slice a l.length c] 24)) base lb t ar cr ks) := h.keep B0.out
  obtain ⟨q0, q1⟩ := box_cells w s a l.length c
  have Q0 : Hid _ := q0
  have Q1 : Hid _ := q1
  have hltt := h.lt
  clear h hI hr hnil q0 q1
  go_enter Try.func28, Try.ntmps28
  go_wp2_with fail
  refine (check_is s a c _ l 0 _ rfl ER.out HI.out (by unfold maxLen; omega)).mono ?_
  rintro e w1 ⟨rfl, b1⟩
  have T1 : Hid (Tb w1 base lb t ar cr ks) := HT.out.keep b1
  have B1 : Hid (Below w.heap.size w w1) := B0.out.trans (b1.mono B0.out.size)
  have z1 := B1.out.size
  have I1 : Hid (IsI w1 a l) := HI.out.keep b1
  have k0 := bcellK b1 Q0.out
  have k1 := bcellK b1 Q1.out
  have t1 := T1.out.cell
  have y1 := T1.out.thawed
  clear b1
  go_upto_region 8 with (fail)
  have hks : ks.length ≤ 1000000 := by omega
  go_region_law (first
    | (refine step_call rfl 44 _ _ rfl _ rfl _ (alike_any s a c _ l _ rfl I1.out.drew HN.out (by omega)) ent_alike ?_; rintro e w2 ⟨a2, c2, rfl, o2, b2⟩; refine ⟨_, rfl, ?_⟩; have B2 : Hid (Below w1.heap.size w1 w2) := Below.ofDrew b2; have O2 : Hid (OwnsI w2 w1.heap.size a2 l c2) := o2; have p0 := bcellK B2.out k0; have p1 := bcellK B2.out k1; have t2 := bcellK B2.out t1; have y2 := bfrozenK B2.out t1 y1; have T2' : Hid (Tb w2 base lb t ar cr ks) := T1.out.keep B2.out; obtain ⟨x0, x1⟩ := box_cells w2 s a2 l.length c2; have X0 : Hid _ := x0; have X1 : Hid _ := x1; have T3 : Hid (Tb (w2.alloc (.cells #[.int .i64 s, .slice a2 l.length c2] 24)) base lb t ar cr ks) := T2'.out.keep (box_below w2 s a2 _ c2); have n2 := T3.out.cell; have ny := T3.out.thawed; have z2 := B2.out.size; clear o2 b2 x0 x1)
    | (refine step_appK rfl rfl _ _ rfl base (by simp; omega) ar ks cr _ _ ⟨s, a2, c2, l⟩ rfl rfl T3.out.row X0.out X1.out hks ?_; intro a3 c3 w3 r3 g3 f3; obtain ⟨N1, N2, N3⟩ := T3.out.next ((O2.out.mono (by omega)).alloc _) ER.out AI.out hf r3 g3; have M1 : Hid _ := N1; have M3 : Hid (OwnsI (w3.setCell ⟨t, 0, none⟩ (.slice a3 (ks.length + 1) c3)) w.heap.size a2 l c2) := N3 ((O2.out.mono z1).alloc _); have M4 : Hid (T2 t (ob ar) w (w3.setCell ⟨t, 0, none⟩ (.slice a3 (ks.length + 1) c3))) := N2.pre ((B1.out.trans (B2.out.mono z1)).alloc (Nat.le_trans z1 z2) _); have F3 : Hid (ob a3 = ob ar ∨ ∃ g, ob a3 = some g ∧ w.heap.size ≤ g) := (by rcases f3 with f3 | f3; exact .inl f3; exact .inr ⟨_, f3, by simp; omega⟩); have v3 : w3.cell? ⟨t, 0, none⟩ = some (.slice ar ks.length cr) := (by have hrow : World.ownsRow _ base 24 2 (.slice ar ks.length cr) ks.length (cellsK ks) := T3.out.row; have g' := g3; rw [← ob_own ar ks.length cr] at g'; rw [World.cell?_of_block (g'.block t T3.out.lt (box_apart T3.out.box hrow (by decide)))]; exact n2); have v4 : w3.frozen? ⟨t, 0, none⟩ = false := (by have hrow : World.ownsRow _ base 24 2 (.slice ar ks.length cr) ks.length (cellsK ks) := T3.out.row; have g' := g3; rw [← ob_own ar ks.length cr] at g'; have hb := (g'.block t T3.out.lt (box_apart T3.out.box hrow (by decide))).trans T3.out.box; exact frozen_of_row _ _ 0 _ _ hb); have v5 : (w3.setCell ⟨t, 0, none⟩ (.slice a3 (ks.length + 1) c3)).cell? ⟨t, 0, none⟩ = some (.slice a3 (ks.length + 1) c3) := (by have := M1.out.cell; rw [List.length_append] at this; exact this); clear r3 g3 f3 N1 N2 N3))
  all_goals
    go_wp2
    go_ret2
    exact ⟨by simp, a3, c3, a2, c2, M1.out, M3.out, M4.out, F3.out⟩
end Go.Proofs.Ytkcnanpojnbepaa
