/- Calls and clear in a walk. -/
import Derived.Test.YtebmegghojiegaaDoorBaA
import Derived.Test.YtebmegghojiegaaDoorBbM
import Derived.Test.YtebmegghojiegaaDoorAvG
import Derived.Deep.RegionLaw
namespace Go.Proofs.YtebmegghojiegaaDoor
open Go.RowKit
set_option linter.unusedVariables false

theorem enter_run (f : Nat) (vs : Array Value) (w : World) (hf : (match Tryd.prog.funcs[f]? with | some fn => !(fn.name == "runtime.NumGoroutine") && !fn.body.isNone | none => false) = true) : (callFunc f vs).run Tryd.prog w = .ok (.enter f vs) w := by
  unfold callFunc
  simp only [Sem.run_bind, go_sem]
  cases hq : Tryd.prog.funcs[f]? with
  | none => rw [hq] at hf; cases hf
  | some fn =>
    rw [hq] at hf
    simp at hf
    simp [hf.1, hq]
    intro h
    rw [h] at hf
    simp at hf
/-- A call of a Go function by its contract, in a region that draws. -/
theorem step_call {ops : Array Oper} {o : Oper} {a : Act} {K : Act → World → Prop} {Q : Exit → Act → World → Prop} {E : Prop} {w : World} (hgd : o.guard = none) (f : Nat) (xs : List Operand) (ts : Array TypeId)
    (ho : o.op = .call { callee := .value (.func f), args := xs.toArray, argTypes := ts }) (vs : List Value) (hx : xs.map a.eval = vs) (R : Ending → World → Prop) (C : Calls Tryd.prog f vs.toArray w R)
    (hf : (match Tryd.prog.funcs[f]? with | some fn => !(fn.name == "runtime.NumGoroutine") && !fn.body.isNone | none => false) = true) (h : ∀ e w', R e w' → ∃ v, e = .returned v ∧ K (a.put o.dst v) w') :
    if Region.wanted o (yielded ops a.tmps) = true then Oper.wp Tryd.prog o a w K Q else E := by
  have hw : Region.wanted o (yielded ops a.tmps) = true := by simp [Region.wanted, hgd]
  rw [if_pos hw]
  subst hx
  obtain ⟨dst, op, type, pos, after, guard⟩ := o
  simp only at ho
  subst ho
  unfold Oper.wp
  have e1 : execOp a.eval { dst, op := .call { callee := .value (.func f), args := xs.toArray, argTypes := ts }, type, pos, after, guard } = callFunc f (#[] ++ xs.toArray.map a.eval ++ #[]) := rfl
  rw [e1, show (#[] : Array Value) ++ xs.toArray.map a.eval ++ #[] = (xs.map a.eval).toArray from by simp, enter_run f _ w hf]
  refine C.mono ?_
  intro e w' hR
  obtain ⟨v, rfl, hK⟩ := h e w' hR
  exact hK

theorem ent_nGet : (match Tryd.prog.funcs[61]? with | some fn => !(fn.name == "runtime.NumGoroutine") && !fn.body.isNone | none => false) = true := by kernel_rfl
theorem ent_named : (match Tryd.prog.funcs[60]? with | some fn => !(fn.name == "runtime.NumGoroutine") && !fn.body.isNone | none => false) = true := by kernel_rfl
theorem wpList_clearO {ops : Array Oper} {rest : List Oper} {o : Oper} {a : Act} {Q : Exit → Act → World → Prop} {w : World} (hgd : o.guard = none) (s : Operand)
    (ho : o.op = .call { callee := .builtin .clear, args := #[s], argTypes := #[25] })
    (base g off n c cap : Nat) (cur : List Int) (hs : a.eval s = .slice (some ⟨g, off, none⟩) n c) (hg : OwnsB w base (some ⟨g, 0, none⟩) cur cap) (hfit : off + n ≤ cur.length) (h0 : 0 < n)
    (h : ∀ w1, OwnsB w1 base (some ⟨g, 0, none⟩) (overR cur off (List.replicate n 0)) cap → Only g w w1 → wpList Tryd.prog ops Q rest (a.put o.dst (.tuple #[])) w1) : wpList Tryd.prog ops Q (o :: rest) a w := by
  refine wpList_plain hgd fun K' hK' => ?_
  obtain ⟨w1, hrun, r1, r2⟩ := clear_own w base g off n c cap cur hg hfit h0
  unfold Oper.wp
  simp [execOp, ho, resolve, invoke, builtin, hs, hrun, Result.andThen]
  exact hK' _ _ (h w1 r1 r2)
/-- An object in its box, half made. -/
structure Obw (w wz : World) (G bg z bk : Nat) (N : Nat) (kd : Int) (l : List Int) (hs : List Nat) (ha : Option Addr) (n hk : Nat) : Prop where
  g0 : w.heap.size < G
  rg : wz.heap[G]? = some (.cells #[.int .u64 (N : Nat), .int .i64 kd, .slice (some ⟨bg, 0, none⟩) z bk, .slice ha n hk] 44 (0, 0))
  r0 : wz.heap[w.heap.size]? = some (.cells #[.int .u64 0, .int .i64 0, .slice none 0 0, .slice none 0 0] 44 (0, 0))
  yb : OwnsB wz w.heap.size (some ⟨bg, 0, none⟩) l bk
  oh : Oh wz w.heap.size ha hs hk
  zl : l.length = z
  nl : hs.length = n
  bw : Below w.heap.size w wz
theorem Obw.keep {w wz wy : World} {G bg z bk N : Nat} {kd : Int} {l : List Int} {hs : List Nat} {ha : Option Addr} {n hk : Nat} (h : Obw w wz G bg z bk N kd l hs ha n hk) (b : Below wz.heap.size wz wy) : Obw w wy G bg z bk N kd l hs ha n hk :=
  ⟨h.g0, bblock b h.rg, bblock b h.r0, h.yb.keep b, h.oh.keep b, h.zl, h.nl, h.bw.trans (b.mono h.bw.size)⟩
theorem kind_ne {w : World} {g k : Nat} {c d : Array Value} {t u : TypeId} (h : w.heap[g]? = some (.cells c t (0, 0))) (k' : w.heap[k]? = some (.cells d u (0, 0))) (ht : t ≠ u) : g ≠ k := fun e => by
  subst e; rw [h] at k'; cases k'; exact ht rfl
/-- Blocks of an object: its box, its bytes and its handles are apart. -/
theorem Obw.apart {w wz : World} {G bg z bk N : Nat} {kd : Int} {l : List Int} {hs : List Nat} {ha : Option Addr} {n hk : Nat} (h : Obw w wz G bg z bk N kd l hs ha n hk) : G ≠ bg ∧ w.heap.size ≠ bg ∧ (∀ k, ob ha = some k → k ≠ G ∧ k ≠ bg ∧ k ≠ w.heap.size) ∧ bg < wz.heap.size ∧ w.heap.size ≤ bg := by
  obtain ⟨hb, cur, hc⟩ := h.yb.kind bg rfl
  refine ⟨kind_ne h.rg hc (by decide), kind_ne h.r0 hc (by decide), fun k hk => ?_, hlt hc, hb⟩
  obtain ⟨c2, hc2⟩ := h.oh.kind k hk
  exact ⟨kind_ne hc2 h.rg (by decide), kind_ne hc2 hc (by decide), kind_ne hc2 h.r0 (by decide)⟩
/-- A handle more. -/
theorem Obw.more {w wz wy : World} {G bg z bk N : Nat} {kd : Int} {l : List Int} {hs : List Nat} {ha a7 : Option Addr} {n hk k7 M : Nat} (h : Obw w wz G bg z bk N kd l hs ha n hk) (u : Tu (fun k => ob ha = some k) wz wy) (o : Oh wy w.heap.size a7 (hs ++ [M]) k7) :
    Obw w (wy.setCell ⟨G, 3, none⟩ (.slice a7 (n + 1) k7)) G bg z bk N kd l (hs ++ [M]) a7 (n + 1) k7 := by
  obtain ⟨p1, p2, p3, p4, p5⟩ := h.apart
  have rg := u.block G _ h.rg (fun e => (p3 G e).1 rfl)
  have r0 := u.block _ _ h.r0 (fun e => (p3 _ e).2.2 rfl)
  have on := Only.set G 3 (.slice a7 (n + 1) k7) wy
  refine ⟨h.g0, heap_setCell_same wy G 3 _ _ _ rg, ?_, ?_, ?_, h.zl, by rw [List.length_append, h.nl]; rfl, ?_⟩
  · rw [on.block _ (Nat.ne_of_lt h.g0)]; exact r0
  · refine h.yb.same (fun g o' hg ho => ?_)
    cases hg
    rw [on.block _ p1.symm]
    exact u.block _ _ ho (fun e => (p3 _ e).2.1 rfl)
  · refine o.same (fun g o' hg ho => ?_)
    obtain ⟨cur, hc⟩ := o.kind g hg
    rw [on.block _ (kind_ne hc rg (by decide))]; exact ho
  · have b1 : Below w.heap.size w wy := h.bw.trans (u.below (fun i e => (h.oh.ge i e).1) h.bw.size)
    exact b1.trans (on.below (Nat.le_of_lt h.g0))
/-- A field blank. -/
theorem Obw.blank {w wz wy : World} {G bg z bk N : Nat} {kd : Int} {l l' : List Int} {hs : List Nat} {ha : Option Addr} {n hk : Nat} (h : Obw w wz G bg z bk N kd l hs ha n hk) (o : OwnsB wy w.heap.size (some ⟨bg, 0, none⟩) l' bk) (on : Only bg wz wy) (hl : l'.length = z) : Obw w wy G bg z bk N kd l' hs ha n hk := by
  obtain ⟨p1, p2, p3, p4, p5⟩ := h.apart
  refine ⟨h.g0, by rw [on.block _ p1]; exact h.rg, by rw [on.block _ p2]; exact h.r0, o, ?_, hl, h.nl, h.bw.trans (on.below p5)⟩
  exact h.oh.same (fun g o' hg ho => by rw [on.block _ (p3 g hg).2.1]; exact ho)
end Go.Proofs.YtebmegghojiegaaDoor
