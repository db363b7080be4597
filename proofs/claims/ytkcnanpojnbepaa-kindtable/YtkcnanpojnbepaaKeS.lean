/- What KindTable keeps from round to round: a table, and the kinds that are wanted. -/
import Derived.Test.YtkcnanpojnbepaaKfC
import Derived.Test.YtkcnanpojnbepaaKfD
namespace Go.Proofs.Ytkcnanpojnbepaa
open Go.RowKit
set_option linter.unusedVariables false

/-- A kind is appended to a row of one's own. -/
theorem wpList_appK {ops : Array Oper} {rest : List Oper} {o : Oper} {a : Act} {Q : Exit → Act → World → Prop} {w : World} (hgd : o.guard = none) (hty : o.type = 50) (s x : Operand)
    (ho : o.op = .call { callee := .builtin .append, args := #[s, x], argTypes := #[50, 50] }) (base : Nat) (hbase : base ≤ w.heap.size) (ar : Option Addr) (ks : List Kd) (cr n q c : Nat) (k : Kd) (hn : n = ks.length)
    (hs : a.eval s = .slice ar n cr) (hx : a.eval x = .slice (some ⟨q, 0, none⟩) 1 c) (hr : RowK w base ar ks cr) (h0 : w.cell? ⟨q, 0, none⟩ = some (.int .i64 k.s)) (h1 : w.cell? ⟨q, 1, none⟩ = some (.slice k.a k.l.length k.c)) (hlen : ks.length ≤ 1000000)
    (h : ∀ a' cap' w', RowK w' base a' (ks ++ [k]) cap' → w.grownBy w' (ob ar) → (ob a' = ob ar ∨ ob a' = some w.heap.size) → wpList Try.prog ops Q rest (a.put o.dst (.slice a' (n + 1) cap')) w') : wpList Try.prog ops Q (o :: rest) a w := by
  subst hn
  obtain ⟨a', cap', w', hrun, r1, r2, r3⟩ := appK w base hbase ar ks cr hr q c k h0 h1 hlen
  refine wpList_plain hgd fun K' hK' => ?_
  unfold Oper.wp
  simp [execOp, ho, hty, resolve, invoke, builtin, hs, hx, hrun, Result.andThen]
  exact hK' _ _ (h a' cap' w' r1 r2 r3)

/-- Both alike: the table's kinds, and those that are wanted, which came in. -/
structure Kt (w wr : World) (ls : List Kd) (t : Nat) (ar : Option Addr) (cr : Nat) (ks : List Kd) (aw : Option Addr) (cw : Nat) (ws : List Kd) : Prop where
  tb : Tb wr w.heap.size w.heap.size t ar cr ks
  want : RowK wr w.heap.size aw ws cw
  apart : ob ar = none ∨ ob ar ≠ ob aw
  len : ws.length = ks.length
  same : ∀ j (h : j < ws.length) (h' : j < ks.length), ws[j].s = ks[j].s ∧ ws[j].l = ks[j].l
  from' : ∀ k ∈ ws, k ∈ ls
  below : Below w.heap.size w wr
theorem Kt.keep {w wr w' : World} {ls ks ws : List Kd} {t cr cw : Nat} {ar aw : Option Addr} (h : Kt w wr ls t ar cr ks aw cw ws) (hb : Below wr.heap.size wr w') : Kt w w' ls t ar cr ks aw cw ws :=
  ⟨h.tb.keep hb, h.want.keep hb, h.apart, h.len, h.same, h.from', h.below.trans (hb.mono h.below.size)⟩
theorem ap_symm {x y : Option Nat} (h : x = none ∨ x ≠ y) : y = none ∨ y ≠ x := by
  rcases x with _ | x
  · rcases y with _ | y
    · exact .inl rfl
    · exact .inr (by simp)
  · rcases h with h | h
    · cases h
    · exact .inr (fun e => h e.symm)
/-- The table has a kind more, not yet the others. -/
theorem Kt.mid {w wr w1 : World} {ls ks ws : List Kd} {t cr cr' cw : Nat} {ar ar' aw : Option Addr} {k' : Kd} (h : Kt w wr ls t ar cr ks aw cw ws) (t1 : Tb w1 w.heap.size w.heap.size t ar' cr' (ks ++ [k'])) (g1 : T2 t (ob ar) wr w1) (f1 : ob ar' = ob ar ∨ ∃ g, ob ar' = some g ∧ wr.heap.size ≤ g) :
    RowK w1 w.heap.size aw ws cw ∧ (ob ar' = none ∨ ob ar' ≠ ob aw) ∧ Below w.heap.size w w1 := by
  refine ⟨RowK.t2 h.tb h.want (ap_symm h.apart) g1, ?_, h.below.trans (g1.below h.tb.ge (fun g hg => (h.tb.row.ge g hg).1) h.below.size)⟩
  rcases f1 with f1 | ⟨g, f1, hg⟩
  · rw [f1]; exact h.apart
  · right
    rw [f1]
    intro e
    have := (h.want.ge g e.symm).2
    omega
/-- Both have a kind more. -/
theorem Kt.push {w w3 w4 : World} {ls ks ws : List Kd} {t cr' cw cw' : Nat} {ar' aw aw' : Option Addr} {k k' : Kd} (t3 : Tb w3 w.heap.size w.heap.size t ar' cr' (ks ++ [k'])) (r3 : RowK w3 w.heap.size aw ws cw) (ap : ob ar' = none ∨ ob ar' ≠ ob aw) (b3 : Below w.heap.size w w3)
    (hl : ws.length = ks.length) (hs : ∀ j (h : j < ws.length) (h' : j < ks.length), ws[j].s = ks[j].s ∧ ws[j].l = ks[j].l) (hf : ∀ k ∈ ws, k ∈ ls) (r4 : RowK w4 w.heap.size aw' (ws ++ [k]) cw') (g4 : w3.grownBy w4 (ob aw)) (f4 : ob aw' = ob aw ∨ ob aw' = some w3.heap.size) (es : k.s = k'.s) (el : k.l = k'.l) (hk : k ∈ ls) :
    Kt w w4 ls t ar' cr' (ks ++ [k']) aw' cw' (ws ++ [k]) := by
  refine ⟨t3.grown r3 ap g4, r4, ?_, by simp [hl], fun j h h' => ?_, fun q hq => ?_, b3.grown g4 b3.size (fun g hg => (r3.ge g hg).1)⟩
  · rcases f4 with f4 | f4
    · rw [f4]; exact ap
    · right
      rw [f4]
      intro e
      have := (t3.row.ge _ e).2
      omega
  · by_cases hj : j < ws.length
    · rw [List.getElem_append_left hj, List.getElem_append_left (by omega)]
      exact hs j hj (by omega)
    · simp only [List.length_append, List.length_cons, List.length_nil] at h
      have e1 : j = ws.length := by omega
      rw [List.getElem_append_right (by omega), List.getElem_append_right (by omega)]
      have z1 : j - ws.length = 0 := by omega
      have z2 : j - ks.length = 0 := by omega
      simp only [z1, z2, List.getElem_cons_zero]
      exact ⟨es, el⟩
  · rcases List.mem_append.1 hq with hq | hq
    · exact hf q hq
    · simp at hq; subst hq; exact hk
end Go.Proofs.Ytkcnanpojnbepaa
