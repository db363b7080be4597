/- Kinds: memory and contracts, the code's and the document's -/
import Derived.Test.YtbfamjnnlcopiaaDoorAuA
import Derived.Maps.AppendAt
namespace Go.Proofs.YtbfamjnnlcopiaaDoor
open Go.RowKit
set_option linter.unusedVariables false
set_option maxRecDepth 4000

theorem drop_getD (l : List Int) (k : Nat) (h : k < l.length) : l.drop k = l.getD k 0 :: l.drop (k + 1) := by
  rw [List.drop_eq_getElem_cons h]; simp [List.getD, h]
/-- The pointer fields stand where they may, the first place for one being f. -/
def placedB (s : Int) : Int → List Int → Bool
  | _, [] => true
  | f, p :: l => decide (f ≤ p ∧ p ≤ s - 8 ∧ p % 8 = 0) && placedB s (p + 8) l
theorem placed_step (s f : Int) (l : List Int) (k : Nat) (h : k < l.length) : placedB s f (l.drop k) = (decide (f ≤ l.getD k 0 ∧ l.getD k 0 ≤ s - 8 ∧ l.getD k 0 % 8 = 0) && placedB s (l.getD k 0 + 8) (l.drop (k + 1))) := by
  rw [drop_getD l k h, placedB]
theorem placed_end (s f : Int) (l : List Int) (k : Nat) (h : l.length ≤ k) : placedB s f (l.drop k) = true := by
  rw [List.drop_eq_nil_of_le h, placedB]
/-- What is wrong with a kind. -/
def checkK (s : Int) (ps : List Int) : Int := if s < 1 ∨ 4096 < s then 2 else if 16 < ps.length then 6 else if placedB s 0 ps = true then 0 else 11
theorem check_two {s : Int} {ps : List Int} (h : s < 1 ∨ 4096 < s) : checkK s ps = 2 := if_pos h
theorem check_six {s : Int} {ps : List Int} (h : ¬ (s < 1 ∨ 4096 < s)) (h' : 16 < ps.length) : checkK s ps = 6 := by unfold checkK; rw [if_neg h, if_pos h']
theorem check_ok {s : Int} {ps : List Int} (h : ¬ (s < 1 ∨ 4096 < s)) (h' : ¬ 16 < ps.length) (p : placedB s 0 ps = true) : checkK s ps = 0 := by unfold checkK; rw [if_neg h, if_neg h', if_pos p]
theorem check_el {s : Int} {ps : List Int} (h : ¬ (s < 1 ∨ 4096 < s)) (h' : ¬ 16 < ps.length) (p : placedB s 0 ps = false) : checkK s ps = 11 := by unfold checkK; rw [if_neg h, if_neg h', if_neg (by rw [p]; decide)]
/-- The first place behind the field ahead. -/
def fromK (ps : List Int) (k : Nat) : Int := if k = 0 then 0 else ps.getD (k - 1) 0 + 8
theorem bcellK {w w' : World} {p : Addr} {v : Value} (hb : Below w.heap.size w w') (h : w.cell? p = some v) : w'.cell? p = some v := (hb.cell (World.block_lt_of_cell? w p h)).trans h
/-- An append whose run is known, in a region that draws. -/
theorem step_app {ops : Array Oper} {o : Oper} {a : Act} {K : Act → World → Prop} {Q : Exit → Act → World → Prop} {E : Prop} {w : World} (hgd : o.guard = none) (s x : Operand) (t : TypeId)
    (ho : o.op = .call { callee := .builtin .append, args := #[s, x], argTypes := #[t, t] }) (v1 v2 : Value) (hs : a.eval s = v1) (hx : a.eval x = v2) (v' : Value) (w' : World)
    (hr : (Builtin.append_ #[t, t] o.type #[v1, v2]).run Tryd.prog w = .ok v' w') (h : K (a.put o.dst v') w') :
    if Region.wanted o (yielded ops a.tmps) = true then Oper.wp Tryd.prog o a w K Q else E := by
  have hw : Region.wanted o (yielded ops a.tmps) = true := by simp [Region.wanted, hgd]
  rw [if_pos hw]
  unfold Oper.wp execOp
  simp only [ho, resolve, invoke, builtin, Sem.run_bind, Sem.run_pure, Result.andThen_ok, List.map_toArray, List.map_cons, List.map_nil, hs, hx, hr]
  exact h
/-- A kind is stored into its variable. -/
def laid (w : World) (g : Nat) (k : Int) (v : Value) : World := (w.setCell ⟨g, 0, none⟩ (.int .i64 k)).setCell ⟨g, 1, none⟩ v
theorem laid0 {w : World} {g : Nat} {k : Int} {v u : Value} (h : w.cell? ⟨g, 0, none⟩ = some u) : (laid w g k v).cell? ⟨g, 0, none⟩ = some (.int .i64 k) := by
  rw [laid, cell_else (by decide), cell_set h]
theorem laid1 {w : World} {g : Nat} {k : Int} {v u : Value} (h : w.cell? ⟨g, 1, none⟩ = some u) : (laid w g k v).cell? ⟨g, 1, none⟩ = some v := by
  rw [laid, cell_set (u := u)]
  rw [cell_else (by decide)]; exact h
theorem laid_below {w w' : World} {g B : Nat} {k : Int} {v : Value} (h : Below B w w') (hB : B ≤ g) : Below B w (laid w' g k v) := (h.setCell hB _).setCell hB _
theorem laid_ownsI {w : World} {g base cap : Nat} {k : Int} {v : Value} {a : Option Addr} {l : List Int} (h : OwnsI w base a l cap) (hg : g < base) : OwnsI (laid w g k v) base a l cap :=
  ownsRow_setCell_below (ownsRow_setCell_below h (a := ⟨g, 0, none⟩) hg _) (a := ⟨g, 1, none⟩) hg _
theorem bfrozenK {w w' : World} {p : Addr} {v : Value} (hb : Below w.heap.size w w') (h : w.cell? p = some v) (z : w.frozen? p = false) : w'.frozen? p = false := (hb.frozen (World.block_lt_of_cell? w p h)).trans z
/-- The same kind. -/
def sameK (s s' : Int) (l l' : List Int) : Bool := decide (s = s' ∧ l = l')
theorem from_zero (ps : List Int) : fromK ps 0 = 0 := rfl
theorem from_succ (ps : List Int) (j : Nat) : fromK ps (j + 1) = ps.getD j 0 + 8 := by unfold fromK; simp
/-- A kind in memory. -/
structure Kd where
  s : Int
  a : Option Addr
  c : Nat
  l : List Int
/-- The cells of kinds. -/
def cellsK : List Kd → List Value
  | [] => []
  | k :: r => .int .i64 k.s :: .slice k.a k.l.length k.c :: cellsK r
theorem cellsK_append : ∀ (a b : List Kd), cellsK (a ++ b) = cellsK a ++ cellsK b
  | [], _ => rfl
  | k :: a, b => by simp [cellsK, cellsK_append a b]
theorem cellsK_at : ∀ (ks : List Kd) (i : Nat) (h : i < ks.length), (cellsK ks)[i * 2]? = some (.int .i64 ks[i].s) ∧ (cellsK ks)[i * 2 + 1]? = some (.slice ks[i].a ks[i].l.length ks[i].c)
  | k :: r, 0, _ => by simp [cellsK]
  | k :: r, i + 1, h => by
    have := cellsK_at r i (by simpa using h)
    rw [show (i + 1) * 2 = i * 2 + 2 from by omega, show i * 2 + 2 + 1 = i * 2 + 1 + 2 from by omega]
    simpa [cellsK] using this
/-- A slice of kinds. -/
structure IsK (w : World) (a : Option Addr) (ks : List Kd) : Prop where
  at' : ks = [] ∨ ∃ b off, a = some ⟨b, off, none⟩ ∧ b < w.heap.size ∧ ∀ i (h : i < ks.length), w.cell? ⟨b, off + i * 2, none⟩ = some (.int .i64 ks[i].s) ∧ w.cell? ⟨b, off + i * 2 + 1, none⟩ = some (.slice ks[i].a ks[i].l.length ks[i].c)
  body : ∀ k ∈ ks, IsI w k.a k.l ∧ (k.a = none → k.l = [] ∧ k.c = 0) ∧ k.l.length ≤ maxLen
theorem IsK.keep {w w' : World} {a : Option Addr} {ks : List Kd} (h : IsK w a ks) (hb : Below w.heap.size w w') : IsK w' a ks where
  at' := by
    rcases h.at' with h0 | ⟨b, off, e, hs, hc⟩
    · exact .inl h0
    · refine .inr ⟨b, off, e, by have := hb.size; omega, fun i hi => ?_⟩
      rw [hb.cell (p := ⟨b, off + i * 2, none⟩) hs, hb.cell (p := ⟨b, off + i * 2 + 1, none⟩) hs]
      exact hc i hi
  body := fun k hk => ⟨(h.body k hk).1.keep hb, (h.body k hk).2⟩
/-- A kind is stored into a row. -/
def stored (w : World) (g i : Nat) (k : Kd) : World := (w.setCell ⟨g, i * 2, none⟩ (.int .i64 k.s)).setCell ⟨g, i * 2 + 1, none⟩ (.slice k.a k.l.length k.c)
end Go.Proofs.YtbfamjnnlcopiaaDoor
