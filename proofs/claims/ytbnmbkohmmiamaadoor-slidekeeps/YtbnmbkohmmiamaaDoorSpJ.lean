/- The data of a span: what the document's Same answers; the calls of a span that isn't there. -/
import Derived.Test.YtbnmbkohmmiamaaDoorSpI
import Derived.Test.YtbnmbkohmmiamaaDoorSpH
import Derived.Deep.CutBlock
import Derived.Deep.CutRange
namespace Go.Proofs.YtbnmbkohmmiamaaDoor
open Go.RowKit
set_option linter.unusedVariables false

/-- Data as cells. -/
def dcells (p c s : Int) (a : Option Addr) (n k : Nat) : Array Value := #[.int .i64 p, .int .i64 c, .int .i64 s, .slice a n k]
theorem dbox (w : World) (p c s : Int) (a : Option Addr) (n k : Nat) : ∃ w1, w.alloc (.cells #[.int .i64 p, .int .i64 c, .int .i64 s, .slice a n k] 46) = w1 ∧ w1.heap.size = w.heap.size + 1 ∧ w1.heap[w.heap.size]? = some (.cells (dcells p c s a n k) 46 (0, 0)) ∧ Below w.heap.size w w1 :=
  ⟨_, rfl, by simp, Go.heap_alloc_new w _, (Below.refl _ w).alloc (Nat.le_refl _) _⟩
theorem dcell0 {w : World} {g : Nat} {p c s : Int} {a : Option Addr} {n k : Nat} (h : w.heap[g]? = some (.cells (dcells p c s a n k) 46 (0, 0))) : w.cell? ⟨g, 0, none⟩ = some (.int .i64 p) := cell_of_row _ _ 0 _ _ _ h
theorem dcell1 {w : World} {g : Nat} {p c s : Int} {a : Option Addr} {n k : Nat} (h : w.heap[g]? = some (.cells (dcells p c s a n k) 46 (0, 0))) : w.cell? ⟨g, 1, none⟩ = some (.int .i64 c) := cell_of_row _ _ 1 _ _ _ h
theorem dcell2 {w : World} {g : Nat} {p c s : Int} {a : Option Addr} {n k : Nat} (h : w.heap[g]? = some (.cells (dcells p c s a n k) 46 (0, 0))) : w.cell? ⟨g, 2, none⟩ = some (.int .i64 s) := cell_of_row _ _ 2 _ _ _ h
theorem dcell3 {w : World} {g : Nat} {p c s : Int} {a : Option Addr} {n k : Nat} (h : w.heap[g]? = some (.cells (dcells p c s a n k) 46 (0, 0))) : w.cell? ⟨g, 3, none⟩ = some (.slice a n k) := cell_of_row _ _ 3 _ _ _ h
theorem dthawed {w : World} {g : Nat} {p c s : Int} {a : Option Addr} {n k : Nat} (h : w.heap[g]? = some (.cells (dcells p c s a n k) 46 (0, 0))) (j : Nat) : w.frozen? ⟨g, j, none⟩ = false := frozen_of_row _ _ j _ _ h
theorem bblock {w w' : World} {g : Nat} {o : Obj} (hb : Below w.heap.size w w') (h : w.heap[g]? = some o) : w'.heap[g]? = some o := by rw [hb.block g (Array.getElem?_eq_some_iff.1 h).1]; exact h

/-- Data are stored into their variable. -/
def lay4 (w : World) (g : Nat) (p c s : Int) (v : Value) : World := (((w.setCell ⟨g, 0, none⟩ (.int .i64 p)).setCell ⟨g, 1, none⟩ (.int .i64 c)).setCell ⟨g, 2, none⟩ (.int .i64 s)).setCell ⟨g, 3, none⟩ v
theorem lay4_cells {w : World} {g : Nat} {p c s p0 c0 s0 : Int} {v : Value} {a : Option Addr} {n k : Nat} (h : w.heap[g]? = some (.cells (dcells p0 c0 s0 a n k) 46 (0, 0))) :
    (lay4 w g p c s v).cell? ⟨g, 0, none⟩ = some (.int .i64 p) ∧ (lay4 w g p c s v).cell? ⟨g, 1, none⟩ = some (.int .i64 c) ∧ (lay4 w g p c s v).cell? ⟨g, 2, none⟩ = some (.int .i64 s) ∧ (lay4 w g p c s v).cell? ⟨g, 3, none⟩ = some v := by
  unfold lay4
  refine ⟨?_, ?_, ?_, ?_⟩
  · rw [cell_else (by decide), cell_else (by decide), cell_else (by decide), cell_set (dcell0 h)]
  · rw [cell_else (by decide), cell_else (by decide), cell_set (u := .int .i64 c0)]
    rw [cell_else (by decide)]; exact dcell1 h
  · rw [cell_else (by decide), cell_set (u := .int .i64 s0)]
    rw [cell_else (by decide), cell_else (by decide)]; exact dcell2 h
  · rw [cell_set (u := .slice a n k)]
    rw [cell_else (by decide), cell_else (by decide), cell_else (by decide)]; exact dcell3 h
theorem lay4_below {w w' : World} {g B : Nat} {p c s : Int} {v : Value} (h : Below B w w') (hB : B ≤ g) : Below B w (lay4 w' g p c s v) := (((h.setCell hB _).setCell hB _).setCell hB _).setCell hB _
theorem lay4_ownsI {w : World} {g base cap : Nat} {p c s : Int} {v : Value} {a : Option Addr} {l : List Int} (h : OwnsI w base a l cap) (hg : g < base) : OwnsI (lay4 w g p c s v) base a l cap :=
  ownsRow_setCell_below (ownsRow_setCell_below (ownsRow_setCell_below (ownsRow_setCell_below h (a := ⟨g, 0, none⟩) hg _) (a := ⟨g, 1, none⟩) hg _) (a := ⟨g, 2, none⟩) hg _) (a := ⟨g, 3, none⟩) hg _

set_option maxHeartbeats 1000000 in
/-- Same of the same data. -/
theorem same_true (p c s : Int) (a a' : Option Addr) (n n' k k' : Nat) (l : List Int) (w : World) (h : IsI w a l) (h' : IsI w a' l) (hn : n = l.length) (hn' : n' = l.length) (hm : l.length ≤ maxLen) :
    Calls Tryd.prog 31 #[.agg #[.int .i64 p, .int .i64 c, .int .i64 s, .slice a n k], .agg #[.int .i64 p, .int .i64 c, .int .i64 s, .slice a' n' k']] w fun e w' => e = .returned (.bool true) ∧ Below w.heap.size w w' := by
  subst hn hn'
  obtain ⟨D, hD, zD, rD, bD⟩ := dbox w p c s a l.length k
  have HD : Hid (w.alloc (.cells #[.int .i64 p, .int .i64 c, .int .i64 s, .slice a l.length k] 46) = D) := hD
  obtain ⟨E, hE, zE, rE, bE⟩ := dbox D p c s a' l.length k'
  have HE : Hid (D.alloc (.cells #[.int .i64 p, .int .i64 c, .int .i64 s, .slice a' l.length k'] 46) = E) := hE
  have rD' := bblock bE rD
  have HB : Hid (Below w.heap.size w E) := bD.trans (bE.mono (by omega))
  have I1 : Hid (IsI E a l) := h.keep HB.out
  have I2 : Hid (IsI E a' l) := h'.keep HB.out
  have c0 := dcell0 rD'
  have c1 := dcell1 rD'
  have c2 := dcell2 rD'
  have c3 := dcell3 rD'
  have d0 := dcell0 rE
  have d1 := dcell1 rE
  have d2 := dcell2 rE
  have d3 := dcell3 rE
  have ET : Hid (decide (l = l) = true) := decide_eq_true rfl
  have HZ : Hid (D.heap.size = w.heap.size + 1) := zD
  rw [zD] at d0 d1 d2 d3
  clear h h' hD hE zE rE rD rD' bD bE zD
  go_enter Tryd.func31, Tryd.ntmps31
  go_wp2_with (first
    | (rw [HD.out, HE.out]; fail)
    | (go_at_call 53; first | rw [HD.out, HE.out] | skip; refine (ints_any a a' _ _ k k' l l _ I1.out I2.out rfl rfl hm hm).mono ?_; rw [ET.out]; rintro e w1 ⟨rfl, b1⟩; have B1 : Hid (Below w.heap.size w w1) := HB.out.trans (b1.mono HB.out.size); clear b1))
  go_ret
  exact ⟨rfl, B1.out⟩

theorem ex_none : pagesN 0 = 0 := by decide
end Go.Proofs.YtbnmbkohmmiamaaDoor
