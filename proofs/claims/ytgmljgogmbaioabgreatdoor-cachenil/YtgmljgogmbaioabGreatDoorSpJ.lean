/- The data of a span: what the document's Same answers; the calls of a span that isn't there. -/
import Derived.Test.YtgmljgogmbaioabGreatDoorSpI
import Derived.Test.YtgmljgogmbaioabGreatDoorSpH
import Derived.Deep.CutBlock
import Derived.Deep.CutRange
namespace Go.Proofs.YtgmljgogmbaioabGreatDoor
open Go.RowKit
set_option linter.unusedVariables false
set_option maxRecDepth 4000

/-- Data as cells. -/
def dcells (p c s : Int) (a : Option Addr) (n k : Nat) : Array Value := #[.int .i64 p, .int .i64 c, .int .i64 s, .slice a n k]
theorem dbox (w : World) (p c s : Int) (a : Option Addr) (n k : Nat) : ∃ w1, w.alloc (.cells #[.int .i64 p, .int .i64 c, .int .i64 s, .slice a n k] 61) = w1 ∧ w1.heap.size = w.heap.size + 1 ∧ w1.heap[w.heap.size]? = some (.cells (dcells p c s a n k) 61 (0, 0)) ∧ Below w.heap.size w w1 :=
  ⟨_, rfl, by simp, Go.heap_alloc_new w _, (Below.refl _ w).alloc (Nat.le_refl _) _⟩
theorem dcell0 {w : World} {g : Nat} {p c s : Int} {a : Option Addr} {n k : Nat} (h : w.heap[g]? = some (.cells (dcells p c s a n k) 61 (0, 0))) : w.cell? ⟨g, 0, none⟩ = some (.int .i64 p) := cell_of_row _ _ 0 _ _ _ h
theorem dcell1 {w : World} {g : Nat} {p c s : Int} {a : Option Addr} {n k : Nat} (h : w.heap[g]? = some (.cells (dcells p c s a n k) 61 (0, 0))) : w.cell? ⟨g, 1, none⟩ = some (.int .i64 c) := cell_of_row _ _ 1 _ _ _ h
theorem dcell2 {w : World} {g : Nat} {p c s : Int} {a : Option Addr} {n k : Nat} (h : w.heap[g]? = some (.cells (dcells p c s a n k) 61 (0, 0))) : w.cell? ⟨g, 2, none⟩ = some (.int .i64 s) := cell_of_row _ _ 2 _ _ _ h
theorem dcell3 {w : World} {g : Nat} {p c s : Int} {a : Option Addr} {n k : Nat} (h : w.heap[g]? = some (.cells (dcells p c s a n k) 61 (0, 0))) : w.cell? ⟨g, 3, none⟩ = some (.slice a n k) := cell_of_row _ _ 3 _ _ _ h
theorem dthawed {w : World} {g : Nat} {p c s : Int} {a : Option Addr} {n k : Nat} (h : w.heap[g]? = some (.cells (dcells p c s a n k) 61 (0, 0))) (j : Nat) : w.frozen? ⟨g, j, none⟩ = false := frozen_of_row _ _ j _ _ h
theorem bblock {w w' : World} {g : Nat} {o : Obj} (hb : Below w.heap.size w w') (h : w.heap[g]? = some o) : w'.heap[g]? = some o := by rw [hb.block g (Array.getElem?_eq_some_iff.1 h).1]; exact h

/-- Data are stored into their variable. -/
def lay4 (w : World) (g : Nat) (p c s : Int) (v : Value) : World := (((w.setCell ⟨g, 0, none⟩ (.int .i64 p)).setCell ⟨g, 1, none⟩ (.int .i64 c)).setCell ⟨g, 2, none⟩ (.int .i64 s)).setCell ⟨g, 3, none⟩ v
theorem lay4_cells {w : World} {g : Nat} {p c s p0 c0 s0 : Int} {v : Value} {a : Option Addr} {n k : Nat} (h : w.heap[g]? = some (.cells (dcells p0 c0 s0 a n k) 61 (0, 0))) :
    (lay4 w g p c s v).cell? ⟨g, 0, none⟩ = some (.int .i64 p) ∧ (lay4 w g p c s v).cell? ⟨g, 1, none⟩ = some (.int .i64 c) ∧ (lay4 w g p c s v).cell? ⟨g, 2, none⟩ = some (.int .i64 s) ∧ (lay4 w g p c s v).cell? ⟨g, 3, none⟩ = some v := by
  unfold lay4
  refine ⟨?_, ?_, ?_, ?_⟩
  · rw [cell_else (by decide), cell_else (by decide), cell_else (by decide), cell_set (dcell0 h)]
  · rw [cell_else (by decide), cell_else (by decide), cell_set (u := .int .i64 c0)]
    rw [cell_else (by decide)]; exact dcell1 h
  · rw [cell_else (by decide), cell_set (u := .int .i64 s0)]
    rw [cell_else (by decide), cell_else (by decide)]; exact dcell2 h
  · rw [cell_set (u := .slice a n k)]
    rw [cell_else (by decide), cell_else (by decide), cell_else (by decide)]; exact dcell3 h
theorem lay4_below {w w' : World} {g B : Nat} {p c s : Int} {v : Value} (h : Below B w w') (hB : B ≤ g) : Below B w (lay4 w' g p c s v) := (((h.setCell hB _).setCell hB _).setCell hB _).setCell hB _
theorem lay4_ownsI {w : World} {g base cap : Nat} {p c s : Int} {v : Value} {a : Option Addr} {l : List Int} (h : OwnsI w base a l cap) (hg : g < base) : OwnsI (lay4 w g p c s v) base a l cap :=
  ownsRow_setCell_below (ownsRow_setCell_below (ownsRow_setCell_below (ownsRow_setCell_below h (a := ⟨g, 0, none⟩) hg _) (a := ⟨g, 1, none⟩) hg _) (a := ⟨g, 2, none⟩) hg _) (a := ⟨g, 3, none⟩) hg _

theorem page_nil (w : World) : Calls Tryz.prog 44 #[.pointer none] w fun e w' => e = .returned (.int .i64 0) ∧ w = w' := by
  go_enter Tryz.func44, Tryz.ntmps44
  go_wp2
  go_ret
  exact ⟨rfl, rfl⟩
theorem class_nil (w : World) : Calls Tryz.prog 19 #[.pointer none] w fun e w' => e = .returned (.int .i64 0) ∧ w = w' := by
  go_enter Tryz.func19, Tryz.ntmps19
  go_wp2
  go_ret
  exact ⟨rfl, rfl⟩
theorem size_nil (w : World) : Calls Tryz.prog 56 #[.pointer none] w fun e w' => e = .returned (.int .i64 0) ∧ w = w' := by
  go_enter Tryz.func56, Tryz.ntmps56
  go_wp2
  go_ret
  exact ⟨rfl, rfl⟩
theorem slots_nil (w : World) : Calls Tryz.prog 77 #[.pointer none] w fun e w' => e = .returned (.int .i64 0) ∧ w = w' := by
  go_enter Tryz.func77, Tryz.ntmps77
  go_wp2
  go_ret
  exact ⟨rfl, rfl⟩
theorem live_nil (w : World) : Calls Tryz.prog 27 #[.pointer none] w fun e w' => e = .returned (.int .i64 0) ∧ w = w' := by
  go_enter Tryz.func27, Tryz.ntmps27
  go_wp2
  go_ret
  exact ⟨rfl, rfl⟩
theorem take_nil (w : World) : Calls Tryz.prog 60 #[.pointer none] w fun e w' => e = .returned (.tuple #[.int .i64 0, .bool false]) ∧ w = w' := by
  go_enter Tryz.func60, Tryz.ntmps60
  go_wp2
  go_ret2
  exact ⟨rfl, rfl⟩
theorem has_nil (i : Int) (w : World) : Calls Tryz.prog 32 #[.pointer none, .int .i64 i] w fun e w' => e = .returned (.bool false) ∧ w = w' := by
  go_enter Tryz.func32, Tryz.ntmps32
  go_wp2
  go_ret
  exact ⟨rfl, rfl⟩
theorem give_nil (i : Int) (w : World) : Calls Tryz.prog 48 #[.pointer none, .int .i64 i] w fun e w' => e = .returned (.bool false) ∧ w = w' := by
  go_enter Tryz.func48, Tryz.ntmps48
  go_wp2
  go_ret
  exact ⟨rfl, rfl⟩
theorem slot_nil (i : Int) (w : World) : Calls Tryz.prog 31 #[.pointer none, .int .i64 i] w fun e w' => e = .returned (.tuple #[.int .i64 0, .bool false]) ∧ w = w' := by
  go_enter Tryz.func31, Tryz.ntmps31
  go_wp2
  go_ret2
  exact ⟨rfl, rfl⟩
theorem at_nil (i : Int) (w : World) : Calls Tryz.prog 54 #[.pointer none, .int .i64 i] w fun e w' => e = .returned (.tuple #[.int .i64 0, .bool false]) ∧ w = w' := by
  rcases Int.lt_or_le i 0 with h | h
  · go_enter Tryz.func54, Tryz.ntmps54
    go_wp2
    go_ret2
    exact ⟨rfl, rfl⟩
  · go_enter Tryz.func54, Tryz.ntmps54
    go_wp2_with (go_at_call 77; refine (slots_nil _).mono ?_; rintro e w' ⟨rfl, rfl⟩)
    go_ret2
    exact ⟨rfl, rfl⟩
theorem ex_none : pagesN 0 = 0 := by decide
theorem pages_nil (w : World) (hT : TabC w) : Calls Tryz.prog 45 #[.pointer none] w fun e w' => e = .returned (.int .i64 0) ∧ w = w' := by
  have HT : Hid (TabC w) := hT
  clear hT
  go_enter Tryz.func45, Tryz.ntmps45
  go_wp2_with (first
    | (go_at_call 56; refine (size_nil _).mono ?_; rintro e w' ⟨rfl, rfl⟩)
    | (go_at_call 37; refine (cpages_any 0 _ HT.out).mono ?_; rw [ex_none]; rintro e w' ⟨rfl, rfl⟩))
  go_ret
  exact ⟨rfl, rfl⟩
theorem data_nil (w : World) : Calls Tryz.prog 51 #[.pointer none] w fun e w' => e = .returned (.agg #[.int .i64 0, .int .i64 0, .int .i64 0, .slice none 0 0]) ∧ Below w.heap.size w w' := by
  obtain ⟨D, hD, zD, rD, bD⟩ := dbox w 0 0 0 none 0 0
  have HD : Hid (w.alloc (.cells #[.int .i64 0, .int .i64 0, .int .i64 0, .slice none 0 0] 61) = D) := hD
  have B3 : Hid (Below w.heap.size w (lay4 D w.heap.size 0 0 0 (.slice none 0 0))) := lay4_below bD (Nat.le_refl _)
  obtain ⟨e0, e1, e2, e3⟩ := lay4_cells (p := 0) (c := 0) (s := 0) (v := .slice none 0 0) rD
  have y0 := dcell0 rD
  have y1 := dcell1 rD
  have y2 := dcell2 rD
  have y3 := dcell3 rD
  have z0 := dthawed rD 0
  have z1 := dthawed rD 1
  have z2 := dthawed rD 2
  have z3 := dthawed rD 3
  unfold lay4 at e0 e1 e2 e3
  clear hD zD rD bD
  go_enter Tryz.func51, Tryz.ntmps51
  go_upto_region 2 with (fail)
  rw [HD.out]
  go_wp2
  refine bodyPost_ret (v := .agg #[.int .i64 0, .int .i64 0, .int .i64 0, .slice none 0 0]) (by simp [results, Tryz.results51, go_sem, e0, e1, e2, e3]) rfl ⟨rfl, B3.out⟩
end Go.Proofs.YtgmljgogmbaioabGreatDoor
