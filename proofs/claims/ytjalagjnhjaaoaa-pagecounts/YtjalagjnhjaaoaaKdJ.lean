/- A kind that has its list for itself: what alike and the document's Copy answer. -/
import Derived.Test.YtjalagjnhjaaoaaKdI
namespace Go.Proofs.Ytjalagjnhjaaoaa
open Go.RowKit
set_option linter.unusedVariables false
set_option maxRecDepth 4000

theorem cell_set {w : World} {g j : Nat} {u v : Value} (h : w.cell? ⟨g, j, none⟩ = some u) : (w.setCell ⟨g, j, none⟩ v).cell? ⟨g, j, none⟩ = some v := by
  simp only [World.cell?, World.setCell, Array.getElem?_modify] at h ⊢
  split at h
  · rename_i c t fr hh
    simp at h
    have hj : j < c.size := by
      have := h
      exact (Array.getElem?_eq_some_iff.1 this).1
    simp [hh, hj]
  · cases h

theorem cell_else {w : World} {g j k : Nat} {v : Value} (h : k ≠ j) : (w.setCell ⟨g, j, none⟩ v).cell? ⟨g, k, none⟩ = w.cell? ⟨g, k, none⟩ := by
  simp only [World.cell?, World.setCell, Array.getElem?_modify]
  rcases hh : w.heap[g]? with _ | o
  · simp
  · rcases o with ⟨c, t, fr⟩ | _ <;> simp [Ne.symm h]

theorem frozen_set {w : World} {g j k : Nat} {v : Value} : (w.setCell ⟨g, j, none⟩ v).frozen? ⟨g, k, none⟩ = w.frozen? ⟨g, k, none⟩ := by
  simp only [World.frozen?, World.setCell, Array.getElem?_modify]
  rcases hh : w.heap[g]? with _ | o
  · simp
  · rcases o with ⟨c, t, fr⟩ | _ <;> simp

/-- A kind is stored into its variable. -/
def laid (w : World) (g : Nat) (k : Int) (v : Value) : World := (w.setCell ⟨g, 0, none⟩ (.int .i64 k)).setCell ⟨g, 1, none⟩ v

theorem laid0 {w : World} {g : Nat} {k : Int} {v u : Value} (h : w.cell? ⟨g, 0, none⟩ = some u) : (laid w g k v).cell? ⟨g, 0, none⟩ = some (.int .i64 k) := by
  rw [laid, cell_else (by decide), cell_set h]
theorem laid1 {w : World} {g : Nat} {k : Int} {v u : Value} (h : w.cell? ⟨g, 1, none⟩ = some u) : (laid w g k v).cell? ⟨g, 1, none⟩ = some v := by
  rw [laid, cell_set (u := u)]
  rw [cell_else (by decide)]; exact h
theorem laid_below {w w' : World} {g B : Nat} {k : Int} {v : Value} (h : Below B w w') (hB : B ≤ g) : Below B w (laid w' g k v) := (h.setCell hB _).setCell hB _
theorem laid_ownsI {w : World} {g base cap : Nat} {k : Int} {v : Value} {a : Option Addr} {l : List Int} (h : OwnsI w base a l cap) (hg : g < base) : OwnsI (laid w g k v) base a l cap :=
  ownsRow_setCell_below (ownsRow_setCell_below h (a := ⟨g, 0, none⟩) hg _) (a := ⟨g, 1, none⟩) hg _

/-- A kind's box and the box of what is answered. -/
def two (w : World) (s : Int) (a : Option Addr) (n c : Nat) : World := (w.alloc (.cells #[.int .i64 s, .slice a n c] 54)).alloc (.cells #[.int .i64 0, .slice none 0 0] 54)
theorem two_below (w : World) (s : Int) (a : Option Addr) (n c : Nat) : Below w.heap.size w (two w s a n c) := (box_below w s a n c).alloc (by simp) _
theorem two_size (w : World) (s : Int) (a : Option Addr) (n c : Nat) : (two w s a n c).heap.size = w.heap.size + 2 := by simp [two]
theorem two_cells (w : World) (s : Int) (a : Option Addr) (n c : Nat) : (two w s a n c).cell? ⟨w.heap.size, 0, none⟩ = some (.int .i64 s) ∧ (two w s a n c).cell? ⟨w.heap.size, 1, none⟩ = some (.slice a n c) ∧ (two w s a n c).cell? ⟨w.heap.size + 1, 0, none⟩ = some (.int .i64 0) ∧ (two w s a n c).cell? ⟨w.heap.size + 1, 1, none⟩ = some (.slice none 0 0) ∧
    (two w s a n c).frozen? ⟨w.heap.size + 1, 0, none⟩ = false ∧ (two w s a n c).frozen? ⟨w.heap.size + 1, 1, none⟩ = false := by
  have h1 : (two w s a n c).heap[w.heap.size]? = some (.cells #[.int .i64 s, .slice a n c] 54 (0, 0)) := by
    unfold two
    rw [((Below.refl _ (w.alloc (.cells #[.int .i64 s, .slice a n c] 54))).alloc (Nat.le_refl _) (.cells #[.int .i64 0, .slice none 0 0] 54)).block w.heap.size (by simp)]
    exact Go.heap_alloc_new w _
  have h2 : (two w s a n c).heap[w.heap.size + 1]? = some (.cells #[.int .i64 0, .slice none 0 0] 54 (0, 0)) := by
    have := Go.heap_alloc_new (w.alloc (.cells #[.int .i64 s, .slice a n c] 54)) (.cells #[.int .i64 0, .slice none 0 0] 54)
    rw [show (w.alloc (.cells #[.int .i64 s, .slice a n c] 54)).heap.size = w.heap.size + 1 from by simp] at this
    exact this
  exact ⟨cell_of_row _ _ 0 _ _ _ h1, cell_of_row _ _ 1 _ _ _ h1, cell_of_row _ _ 0 _ _ _ h2, cell_of_row _ _ 1 _ _ _ h2, frozen_of_row _ _ 0 _ _ h2, frozen_of_row _ _ 1 _ _ h2⟩
theorem bfrozenK {w w' : World} {p : Addr} {v : Value} (hb : Below w.heap.size w w') (h : w.cell? p = some v) (z : w.frozen? p = false) : w'.frozen? p = false := (hb.frozen (World.block_lt_of_cell? w p h)).trans z

end Go.Proofs.Ytjalagjnhjaaoaa
