/- A write as a value; rows of writes: one more. -/
import Derived.Test.YtofmicbhheebiaaDkE
namespace Go.Proofs.Ytofmicbhheebiaa
open Go.RowKit Go.Maps
set_option linter.unusedVariables false
set_option maxRecDepth 4000

theorem fold_fill : ∀ (l : List Value) (off n : Nat) (cs : Array Value), off + n + l.length ≤ cs.size →
    ((l.zipIdx n).foldl (fun (cs : Array Value) (p : Value × Nat) => cs.setIfInBounds (off + p.2) p.1) cs).toList = cs.toList.take (off + n) ++ l ++ cs.toList.drop (off + n + l.length)
  | [], off, n, cs, h => by simp
  | v :: r, off, n, cs, h => by
    rw [List.zipIdx_cons, List.foldl_cons, fold_fill r off (n + 1) _ (by simp at h ⊢; omega)]
    have := list_seg_step cs.toList (off + n) v r (by simp at h ⊢; omega)
    simp only [Array.toList_setIfInBounds]
    rw [show off + (n + 1) = off + n + 1 from by omega, this]
    simp

theorem fill_one (place : Nat → Option (Nat × Nat)) (cells : Array Value) (i off : Nat) (l : List Value) (r : List (Nat × Value)) (v : Value) (hv : v.cells = l.toArray) (hp : place i = some (off, l.length)) (h : off + l.length ≤ cells.size) :
    Instr.fill place cells ((i, v) :: r) = Instr.fill place (cells.toList.take off ++ l ++ cells.toList.drop (off + l.length)).toArray r := by
  rw [Instr.fill, hp]
  simp only [hv]
  rw [if_neg (by simp; omega)]
  congr 1
  apply Array.toList_inj.1
  have := fold_fill l off 0 cells (by omega)
  simp only [Nat.add_zero] at this
  rw [← this]
  simp

theorem cellsX_len {x : Wr} (h : x.by.length = 64) : (cellsX x).length = 65 := by simp [cellsX, cellsB_len, h]

end Go.Proofs.Ytofmicbhheebiaa
