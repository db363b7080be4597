/- What do and want stand on: a call in memory, three numbers in an array. -/
import Derived.Test.YtjejholognpbaaaAzA
import Derived.Test.YtjejholognpbaaaArJ
namespace Go.Proofs.Ytjejholognpbaaa
open Go.RowKit
set_option linter.unusedVariables false

/-- An array of three numbers. -/
def Arr (w : World) (g : Nat) (x y z : Int) : Prop := w.heap[g]? = some (.cells #[.int .i64 x, .int .i64 y, .int .i64 z] 33 (0, 0))
theorem Arr.lt {w : World} {g : Nat} {x y z : Int} (h : Arr w g x y z) : g < w.heap.size := (Array.getElem?_eq_some_iff.1 h).1
theorem Arr.c0 {w : World} {g : Nat} {x y z : Int} (h : Arr w g x y z) : w.cell? ⟨g, 0, none⟩ = some (.int .i64 x) := cell_of_row w g 0 _ _ _ h
theorem Arr.c1 {w : World} {g : Nat} {x y z : Int} (h : Arr w g x y z) : w.cell? ⟨g, 1, none⟩ = some (.int .i64 y) := cell_of_row w g 1 _ _ _ h
theorem Arr.c2 {w : World} {g : Nat} {x y z : Int} (h : Arr w g x y z) : w.cell? ⟨g, 2, none⟩ = some (.int .i64 z) := cell_of_row w g 2 _ _ _ h
theorem Arr.tg {w w' : World} {g g' : Nat} {x y z : Int} (h : Arr w g x y z) (ht : Tg g' w w') (hn : g ≠ g') : Arr w' g x y z := by
  show w'.heap[g]? = _; rw [ht.block g h.lt hn]; exact h
theorem size33 : (Try.prog.info? 33).map (·.size) = some 3 := by kernel_rfl

/-- Three numbers are stored. -/
theorem wpList_store3 {ops : Array Oper} {rest : List Oper} {o : Oper} {a : Act} {w : World} {Q : Exit → Act → World → Prop} (hgd : o.guard = none) (p q : Operand) (ho : o.op = .store 33 p q)
    (g : Nat) (x y z x0 y0 z0 : Int) (hx : a.eval p = .pointer (some ⟨g, 0, none⟩)) (hy : a.eval q = .agg #[.int .i64 x, .int .i64 y, .int .i64 z]) (hg : Arr w g x0 y0 z0)
    (h : ∀ w1, Arr w1 g x y z → Only g w w1 → wpList Try.prog ops Q rest (a.put o.dst undef) w1) : wpList Try.prog ops Q (o :: rest) a w :=
  wpList_store_row hgd 33 p q ho g _ hx hy 33 _ hg (by rw [size33]; rfl) rfl (by simp [Value.oneCell'])
    (h _ (setRow_heap w g _ _ 33 _ hg) (Only.setRow _ _ _))

/-- What a call's numbers and bytes are. -/
structure CallOk (w : World) (x y k v : Int) (a : Option Addr) (bs : List Int) : Prop where
  hx : Fits x
  hy : Fits y
  hk : Fits k
  v0 : 0 ≤ v
  v1 : v ≤ 18446744073709551615
  isB : IsB w a bs
  len : bs.length ≤ 140737488355328

/-- A call in its block, and the array behind it. -/
structure Pre (w D : World) (kd x y k v : Int) (a : Option Addr) (n c : Nat) (nr : Bool) : Prop where
  low : Below w.heap.size w D
  size : D.heap.size = w.heap.size + 2
  c0 : D.cell? ⟨w.heap.size, 0, none⟩ = some (.int .i64 kd)
  c1 : D.cell? ⟨w.heap.size, 1, none⟩ = some (.int .i64 x)
  c2 : D.cell? ⟨w.heap.size, 2, none⟩ = some (.int .i64 y)
  c3 : D.cell? ⟨w.heap.size, 3, none⟩ = some (.int .i64 k)
  c4 : D.cell? ⟨w.heap.size, 4, none⟩ = some (.int .u64 v)
  c5 : D.cell? ⟨w.heap.size, 5, none⟩ = some (.slice a n c)
  c6 : D.cell? ⟨w.heap.size, 6, none⟩ = some (.bool nr)
  arr : Arr D (w.heap.size + 1) 0 0 0
theorem pre_of (w : World) (kd x y k v : Int) (a : Option Addr) (n c : Nat) (nr : Bool) :
    Pre w ((w.alloc (.cells #[.int .i64 kd, .int .i64 x, .int .i64 y, .int .i64 k, .int .u64 v, .slice a n c, .bool nr] 39)).alloc (.cells #[.int .i64 0, .int .i64 0, .int .i64 0] 33)) kd x y k v a n c nr := by
  have h0 := Go.heap_alloc_new w (.cells #[.int .i64 kd, .int .i64 x, .int .i64 y, .int .i64 k, .int .u64 v, .slice a n c, .bool nr] 39)
  have h1 : ((w.alloc (.cells #[.int .i64 kd, .int .i64 x, .int .i64 y, .int .i64 k, .int .u64 v, .slice a n c, .bool nr] 39)).alloc (.cells #[.int .i64 0, .int .i64 0, .int .i64 0] 33)).heap[w.heap.size]? = some (.cells #[.int .i64 kd, .int .i64 x, .int .i64 y, .int .i64 k, .int .u64 v, .slice a n c, .bool nr] 39 (0, 0)) := by
    rw [Below.heap_alloc _ _ _ (by simp)]; exact h0
  refine ⟨((Below.refl _ w).alloc (Nat.le_refl _) _).alloc (by simp) _, by simp, cell_of_row _ _ 0 _ _ _ h1, cell_of_row _ _ 1 _ _ _ h1, cell_of_row _ _ 2 _ _ _ h1, cell_of_row _ _ 3 _ _ _ h1, cell_of_row _ _ 4 _ _ _ h1, cell_of_row _ _ 5 _ _ _ h1, cell_of_row _ _ 6 _ _ _ h1, ?_⟩
  have := Go.heap_alloc_new (w.alloc (.cells #[.int .i64 kd, .int .i64 x, .int .i64 y, .int .i64 k, .int .u64 v, .slice a n c, .bool nr] 39)) (.cells #[.int .i64 0, .int .i64 0, .int .i64 0] 33)
  rw [World.size_alloc] at this
  exact this

/-- What do answers. -/
def DoPost (w : World) (b g : Nat) (base : Int) (x1 x2 x3 V : Int) (R L : List Int) (e : Ending) (w' : World) : Prop :=
  ∃ ra, e = .returned (.tuple #[.agg #[.int .i64 x1, .int .i64 x2, .int .i64 x3], .int .u64 V, .slice ra R.length R.length]) ∧ Got w.heap.size w' ra R ∧ IsA w' b g base L ∧ Tg g w w'
/-- What want answers. -/
def WantPost (w : World) (b g : Nat) (base : Int) (x1 x2 x3 V : Int) (R L : List Int) (e : Ending) (w' : World) : Prop :=
  ∃ ra rc, e = .returned (.tuple #[.agg #[.int .i64 x1, .int .i64 x2, .int .i64 x3], .int .u64 V, .slice ra R.length rc]) ∧ IsB w' ra R ∧ IsM w' b g base L ∧ Tg g w w'

/-- Behind the store. -/
theorem doFin {w D w1 w2 : World} {b g : Nat} {base : Int} {l L R : List Int} {ra : Option Addr} (h : IsA w b g base l) (hD : Below w.heap.size w D) (hS : D.heap.size = w.heap.size + 2)
    (i1 : IsA w1 b g base L) (t1 : Tg g D w1) (g1 : Got D.heap.size w1 ra R) (o2 : Only (w.heap.size + 1) w1 w2) : Got w.heap.size w2 ra R ∧ IsA w2 b g base L ∧ Tg g w w2 := by
  have hb := h.lt
  have hg := h.row.lt
  have t2 : Tg (w.heap.size + 1) w1 w2 := Tg.ofOnly o2
  refine ⟨(g1.tg t2 (by omega)).mono (by omega), i1.tg t2 (by omega) (by omega), ?_⟩
  have t3 : Tg g w w1 := (Tg.ofBelow hD).trans t1
  exact ⟨t2.os.trans t3.os, t2.tape.trans t3.tape, t2.output.trans t3.output, Nat.le_trans t3.size t2.size, fun i hi hn => (t2.block i (Nat.lt_of_lt_of_le hi t3.size) (by omega)).trans (t3.block i hi hn)⟩
theorem wantFin {w D w1 w2 : World} {b g : Nat} {base : Int} {l L R : List Int} {ra : Option Addr} (h : IsM w b g base l) (hD : Below w.heap.size w D) (hS : D.heap.size = w.heap.size + 2)
    (i1 : IsM w1 b g base L) (t1 : Tg g D w1) (g1 : IsB w1 ra R) (n1 : ∀ ad, ra = some ad → D.heap.size ≤ ad.block) (o2 : Only (w.heap.size + 1) w1 w2) : IsB w2 ra R ∧ IsM w2 b g base L ∧ Tg g w w2 := by
  have hb := h.lt
  have hg := h.row.lt
  have t2 : Tg (w.heap.size + 1) w1 w2 := Tg.ofOnly o2
  refine ⟨t2.isB g1 (fun ad hd => by have := n1 ad hd; omega), i1.tg t2 (by omega) (by omega), ?_⟩
  have t3 : Tg g w w1 := (Tg.ofBelow hD).trans t1
  exact ⟨t2.os.trans t3.os, t2.tape.trans t3.tape, t2.output.trans t3.output, Nat.le_trans t3.size t2.size, fun i hi hn => (t2.block i (Nat.lt_of_lt_of_le hi t3.size) (by omega)).trans (t3.block i hi hn)⟩
end Go.Proofs.Ytjejholognpbaaa
