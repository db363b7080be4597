/- Layer 18: ReadRows of the document. -/
import Derived.Test.YtjalagjnhjaaoaaPgB
import Derived.Test.YtjalagjnhjaaoaaPgE
import Derived.Test.YtjalagjnhjaaoaaKdQ
namespace Go.Proofs.Ytjalagjnhjaaoaa
open Go.RowKit
set_option linter.unusedVariables false
set_option maxRecDepth 4000

/-- The document's reader, new. -/
theorem newrf18 {w w3 D : World} {g cap : Nat} {l : List Int} (h : w3.alloc (.cells #[.slice (some ⟨g, 0, none⟩) l.length cap, .int .i64 0] 68) = D) (o : OwnsB w3 w.heap.size (some ⟨g, 0, none⟩) l cap) (hb : AllB l) (h0 : l = [] ∨ 0 < w.heap.size) : RfAt D 0 w3.heap.size l 0 ∧ Below w3.heap.size w3 D := by
  have bel : Below w3.heap.size w3 D := by rw [← h]; exact (Below.refl _ w3).alloc (Nat.le_refl _) _
  refine ⟨⟨some ⟨g, 0, none⟩, cap, by rw [← h]; exact Go.heap_alloc_new w3 _, (ownsB_isL o).1, (ownsB_isL o).2.1, hb, ?_⟩, bel⟩
  have o' := o
  obtain ⟨_, ⟨h1, _⟩ | ⟨g', c', cur, h1, hg, h2, _⟩⟩ := o'
  · cases h1
  · cases h1
    rcases h0 with h0 | h0
    · exact .inl h0
    · refine .inr ⟨g, 0, rfl, by omega, (Array.getElem?_eq_some_iff.1 h2).1, fun i hi => ?_⟩
      rw [bel.cell (p := ⟨g, 0 + i, none⟩) (Array.getElem?_eq_some_iff.1 h2).1]
      exact (ownsB_isB hb o).at i hi
/-- Rows read so far. -/
structure Rk (w wr : World) (M n : Nat) (l1 : List Int) (m : Nat) (acc : List HRw) (a : Option Addr) (c : Nat) (lr : List Int) (er : Int) : Prop where
  rd : RfAt wr 0 M lr er
  own : Ow wr (M + 1) a acc c
  low : Below w.heap.size w wr
  hM : w.heap.size ≤ M
  len : acc.length = m
  ph : (er = 0 ∧ manyRd rowRd n l1 [] = manyRd rowRd (n - m) lr acc) ∨ (er ≠ 0 ∧ manyRd rowRd n l1 [] = ([], [], er))
/-- The same, and a row's box beside them. -/
structure Rx (w wr : World) (M : Nat) (acc : List HRw) (a : Option Addr) (c : Nat) (lr : List Int) (er : Int) (K : Nat) (g : Int) (lv : Bool) (k p : Int) : Prop where
  rd : RfAt wr 0 M lr er
  own : Ow wr (M + 1) a acc c
  low : Below w.heap.size w wr
  hM : w.heap.size ≤ M
  box : wr.heap[K]? = some (.cells #[.int .i64 g, .bool lv, .int .i64 k, .int .i64 p] 51 (0, 0))
  hK : M < K
  apart : ob a ≠ some K
theorem tu_tg {M : Nat} {w w' : World} (t : Tg M w w') : Tu (fun k => k = M) w w' :=
  ⟨t.os, t.tape, t.output, t.size, fun i o ho hk => by rw [t.block i (hlt ho) hk]; exact ho⟩
/-- A row's box is new. -/
theorem Rk.box {w wr w1 : World} {M n : Nat} {l1 : List Int} {m : Nat} {acc : List HRw} {a : Option Addr} {c : Nat} {lr lr' : List Int} {er er' : Int} (h : Rk w wr M n l1 m acc a c lr er) (r : RfAt w1 0 M lr' er') (t : Tg M wr w1) (g : Int) (lv : Bool) :
    Rx w (w1.alloc (.cells #[.int .i64 g, .bool lv, .int .i64 0, .int .i64 0] 51)) M acc a c lr' er' w1.heap.size g lv 0 0 := by
  have b := (Below.refl w1.heap.size w1).alloc (Nat.le_refl _) (.cells #[.int .i64 g, .bool lv, .int .i64 0, .int .i64 0] 51)
  have o1 : Ow w1 (M + 1) a acc c := h.own.tu (tu_tg t) (fun g hg e => by have := (h.own.ge g hg).1; omega)
  refine ⟨rf_keep r b, o1.keep b, (h.low.trans (t.below h.hM h.low.size)).trans (b.mono (Nat.le_trans h.low.size t.size)), h.hM, Go.heap_alloc_new w1 _, r.lt, fun e => ?_⟩
  have := (o1.ge _ e).2
  omega
/-- The reader has gone on. -/
theorem Rx.tg {w wr w1 : World} {M : Nat} {acc : List HRw} {a : Option Addr} {c : Nat} {lr lr' : List Int} {er er' : Int} {K : Nat} {g : Int} {lv : Bool} {k p : Int} (h : Rx w wr M acc a c lr er K g lv k p) (r : RfAt w1 0 M lr' er') (t : Tg M wr w1) : Rx w w1 M acc a c lr' er' K g lv k p :=
  ⟨r, h.own.tu (tu_tg t) (fun g hg e => by have := (h.own.ge g hg).1; omega), h.low.trans (t.below h.hM h.low.size), h.hM, by rw [t.block K (hlt h.box) (by have := h.hK; omega)]; exact h.box, h.hK, h.apart⟩
theorem Rx.put {w wr : World} {M : Nat} {acc : List HRw} {a : Option Addr} {c : Nat} {lr : List Int} {er : Int} {K : Nat} {g : Int} {lv : Bool} {k p : Int} (h : Rx w wr M acc a c lr er K g lv k p) (j : Nat) (v k' p' : Int)
    (he : (#[Value.int .i64 g, .bool lv, .int .i64 k, .int .i64 p] : Array Value).setIfInBounds j (.int .i64 v) = #[.int .i64 g, .bool lv, .int .i64 k', .int .i64 p']) : Rx w (wr.setCell ⟨K, j, none⟩ (.int .i64 v)) M acc a c lr er K g lv k' p' := by
  have on := Only.set K j (.int .i64 v) wr
  have t := Tg.ofOnly on
  have hK := h.hK
  have hM := h.hM
  refine ⟨h.rd.tg t hK, h.own.tu (tu_tg t) (fun g hg e => h.apart (by rw [hg, e])), h.low.trans (t.below (by omega) h.low.size), hM, ?_, hK, h.apart⟩
  rw [heap_setCell_same wr K j _ _ _ h.box, he]
theorem Rx.kind {w wr : World} {M : Nat} {acc : List HRw} {a : Option Addr} {c : Nat} {lr : List Int} {er : Int} {K : Nat} {g : Int} {lv : Bool} {k p : Int} (h : Rx w wr M acc a c lr er K g lv k p) (v : Int) : Rx w (wr.setCell ⟨K, 2, none⟩ (.int .i64 v)) M acc a c lr er K g lv v p := h.put 2 v v p rfl
theorem Rx.at {w wr : World} {M : Nat} {acc : List HRw} {a : Option Addr} {c : Nat} {lr : List Int} {er : Int} {K : Nat} {g : Int} {lv : Bool} {k p : Int} (h : Rx w wr M acc a c lr er K g lv k p) (v : Int) : Rx w (wr.setCell ⟨K, 3, none⟩ (.int .i64 v)) M acc a c lr er K g lv k v := h.put 3 v k v rfl
theorem Rx.cells {w wr : World} {M : Nat} {acc : List HRw} {a : Option Addr} {c : Nat} {lr : List Int} {er : Int} {K : Nat} {g : Int} {lv : Bool} {k p : Int} (h : Rx w wr M acc a c lr er K g lv k p) :
    wr.cell? ⟨K, 0, none⟩ = some (.int .i64 g) ∧ wr.cell? ⟨K, 1, none⟩ = some (.bool lv) ∧ wr.cell? ⟨K, 2, none⟩ = some (.int .i64 k) ∧ wr.cell? ⟨K, 3, none⟩ = some (.int .i64 p) ∧ wr.frozen? ⟨K, 2, none⟩ = false ∧ wr.frozen? ⟨K, 3, none⟩ = false :=
  ⟨cell_of_row _ _ 0 _ _ _ h.box, cell_of_row _ _ 1 _ _ _ h.box, cell_of_row _ _ 2 _ _ _ h.box, cell_of_row _ _ 3 _ _ _ h.box, frozen_of_row _ _ 2 _ _ h.box, frozen_of_row _ _ 3 _ _ h.box⟩
/-- The row is appended. -/
theorem Rx.app {w wr : World} {M : Nat} {acc : List HRw} {a : Option Addr} {c : Nat} {lr : List Int} {er : Int} {K : Nat} {g : Int} {lv : Bool} {k p : Int} (h : Rx w wr M acc a c lr er K g lv k p) (hl : acc.length ≤ 100000) :
    ∃ a' c' w', (Builtin.append_ #[22, 22] 22 #[.slice a acc.length c, .slice (some ⟨wr.heap.size, 0, none⟩) 1 1]).run Try.prog (wr.alloc (.cells #[.int .i64 g, .bool lv, .int .i64 k, .int .i64 p] 51)) = .ok (.slice a' (acc ++ [(⟨g, lv, k, p⟩ : HRw)]).length c') w' ∧ RfAt w' 0 M lr er ∧ Ow w' (M + 1) a' (acc ++ [(⟨g, lv, k, p⟩ : HRw)]) c' ∧ Below w.heap.size w w' := by
  obtain ⟨D, hD, rD, bD⟩ := rbox18 wr ⟨g, lv, k, p⟩
  simp only at hD rD
  rw [hD]
  have hMl := h.rd.lt
  have hM := h.hM
  have o1 := h.own.keep bD
  obtain ⟨a', c', w', hr, ho, ht, _⟩ := appW_run 22 (M + 1) D (Nat.le_trans hMl bD.size) a acc c o1 wr.heap.size 0 [(⟨g, lv, k, p⟩ : HRw)] 1 (fun i hi => by
    obtain rfl : i = 0 := by simpa using hi
    exact ⟨cell_of_row _ _ 0 _ _ _ rD, cell_of_row _ _ 1 _ _ _ rD, cell_of_row _ _ 2 _ _ _ rD, cell_of_row _ _ 3 _ _ _ rD⟩) (by simp; omega)
  have hS : ∀ i, ob a = some i → M + 1 ≤ i := fun i hi => (o1.ge i hi).1
  have bw : Below (M + 1) D w' := ht.below hS (Nat.le_trans hMl bD.size)
  refine ⟨a', c', w', by rw [List.length_append]; exact hr, (rf_keep h.rd bD).below bw (Nat.lt_succ_self _), ho, (h.low.trans (bD.mono h.low.size)).trans (bw.mono (by omega))⟩
theorem up_stop {l : List Int} {e most : Int} (h : e ≠ 0) : upS l e most = (0, l, e) := by rw [upS, if_neg h]
end Go.Proofs.Ytjalagjnhjaaoaa
