/- Layer 18: a row is read, of the code; what ReadRows is given. -/
import Derived.Test.YtjalagjnhjaaoaaPhA
import Derived.Test.YtjalagjnhjaaoaaPgC
namespace Go.Proofs.Ytjalagjnhjaaoaa
open Go.RowKit
set_option linter.unusedVariables false
set_option maxRecDepth 4000

/-- What becomes of a row that is read, behind a fault or not. -/
def RowR (l : List Int) (e0 : Int) (x : HRw) (l' : List Int) (e' : Int) : Prop :=
  (e' = 0 ∧ e0 = 0 ∧ rowRd l = (x, l', 0)) ∨ (e' ≠ 0 ∧ ((e0 ≠ 0 ∧ e' = e0) ∨ (e0 = 0 ∧ (rowRd l).2.2 = e')))
/-- What readRow leaves behind. -/
def RowP (w : World) (B : Nat) (l : List Int) (e0 : Int) (e : Ending) (w' : World) : Prop :=
  ∃ (x : HRw) (l' : List Int) (e' : Int), e = .returned (.agg #[.int .i64 x.gen, .bool x.live, .int .i64 x.kind, .int .i64 x.pl]) ∧ RdAt w' B l' e' ∧ Tg B w w' ∧ RowR l e0 x l' e'
theorem up_any {l : List Int} {e0 most : Int} (h : AllB l) (hm : 0 ≤ most) : ∃ v r e, upS l e0 most = (v, r, e) ∧ 0 ≤ v ∧ v ≤ most ∧ AllB r ∧ (e0 ≠ 0 → v = 0 ∧ e = e0) ∧ (e ≠ 0 → v = 0) := by
  by_cases h0 : e0 = 0
  · subst h0
    rcases up_cases l most h with ⟨v, r, hu, v0, v1, hl⟩ | ⟨e, hu, he⟩
    · exact ⟨v, r, 0, hu, v0, v1, by rw [hl] at h; exact h.right, fun q => absurd rfl q, fun q => absurd rfl q⟩
    · exact ⟨0, l, e, hu, by omega, hm, h, fun q => absurd rfl q, fun _ => rfl⟩
  · exact ⟨0, l, e0, up_stop h0, by omega, hm, h, fun _ => ⟨rfl, rfl⟩, fun _ => rfl⟩
/-- A row that is dead, or none. -/
theorem rowR_dead {l r : List Int} {e0 g e : Int} (h : AllB l) (hu : upS l e0 131071 = (g, r, e)) (hg : ¬ g % 2 = 1) : RowR l e0 ⟨g / 2, false, 0, 0⟩ r e := by
  by_cases h0 : e0 = 0
  · subst h0
    by_cases he : e = 0
    · subst he
      exact .inl ⟨rfl, rfl, row_dead hu hg⟩
    · exact .inr ⟨he, .inr ⟨rfl, by rw [row_bad1 hu he]⟩⟩
  · rw [up_stop h0] at hu
    simp only [Prod.mk.injEq] at hu
    exact .inr ⟨by rw [← hu.2.2]; exact h0, .inl ⟨h0, hu.2.2.symm⟩⟩
/-- A live row. -/
theorem rowR_live {l r r2 r3 : List Int} {e0 g e k e2 a e3 : Int} (h : AllB l) (hu : upS l e0 131071 = (g, r, e)) (hg : g % 2 = 1) (g1 : ¬ g = 1) (hk : upS r e 63 = (k, r2, e2)) (ha : upS r2 e2 1048575 = (a, r3, e3)) : RowR l e0 ⟨g / 2, true, k, a⟩ r3 e3 := by
  by_cases h0 : e0 = 0
  · subst h0
    have he : e = 0 := by
      obtain ⟨v, r', e', q, _, _, _, _, q2⟩ := up_any (e0 := 0) (most := 131071) h (by omega)
      rw [hu] at q
      simp only [Prod.mk.injEq] at q
      obtain ⟨rfl, rfl, rfl⟩ := q
      by_cases he : e = 0
      · exact he
      · rw [q2 he] at hg; omega
    subst he
    by_cases he2 : e2 = 0
    · subst he2
      by_cases he3 : e3 = 0
      · subst he3
        exact .inl ⟨rfl, rfl, row_ok hu g1 hg hk ha⟩
      · exact .inr ⟨he3, .inr ⟨rfl, by rw [row_bad3 hu g1 hg hk ha he3]⟩⟩
    · rw [up_stop he2] at ha
      simp only [Prod.mk.injEq] at ha
      exact .inr ⟨by rw [← ha.2.2]; exact he2, .inr ⟨rfl, by rw [row_bad2 hu g1 hg hk he2]; exact ha.2.2⟩⟩
  · rw [up_stop h0] at hu
    simp only [Prod.mk.injEq] at hu
    rw [← hu.1] at hg
    omega
/-- A live row of no generation. -/
theorem rowR_one {l r r2 r3 : List Int} {e0 e k e2 a e3 : Int} {x : HRw} (h : AllB l) (hu : upS l e0 131071 = (1, r, e)) (hk : upS r (failV e 4) 63 = (k, r2, e2)) (ha : upS r2 e2 1048575 = (a, r3, e3)) : RowR l e0 x r3 e3 := by
  by_cases h0 : e0 = 0
  · subst h0
    have he : e = 0 := by
      obtain ⟨v, r', e', q, _, _, _, _, q2⟩ := up_any (e0 := 0) (most := 131071) h (by omega)
      rw [hu] at q
      simp only [Prod.mk.injEq] at q
      obtain ⟨rfl, rfl, rfl⟩ := q
      by_cases he : e = 0
      · exact he
      · exact absurd (q2 he) (by omega)
    subst he
    rw [show failV 0 4 = 4 from rfl, up_stop (by omega)] at hk
    simp only [Prod.mk.injEq] at hk
    rw [← hk.2.2, up_stop (by omega)] at ha
    simp only [Prod.mk.injEq] at ha
    exact .inr ⟨by omega, .inr ⟨rfl, by rw [row_one hu]; exact ha.2.2⟩⟩
  · rw [up_stop h0] at hu
    simp only [Prod.mk.injEq] at hu
    omega

/-- A row is stored into its variable. -/
def layW (w : World) (g : Nat) (a : Int) (b : Bool) (c d : Int) : World := (((w.setCell ⟨g, 0, none⟩ (.int .i64 a)).setCell ⟨g, 1, none⟩ (.bool b)).setCell ⟨g, 2, none⟩ (.int .i64 c)).setCell ⟨g, 3, none⟩ (.int .i64 d)
theorem layW_box {w : World} {g : Nat} {a c d a0 c0 d0 : Int} {b b0 : Bool} (h : w.heap[g]? = some (.cells #[.int .i64 a0, .bool b0, .int .i64 c0, .int .i64 d0] 51 (0, 0))) :
    (layW w g a b c d).heap[g]? = some (.cells #[.int .i64 a, .bool b, .int .i64 c, .int .i64 d] 51 (0, 0)) := by
  have h1 : (w.setCell ⟨g, 0, none⟩ (.int .i64 a)).heap[g]? = some (.cells #[.int .i64 a, .bool b0, .int .i64 c0, .int .i64 d0] 51 (0, 0)) := by rw [heap_setCell_same w g 0 _ _ _ h]; rfl
  have h2 : ((w.setCell ⟨g, 0, none⟩ (.int .i64 a)).setCell ⟨g, 1, none⟩ (.bool b)).heap[g]? = some (.cells #[.int .i64 a, .bool b, .int .i64 c0, .int .i64 d0] 51 (0, 0)) := by rw [heap_setCell_same _ g 1 _ _ _ h1]; rfl
  have h3 : (((w.setCell ⟨g, 0, none⟩ (.int .i64 a)).setCell ⟨g, 1, none⟩ (.bool b)).setCell ⟨g, 2, none⟩ (.int .i64 c)).heap[g]? = some (.cells #[.int .i64 a, .bool b, .int .i64 c, .int .i64 d0] 51 (0, 0)) := by rw [heap_setCell_same _ g 2 _ _ _ h2]; rfl
  unfold layW
  rw [heap_setCell_same _ g 3 _ _ _ h3]
  rfl
theorem layW_only {w : World} {g : Nat} {a c d : Int} {b : Bool} : Only g w (layW w g a b c d) := (((Only.set g 0 _ w).trans (Only.set g 1 _ _)).trans (Only.set g 2 _ _)).trans (Only.set g 3 _ _)
/-- Of what is there just B may be another, though a new block is stored into. -/
theorem Tg.onto {w w' w2 : World} {B g : Nat} (h : Tg B w w') (on : Only g w' w2) (hg : w.heap.size ≤ g) : Tg B w w2 :=
  ⟨on.os.trans h.os, on.tape.trans h.tape, on.output.trans h.output, by rw [on.size]; exact h.size, fun i hi hn => (on.block i (by omega)).trans (h.block i hi hn)⟩
/-- A row under way: the reader, the row's box, the answer's box. -/
structure Rb (w wr : World) (B K : Nat) (l : List Int) (e : Int) (g : Int) (lv : Bool) (k p : Int) : Prop where
  rd : RdAt wr B l e
  box : wr.heap[K]? = some (.cells #[.int .i64 g, .bool lv, .int .i64 k, .int .i64 p] 51 (0, 0))
  res : wr.heap[w.heap.size]? = some (.cells #[.int .i64 0, .bool false, .int .i64 0, .int .i64 0] 51 (0, 0))
  tg : Tg B w wr
  hK : w.heap.size < K
  hB : B < w.heap.size
theorem Rb.new {w D w1 : World} {B : Nat} {l : List Int} {e g : Int} {lv : Bool} (hB : B < w.heap.size) (hD : w.alloc (.cells #[.int .i64 0, .bool false, .int .i64 0, .int .i64 0] 51) = D) (t : Tg B D w1) (r : RdAt w1 B l e) :
    Rb w (w1.alloc (.cells #[.int .i64 g, .bool lv, .int .i64 0, .int .i64 0] 51)) B w1.heap.size l e g lv 0 0 := by
  have b := (Below.refl w1.heap.size w1).alloc (Nat.le_refl _) (.cells #[.int .i64 g, .bool lv, .int .i64 0, .int .i64 0] 51)
  have bD : Below w.heap.size w D := by rw [← hD]; exact (Below.refl _ w).alloc (Nat.le_refl _) _
  have rD : D.heap[w.heap.size]? = some (.cells #[.int .i64 0, .bool false, .int .i64 0, .int .i64 0] 51 (0, 0)) := by rw [← hD]; exact Go.heap_alloc_new w _
  have hz := hlt rD
  have hs := t.size
  refine ⟨rd_keep r b, Go.heap_alloc_new w1 _, ?_, ((Tg.ofBelow bD).trans t).trans (Tg.ofBelow b), by omega, hB⟩
  rw [b.block _ (by omega), t.block _ hz (by omega)]
  exact rD
theorem Rb.go {w wr w1 : World} {B K : Nat} {l l' : List Int} {e e' g : Int} {lv : Bool} {k p : Int} (h : Rb w wr B K l e g lv k p) (t : Tg B wr w1) (r : RdAt w1 B l' e') : Rb w w1 B K l' e' g lv k p :=
  ⟨r, by rw [t.block K (hlt h.box) (by have := h.hK; have := h.hB; omega)]; exact h.box, by rw [t.block _ (hlt h.res) (by have := h.hB; omega)]; exact h.res, h.tg.trans t, h.hK, h.hB⟩
theorem Rb.put {w wr : World} {B K : Nat} {l : List Int} {e g : Int} {lv : Bool} {k p : Int} (h : Rb w wr B K l e g lv k p) (j : Nat) (v k' p' : Int)
    (he : (#[Value.int .i64 g, .bool lv, .int .i64 k, .int .i64 p] : Array Value).setIfInBounds j (.int .i64 v) = #[.int .i64 g, .bool lv, .int .i64 k', .int .i64 p']) : Rb w (wr.setCell ⟨K, j, none⟩ (.int .i64 v)) B K l e g lv k' p' := by
  have on := Only.set K j (.int .i64 v) wr
  have hK := h.hK
  have hB := h.hB
  refine ⟨h.rd.tg (Tg.ofOnly on) (by omega), by rw [heap_setCell_same wr K j _ _ _ h.box, he], by rw [on.block _ (by omega)]; exact h.res, h.tg.onto on (by omega), hK, hB⟩
theorem Rb.kind {w wr : World} {B K : Nat} {l : List Int} {e g : Int} {lv : Bool} {k p : Int} (h : Rb w wr B K l e g lv k p) (v : Int) : Rb w (wr.setCell ⟨K, 2, none⟩ (.int .i64 v)) B K l e g lv v p := h.put 2 v v p rfl
theorem Rb.at {w wr : World} {B K : Nat} {l : List Int} {e g : Int} {lv : Bool} {k p : Int} (h : Rb w wr B K l e g lv k p) (v : Int) : Rb w (wr.setCell ⟨K, 3, none⟩ (.int .i64 v)) B K l e g lv k v := h.put 3 v k v rfl
theorem Rb.cells {w wr : World} {B K : Nat} {l : List Int} {e g : Int} {lv : Bool} {k p : Int} (h : Rb w wr B K l e g lv k p) :
    wr.cell? ⟨K, 0, none⟩ = some (.int .i64 g) ∧ wr.cell? ⟨K, 1, none⟩ = some (.bool lv) ∧ wr.cell? ⟨K, 2, none⟩ = some (.int .i64 k) ∧ wr.cell? ⟨K, 3, none⟩ = some (.int .i64 p) ∧ wr.frozen? ⟨K, 2, none⟩ = false ∧ wr.frozen? ⟨K, 3, none⟩ = false :=
  ⟨cell_of_row _ _ 0 _ _ _ h.box, cell_of_row _ _ 1 _ _ _ h.box, cell_of_row _ _ 2 _ _ _ h.box, cell_of_row _ _ 3 _ _ _ h.box, frozen_of_row _ _ 2 _ _ h.box, frozen_of_row _ _ 3 _ _ h.box⟩
theorem res_cells {w : World} {Z : Nat} {a c d : Int} {b : Bool} (h : w.heap[Z]? = some (.cells #[.int .i64 a, .bool b, .int .i64 c, .int .i64 d] 51 (0, 0))) :
    w.cell? ⟨Z, 0, none⟩ = some (.int .i64 a) ∧ w.cell? ⟨Z, 1, none⟩ = some (.bool b) ∧ w.cell? ⟨Z, 2, none⟩ = some (.int .i64 c) ∧ w.cell? ⟨Z, 3, none⟩ = some (.int .i64 d) ∧ w.frozen? ⟨Z, 0, none⟩ = false ∧ w.frozen? ⟨Z, 1, none⟩ = false ∧ w.frozen? ⟨Z, 2, none⟩ = false ∧ w.frozen? ⟨Z, 3, none⟩ = false :=
  ⟨cell_of_row _ _ 0 _ _ _ h, cell_of_row _ _ 1 _ _ _ h, cell_of_row _ _ 2 _ _ _ h, cell_of_row _ _ 3 _ _ _ h, frozen_of_row _ _ 0 _ _ h, frozen_of_row _ _ 1 _ _ h, frozen_of_row _ _ 2 _ _ h, frozen_of_row _ _ 3 _ _ h⟩
/-- The row is laid into the answer's box. -/
theorem Rb.laid {w wr : World} {B K : Nat} {l : List Int} {e g : Int} {lv : Bool} {k p : Int} (h : Rb w wr B K l e g lv k p) : RdAt (layW wr w.heap.size g lv k p) B l e ∧ Tg B w (layW wr w.heap.size g lv k p) ∧ (layW wr w.heap.size g lv k p).heap[w.heap.size]? = some (.cells #[.int .i64 g, .bool lv, .int .i64 k, .int .i64 p] 51 (0, 0)) := by
  have hB := h.hB
  exact ⟨h.rd.tg (Tg.ofOnly layW_only) (by omega), h.tg.onto layW_only (Nat.le_refl _), layW_box h.res⟩
end Go.Proofs.Ytjalagjnhjaaoaa
