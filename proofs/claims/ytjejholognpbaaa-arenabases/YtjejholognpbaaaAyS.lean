/- What the walks of ArenaPlays and ArenaBases stand on. -/
import Derived.Test.YtjejholognpbaaaAyC
import Derived.ChangeKeysEq
import Derived.Deep.CutRange
import Derived.Deep.CutBlock
namespace Go.Proofs.Ytjejholognpbaaa
open Go.RowKit
set_option linter.unusedVariables false

theorem neq3 (w : World) (x y z : Int) : (binOp .neq 33 (.agg #[.int .i64 x, .int .i64 y, .int .i64 z]) (.agg #[.int .i64 x, .int .i64 y, .int .i64 z])).run Try.prog w = .ok (.bool false) w := by
  obtain ⟨i0, hi0⟩ : ∃ i, Try.prog.info? 3 = some i := ⟨_, rfl⟩
  have h := run_equalIn_array (P := Try.prog) w 9999 #[.int .i64 x, .int .i64 y, .int .i64 z] #[.int .i64 x, .int .i64 y, .int .i64 z] Try.underlying33 hi0
  rw [Try.cellsInt] at h
  rw [run_neq_struct, h]
  simp [List.range, List.range.loop, Op.eqItems, go_sem, Try.underlying3]

/-- The code's arena and the document's, side by side. -/
structure Pl (w0 wr : World) (b g mb mg : Nat) (base : Int) (l : List Int) : Prop where
  isA : IsA wr b g base l
  isM : IsM wr mb mg base l
  low : Below w0.heap.size w0 wr
  ga : w0.heap.size ≤ g
  gm : w0.heap.size ≤ mg
  n1 : mb ≠ g
  n2 : mg ≠ g
  n3 : b ≠ mg
theorem Pl.keep {w0 wr w' : World} {b g mb mg : Nat} {base : Int} {l : List Int} (h : Pl w0 wr b g mb mg base l) (hb : Below wr.heap.size wr w') : Pl w0 w' b g mb mg base l :=
  ⟨h.isA.keep hb, h.isM.keep hb, h.low.trans (hb.mono h.low.size), h.ga, h.gm, h.n1, h.n2, h.n3⟩
theorem Pl.tg {w0 wr w' : World} {b g mb mg p : Nat} {base : Int} {l : List Int} (h : Pl w0 wr b g mb mg base l) (ht : Tg p wr w') (h1 : b ≠ p) (h2 : g ≠ p) (h3 : mb ≠ p) (h4 : mg ≠ p) (h5 : w0.heap.size ≤ p) : Pl w0 w' b g mb mg base l :=
  ⟨h.isA.tg ht h1 h2, h.isM.tg ht h3 h4, h.low.trans (ht.below h5 h.low.size), h.ga, h.gm, h.n1, h.n2, h.n3⟩

/-- Behind do: the code's arena has turned, the document's not yet. -/
structure Mid (w wr wx : World) (b g mb mg p : Nat) (ra : Option Addr) (base : Int) (l L R : List Int) (x y z : Int) : Prop where
  isA : IsA wx b g base L
  isM : IsM wx mb mg base l
  low : Below w.heap.size w wx
  arr : Arr wx p x y z
  gp : wr.heap.size ≤ p
  got : Got wr.heap.size wx ra R
  sz : wr.heap.size ≤ wx.heap.size

theorem Arr.of_alloc (w : World) (x y z : Int) : Arr (w.alloc (.cells #[.int .i64 x, .int .i64 y, .int .i64 z] 33)) w.heap.size x y z := Go.heap_alloc_new w _
theorem Arr.set {w : World} {p : Nat} {x0 y0 z0 : Int} (h : Arr w p x0 y0 z0) (x y z : Int) : Arr (((w.setCell ⟨p, 0, none⟩ (.int .i64 x)).setCell ⟨p, 1, none⟩ (.int .i64 y)).setCell ⟨p, 2, none⟩ (.int .i64 z)) p x y z := by
  have h1 := heap_setCell_same w p 0 _ _ (.int .i64 x) h
  have h2 := heap_setCell_same _ p 1 _ _ (.int .i64 y) h1
  have h3 := heap_setCell_same _ p 2 _ _ (.int .i64 z) h2
  exact h3
theorem Arr.thawed {w : World} {p : Nat} {x y z : Int} (h : Arr w p x y z) (j : Nat) : w.frozen? ⟨p, j, none⟩ = false := frozen_of_row w p j _ _ h
theorem Only.set3 (p : Nat) (x y z : Value) (w : World) : Only p w (((w.setCell ⟨p, 0, none⟩ x).setCell ⟨p, 1, none⟩ y).setCell ⟨p, 2, none⟩ z) := ((Only.set p 0 x w).trans (Only.set p 1 y _)).trans (Only.set p 2 z _)

/-- What holds behind do, called in a world that came of wr. -/
structure Mid0 (w wr w5 : World) (b g mb mg : Nat) (ra : Option Addr) (base : Int) (l L R : List Int) : Prop where
  isA : IsA w5 b g base L
  isM : IsM w5 mb mg base l
  low : Below w.heap.size w w5
  got : Got wr.heap.size w5 ra R
  sz : wr.heap.size ≤ w5.heap.size
  tg : Tg g wr w5
theorem Pl.mid0 {w wr wz w5 : World} {b g mb mg : Nat} {ra : Option Addr} {base : Int} {l L R : List Int} (h : Pl w wr b g mb mg base l) (hb : Below wr.heap.size wr wz) (i5 : IsA w5 b g base L) (t5 : Tg g wz w5) (g5 : Got wz.heap.size w5 ra R) : Mid0 w wr w5 b g mb mg ra base l L R :=
  ⟨i5, (h.isM.keep hb).tg t5 h.n1 h.n2, (h.low.trans (hb.mono h.low.size)).trans (t5.below h.ga (Nat.le_trans h.low.size hb.size)), g5.mono hb.size, Nat.le_trans hb.size t5.size, (Tg.ofBelow hb).trans t5⟩
/-- The array was laid behind do. -/
theorem Mid0.after {w wr w5 wx : World} {b g mb mg : Nat} {ra : Option Addr} {base : Int} {l L R : List Int} {x y z : Int} (h : Mid0 w wr w5 b g mb mg ra base l L R) (hb : Below w5.heap.size w5 wx) (ha : Arr wx w5.heap.size x y z) : Mid w wr wx b g mb mg w5.heap.size ra base l L R x y z :=
  ⟨h.isA.keep hb, h.isM.keep hb, h.low.trans (hb.mono h.low.size), ha, h.sz, h.got.keep hb, Nat.le_trans h.sz hb.size⟩
/-- The array was laid ahead of do. -/
theorem Mid0.ahead {w wr w5 wx : World} {b g mb mg p : Nat} {ra : Option Addr} {base : Int} {l L R : List Int} {x y z x0 y0 z0 : Int} (h : Mid0 w wr w5 b g mb mg ra base l L R) (hP : Pl w wr b g mb mg base l) (h0 : Arr w5 p x0 y0 z0) (ho : Only p w5 wx) (ha : Arr wx p x y z) (hp : wr.heap.size ≤ p) : Mid w wr wx b g mb mg p ra base l L R x y z := by
  have t := Tg.ofOnly ho
  have hb := hP.isA.lt
  have hg := hP.isA.row.lt
  have hmb := hP.isM.lt
  have hmg := hP.isM.row.lt
  refine ⟨h.isA.tg t (by omega) (by omega), h.isM.tg t (by omega) (by omega), h.low.trans (t.below (Nat.le_trans hP.low.size hp) h.low.size), ha, hp, ?_, Nat.le_trans h.sz t.size⟩
  rcases h.got with e | ⟨g', rfl, hB, hr⟩
  · exact .inl e
  · refine .inr ⟨g', rfl, hB, t.row hr (fun e => ?_)⟩
    subst e
    have h0' : w5.heap[g']? = _ := h0
    have hr' : w5.heap[g']? = _ := hr
    rw [h0'] at hr'
    simp at hr'

theorem base_q (b g : Nat) (base : Int) (l : List Int) (w : World) (h : IsA w b g base l) :
    Calls Try.prog 17 #[.pointer (some ⟨b, 0, none⟩)] w fun e w' => e = .returned (.int .i64 base) ∧ w' = w := (base_any b g base l w h).mono fun e w' h => ⟨h.1, h.2.symm⟩
theorem pages_q (b g K : Nat) (base : Int) (l : List Int) (w : World) (h : IsA w b g base l) (hK : l.length = K * 256) :
    Calls Try.prog 18 #[.pointer (some ⟨b, 0, none⟩)] w fun e w' => e = .returned (.int .i64 (K : Nat)) ∧ w' = w := (pages_any b g base l w h).mono fun e w' h => ⟨by rw [h.1, hK, Nat.mul_div_cancel _ (by decide)], h.2.symm⟩
theorem end_q (b g : Nat) (base : Int) (l : List Int) (w : World) (h : IsA w b g base l) :
    Calls Try.prog 19 #[.pointer (some ⟨b, 0, none⟩)] w fun e w' => e = .returned (.int .i64 (base + (l.length : Nat))) ∧ w' = w := (end_any b g base l w h).mono fun e w' h => ⟨h.1, h.2.symm⟩
theorem same_q (a a' : Option Addr) (n n' cap cap' : Nat) (l : List Int) (w : World) (h : IsB w a l) (h' : IsB w a' l) (hn : n = l.length) (hn' : n' = l.length) :
    Calls Try.prog 15 #[.slice a n cap, .slice a' n' cap'] w fun e w' => e = .returned (.bool true) ∧ w' = w := (same_true a a' n n' cap cap' l w h h' hn hn').mono fun e w' h => ⟨h.1, h.2.symm⟩

/-- Behind want: both have turned alike. -/
structure Fin (w wr w6 : World) (b g mb mg p : Nat) (ra rb : Option Addr) (base : Int) (L R : List Int) (x y z : Int) : Prop where
  pl : Pl w w6 b g mb mg base L
  arr : Arr w6 p x y z
  got : Got wr.heap.size w6 ra R
  isB : IsB w6 rb R
  sz : wr.heap.size ≤ w6.heap.size
theorem Mid.fin {w wr wx w6 : World} {b g mb mg p : Nat} {ra rb : Option Addr} {base : Int} {l L R : List Int} {x y z : Int} (h : Mid w wr wx b g mb mg p ra base l L R x y z) (hP : Pl w wr b g mb mg base l) (i6 : IsM w6 mb mg base L) (t6 : Tg mg wx w6) (g6 : IsB w6 rb R) : Fin w wr w6 b g mb mg p ra rb base L R x y z := by
  have hmg := hP.isM.row.lt
  have hp := h.gp
  exact ⟨⟨h.isA.tg t6 hP.n3 (fun e => hP.n2 e.symm), i6, h.low.trans (t6.below hP.gm h.low.size), hP.ga, hP.gm, hP.n1, hP.n2, hP.n3⟩, h.arr.tg t6 (by omega), h.got.tg t6 hmg, g6, Nat.le_trans h.sz t6.size⟩
theorem Fin.keep {w wr w6 w7 : World} {b g mb mg p : Nat} {ra rb : Option Addr} {base : Int} {L R : List Int} {x y z : Int} (h : Fin w wr w6 b g mb mg p ra rb base L R x y z) (hb : Below w6.heap.size w6 w7) : Fin w wr w7 b g mb mg p ra rb base L R x y z :=
  ⟨h.pl.keep hb, h.arr.tg (g' := w6.heap.size) (Tg.ofBelow hb) (by have := h.arr.lt; omega), h.got.keep hb, h.isB.keep hb, Nat.le_trans h.sz hb.size⟩

/-- The bytes that were handed out are turned. -/
structure Inn (w wr wx : World) (b g mb mg : Nat) (ra : Option Addr) (base : Int) (L : List Int) (n : Nat) : Prop where
  pl : Pl w wx b g mb mg base L
  got : ∃ R, R.length = n ∧ AllB R ∧ Got wr.heap.size wx ra R
theorem Inn.row {w wr wx : World} {b g mb mg n : Nat} {ra : Option Addr} {base : Int} {L : List Int} (h : Inn w wr wx b g mb mg ra base L n) (hn : 0 < n) : ∃ (g9 : Nat) (R : List Int), ra = some ⟨g9, 0, none⟩ ∧ wr.heap.size ≤ g9 ∧ RowB wx g9 R ∧ R.length = n ∧ AllB R := by
  obtain ⟨R, h1, h2, h3 | ⟨g9, h4, h5, h6⟩⟩ := h.got
  · rw [h3] at h1; simp at h1; omega
  · exact ⟨g9, R, h4, h5, h6, h1, h2⟩
theorem Inn.set {w wr wx : World} {b g mb mg n g9 j : Nat} {base : Int} {l L R : List Int} {v : Int} (h : Inn w wr wx b g mb mg (some ⟨g9, 0, none⟩) base L n) (hP : Pl w wr b g mb mg base l) (hg : wr.heap.size ≤ g9) (hr : RowB wx g9 R) (hl : R.length = n) (ha : AllB R) (hv : 0 ≤ v ∧ v ≤ 255) : Inn w wr (wx.setCell ⟨g9, j, none⟩ (.int .u8 v)) b g mb mg (some ⟨g9, 0, none⟩) base L n := by
  have hb := hP.isA.lt
  have hgg := hP.isA.row.lt
  have hmb := hP.isM.lt
  have hmg := hP.isM.row.lt
  refine ⟨h.pl.tg (Tg.ofOnly (Only.set g9 j _ wx)) (by omega) (by omega) (by omega) (by omega) (Nat.le_trans hP.low.size hg), R.set j v, by simp [hl], ?_, .inr ⟨g9, rfl, hg, hr.set j v⟩⟩
  intro x hx
  rcases List.mem_or_eq_of_mem_set hx with h | rfl
  · exact ha x h
  · exact hv
end Go.Proofs.Ytjejholognpbaaa
