/- Layer 17: what Read of the document goes by: a reader, an image under way, and the result's cell. -/
import Derived.Test.YtbajchidpffbpaaDoorIgJ
import Derived.Test.YtbajchidpffbpaaDoorIgD
import Derived.Test.YtbajchidpffbpaaDoorJrRoF
import Derived.Test.YtbajchidpffbpaaDoorGtG
import Derived.Test.YtbajchidpffbpaaDoorGtF
namespace Go.Proofs.YtbajchidpffbpaaDoor
open Go.RowKit
set_option linter.unusedVariables false
set_option maxRecDepth 4000

theorem newrfG {w D : World} {B g cap base : Nat} {l : List Int} (h : w.alloc (.cells #[.slice (some ⟨g, 0, none⟩) l.length cap, .int .i64 0] 84) = D) (o : OwnsB w base (some ⟨g, 0, none⟩) l cap) (hb : AllB l) (hB : B < base) : RfAt D B w.heap.size l 0 ∧ Below w.heap.size w D := by
  have bel : Below w.heap.size w D := by rw [← h]; exact (Below.refl _ w).alloc (Nat.le_refl _) _
  refine ⟨⟨some ⟨g, 0, none⟩, cap, by rw [← h]; exact Go.heap_alloc_new w _, (rownsB_isL o).1, (rownsB_isL o).2.1, hb, ?_⟩, bel⟩
  have o' := o
  obtain ⟨_, ⟨h1, _⟩ | ⟨g', c', cur, h1, hg, h2, _⟩⟩ := o'
  · cases h1
  · cases h1
    by_cases hl : l = []
    · exact .inl hl
    · refine .inr ⟨g, 0, rfl, by omega, (Array.getElem?_eq_some_iff.1 h2).1, fun i hi => ?_⟩
      rw [bel.cell (p := ⟨g, 0 + i, none⟩) (Array.getElem?_eq_some_iff.1 h2).1]
      exact (ownsB_isB hb o).at i hi
theorem roread_fault (lo B : Nat) (l : List Int) (er : Int) (w : World) (h : RfAt w lo B l er) (hne : er ≠ 0) :
    Calls Tryd.prog 55 #[.pointer (some ⟨B, 0, none⟩)] w (ReadQ w lo B [] [] er) := by
  have HR : Hid (RfAt w lo B l er) := h
  have HU : Hid (upS l er 8192 = (0, l, er)) := if_neg hne
  have hq : (er != 0) = true := by rw [bne_iff_ne]; exact hne
  clear h
  go_enter Tryd.func55, Tryd.ntmps55
  go_wp2_with fail
  refine (rupto_any lo B l er 8192 _ HR.out).mono ?_
  rw [HU.out]
  rintro r w1 ⟨rfl, r1, g1⟩
  have R1 : Hid (RfAt w1 lo B l er) := r1
  have T1 : Hid (Tg B w w1) := Tg.ofGrown g1
  have c2 := r1.err
  clear r1 g1
  go_wp2
  refine wp_loop_rounds 1 ?_
  rw [rounds_succ]
  go_wp2
  go_ret
  exact ⟨none, 0, l, rfl, IsI.nil _ _, fun _ => ⟨rfl, rfl⟩, R1.out, fun h => absurd h hne, T1.out, (fun ad h => by cases h), by simp⟩
/-- A table that is read off any reader of the document's. -/
def TabQ (w : World) (lo B : Nat) (l : List Int) (e0 : Int) (e : Ending) (w' : World) : Prop :=
  ∃ a' c' ps l' er, e = .returned (.slice a' (List.length ps) c') ∧ IsI w' a' ps ∧ RfAt w' lo B l' er ∧ Tg B w w' ∧ (∀ ad, a' = some ad → w.heap.size ≤ ad.block) ∧ ps.length ≤ 8192 ∧
    ((e0 ≠ 0 ∧ er = e0) ∨ (e0 = 0 ∧ er ≠ 0 ∧ (readT l).2.2 = er) ∨ (e0 = 0 ∧ er = 0 ∧ readT l = (ps, l', 0)))
theorem rotab_any (lo B : Nat) (l : List Int) (e0 : Int) (w : World) (h : RfAt w lo B l e0) : Calls Tryd.prog 55 #[.pointer (some ⟨B, 0, none⟩)] w (TabQ w lo B l e0) := by
  by_cases he : e0 = 0
  · subst he
    rcases hk : readT l with ⟨ps, rest, er⟩
    refine (roread_any lo B l ps rest er w h hk).mono ?_
    rintro e w' ⟨a', c', l', q1, q2, q3, q4, q5, q6, q7, q8⟩
    refine ⟨a', c', ps, l', er, q1, q2, q4, q6, q7, q8, ?_⟩
    by_cases h0 : er = 0
    · subst h0
      rw [q5 rfl]
      exact .inr (.inr ⟨rfl, rfl, hk⟩)
    · exact .inr (.inl ⟨rfl, h0, by rw [hk]⟩)
  · refine (roread_fault lo B l e0 w h he).mono ?_
    rintro e w' ⟨a', c', l', q1, q2, q3, q4, q5, q6, q7, q8⟩
    exact ⟨a', c', [], l', e0, q1, q2, q4, q6, q7, q8, .inl ⟨he, rfl⟩⟩

/-- What stands under way. -/
structure Sd (w wk : World) (lo B M : Nat) (l : List Int) (e : Int) (p c s : Int) (la : Option Addr) (ln lc : Nat) (base : Int) (oa : Option Addr) (on oc : Nat) (ba : Option Addr) (bn bc : Nat) : Prop where
  rd : RfAt wk lo B l e
  row : wk.heap[M]? = some (.cells (icells p c s la ln lc base oa on oc ba bn bc) 36 (0, 0))
  res : wk.heap[w.heap.size]? = some (.cells z7 36 (0, 0))
  low : Below w.heap.size w wk
  hB : w.heap.size < B
  hM : B < M
theorem Sd.tg {w wk wj : World} {lo B M : Nat} {l l2 : List Int} {e e2 p c s : Int} {la : Option Addr} {ln lc : Nat} {base : Int} {oa : Option Addr} {on oc : Nat} {ba : Option Addr} {bn bc : Nat} (h : Sd w wk lo B M l e p c s la ln lc base oa on oc ba bn bc) (t : Tg B wk wj) (r : RfAt wj lo B l2 e2) : Sd w wj lo B M l2 e2 p c s la ln lc base oa on oc ba bn bc :=
  ⟨r, by rw [t.block M (row_lt h.row) (by have := h.hM; omega)]; exact h.row, by rw [t.block w.heap.size (row_lt h.res) (by have := h.hB; omega)]; exact h.res, h.low.trans (t.below (by have := h.hB; omega) h.low.size), h.hB, h.hM⟩
theorem Sd.keep {w wk wj : World} {lo B M : Nat} {l : List Int} {e p c s : Int} {la : Option Addr} {ln lc : Nat} {base : Int} {oa : Option Addr} {on oc : Nat} {ba : Option Addr} {bn bc : Nat} (h : Sd w wk lo B M l e p c s la ln lc base oa on oc ba bn bc) (b : Below wk.heap.size wk wj) : Sd w wj lo B M l e p c s la ln lc base oa on oc ba bn bc :=
  h.tg (Tg.ofBelow b) (rf_keep h.rd b)
theorem Sd.only {w wk wj : World} {lo B M : Nat} {l : List Int} {e p c s p' c' s' : Int} {la la' : Option Addr} {ln lc ln' lc' : Nat} {base base' : Int} {oa oa' : Option Addr} {on oc on' oc' : Nat} {ba ba' : Option Addr} {bn bc bn' bc' : Nat} (h : Sd w wk lo B M l e p c s la ln lc base oa on oc ba bn bc) (o : Only M wk wj) (r : wj.heap[M]? = some (.cells (icells p' c' s' la' ln' lc' base' oa' on' oc' ba' bn' bc') 36 (0, 0))) : Sd w wj lo B M l e p' c' s' la' ln' lc' base' oa' on' oc' ba' bn' bc' :=
  ⟨h.rd.below (base := B + 1) (o.below (by have := h.hM; omega)) (by omega), r, by rw [o.block w.heap.size (by have := h.hB; have := h.hM; omega)]; exact h.res, h.low.trans (o.below (by have := h.hB; have := h.hM; omega)), h.hB, h.hM⟩
theorem Sd.set4 {w wk : World} {lo B M : Nat} {l : List Int} {e p c s : Int} {la : Option Addr} {ln lc : Nat} {base : Int} {oa : Option Addr} {on oc : Nat} {ba : Option Addr} {bn bc : Nat} (h : Sd w wk lo B M l e p c s la ln lc base oa on oc ba bn bc) (b' : Int) : Sd w (wk.setCell ⟨M, 4, none⟩ (.int .i64 b')) lo B M l e p c s la ln lc b' oa on oc ba bn bc :=
  h.only (Only.set M 4 _ _) (heap_setCell_same wk M 4 _ _ (.int .i64 b') h.row)
theorem Sd.set5 {w wk : World} {lo B M : Nat} {l : List Int} {e p c s : Int} {la : Option Addr} {ln lc : Nat} {base : Int} {oa : Option Addr} {on oc : Nat} {ba : Option Addr} {bn bc : Nat} (h : Sd w wk lo B M l e p c s la ln lc base oa on oc ba bn bc) (a' : Option Addr) (n' k' : Nat) : Sd w (wk.setCell ⟨M, 5, none⟩ (.slice a' n' k')) lo B M l e p c s la ln lc base a' n' k' ba bn bc :=
  h.only (Only.set M 5 _ _) (heap_setCell_same wk M 5 _ _ (.slice a' n' k') h.row)
theorem Sd.set6 {w wk : World} {lo B M : Nat} {l : List Int} {e p c s : Int} {la : Option Addr} {ln lc : Nat} {base : Int} {oa : Option Addr} {on oc : Nat} {ba : Option Addr} {bn bc : Nat} (h : Sd w wk lo B M l e p c s la ln lc base oa on oc ba bn bc) (a' : Option Addr) (n' k' : Nat) : Sd w (wk.setCell ⟨M, 6, none⟩ (.slice a' n' k')) lo B M l e p c s la ln lc base oa on oc a' n' k' :=
  h.only (Only.set M 6 _ _) (heap_setCell_same wk M 6 _ _ (.slice a' n' k') h.row)
theorem Sd.ic {w wk : World} {lo B M : Nat} {l : List Int} {e p c s : Int} {la : Option Addr} {ln lc : Nat} {base : Int} {oa : Option Addr} {on oc : Nat} {ba : Option Addr} {bn bc : Nat} (h : Sd w wk lo B M l e p c s la ln lc base oa on oc ba bn bc) : Ic wk M p c s la ln lc base oa on oc ba bn bc := icell h.row

theorem Sd.set3 {w wk : World} {lo B M : Nat} {l : List Int} {e p c s : Int} {la : Option Addr} {ln lc : Nat} {base : Int} {oa : Option Addr} {on oc : Nat} {ba : Option Addr} {bn bc : Nat} (h : Sd w wk lo B M l e p c s la ln lc base oa on oc ba bn bc) (a' : Option Addr) (n' k' : Nat) : Sd w (wk.setCell ⟨M, 3, none⟩ (.slice a' n' k')) lo B M l e p c s a' n' k' base oa on oc ba bn bc :=
  h.only (Only.set M 3 _ _) (heap_setCell_same wk M 3 _ _ (.slice a' n' k') h.row)
end Go.Proofs.YtbajchidpffbpaaDoor
