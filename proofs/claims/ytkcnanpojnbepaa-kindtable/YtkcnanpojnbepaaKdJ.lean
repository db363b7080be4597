/- A kind that has its list for itself: what alike and the document's Copy answer. -/
import Derived.Test.YtkcnanpojnbepaaKdI
namespace Go.Proofs.Ytkcnanpojnbepaa
open Go.RowKit
set_option linter.unusedVariables false

theorem cell_set {w : World} {g j : Nat} {u v : Value} (h : w.cell? ⟨g, j, none⟩ = some u) : (w.setCell ⟨g, j, none⟩ v).cell? ⟨g, j, none⟩ = some v := by
  simp only [World.cell?, World.setCell, Array.getElem?_modify] at h ⊢
  split at h
  · rename_i c t fr hh
    simp at h
    have hj : j < c.size := by
      have := h
      exact (Array.getElem?_eq_some_iff.1 this).1
    simp [hh, hj]
  · cases h

theorem cell_else {w : World} {g j k : Nat} {v : Value} (h : k ≠ j) : (w.setCell ⟨g, j, none⟩ v).cell? ⟨g, k, none⟩ = w.cell? ⟨g, k, none⟩ := by
  simp only [World.cell?, World.setCell, Array.getElem?_modify]
  rcases hh : w.heap[g]? with _ | o
  · simp
  · rcases o with ⟨c, t, fr⟩ | _ <;> simp [Ne.symm h]

theorem frozen_set {w : World} {g j k : Nat} {v : Value} : (w.setCell ⟨g, j, none⟩ v).frozen? ⟨g, k, none⟩ = w.frozen? ⟨g, k, none⟩ := by
  simp only [World.frozen?, World.setCell, Array.getElem?_modify]
  rcases hh : w.heap[g]? with _ | o
  · simp
  · rcases o with ⟨c, t, fr⟩ | _ <;> simp

/-- A kind is stored into its variable. -/
def laid (w : World) (g : Nat) (k : Int) (v : Value) : World := (w.setCell ⟨g, 0, none⟩ (.int .i64 k)).setCell ⟨g, 1, none⟩ v

theorem laid0 {w : World} {g : Nat} {k : Int} {v u : Value} (h : w.cell? ⟨g, 0, none⟩ = some u) : (laid w g k v).cell? ⟨g, 0, none⟩ = some (.int .i64 k) := by
  rw [laid, cell_else (by decide), cell_set h]
theorem laid1 {w : World} {g : Nat} {k : Int} {v u : Value} (h : w.cell? ⟨g, 1, none⟩ = some u) : (laid w g k v).cell? ⟨g, 1, none⟩ = some v := by
  rw [laid, cell_set (u := u)]
  rw [cell_else (by decide)]; exact h
theorem laid_below {w w' : World} {g B : Nat} {k : Int} {v : Value} (h : Below B w w') (hB : B ≤ g) : Below B w (laid w' g k v) := (h.setCell hB _).setCell hB _
theorem laid_ownsI {w : World} {g base cap : Nat} {k : Int} {v : Value} {a : Option Addr} {l : List Int} (h : OwnsI w base a l cap) (hg : g < base) : OwnsI (laid w g k v) base a l cap :=
  ownsRow_setCell_below (ownsRow_setCell_below h (a := ⟨g, 0, none⟩) hg _) (a := ⟨g, 1, none⟩) hg _

/-- A kind's box and the box of what is answered. -/
def two (w : World) (s : Int) (a : Option Addr) (n c : Nat) : World := (w.alloc (.cells #[.int .i64 s, .slice a n c] 24)).alloc (.cells #[.int .i64 0, .slice none 0 0] 24)
theorem two_below (w : World) (s : Int) (a : Option Addr) (n c : Nat) : Below w.heap.size w (two w s a n c) := (box_below w s a n c).alloc (by simp) _
theorem two_size (w : World) (s : Int) (a : Option Addr) (n c : Nat) : (two w s a n c).heap.size = w.heap.size + 2 := by simp [two]
theorem two_cells (w : World) (s : Int) (a : Option Addr) (n c : Nat) : (two w s a n c).cell? ⟨w.heap.size, 0, none⟩ = some (.int .i64 s) ∧ (two w s a n c).cell? ⟨w.heap.size, 1, none⟩ = some (.slice a n c) ∧ (two w s a n c).cell? ⟨w.heap.size + 1, 0, none⟩ = some (.int .i64 0) ∧ (two w s a n c).cell? ⟨w.heap.size + 1, 1, none⟩ = some (.slice none 0 0) ∧
    (two w s a n c).frozen? ⟨w.heap.size + 1, 0, none⟩ = false ∧ (two w s a n c).frozen? ⟨w.heap.size + 1, 1, none⟩ = false := by
  have h1 : (two w s a n c).heap[w.heap.size]? = some (.cells #[.int .i64 s, .slice a n c] 24 (0, 0)) := by
    unfold two
    rw [((Below.refl _ (w.alloc (.cells #[.int .i64 s, .slice a n c] 24))).alloc (Nat.le_refl _) (.cells #[.int .i64 0, .slice none 0 0] 24)).block w.heap.size (by simp)]
    exact Go.heap_alloc_new w _
  have h2 : (two w s a n c).heap[w.heap.size + 1]? = some (.cells #[.int .i64 0, .slice none 0 0] 24 (0, 0)) := by
    have := Go.heap_alloc_new (w.alloc (.cells #[.int .i64 s, .slice a n c] 24)) (.cells #[.int .i64 0, .slice none 0 0] 24)
    rw [show (w.alloc (.cells #[.int .i64 s, .slice a n c] 24)).heap.size = w.heap.size + 1 from by simp] at this
    exact this
  exact ⟨cell_of_row _ _ 0 _ _ _ h1, cell_of_row _ _ 1 _ _ _ h1, cell_of_row _ _ 0 _ _ _ h2, cell_of_row _ _ 1 _ _ _ h2, frozen_of_row _ _ 0 _ _ h2, frozen_of_row _ _ 1 _ _ h2⟩
theorem bfrozenK {w w' : World} {p : Addr} {v : Value} (hb : Below w.heap.size w w') (h : w.cell? p = some v) (z : w.frozen? p = false) : w'.frozen? p = false := (hb.frozen (World.block_lt_of_cell? w p h)).trans z

set_option maxRecDepth 20000 in
set_option maxHeartbeats 2000000 in
theorem alike_any (s : Int) (a : Option Addr) (c n : Nat) (l : List Int) (w : World) (hn : n = l.length) (hI : IsI w a l) (hnil : a = none → l = [] ∧ c = 0) (hlen : l.length ≤ 17592186044416) :
    Calls Try.prog 44 #[.agg #[.int .i64 s, .slice a n c]] w fun e w' => ∃ a' c', e = .returned (.agg #[.int .i64 s, .slice a' l.length c']) ∧ OwnsI w' w.heap.size a' l c' ∧ Below w.heap.size w w' := by
  subst hn
  have HB : Hid (Below w.heap.size w (two w s a l.length c)) := two_below w s a _ c
  have I1 : Hid (IsI (two w s a l.length c) a l) := hI.keep HB.out
  have HN : Hid (a = none → l = [] ∧ c = 0) := hnil
  have TC : Hid _ := two_cells w s a l.length c
  obtain ⟨q0, q1, q2, q3, z2, z3⟩ := two_cells w s a l.length c
  have z0 := two_size w s a l.length c
  clear hI hnil
  obtain ⟨D, hD⟩ : ∃ D, two w s a l.length c = D := ⟨_, rfl⟩
  have ED : (w.alloc (.cells #[.int .i64 s, .slice a l.length c] 24)).alloc (.cells #[.int .i64 0, .slice none 0 0] 24) = D := hD
  rw [hD] at HB I1 q0 q1 q2 q3 z2 z3 z0
  clear hD TC
  go_enter Try.func44, Try.ntmps44
  go_wp2_with fail
  go_region_held3 (fun w' => w'.cell? ⟨w.heap.size, 0, none⟩ = some (.int .i64 s) ∧ w'.cell? ⟨w.heap.size, 1, none⟩ = some (.slice a l.length c)) (first | assumption | exact ⟨by assumption, by assumption⟩ | go_keep)
    ((go_at_call 50; refine (clonei_any a c _ l _ rfl I1.out.drew HN.out hlen).mono ?_; rintro e w2 ⟨a2, c2, rfl, o2, b2⟩; have B2 : Hid (Below D.heap.size D w2) := Below.ofDrew b2; have O2 : Hid (OwnsI w2 D.heap.size a2 l c2) := o2; have r0 := bcellK B2.out q0; have r1 := bcellK B2.out q1; have r2 := bcellK B2.out q2; have r3 := bcellK B2.out q3; have y2 := bfrozenK B2.out q2 z2; have y3 := bfrozenK B2.out q3 z3; clear o2 b2))
  have e0 := laid0 (k := s) (v := .slice a2 l.length c2) r2
  have e1 := laid1 (k := s) (v := .slice a2 l.length c2) r3
  have O3 : Hid (OwnsI (laid w2 (w.heap.size + 1) s (.slice a2 l.length c2)) w.heap.size a2 l c2) := (laid_ownsI O2.out (by omega)).mono (by omega)
  have B3 : Hid (Below w.heap.size w (laid w2 (w.heap.size + 1) s (.slice a2 l.length c2))) := laid_below (HB.out.trans (B2.out.mono (by omega))) (by omega)
  unfold laid at e0 e1
  go_wp2
  refine bodyPost_ret (v := .agg #[.int .i64 s, .slice a2 l.length c2]) (by simp [results, Try.results44, go_sem, e0, e1]) rfl ⟨a2, c2, rfl, O3.out, B3.out⟩
end Go.Proofs.Ytkcnanpojnbepaa
