/- A table's calls: what New, Len, Get and Add answer. -/
import Derived.Test.YtkcnanpojnbepaaKfA
namespace Go.Proofs.Ytkcnanpojnbepaa
open Go.RowKit
set_option linter.unusedVariables false

theorem tnew_any (w : World) : Calls Try.prog 27 #[] w fun e w' => ∃ t, e = .returned (.pointer (some ⟨t, 0, none⟩)) ∧ Tb w' w.heap.size w.heap.size t none 0 [] ∧ Below w.heap.size w w' := by
  go_enter Try.func27, Try.ntmps27
  go_wp2
  go_ret
  refine ⟨w.heap.size, rfl, ⟨Go.heap_alloc_new w _, rowK_nil _ _, fun k hk => by (cases hk), fun k hk => by (cases hk), fun k hk => by (cases hk), Nat.zero_le _, Nat.le_refl _⟩, (Below.refl _ w).alloc (Nat.le_refl _) _⟩

theorem tlen_any (base lb t : Nat) (ar : Option Addr) (cr : Nat) (ks : List Kd) (w : World) (h : Tb w base lb t ar cr ks) :
    Calls Try.prog 30 #[.pointer (some ⟨t, 0, none⟩)] w fun e w' => e = .returned (.int .i64 ks.length) ∧ w = w' := by
  have c0 := h.cell
  clear h
  go_enter Try.func30, Try.ntmps30
  go_wp2
  go_ret
  exact ⟨rfl, rfl⟩

set_option maxHeartbeats 2000000 in
theorem tget_ok (base lb t : Nat) (ar : Option Addr) (cr : Nat) (ks : List Kd) (i : Nat) (w : World) (h : Tb w base lb t ar cr ks) (hi : i < ks.length) :
    Calls Try.prog 29 #[.pointer (some ⟨t, 0, none⟩), .int .i64 (i : Nat)] w fun e w' => ∃ a' c', e = .returned (.tuple #[.agg #[.int .i64 ks[i].s, .slice a' ks[i].l.length c'], .int .i64 0]) ∧ OwnsI w' w.heap.size a' ks[i].l c' ∧ Below w.heap.size w w' := by
  obtain ⟨D, hD⟩ : ∃ D, w.alloc (.cells #[.int .i64 0, .slice none 0 0] 24) = D := ⟨_, rfl⟩
  have bD : Below w.heap.size w D := by rw [← hD]; exact (Below.refl _ w).alloc (Nat.le_refl _) _
  have hbx : D.heap[w.heap.size]? = some (.cells #[.int .i64 0, .slice none 0 0] 24 (0, 0)) := by rw [← hD]; exact Go.heap_alloc_new w _
  have hT := h.keep bD
  have c0 := hT.cell
  obtain ⟨g, rfl, hg, k0, k1⟩ := hT.row.cells i hi
  obtain ⟨I0, N0, L0⟩ := hT.isI ks[i] (List.getElem_mem hi)
  generalize ks[i] = k at *
  obtain ⟨s, a, c, l⟩ := k
  dsimp only at k0 k1 I0 N0 L0 ⊢
  have HI : Hid (IsI D a l) := I0
  have HN : Hid (a = none → l = [] ∧ c = 0) := N0
  have BD : Hid (Below w.heap.size w D) := bD
  have HX : Hid _ := hbx
  have hlen := h.len
  have hii : (i : Int) < (ks.length : Int) := by omega
  clear h hT I0 N0 bD hbx
  go_enter Try.func29, Try.ntmps29
  go_wp2_with fail
  refine (alike_any s a c _ l _ rfl HI.out HN.out (by omega)).mono ?_
  rintro e w1 ⟨a1, c1, rfl, o1, b1⟩
  have hb1 : w1.heap[w.heap.size]? = some (.cells #[.int .i64 0, .slice none 0 0] 24 (0, 0)) := by rw [b1.block _ (Array.getElem?_eq_some_iff.1 HX.out).1]; exact HX.out
  have r0 : w1.cell? ⟨w.heap.size, 0, none⟩ = some (.int .i64 0) := cell_of_row _ _ 0 _ _ _ hb1
  have r1 : w1.cell? ⟨w.heap.size, 1, none⟩ = some (.slice none 0 0) := cell_of_row _ _ 1 _ _ _ hb1
  have z0 := frozen_of_row w1 w.heap.size 0 _ _ hb1
  have z1 := frozen_of_row w1 w.heap.size 1 _ _ hb1
  have zD : w.heap.size < D.heap.size := (Array.getElem?_eq_some_iff.1 HX.out).1
  have e0 := laid0 (k := s) (v := .slice a1 l.length c1) r0
  have e1 := laid1 (k := s) (v := .slice a1 l.length c1) r1
  have O3 : Hid (OwnsI (laid w1 w.heap.size s (.slice a1 l.length c1)) w.heap.size a1 l c1) := (laid_ownsI o1 zD).mono (by omega)
  have B3 : Hid (Below w.heap.size w (laid w1 w.heap.size s (.slice a1 l.length c1))) := laid_below (BD.out.trans (b1.mono (by omega))) (Nat.le_refl _)
  unfold laid at e0 e1
  clear o1 b1 hb1 hD
  go_wp2
  refine bodyPost_ret (v := .tuple #[.agg #[.int .i64 s, .slice a1 l.length c1], .int .i64 0]) (by simp [results, Try.results29, go_sem, e0, e1]) rfl ⟨a1, c1, rfl, O3.out, B3.out⟩

theorem tget_out (base lb t : Nat) (ar : Option Addr) (cr : Nat) (ks : List Kd) (i : Int) (w : World) (h : Tb w base lb t ar cr ks) (hi : i < 0 ∨ (ks.length : Int) ≤ i) :
    Calls Try.prog 29 #[.pointer (some ⟨t, 0, none⟩), .int .i64 i] w fun e w' => e = .returned (.tuple #[.agg #[.int .i64 0, .slice none 0 0], .int .i64 11]) ∧ Below w.heap.size w w' := by
  have B1 : Hid (Below w.heap.size w (w.alloc (.cells #[.int .i64 0, .slice none 0 0] 24))) := (Below.refl _ w).alloc (Nat.le_refl _) _
  have c0 := (h.keep B1.out).cell
  have hcs : i < 0 ∨ (0 ≤ i ∧ (ks.length : Int) ≤ i) := by omega
  clear h hi
  rcases hcs with h1 | ⟨h1, h2⟩
  all_goals
    go_enter Try.func29, Try.ntmps29
    go_wp2
    refine bodyPost_ret (v := .tuple #[.agg #[.int .i64 0, .slice none 0 0], .int .i64 11]) (by simp [results, Try.results29, go_sem]) rfl ⟨rfl, B1.out⟩
end Go.Proofs.Ytkcnanpojnbepaa
