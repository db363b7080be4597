/- How the kinds that came in are opened. -/
import Derived.Test.YtkcnanpojnbepaaKeZ
import Derived.Test.YtkcnanpojnbepaaKfD
namespace Go.Proofs.Ytkcnanpojnbepaa
open Go.ChangeShapes Go.WideShapes Go.ChangeAt Go.RowKit
set_option linter.unusedVariables false

theorem Try.cellsKind : Try.prog.cellsOf 24 = 2 := by kernel_rfl
theorem Try.cellsInt : Try.prog.cellsOf 3 = 1 := by kernel_rfl
theorem Try.cellsInts : Try.prog.cellsOf 22 = 1 := by kernel_rfl

theorem open_kinds {H : Type} {enc : TypeId × Value → H} {W : World} {a : Option Addr} {len cap : Nat} {d : DataW H} {p : List MemPlace} (h : DataW.Trod enc Try.prog W 0 (fun _ => true) true 50 (.slice a len cap) d p) :
    ∃ ks : List Kd, ks.length = len ∧ IsK W a ks ∧ len ≤ maxLen ∧ ((∀ n ∈ d.weights Try.prog 50, n ≤ reachBytes) → True) := by
  obtain ⟨fuel, hf⟩ := h
  rcases Deep.open_slice Try.underlying50 hf with ⟨hcs, hx⟩ | ⟨x, l, c, m, n, D, Pl, hcs, hb, hl, hm, hmm, hx, hcell⟩
  · simp [Value.cells] at hcs
    obtain ⟨rfl, rfl, rfl⟩ := hcs
    exact ⟨[], rfl, ⟨.inl rfl, fun x hx => by cases hx⟩, Nat.zero_le _, fun _ => trivial⟩
  · simp [Value.cells] at hcs
    obtain ⟨rfl, rfl, rfl⟩ := hcs
    simp only [if_true] at hmm
    subst hmm
    rw [Try.cellsKind] at hcell
    have each : ∀ i, i < len → ∃ q : Kd, (W.cell? (x.add (i * 2)) = some (.int .i64 q.s) ∧ W.cell? (x.add (i * 2 + 1)) = some (.slice q.a q.l.length q.c)) ∧ IsI W q.a q.l ∧ (q.a = none → q.l = [] ∧ q.c = 0) ∧ q.l.length ≤ maxLen := by
      intro i hi
      obtain ⟨cs', h1, h2⟩ := hcell i (by omega)
      obtain ⟨_, hlen, hc⟩ := World.cells?_some h1
      obtain ⟨xs, k, _, hD, _, hxl, hfs⟩ := DataW.trod_struct Try.underlying24 h2
      match cs', hlen, xs, hxl with
      | [u0, u1], _, [y0, y1], _ =>
        have g0 := hfs 0 _ rfl
        have g1 := hfs 1 _ rfl
        obtain ⟨z0, e0, _, f0⟩ := DataW.trod_int Try.underlying3 g0
        obtain ⟨a5, c5, l5, e1, m5, n5, o5, p5⟩ := ints_cells g1
        simp [Try.cellsInt, Try.cellsInts] at e0 e1
        subst e0 e1
        have c0 := hc 0 (by omega)
        have c1 := hc 1 (by omega)
        rw [Deep.add_add] at c0 c1
        exact ⟨⟨z0, a5, c5, l5⟩, ⟨by simpa using c0, by simpa using c1⟩, m5, n5, o5⟩
    have pick : ∃ q : Nat → Kd, ∀ i, i < len → (W.cell? (x.add (i * 2)) = some (.int .i64 (q i).s) ∧ W.cell? (x.add (i * 2 + 1)) = some (.slice (q i).a (q i).l.length (q i).c)) ∧ IsI W (q i).a (q i).l ∧ ((q i).a = none → (q i).l = [] ∧ (q i).c = 0) ∧ (q i).l.length ≤ maxLen := by
      refine ⟨fun i => if h : i < len then Classical.choose (each i h) else ⟨0, none, 0, []⟩, fun i hi => ?_⟩
      simp only [dif_pos hi]
      exact Classical.choose_spec (each i hi)
    obtain ⟨q, hq⟩ := pick
    refine ⟨(List.range len).map q, by simp, ⟨?_, ?_⟩, by omega, fun _ => trivial⟩
    · by_cases h0 : len = 0
      · exact .inl (by rw [h0]; rfl)
      · obtain ⟨b, off, spot⟩ := x
        have h1 := (hq 0 (by omega)).1.1
        have hspot : spot = none := by simpa [Addr.add] using World.cell?_spot h1
        subst hspot
        refine .inr ⟨b, off, rfl, ?_, ?_⟩
        · rw [addr_add] at h1
          exact lt_of_cell h1
        · intro i hi
          obtain ⟨⟨c0, c1⟩, _⟩ := hq i (by simpa using hi)
          rw [addr_add] at c0 c1
          simp only [List.getElem_map, List.getElem_range]
          exact ⟨c0, by rw [Nat.add_assoc]; exact c1⟩
    · intro y hy
      obtain ⟨i, hi, rfl⟩ := List.mem_map.1 hy
      exact (hq i (by simpa using hi)).2
end Go.Proofs.Ytkcnanpojnbepaa
