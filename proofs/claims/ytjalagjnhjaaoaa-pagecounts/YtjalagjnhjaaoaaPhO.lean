/- Layer 18: how the rows and the kinds that came in are opened. -/
import Derived.Test.YtjalagjnhjaaoaaKeZ
import Derived.Test.YtjalagjnhjaaoaaPgF
import Derived.Deep.Slices
namespace Go.Proofs.Ytjalagjnhjaaoaa
open Go.ChangeShapes Go.WideShapes Go.ChangeAt Go.RowKit
set_option linter.unusedVariables false
set_option maxRecDepth 4000

theorem Try.cRow : Try.prog.cellsOf 51 = 4 := by kernel_rfl
theorem Try.cInt : Try.prog.cellsOf 3 = 1 := by kernel_rfl
theorem Try.cBool : Try.prog.cellsOf 4 = 1 := by kernel_rfl
theorem Try.bytesRow : Try.prog.bytesOf 51 = 32 := by kernel_rfl
theorem Try.cellsKind : Try.prog.cellsOf 54 = 2 := by kernel_rfl
theorem Try.cellsInt : Try.prog.cellsOf 3 = 1 := by kernel_rfl
theorem Try.cellsInts : Try.prog.cellsOf 52 = 1 := by kernel_rfl

theorem open_kinds {H : Type} {enc : TypeId × Value → H} {W : World} {a : Option Addr} {len cap : Nat} {d : DataW H} {p : List MemPlace} (h : DataW.Trod enc Try.prog W 0 (fun _ => true) true 39 (.slice a len cap) d p) :
    ∃ ks : List Kd, ks.length = len ∧ IsK W a ks ∧ len ≤ maxLen ∧ (a = none → ks = [] ∧ cap = 0) ∧ len ≤ cap := by
  obtain ⟨fuel, hf⟩ := h
  rcases Deep.open_slice Try.underlying39 hf with ⟨hcs, hx⟩ | ⟨x, l, c, m, n, D, Pl, hcs, hb, hl, hm, hmm, hx, hcell⟩
  · simp [Value.cells] at hcs
    obtain ⟨rfl, rfl, rfl⟩ := hcs
    exact ⟨[], rfl, ⟨.inl rfl, fun x hx => by cases hx⟩, Nat.zero_le _, fun _ => ⟨rfl, rfl⟩, Nat.le_refl _⟩
  · simp [Value.cells] at hcs
    obtain ⟨rfl, rfl, rfl⟩ := hcs
    simp only [if_true] at hmm
    subst hmm
    rw [Try.cellsKind] at hcell
    have each : ∀ i, i < len → ∃ q : Kd, (W.cell? (x.add (i * 2)) = some (.int .i64 q.s) ∧ W.cell? (x.add (i * 2 + 1)) = some (.slice q.a q.l.length q.c)) ∧ IsI W q.a q.l ∧ (q.a = none → q.l = [] ∧ q.c = 0) ∧ q.l.length ≤ maxLen := by
      intro i hi
      obtain ⟨cs', h1, h2⟩ := hcell i (by omega)
      obtain ⟨_, hlen, hc⟩ := World.cells?_some h1
      obtain ⟨xs, k, _, hD, _, hxl, hfs⟩ := DataW.trod_struct Try.underlying54 h2
      match cs', hlen, xs, hxl with
      | [u0, u1], _, [y0, y1], _ =>
        have g0 := hfs 0 _ rfl
        have g1 := hfs 1 _ rfl
        obtain ⟨z0, e0, _, f0⟩ := DataW.trod_int Try.underlying3 g0
        obtain ⟨a5, c5, l5, e1, m5, n5, o5, p5⟩ := ints_cells g1
        simp [Try.cellsInt, Try.cellsInts] at e0 e1
        subst e0 e1
        have c0 := hc 0 (by omega)
        have c1 := hc 1 (by omega)
        rw [Deep.add_add] at c0 c1
        exact ⟨⟨z0, a5, c5, l5⟩, ⟨by simpa using c0, by simpa using c1⟩, m5, n5, o5⟩
    have pick : ∃ q : Nat → Kd, ∀ i, i < len → (W.cell? (x.add (i * 2)) = some (.int .i64 (q i).s) ∧ W.cell? (x.add (i * 2 + 1)) = some (.slice (q i).a (q i).l.length (q i).c)) ∧ IsI W (q i).a (q i).l ∧ ((q i).a = none → (q i).l = [] ∧ (q i).c = 0) ∧ (q i).l.length ≤ maxLen := by
      refine ⟨fun i => if h : i < len then Classical.choose (each i h) else ⟨0, none, 0, []⟩, fun i hi => ?_⟩
      simp only [dif_pos hi]
      exact Classical.choose_spec (each i hi)
    obtain ⟨q, hq⟩ := pick
    refine ⟨(List.range len).map q, by simp, ⟨?_, ?_⟩, by omega, fun e => (by cases e), by omega⟩
    · by_cases h0 : len = 0
      · exact .inl (by rw [h0]; rfl)
      · obtain ⟨b, off, spot⟩ := x
        have h1 := (hq 0 (by omega)).1.1
        have hspot : spot = none := by simpa [Addr.add] using World.cell?_spot h1
        subst hspot
        refine .inr ⟨b, off, rfl, ?_, ?_⟩
        · rw [addr_add] at h1
          exact lt_of_cell h1
        · intro i hi
          obtain ⟨⟨c0, c1⟩, _⟩ := hq i (by simpa using hi)
          rw [addr_add] at c0 c1
          simp only [List.getElem_map, List.getElem_range]
          exact ⟨c0, by rw [Nat.add_assoc]; exact c1⟩
    · intro y hy
      obtain ⟨i, hi, rfl⟩ := List.mem_map.1 hy
      exact (hq i (by simpa using hi)).2
theorem list_of {α : Type} (n : Nat) (f : Nat → α) (P : Nat → α → Prop) (h : ∀ i, i < n → P i (f i)) : ∃ l : List α, l.length = n ∧ ∀ i (hi : i < l.length), P i l[i] :=
  ⟨(List.range n).map f, by simp, fun i hi => by simp at hi; simpa using h i hi⟩

theorem open_rows {H : Type} {enc : TypeId × Value → H} {W : World} {a : Option Addr} {len cap : Nat} {d : DataW H} {p : List MemPlace} (h : DataW.Trod enc Try.prog W 0 (fun _ => true) true 22 (.slice a len cap) d p) :
    ∃ l : List HRw, l.length = len ∧ IsW W a l ∧ l.length ≤ maxLen ∧ (a = none → l = [] ∧ cap = 0) ∧ l.length ≤ cap ∧ (l = [] ∨ ∃ els sp, d = .slice els sp ∧ l.length ≤ els.length) := by
  obtain ⟨fuel, hf⟩ := h
  rcases Deep.open_slice Try.underlying22 hf with ⟨hcs, hx⟩ | ⟨x, l, c, m, n, D, Pl, hcs, hb, hl, hm, hmm, hx, hcell⟩
  · simp [Value.cells] at hcs
    obtain ⟨rfl, rfl, rfl⟩ := hcs
    exact ⟨[], rfl, (.inl rfl), Nat.zero_le _, fun _ => ⟨rfl, rfl⟩, Nat.zero_le _, .inl rfl⟩
  · simp [Value.cells] at hcs
    obtain ⟨rfl, rfl, rfl⟩ := hcs
    simp only [if_true] at hmm
    subst hmm
    rw [Try.cRow] at hcell
    have each : ∀ i, i < len → ∃ q : HRw, (W.cell? (x.add (i * 4)) = some (.int .i64 q.gen) ∧ W.cell? (x.add (i * 4 + 1)) = some (.bool q.live) ∧ W.cell? (x.add (i * 4 + 2)) = some (.int .i64 q.kind) ∧ W.cell? (x.add (i * 4 + 3)) = some (.int .i64 q.pl)) ∧ (-9223372036854775808 ≤ q.gen ∧ q.gen ≤ 9223372036854775807) ∧ (-9223372036854775808 ≤ q.kind ∧ q.kind ≤ 9223372036854775807) ∧ -9223372036854775808 ≤ q.pl ∧ q.pl ≤ 9223372036854775807 := by
      intro i hi
      obtain ⟨cs', h1, h2⟩ := hcell i (by omega)
      obtain ⟨_, hlen, hc⟩ := World.cells?_some h1
      obtain ⟨xs, k, _, hD, _, hxl, hfs⟩ := DataW.trod_struct Try.underlying51 h2
      match cs', hlen, xs, hxl with
      | [u0, u1, u2, u3], _, [y0, y1, y2, y3], _ =>
        have g0 := hfs 0 _ rfl
        have g1 := hfs 1 _ rfl
        have g2 := hfs 2 _ rfl
        have g3 := hfs 3 _ rfl
        obtain ⟨z0, e0, _, f0⟩ := DataW.trod_int Try.underlying3 g0
        obtain ⟨z1, e1, _⟩ := DataW.trod_bool Try.underlying4 g1
        obtain ⟨z2, e2, _, f2⟩ := DataW.trod_int Try.underlying3 g2
        obtain ⟨z3, e3, _, f3⟩ := DataW.trod_int Try.underlying3 g3
        simp [Try.cInt, Try.cBool] at e0 e1 e2 e3
        subst e0 e1 e2 e3
        have c0 := hc 0 (by omega)
        have c1 := hc 1 (by omega)
        have c2 := hc 2 (by omega)
        have c3 := hc 3 (by omega)
        rw [Deep.add_add] at c0 c1 c2 c3
        exact ⟨⟨z0, z1, z2, z3⟩, ⟨by simpa using c0, by simpa using c1, by simpa using c2, by simpa using c3⟩, int_of_wf f0, int_of_wf f2, int_of_wf f3⟩
    haveI : Inhabited HRw := ⟨hz⟩
    obtain ⟨q, hq⟩ := Deep.choose_lt each
    obtain ⟨cs, hl1, hcs⟩ := list_of len q (fun i q => (W.cell? (x.add (i * 4)) = some (.int .i64 q.gen) ∧ W.cell? (x.add (i * 4 + 1)) = some (.bool q.live) ∧ W.cell? (x.add (i * 4 + 2)) = some (.int .i64 q.kind) ∧ W.cell? (x.add (i * 4 + 3)) = some (.int .i64 q.pl)) ∧ (-9223372036854775808 ≤ q.gen ∧ q.gen ≤ 9223372036854775807) ∧ (-9223372036854775808 ≤ q.kind ∧ q.kind ≤ 9223372036854775807) ∧ -9223372036854775808 ≤ q.pl ∧ q.pl ≤ 9223372036854775807) hq
    refine ⟨cs, hl1, ?_, by omega, fun e => (by cases e), by omega, .inr ⟨_, _, congrArg Prod.fst hx, by simp; omega⟩⟩
    · by_cases h0 : cs.length = 0
      · exact .inl (List.eq_nil_of_length_eq_zero h0)
      · obtain ⟨b, off, spot⟩ := x
        have h1 := (hcs 0 (by omega)).1.1
        have hspot : spot = none := by simpa [Addr.add] using World.cell?_spot h1
        subst hspot
        refine .inr ⟨b, off, rfl, ?_, ?_⟩
        · rw [addr_add] at h1
          exact lt_of_cell h1
        · intro i hi
          obtain ⟨⟨c0, c1, c2, c3⟩, _⟩ := hcs i hi
          rw [addr_add] at c0 c1 c2 c3
          simp only [← Nat.add_assoc] at c1 c2 c3
          exact ⟨c0, c1, c2, c3⟩
end Go.Proofs.Ytjalagjnhjaaoaa
