/- How the calls that came in are opened. -/
import Derived.Test.YtjejholognpbaaaAyE
import Derived.Test.YtjejholognpbaaaAzL
namespace Go.Proofs.Ytjejholognpbaaa
open Go.ChangeShapes Go.WideShapes Go.ChangeAt Go.RowKit
set_option linter.unusedVariables false

/-- A call, as it came in. -/
structure Cl where
  kd : Int
  x : Int
  y : Int
  k : Int
  v : Int
  a : Option Addr
  c : Nat
  b : List Int
  nr : Bool

/-- What a call's cells hold. -/
structure ClOk (w : World) (q : Cl) : Prop where
  x : Fits q.x
  y : Fits q.y
  k : Fits q.k
  v0 : 0 ≤ q.v
  v1 : q.v ≤ 18446744073709551615
  isB : IsB w q.a q.b

/-- A call's seven cells. -/
def ClAt (w : World) (b o : Nat) (q : Cl) : Prop :=
  w.cell? ⟨b, o, none⟩ = some (.int .i64 q.kd) ∧ w.cell? ⟨b, o + 1, none⟩ = some (.int .i64 q.x) ∧ w.cell? ⟨b, o + 2, none⟩ = some (.int .i64 q.y) ∧ w.cell? ⟨b, o + 3, none⟩ = some (.int .i64 q.k) ∧
  w.cell? ⟨b, o + 4, none⟩ = some (.int .u64 q.v) ∧ w.cell? ⟨b, o + 5, none⟩ = some (.slice q.a q.b.length q.c) ∧ w.cell? ⟨b, o + 6, none⟩ = some (.bool q.nr)

/-- A slice of calls. -/
structure IsC (w : World) (a : Option Addr) (cs : List Cl) : Prop where
  at' : cs = [] ∨ ∃ b off, a = some ⟨b, off, none⟩ ∧ b < w.heap.size ∧ ∀ i (h : i < cs.length), ClAt w b (off + i * 7) cs[i]
  body : ∀ x ∈ cs, ClOk w x

theorem ClAt.keep {w w' : World} {b o : Nat} {q : Cl} (h : ClAt w b o q) (hb : Below w.heap.size w w') : ClAt w' b o q :=
  ⟨bcellK hb h.1, bcellK hb h.2.1, bcellK hb h.2.2.1, bcellK hb h.2.2.2.1, bcellK hb h.2.2.2.2.1, bcellK hb h.2.2.2.2.2.1, bcellK hb h.2.2.2.2.2.2⟩
theorem ClOk.keep {w w' : World} {q : Cl} (h : ClOk w q) (hb : Below w.heap.size w w') : ClOk w' q := ⟨h.x, h.y, h.k, h.v0, h.v1, h.isB.keep hb⟩
theorem IsC.keep {w w' : World} {a : Option Addr} {cs : List Cl} (h : IsC w a cs) (hb : Below w.heap.size w w') : IsC w' a cs where
  at' := by
    rcases h.at' with h0 | ⟨b, off, e, hs, hc⟩
    · exact .inl h0
    · exact .inr ⟨b, off, e, by have := hb.size; omega, fun i hi => (hc i hi).keep hb⟩
  body := fun x hx => (h.body x hx).keep hb

theorem Try.cellsCall : Try.prog.cellsOf 39 = 7 := by kernel_rfl
theorem Try.cellsInt : Try.prog.cellsOf 3 = 1 := by kernel_rfl
theorem Try.cellsWord : Try.prog.cellsOf 34 = 1 := by kernel_rfl
theorem Try.cellsBytes : Try.prog.cellsOf 35 = 1 := by kernel_rfl
theorem Try.cellsBool : Try.prog.cellsOf 4 = 1 := by kernel_rfl

theorem weights_all {H : Type} {P : Program} {e : TypeId} : ∀ {ds : List (DataW H)} {d : DataW H}, d ∈ ds → ∀ n ∈ d.weights P e, n ∈ DataW.weightsAll P e ds
  | x :: r, d, hd, n, hn => by
    simp only [DataW.weightsAll, List.mem_append]
    rcases List.mem_cons.1 hd with rfl | hd
    · exact .inl hn
    · exact .inr (weights_all hd n hn)

theorem open_calls {H : Type} {enc : TypeId × Value → H} {W : World} {a : Option Addr} {len cap : Nat} {d : DataW H} {p : List MemPlace} (h : DataW.Trod enc Try.prog W 0 (fun _ => true) true 23 (.slice a len cap) d p) :
    ∃ cs : List Cl, cs.length = len ∧ IsC W a cs ∧ len ≤ maxLen ∧ ((∀ n ∈ d.weights Try.prog 23, n ≤ reachBytes) → ∀ x ∈ cs, x.b.length ≤ 140737488355328) := by
  obtain ⟨fuel, hf⟩ := h
  rcases Deep.open_slice Try.underlying23 hf with ⟨hcs, hx⟩ | ⟨x, l, c, m, n, D, Pl, hcs, hb, hl, hm, hmm, hx, hcell⟩
  · simp [Value.cells] at hcs
    obtain ⟨rfl, rfl, rfl⟩ := hcs
    exact ⟨[], rfl, ⟨.inl rfl, fun x hx => by cases hx⟩, Nat.zero_le _, fun _ x hx => by cases hx⟩
  · simp [Value.cells] at hcs
    obtain ⟨rfl, rfl, rfl⟩ := hcs
    simp only [if_true] at hmm
    subst hmm
    rw [Try.cellsCall] at hcell
    have each : ∀ i, i < len → ∃ q : Cl, (W.cell? (x.add (i * 7)) = some (.int .i64 q.kd) ∧ W.cell? (x.add (i * 7 + 1)) = some (.int .i64 q.x) ∧ W.cell? (x.add (i * 7 + 2)) = some (.int .i64 q.y) ∧ W.cell? (x.add (i * 7 + 3)) = some (.int .i64 q.k) ∧ W.cell? (x.add (i * 7 + 4)) = some (.int .u64 q.v) ∧ W.cell? (x.add (i * 7 + 5)) = some (.slice q.a q.b.length q.c) ∧ W.cell? (x.add (i * 7 + 6)) = some (.bool q.nr)) ∧ ClOk W q ∧
        ((∀ n ∈ (D i).weights Try.prog 39, n ≤ reachBytes) → q.b.length ≤ 140737488355328) := by
      intro i hi
      obtain ⟨cs', h1, h2⟩ := hcell i (by omega)
      obtain ⟨_, hlen, hc⟩ := World.cells?_some h1
      obtain ⟨xs, k, _, hD, _, hxl, hfs⟩ := DataW.trod_struct Try.underlying39 h2
      match cs', hlen, xs, hxl with
      | [u0, u1, u2, u3, u4, u5, u6], _, [y0, y1, y2, y3, y4, y5, y6], _ =>
        have g0 := hfs 0 _ rfl
        have g1 := hfs 1 _ rfl
        have g2 := hfs 2 _ rfl
        have g3 := hfs 3 _ rfl
        have g4 := hfs 4 _ rfl
        have g5 := hfs 5 _ rfl
        have g6 := hfs 6 _ rfl
        obtain ⟨z0, e0, _, f0⟩ := DataW.trod_int Try.underlying3 g0
        obtain ⟨z1, e1, _, f1⟩ := DataW.trod_int Try.underlying3 g1
        obtain ⟨z2, e2, _, f2⟩ := DataW.trod_int Try.underlying3 g2
        obtain ⟨z3, e3, _, f3⟩ := DataW.trod_int Try.underlying3 g3
        obtain ⟨z4, e4, _, f4⟩ := DataW.trod_int Try.underlying34 g4
        obtain ⟨a5, c5, l5, e5, m5, n5, o5, p5⟩ := bytes_cells g5
        obtain ⟨z6, e6, _⟩ := DataW.trod_bool Try.underlying4 g6
        simp [Try.cellsInt, Try.cellsBytes, Try.cellsWord, Try.cellsBool] at e0 e1 e2 e3 e4 e5 e6
        subst e0 e1 e2 e3 e4 e5 e6
        have c0 := hc 0 (by omega)
        have c1 := hc 1 (by omega)
        have c2 := hc 2 (by omega)
        have c3 := hc 3 (by omega)
        have c4 := hc 4 (by omega)
        have c5' := hc 5 (by omega)
        have c6 := hc 6 (by omega)
        rw [Deep.add_add] at c0 c1 c2 c3 c4 c5' c6
        have eD : D i = .agg [y0.1, y1.1, y2.1, y3.1, y4.1, y5.1, y6.1] := by have := congrArg Prod.fst hD; simpa using this
        refine ⟨⟨z0, z1, z2, z3, z4, a5, c5, l5, z6⟩, ⟨by simpa using c0, by simpa using c1, by simpa using c2, by simpa using c3, by simpa using c4, by simpa using c5', by simpa using c6⟩, ⟨int_of_wf f1, int_of_wf f2, int_of_wf f3, (word_of_wf f4).1, (word_of_wf f4).2, m5⟩, fun hn => p5 (fun n hm => hn n ?_)⟩
        rw [eD]; simp only [DataW.weights, Try.underlying39]
        exact DataW.weights_mem_each (j := 5) rfl rfl n hm
    have pick : ∃ q : Nat → Cl, ∀ i, i < len → (W.cell? (x.add (i * 7)) = some (.int .i64 (q i).kd) ∧ W.cell? (x.add (i * 7 + 1)) = some (.int .i64 (q i).x) ∧ W.cell? (x.add (i * 7 + 2)) = some (.int .i64 (q i).y) ∧ W.cell? (x.add (i * 7 + 3)) = some (.int .i64 (q i).k) ∧ W.cell? (x.add (i * 7 + 4)) = some (.int .u64 (q i).v) ∧ W.cell? (x.add (i * 7 + 5)) = some (.slice (q i).a (q i).b.length (q i).c) ∧ W.cell? (x.add (i * 7 + 6)) = some (.bool (q i).nr)) ∧ ClOk W (q i) ∧
        ((∀ n ∈ (D i).weights Try.prog 39, n ≤ reachBytes) → (q i).b.length ≤ 140737488355328) := by
      refine ⟨fun i => if h : i < len then Classical.choose (each i h) else ⟨0, 0, 0, 0, 0, none, 0, [], false⟩, fun i hi => ?_⟩
      simp only [dif_pos hi]
      exact Classical.choose_spec (each i hi)
    obtain ⟨q, hq⟩ := pick
    refine ⟨(List.range len).map q, by simp, ⟨?_, ?_⟩, by omega, ?_⟩
    · by_cases h0 : len = 0
      · exact .inl (by rw [h0]; rfl)
      · obtain ⟨b, off, spot⟩ := x
        have h1 := (hq 0 (by omega)).1.1
        have hspot : spot = none := by simpa [Addr.add] using World.cell?_spot h1
        subst hspot
        refine .inr ⟨b, off, rfl, ?_, ?_⟩
        · rw [addr_add] at h1
          exact lt_of_cell h1
        · intro i hi
          obtain ⟨⟨c0, c1, c2, c3, c4, c5, c6⟩, _⟩ := hq i (by simpa using hi)
          rw [addr_add] at c0 c1 c2 c3 c4 c5 c6
          simp only [List.getElem_map, List.getElem_range]
          exact ⟨c0, by rw [Nat.add_assoc]; exact c1, by rw [Nat.add_assoc]; exact c2, by rw [Nat.add_assoc]; exact c3, by rw [Nat.add_assoc]; exact c4, by rw [Nat.add_assoc]; exact c5, by rw [Nat.add_assoc]; exact c6⟩
    · intro y hy
      obtain ⟨i, hi, rfl⟩ := List.mem_map.1 hy
      exact (hq i (by simpa using hi)).2.1
    · intro hn y hy
      obtain ⟨i, hi, rfl⟩ := List.mem_map.1 hy
      have hi' : i < len := by simpa using hi
      refine (hq i hi').2.2 (fun n hm => hn n ?_)
      have hx1 := congrArg Prod.fst hx
      simp only at hx1
      rw [hx1]
      simp only [DataW.weights, Try.underlying23, List.mem_cons, List.mem_append]
      exact .inr (.inl (weights_all (List.mem_map.2 ⟨i, by simpa using hi', rfl⟩) n hm))
end Go.Proofs.Ytjejholognpbaaa
