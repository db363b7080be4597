/- Arguments of layer 12's laws, as they came in. -/
import Derived.Test.YtjdgildeilcfiaaHdK
namespace Go.Proofs.Ytjdgildeilcfiaa
open Go.ChangeShapes Go.WideShapes Go.ChangeAt Go.RowKit
set_option linter.unusedVariables false

theorem Try.cInt : Try.prog.cellsOf 3 = 1 := by kernel_rfl
theorem Try.cBool : Try.prog.cellsOf 4 = 1 := by kernel_rfl
theorem Try.cWord : Try.prog.cellsOf 34 = 1 := by kernel_rfl
theorem Try.cPair : Try.prog.cellsOf 48 = 2 := by kernel_rfl
theorem Try.cCall : Try.prog.cellsOf 36 = 5 := by kernel_rfl
theorem Try.cRow : Try.prog.cellsOf 44 = 4 := by kernel_rfl

theorem open_pair {H : Type} {enc : TypeId × Value → H} {W : World} {base : Nat} {v : Value} {d : DataW H} {p : List MemPlace} (hv : Value.okWide Try.prog W .any base 48 v) (h : DataW.Trod enc Try.prog W 0 (fun _ => true) true 48 v d p) :
    ∃ x y : Int, v = .agg #[.int .i64 x, .int .i64 y] ∧ (-9223372036854775808 ≤ x ∧ x ≤ 9223372036854775807) ∧ (-9223372036854775808 ≤ y ∧ y ≤ 9223372036854775807) := by
  simp only [Value.okWide, Try.underlying48] at hv
  obtain ⟨cs, rfl, hs, _⟩ := hv
  rw [Try.cPair] at hs
  obtain ⟨c0, c1, rfl⟩ : ∃ c0 c1, cs = #[c0, c1] := by
    obtain ⟨l⟩ := cs
    match l, hs with
    | [a, b], _ => exact ⟨a, b, rfl⟩
  obtain ⟨fuel, hf⟩ := h
  obtain ⟨xs, m, _, _, _, hxl, hxs⟩ := DataW.trod_array Try.underlying48 hf
  match xs, hxl with
  | [y0, y1], _ =>
    have g0 := hxs 0 (by omega)
    have g1 := hxs 1 (by omega)
    obtain ⟨z0, e0, _, f0⟩ := DataW.trod_int Try.underlying3 g0
    obtain ⟨z1, e1, _, f1⟩ := DataW.trod_int Try.underlying3 g1
    simp [Value.cells, Try.cInt] at e0 e1
    subst e0 e1
    exact ⟨z0, z1, rfl, int_of_wf f0, int_of_wf f1⟩

/-- A call, as it came in. -/
structure Cl where
  kd : Int
  n : Int
  h : Nat
  k2 : Int
  pl : Int
structure ClOk (q : Cl) : Prop where
  kd : -9223372036854775808 ≤ q.kd ∧ q.kd ≤ 9223372036854775807
  n : -9223372036854775808 ≤ q.n ∧ q.n ≤ 9223372036854775807
  h : q.h < 18446744073709551616
  k2 : -9223372036854775808 ≤ q.k2 ∧ q.k2 ≤ 9223372036854775807
  pl : -9223372036854775808 ≤ q.pl ∧ q.pl ≤ 9223372036854775807
def ClAt (w : World) (b o : Nat) (q : Cl) : Prop :=
  w.cell? ⟨b, o, none⟩ = some (.int .i64 q.kd) ∧ w.cell? ⟨b, o + 1, none⟩ = some (.int .i64 q.n) ∧ w.cell? ⟨b, o + 2, none⟩ = some (.int .u64 (q.h : Nat)) ∧ w.cell? ⟨b, o + 3, none⟩ = some (.int .i64 q.k2) ∧ w.cell? ⟨b, o + 4, none⟩ = some (.int .i64 q.pl)
/-- A slice of calls. -/
structure IsC (w : World) (a : Option Addr) (cs : List Cl) : Prop where
  at' : cs = [] ∨ ∃ b off, a = some ⟨b, off, none⟩ ∧ b < w.heap.size ∧ ∀ i (h : i < cs.length), ClAt w b (off + i * 5) cs[i]
  body : ∀ x ∈ cs, ClOk x
theorem ClAt.keep {w w' : World} {b o : Nat} {q : Cl} (h : ClAt w b o q) (hs : b < w.heap.size) (hb : Below w.heap.size w w') : ClAt w' b o q := by
  have k : ∀ j, w'.cell? ⟨b, j, none⟩ = w.cell? ⟨b, j, none⟩ := fun j => hb.cell (p := ⟨b, j, none⟩) hs
  unfold ClAt
  rw [k, k, k, k, k]; exact h
theorem IsC.keep {w w' : World} {a : Option Addr} {cs : List Cl} (h : IsC w a cs) (hb : Below w.heap.size w w') : IsC w' a cs where
  at' := by
    rcases h.at' with h0 | ⟨b, off, e, hs, hc⟩
    · exact .inl h0
    · exact .inr ⟨b, off, e, by have := hb.size; omega, fun i hi => (hc i hi).keep hs hb⟩
  body := h.body
/-- The i-th call. -/
theorem IsC.call {w : World} {a : Option Addr} {cs : List Cl} (h : IsC w a cs) (i : Nat) (hi : i < cs.length) : ∃ b off q, a = some ⟨b, off, none⟩ ∧ cs[i] = q ∧ b < w.heap.size ∧ ClAt w b (off + i * 5) q ∧ ClOk q := by
  rcases h.at' with e | ⟨b, off, e, hs, hc⟩
  · rw [e] at hi; simp at hi
  · exact ⟨b, off, _, e, rfl, hs, hc i hi, h.body _ (List.getElem_mem hi)⟩

theorem list_of {α : Type} (n : Nat) (f : Nat → α) (P : Nat → α → Prop) (h : ∀ i, i < n → P i (f i)) : ∃ l : List α, l.length = n ∧ ∀ i (hi : i < l.length), P i l[i] :=
  ⟨(List.range n).map f, by simp, fun i hi => by simp at hi; simpa using h i hi⟩

theorem open_calls {H : Type} {enc : TypeId × Value → H} {W : World} {a : Option Addr} {len cap : Nat} {d : DataW H} {p : List MemPlace} (h : DataW.Trod enc Try.prog W 0 (fun _ => true) true 22 (.slice a len cap) d p) :
    ∃ cs : List Cl, cs.length = len ∧ IsC W a cs ∧ cs.length ≤ maxLen := by
  obtain ⟨fuel, hf⟩ := h
  rcases Deep.open_slice Try.underlying22 hf with ⟨hcs, hx⟩ | ⟨x, l, c, m, n, D, Pl, hcs, hb, hl, hm, hmm, hx, hcell⟩
  · simp [Value.cells] at hcs
    obtain ⟨rfl, rfl, rfl⟩ := hcs
    exact ⟨[], rfl, ⟨.inl rfl, fun x hx => by cases hx⟩, Nat.zero_le _⟩
  · simp [Value.cells] at hcs
    obtain ⟨rfl, rfl, rfl⟩ := hcs
    simp only [if_true] at hmm
    subst hmm
    rw [Try.cCall] at hcell
    have each : ∀ i, i < len → ∃ q : Cl, (W.cell? (x.add (i * 5)) = some (.int .i64 q.kd) ∧ W.cell? (x.add (i * 5 + 1)) = some (.int .i64 q.n) ∧ W.cell? (x.add (i * 5 + 2)) = some (.int .u64 (q.h : Nat)) ∧ W.cell? (x.add (i * 5 + 3)) = some (.int .i64 q.k2) ∧ W.cell? (x.add (i * 5 + 4)) = some (.int .i64 q.pl)) ∧ ClOk q := by
      intro i hi
      obtain ⟨cs', h1, h2⟩ := hcell i (by omega)
      obtain ⟨_, hlen, hc⟩ := World.cells?_some h1
      obtain ⟨xs, k, _, hD, _, hxl, hfs⟩ := DataW.trod_struct Try.underlying36 h2
      match cs', hlen, xs, hxl with
      | [u0, u1, u2, u3, u4], _, [y0, y1, y2, y3, y4], _ =>
        have g0 := hfs 0 _ rfl
        have g1 := hfs 1 _ rfl
        have g2 := hfs 2 _ rfl
        have g3 := hfs 3 _ rfl
        have g4 := hfs 4 _ rfl
        obtain ⟨z0, e0, _, f0⟩ := DataW.trod_int Try.underlying3 g0
        obtain ⟨z1, e1, _, f1⟩ := DataW.trod_int Try.underlying3 g1
        obtain ⟨z2, e2, _, f2⟩ := DataW.trod_int Try.underlying34 g2
        obtain ⟨z3, e3, _, f3⟩ := DataW.trod_int Try.underlying3 g3
        obtain ⟨z4, e4, _, f4⟩ := DataW.trod_int Try.underlying3 g4
        simp [Try.cInt, Try.cWord] at e0 e1 e2 e3 e4
        subst e0 e1 e2 e3 e4
        obtain ⟨m2, rfl, hm2⟩ := u64_of_wf f2
        have c0 := hc 0 (by omega)
        have c1 := hc 1 (by omega)
        have c2 := hc 2 (by omega)
        have c3 := hc 3 (by omega)
        have c4 := hc 4 (by omega)
        rw [Deep.add_add] at c0 c1 c2 c3 c4
        exact ⟨⟨z0, z1, m2, z3, z4⟩, ⟨by simpa using c0, by simpa using c1, by simpa using c2, by simpa using c3, by simpa using c4⟩, ⟨int_of_wf f0, int_of_wf f1, hm2, int_of_wf f3, int_of_wf f4⟩⟩
    haveI : Inhabited Cl := ⟨⟨0, 0, 0, 0, 0⟩⟩
    obtain ⟨q, hq⟩ := Deep.choose_lt each
    obtain ⟨cs, hl1, hcs⟩ := list_of len q (fun i q => (W.cell? (x.add (i * 5)) = some (.int .i64 q.kd) ∧ W.cell? (x.add (i * 5 + 1)) = some (.int .i64 q.n) ∧ W.cell? (x.add (i * 5 + 2)) = some (.int .u64 (q.h : Nat)) ∧ W.cell? (x.add (i * 5 + 3)) = some (.int .i64 q.k2) ∧ W.cell? (x.add (i * 5 + 4)) = some (.int .i64 q.pl)) ∧ ClOk q) hq
    refine ⟨cs, hl1, ⟨?_, fun y hy => ?_⟩, by omega⟩
    · by_cases h0 : cs.length = 0
      · exact .inl (List.eq_nil_of_length_eq_zero h0)
      · obtain ⟨b, off, spot⟩ := x
        have h1 := (hcs 0 (by omega)).1.1
        have hspot : spot = none := by simpa [Addr.add] using World.cell?_spot h1
        subst hspot
        refine .inr ⟨b, off, rfl, ?_, ?_⟩
        · rw [addr_add] at h1
          exact lt_of_cell h1
        · intro i hi
          obtain ⟨⟨c0, c1, c2, c3, c4⟩, _⟩ := hcs i hi
          rw [addr_add] at c0 c1 c2 c3 c4
          simp only [← Nat.add_assoc] at c1 c2 c3 c4
          exact ⟨c0, c1, c2, c3, c4⟩
    · obtain ⟨i, hi, rfl⟩ := List.mem_iff_getElem.1 hy
      exact (hcs i hi).2

/-- What came in as rows. -/
structure InW (w : World) (a : Option Addr) (l : List Rw) : Prop where
  isW : IsW w a l
  fit : ∀ r ∈ l, (-9223372036854775808 ≤ r.gen ∧ r.gen ≤ 9223372036854775807) ∧ (-9223372036854775808 ≤ r.kind ∧ r.kind ≤ 9223372036854775807) ∧ -9223372036854775808 ≤ r.pl ∧ r.pl ≤ 9223372036854775807
theorem open_rows {H : Type} {enc : TypeId × Value → H} {W : World} {a : Option Addr} {len cap : Nat} {d : DataW H} {p : List MemPlace} (h : DataW.Trod enc Try.prog W 0 (fun _ => true) true 40 (.slice a len cap) d p) :
    ∃ l : List Rw, l.length = len ∧ InW W a l ∧ l.length ≤ maxLen ∧ (a = none → l = [] ∧ cap = 0) ∧ (l = [] ∨ ∃ els sp, d = .slice els sp ∧ l.length ≤ els.length) := by
  obtain ⟨fuel, hf⟩ := h
  rcases Deep.open_slice Try.underlying40 hf with ⟨hcs, hx⟩ | ⟨x, l, c, m, n, D, Pl, hcs, hb, hl, hm, hmm, hx, hcell⟩
  · simp [Value.cells] at hcs
    obtain ⟨rfl, rfl, rfl⟩ := hcs
    exact ⟨[], rfl, ⟨.inl rfl, fun x hx => by cases hx⟩, Nat.zero_le _, fun _ => ⟨rfl, rfl⟩, .inl rfl⟩
  · simp [Value.cells] at hcs
    obtain ⟨rfl, rfl, rfl⟩ := hcs
    simp only [if_true] at hmm
    subst hmm
    rw [Try.cRow] at hcell
    have each : ∀ i, i < len → ∃ q : Rw, (W.cell? (x.add (i * 4)) = some (.int .i64 q.gen) ∧ W.cell? (x.add (i * 4 + 1)) = some (.bool q.live) ∧ W.cell? (x.add (i * 4 + 2)) = some (.int .i64 q.kind) ∧ W.cell? (x.add (i * 4 + 3)) = some (.int .i64 q.pl)) ∧ (-9223372036854775808 ≤ q.gen ∧ q.gen ≤ 9223372036854775807) ∧ (-9223372036854775808 ≤ q.kind ∧ q.kind ≤ 9223372036854775807) ∧ -9223372036854775808 ≤ q.pl ∧ q.pl ≤ 9223372036854775807 := by
      intro i hi
      obtain ⟨cs', h1, h2⟩ := hcell i (by omega)
      obtain ⟨_, hlen, hc⟩ := World.cells?_some h1
      obtain ⟨xs, k, _, hD, _, hxl, hfs⟩ := DataW.trod_struct Try.underlying44 h2
      match cs', hlen, xs, hxl with
      | [u0, u1, u2, u3], _, [y0, y1, y2, y3], _ =>
        have g0 := hfs 0 _ rfl
        have g1 := hfs 1 _ rfl
        have g2 := hfs 2 _ rfl
        have g3 := hfs 3 _ rfl
        obtain ⟨z0, e0, _, f0⟩ := DataW.trod_int Try.underlying3 g0
        obtain ⟨z1, e1, _⟩ := DataW.trod_bool Try.underlying4 g1
        obtain ⟨z2, e2, _, f2⟩ := DataW.trod_int Try.underlying3 g2
        obtain ⟨z3, e3, _, f3⟩ := DataW.trod_int Try.underlying3 g3
        simp [Try.cInt, Try.cBool] at e0 e1 e2 e3
        subst e0 e1 e2 e3
        have c0 := hc 0 (by omega)
        have c1 := hc 1 (by omega)
        have c2 := hc 2 (by omega)
        have c3 := hc 3 (by omega)
        rw [Deep.add_add] at c0 c1 c2 c3
        exact ⟨⟨z0, z1, z2, z3⟩, ⟨by simpa using c0, by simpa using c1, by simpa using c2, by simpa using c3⟩, int_of_wf f0, int_of_wf f2, int_of_wf f3⟩
    haveI : Inhabited Rw := ⟨zr⟩
    obtain ⟨q, hq⟩ := Deep.choose_lt each
    obtain ⟨cs, hl1, hcs⟩ := list_of len q (fun i q => (W.cell? (x.add (i * 4)) = some (.int .i64 q.gen) ∧ W.cell? (x.add (i * 4 + 1)) = some (.bool q.live) ∧ W.cell? (x.add (i * 4 + 2)) = some (.int .i64 q.kind) ∧ W.cell? (x.add (i * 4 + 3)) = some (.int .i64 q.pl)) ∧ (-9223372036854775808 ≤ q.gen ∧ q.gen ≤ 9223372036854775807) ∧ (-9223372036854775808 ≤ q.kind ∧ q.kind ≤ 9223372036854775807) ∧ -9223372036854775808 ≤ q.pl ∧ q.pl ≤ 9223372036854775807) hq
    refine ⟨cs, hl1, ⟨?_, fun y hy => ?_⟩, by omega, fun e => (by cases e), .inr ⟨_, _, congrArg Prod.fst hx, by simp; omega⟩⟩
    · by_cases h0 : cs.length = 0
      · exact .inl (List.eq_nil_of_length_eq_zero h0)
      · obtain ⟨b, off, spot⟩ := x
        have h1 := (hcs 0 (by omega)).1.1
        have hspot : spot = none := by simpa [Addr.add] using World.cell?_spot h1
        subst hspot
        refine .inr ⟨b, off, rfl, ?_, ?_⟩
        · rw [addr_add] at h1
          exact lt_of_cell h1
        · intro i hi
          obtain ⟨⟨c0, c1, c2, c3⟩, _⟩ := hcs i hi
          rw [addr_add] at c0 c1 c2 c3
          simp only [← Nat.add_assoc] at c1 c2 c3
          exact ⟨c0, c1, c2, c3⟩
    · obtain ⟨i, hi, rfl⟩ := List.mem_iff_getElem.1 hy
      exact (hcs i hi).2

/-- What came in as generations. -/
def IsU (w : World) (a : Option Addr) (l : List Nat) : Prop := (∀ x ∈ l, x < 65536) ∧ (l = [] ∨ ∃ b off, a = some ⟨b, off, none⟩ ∧ b < w.heap.size ∧ ∀ i (h : i < l.length), w.cell? ⟨b, off + i, none⟩ = some (.int .u16 (l[i] : Nat)))
theorem Try.cU16 : Try.prog.cellsOf 61 = 1 := by kernel_rfl
theorem open_u16s {H : Type} {enc : TypeId × Value → H} {W : World} {a : Option Addr} {len cap : Nat} {d : DataW H} {p : List MemPlace} (h : DataW.Trod enc Try.prog W 0 (fun _ => true) true 60 (.slice a len cap) d p) :
    ∃ l : List Nat, l.length = len ∧ IsU W a l ∧ l.length ≤ maxLen := by
  obtain ⟨fuel, hf⟩ := h
  rcases Deep.open_slice Try.underlying60 hf with ⟨hcs, hx⟩ | ⟨x, l, c, m, n, D, Pl, hcs, hb, hl, hm, hmm, hx, hcell⟩
  · simp [Value.cells] at hcs
    obtain ⟨rfl, rfl, rfl⟩ := hcs
    exact ⟨[], rfl, ⟨fun x hx => (by cases hx), .inl rfl⟩, Nat.zero_le _⟩
  · simp [Value.cells] at hcs
    obtain ⟨rfl, rfl, rfl⟩ := hcs
    simp only [if_true] at hmm
    subst hmm
    rw [Try.cU16] at hcell
    have each : ∀ i, i < len → ∃ q : Nat, W.cell? (x.add i) = some (.int .u16 (q : Nat)) ∧ q < 65536 := by
      intro i hi
      obtain ⟨cs', h1, h2⟩ := hcell i (by omega)
      obtain ⟨_, hlen, hc⟩ := World.cells?_some h1
      match cs', hlen with
      | [u0], _ =>
        obtain ⟨z0, e0, _, f0⟩ := DataW.trod_int Try.underlying61 h2
        simp at e0
        subst e0
        obtain ⟨m2, rfl, hm2⟩ := u16_of_wf f0
        have c0 := hc 0 (by omega)
        rw [Deep.add_add] at c0
        exact ⟨m2, by simpa using c0, hm2⟩
    obtain ⟨q, hq⟩ := Deep.choose_lt each
    obtain ⟨cs, hl1, hcs⟩ := list_of len q (fun i q => W.cell? (x.add i) = some (.int .u16 (q : Nat)) ∧ q < 65536) hq
    refine ⟨cs, hl1, ⟨fun y hy => ?_, ?_⟩, by omega⟩
    · obtain ⟨i, hi, rfl⟩ := List.mem_iff_getElem.1 hy
      exact (hcs i hi).2
    · by_cases h0 : cs.length = 0
      · exact .inl (List.eq_nil_of_length_eq_zero h0)
      · obtain ⟨b, off, spot⟩ := x
        have h1 := (hcs 0 (by omega)).1
        have hspot : spot = none := by simpa [Addr.add] using World.cell?_spot h1
        subst hspot
        refine .inr ⟨b, off, rfl, ?_, ?_⟩
        · rw [addr_add] at h1
          exact lt_of_cell h1
        · intro i hi
          have c0 := (hcs i hi).1
          rw [addr_add] at c0
          exact c0
end Go.Proofs.Ytjdgildeilcfiaa
