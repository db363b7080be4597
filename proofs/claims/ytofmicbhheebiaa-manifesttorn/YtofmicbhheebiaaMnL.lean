/- Layer 21: how manifests, torn ones, bursts and lists of manifests in slots that came in are opened. -/
import Derived.Test.YtofmicbhheebiaaMnW
import Derived.Test.YtofmicbhheebiaaDkL
import Derived.Deep.Slices
namespace Go.Proofs.Ytofmicbhheebiaa
open Go.ChangeShapes Go.WideShapes Go.ChangeAt Go.RowKit
set_option linter.unusedVariables false
set_option maxRecDepth 4000

def inW (x : Int) : Prop := -9223372036854775808 ≤ x ∧ x ≤ 9223372036854775807
def InM (m : Mn) : Prop := inW m.s ∧ inW m.f ∧ inW m.n
theorem cMan : Try.prog.cellsOf 23 = 3 := by kernel_rfl
theorem cFound : Try.prog.cellsOf 55 = 4 := by kernel_rfl
theorem cFounds : Try.prog.cellsOf 51 = 1 := by kernel_rfl
theorem cTorn : Try.prog.cellsOf 43 = 7 := by kernel_rfl
theorem cBurst : Try.prog.cellsOf 48 = 2 := by kernel_rfl
theorem cInt : Try.prog.cellsOf 3 = 1 := by kernel_rfl
theorem cBool : Try.prog.cellsOf 4 = 1 := by kernel_rfl
theorem cU16 : Try.prog.cellsOf 45 = 1 := by kernel_rfl
theorem cU32 : Try.prog.cellsOf 46 = 1 := by kernel_rfl
theorem bytesFound : Try.prog.bytesOf 55 = 32 := by kernel_rfl
theorem u16_of_wf {x : Int} (h : (Lit.int .u16 x).wf = true) : 0 ≤ x ∧ x ≤ 65535 := by
  simp [Lit.wf, IntKind.min, IntKind.max, IntKind.signed, IntKind.bits] at h
  exact ⟨by omega, by omega⟩
theorem u32_of_wf {x : Int} (h : (Lit.int .u32 x).wf = true) : 0 ≤ x ∧ x ≤ 4294967295 := by
  simp [Lit.wf, IntKind.min, IntKind.max, IntKind.signed, IntKind.bits] at h
  exact ⟨by omega, by omega⟩
theorem arr2 {a : Array Value} (h : a.size = 2) : ∃ v0 v1, a = #[v0, v1] := by
  obtain ⟨l⟩ := a
  have h : l.length = 2 := h
  match l, h with
  | [v0, v1], _ => exact ⟨v0, v1, rfl⟩
theorem arr3 {a : Array Value} (h : a.size = 3) : ∃ v0 v1 v2, a = #[v0, v1, v2] := by
  obtain ⟨l⟩ := a
  have h : l.length = 3 := h
  match l, h with
  | [v0, v1, v2], _ => exact ⟨v0, v1, v2, rfl⟩
theorem arr7 {a : Array Value} (h : a.size = 7) : ∃ v0 v1 v2 v3 v4 v5 v6, a = #[v0, v1, v2, v3, v4, v5, v6] := by
  obtain ⟨l⟩ := a
  have h : l.length = 7 := h
  match l, h with
  | [v0, v1, v2, v3, v4, v5, v6], _ => exact ⟨v0, v1, v2, v3, v4, v5, v6, rfl⟩
theorem man_cells {H : Type} {enc : TypeId × Value → H} {W : World} {fuel : Nat} {cs : List Value} {x : DataW H × List MemPlace} (hf : DataW.trod enc Try.prog W 0 (fun _ => true) true fuel 23 cs = some x) :
    ∃ m : Mn, cs = [.int .i64 m.s, .int .i64 m.f, .int .i64 m.n] ∧ InM m := by
  obtain ⟨xs, k, _, hD, hl, hxl, hfs⟩ := DataW.trod_struct Try.underlying23 hf
  rw [cMan] at hl
  match cs, hl, xs, hxl with
  | [u0, u1, u2], _, [y0, y1, y2], _ =>
    have g0 := hfs 0 _ rfl
    have g1 := hfs 1 _ rfl
    have g2 := hfs 2 _ rfl
    obtain ⟨z0, e0, _, f0⟩ := DataW.trod_int Try.underlying3 g0
    obtain ⟨z1, e1, _, f1⟩ := DataW.trod_int Try.underlying3 g1
    obtain ⟨z2, e2, _, f2⟩ := DataW.trod_int Try.underlying3 g2
    simp [cInt] at e0 e1 e2
    subst e0 e1 e2
    exact ⟨⟨z0, z1, z2⟩, rfl, int_of_wf f0, int_of_wf f1, int_of_wf f2⟩
/-- A manifest that came in. -/
theorem open_man {H : Type} {enc : TypeId × Value → H} {W : World} {base : Nat} {v : Value} {d : DataW H} {p : List MemPlace} (hv : Value.okWide Try.prog W .any base 23 v) (h : DataW.Trod enc Try.prog W 0 (fun _ => true) true 23 v d p) :
    ∃ m : Mn, v = m.v ∧ InM m := by
  obtain ⟨cs, rfl, hsz⟩ := okWide_struct Try.underlying23 hv
  obtain ⟨v0, v1, v2, rfl⟩ := arr3 (hsz.trans cMan)
  obtain ⟨fuel, hf⟩ := h
  obtain ⟨m, e, hm⟩ := man_cells hf
  simp [Value.cells] at e
  obtain ⟨rfl, rfl, rfl⟩ := e
  exact ⟨m, rfl, hm⟩
/-- A torn manifest that came in. -/
theorem open_torn {H : Type} {enc : TypeId × Value → H} {W : World} {base : Nat} {v : Value} {d : DataW H} {p : List MemPlace} (hv : Value.okWide Try.prog W .any base 43 v) (h : DataW.Trod enc Try.prog W 0 (fun _ => true) true 43 v d p) :
    ∃ (o f : Mn) (b : Bool), v = .agg #[.int .i64 o.s, .int .i64 o.f, .int .i64 o.n, .int .i64 f.s, .int .i64 f.f, .int .i64 f.n, .bool b] ∧ InM o ∧ InM f := by
  obtain ⟨cs, rfl, hsz⟩ := okWide_struct Try.underlying43 hv
  obtain ⟨v0, v1, v2, v3, v4, v5, v6, rfl⟩ := arr7 (hsz.trans cTorn)
  obtain ⟨fuel, hf⟩ := h
  obtain ⟨xs, k, _, hD, hl, hxl, hfs⟩ := DataW.trod_struct Try.underlying43 hf
  match xs, hxl with
  | [y0, y1, y2], _ =>
    have g0 := hfs 0 _ rfl
    have g1 := hfs 1 _ rfl
    have g2 := hfs 2 _ rfl
    simp [Value.cells, cMan, cBool] at g0 g1 g2
    obtain ⟨o, e0, ho⟩ := man_cells g0
    obtain ⟨f, e1, hf'⟩ := man_cells g1
    obtain ⟨z2, e2, _⟩ := DataW.trod_bool Try.underlying4 g2
    simp at e0 e1 e2
    obtain ⟨rfl, rfl, rfl⟩ := e0
    obtain ⟨rfl, rfl, rfl⟩ := e1
    subst e2
    exact ⟨o, f, z2, rfl, ho, hf'⟩
/-- A burst that came in. -/
theorem open_burst {H : Type} {enc : TypeId × Value → H} {W : World} {base : Nat} {v : Value} {d : DataW H} {q : List MemPlace} (hv : Value.okWide Try.prog W .any base 48 v) (h : DataW.Trod enc Try.prog W 0 (fun _ => true) true 48 v d q) :
    ∃ at' bi : Int, v = .agg #[.int .u16 at', .int .u32 bi] ∧ (0 ≤ at' ∧ at' ≤ 65535) ∧ (0 ≤ bi ∧ bi ≤ 4294967295) := by
  obtain ⟨cs, rfl, hsz⟩ := okWide_struct Try.underlying48 hv
  obtain ⟨v0, v1, rfl⟩ := arr2 (hsz.trans cBurst)
  obtain ⟨fuel, hf⟩ := h
  obtain ⟨xs, k, _, hD, hl, hxl, hfs⟩ := DataW.trod_struct Try.underlying48 hf
  match xs, hxl with
  | [y0, y1], _ =>
    have g0 := hfs 0 _ rfl
    have g1 := hfs 1 _ rfl
    simp [Value.cells, cU16, cU32] at g0 g1
    obtain ⟨x, e0, _, f0⟩ := DataW.trod_int Try.underlying45 g0
    obtain ⟨x1, e1, _, f1⟩ := DataW.trod_int Try.underlying46 g1
    simp at e0 e1
    subst e0 e1
    exact ⟨x, x1, rfl, u16_of_wf f0, u32_of_wf f1⟩
theorem list_of {α : Type} (n : Nat) (f : Nat → α) (P : Nat → α → Prop) (h : ∀ i, i < n → P i (f i)) : ∃ l : List α, l.length = n ∧ ∀ i (hi : i < l.length), P i l[i] :=
  ⟨(List.range n).map f, by simp, fun i hi => by simp at hi; simpa using h i hi⟩
theorem caps_open {H : Type} {enc : TypeId × Value → H} {W : World} {a : Option Addr} {len cap : Nat} {d : DataW H} {p : List MemPlace} (h : DataW.Trod enc Try.prog W 0 (fun _ => true) true 25 (.slice a len cap) d p) : len ≤ cap ∧ cap ≤ maxLen := by
  obtain ⟨fuel, hf⟩ := h
  rcases open_ints Try.underlying25 Try.underlying5 (by kernel_rfl) hf with ⟨hcs, hx⟩ | ⟨y, l, c, zs, hcs, _, hl, hm, hz, hx, hcell, hwz⟩
  · simp [Value.cells] at hcs
    obtain ⟨rfl, rfl, rfl⟩ := hcs
    exact ⟨Nat.le_refl _, Nat.zero_le _⟩
  · simp [Value.cells] at hcs
    obtain ⟨rfl, rfl, rfl⟩ := hcs
    exact ⟨hl, hm⟩
def InF (x : Fd) : Prop := inW x.l ∧ InM x.m
theorem open_founds {H : Type} {enc : TypeId × Value → H} {W : World} {a : Option Addr} {len cap : Nat} {d : DataW H} {p : List MemPlace} (h : DataW.Trod enc Try.prog W 0 (fun _ => true) true 51 (.slice a len cap) d p) :
    ∃ l : List Fd, l.length = len ∧ IsW W a l ∧ (∀ x ∈ l, InF x) ∧ ((∀ n ∈ d.weights Try.prog 51, n ≤ reachBytes) → l.length ≤ 4398046511104) := by
  obtain ⟨fuel, hf⟩ := h
  rcases Deep.open_slice Try.underlying51 hf with ⟨hcs, hx⟩ | ⟨y, l, c, m, n, D, Pl, hcs, hb, hl, hm, hmm, hx, hcell⟩
  · simp [Value.cells] at hcs
    obtain ⟨rfl, rfl, rfl⟩ := hcs
    exact ⟨[], rfl, .inl rfl, (fun e he => by cases he), fun _ => Nat.zero_le _⟩
  · simp only [if_true] at hmm
    subst hmm
    simp [Value.cells] at hcs
    obtain ⟨rfl, rfl, rfl⟩ := hcs
    rw [cFound] at hcell
    have each : ∀ i, i < len → ∃ q : Fd, (W.cell? (y.add (i * 4)) = some (.int .i64 q.l) ∧ W.cell? (y.add (i * 4 + 1)) = some (.int .i64 q.m.s) ∧ W.cell? (y.add (i * 4 + 2)) = some (.int .i64 q.m.f) ∧ W.cell? (y.add (i * 4 + 3)) = some (.int .i64 q.m.n)) ∧ InF q := by
      intro i hi
      obtain ⟨cs', h1, h2⟩ := hcell i (by omega)
      obtain ⟨_, hlen, hc⟩ := World.cells?_some h1
      obtain ⟨xs, k, _, hD, _, hxl, hfs⟩ := DataW.trod_struct Try.underlying55 h2
      match cs', hlen, xs, hxl with
      | [u0, u1, u2, u3], _, [y0, y1], _ =>
        have g0 := hfs 0 _ rfl
        have g1 := hfs 1 _ rfl
        simp [cInt, cMan] at g0 g1
        obtain ⟨z0, e0, _, f0⟩ := DataW.trod_int Try.underlying3 g0
        obtain ⟨q, e1, hq⟩ := man_cells g1
        simp at e0 e1
        obtain ⟨rfl, rfl, rfl⟩ := e1
        subst e0
        have c0 := hc 0 (by omega)
        have c1 := hc 1 (by omega)
        have c2 := hc 2 (by omega)
        have c3 := hc 3 (by omega)
        rw [Deep.add_add] at c0 c1 c2 c3
        exact ⟨⟨z0, q⟩, ⟨by simpa using c0, by simpa using c1, by simpa using c2, by simpa using c3⟩, int_of_wf f0, hq⟩
    haveI : Inhabited Fd := ⟨⟨0, ⟨0, 0, 0⟩⟩⟩
    obtain ⟨q, hq⟩ := Deep.choose_lt each
    obtain ⟨es, hl1, hes⟩ := list_of len q (fun i q => (W.cell? (y.add (i * 4)) = some (.int .i64 q.l) ∧ W.cell? (y.add (i * 4 + 1)) = some (.int .i64 q.m.s) ∧ W.cell? (y.add (i * 4 + 2)) = some (.int .i64 q.m.f) ∧ W.cell? (y.add (i * 4 + 3)) = some (.int .i64 q.m.n)) ∧ InF q) hq
    refine ⟨es, hl1, ?_, ?_, fun hn => ?_⟩
    · by_cases h0 : es.length = 0
      · exact .inl (List.eq_nil_of_length_eq_zero h0)
      · obtain ⟨b, off, spot⟩ := y
        have h1 := (hes 0 (by omega)).1.1
        have hspot : spot = none := by simpa [Addr.add] using World.cell?_spot h1
        subst hspot
        refine .inr ⟨b, off, rfl, ?_, ?_⟩
        · rw [addr_add] at h1
          exact lt_of_cell h1
        · intro i hi
          obtain ⟨⟨c0, c1, c2, c3⟩, _⟩ := hes i hi
          rw [addr_add] at c0 c1 c2 c3
          simp only [← Nat.add_assoc] at c1 c2 c3
          exact ⟨c0, c1, c2, c3⟩
    · intro e he
      obtain ⟨i, hi, rfl⟩ := List.mem_iff_getElem.1 he
      exact (hes i hi).2
    · have hd : d = _ := congrArg Prod.fst hx
      rw [hd] at hn
      have := hn _ (by simp only [DataW.weights, Try.underlying51]; exact List.mem_cons_self ..)
      simp [bytesFound, reachBytes] at this
      omega
end Go.Proofs.Ytofmicbhheebiaa
