/- Layer 20: how a root that came in is opened. -/
import Derived.Test.YtgpkiajakokjmaaKeZ
import Derived.Test.YtgpkiajakokjmaaRtC
import Derived.Deep.Slices
namespace Go.Proofs.Ytgpkiajakokjmaa
open Go.ChangeShapes Go.WideShapes Go.ChangeAt Go.RowKit
set_option linter.unusedVariables false
set_option maxRecDepth 4000

theorem Try.cEntry : Try.prog.cellsOf 54 = 4 := by kernel_rfl
theorem Try.cInt : Try.prog.cellsOf 3 = 1 := by kernel_rfl
theorem Try.cEntries : Try.prog.cellsOf 22 = 1 := by kernel_rfl
theorem Try.cRoot : Try.prog.cellsOf 24 = 7 := by kernel_rfl
theorem Try.bytesEntry : Try.prog.bytesOf 54 = 32 := by kernel_rfl
theorem list_of {α : Type} (n : Nat) (f : Nat → α) (P : Nat → α → Prop) (h : ∀ i, i < n → P i (f i)) : ∃ l : List α, l.length = n ∧ ∀ i (hi : i < l.length), P i l[i] :=
  ⟨(List.range n).map f, by simp, fun i hi => by simp at hi; simpa using h i hi⟩
theorem u16_of_wf {x : Int} (h : (Lit.int .u16 x).wf = true) : 0 ≤ x ∧ x ≤ 65535 := by
  simp [Lit.wf, IntKind.min, IntKind.max, IntKind.signed, IntKind.bits] at h
  exact ⟨by omega, by omega⟩
theorem array7 {cs : Array Value} (h : cs.size = 7) : ∃ a b c d e f g, cs = #[a, b, c, d, e, f, g] := by
  obtain ⟨l⟩ := cs
  match l, h with
  | [a, b, c, d, e, f, g], _ => exact ⟨a, b, c, d, e, f, g, rfl⟩
theorem entries_cells {H : Type} {enc : TypeId × Value → H} {W : World} {fuel : Nat} {cs : List Value} {x : DataW H × List MemPlace} (hf : DataW.trod enc Try.prog W 0 (fun _ => true) true fuel 22 cs = some x) :
    ∃ (a : Option Addr) (cap : Nat) (l : List Ent), cs = [.slice a l.length cap] ∧ IsW W a l ∧ EI l ∧ (a = none → l = [] ∧ cap = 0) ∧ ((∀ n ∈ x.1.weights Try.prog 22, n ≤ reachBytes) → l.length ≤ 4398046511104) := by
  rcases Deep.open_slice Try.underlying22 hf with ⟨hcs, hx⟩ | ⟨y, l, c, m, n, D, Pl, hcs, hb, hl, hm, hmm, hx, hcell⟩
  · exact ⟨none, 0, [], hcs, .inl rfl, (fun e he => by cases he), fun _ => ⟨rfl, rfl⟩, fun _ => Nat.zero_le _⟩
  · simp only [if_true] at hmm
    subst hmm
    rw [Try.cEntry] at hcell
    have each : ∀ i, i < l → ∃ q : Ent, (W.cell? (y.add (i * 4)) = some (.int .i64 q.t) ∧ W.cell? (y.add (i * 4 + 1)) = some (.int .i64 q.i) ∧ W.cell? (y.add (i * 4 + 2)) = some (.int .i64 q.f) ∧ W.cell? (y.add (i * 4 + 3)) = some (.int .i64 q.n)) ∧ inI q.t ∧ inI q.i ∧ inI q.f ∧ inI q.n := by
      intro i hi
      obtain ⟨cs', h1, h2⟩ := hcell i (by omega)
      obtain ⟨_, hlen, hc⟩ := World.cells?_some h1
      obtain ⟨xs, k, _, hD, _, hxl, hfs⟩ := DataW.trod_struct Try.underlying54 h2
      match cs', hlen, xs, hxl with
      | [u0, u1, u2, u3], _, [y0, y1, y2, y3], _ =>
        have g0 := hfs 0 _ rfl
        have g1 := hfs 1 _ rfl
        have g2 := hfs 2 _ rfl
        have g3 := hfs 3 _ rfl
        obtain ⟨z0, e0, _, f0⟩ := DataW.trod_int Try.underlying3 g0
        obtain ⟨z1, e1, _, f1⟩ := DataW.trod_int Try.underlying3 g1
        obtain ⟨z2, e2, _, f2⟩ := DataW.trod_int Try.underlying3 g2
        obtain ⟨z3, e3, _, f3⟩ := DataW.trod_int Try.underlying3 g3
        simp [Try.cInt] at e0 e1 e2 e3
        subst e0 e1 e2 e3
        have c0 := hc 0 (by omega)
        have c1 := hc 1 (by omega)
        have c2 := hc 2 (by omega)
        have c3 := hc 3 (by omega)
        rw [Deep.add_add] at c0 c1 c2 c3
        exact ⟨⟨z0, z1, z2, z3⟩, ⟨by simpa using c0, by simpa using c1, by simpa using c2, by simpa using c3⟩, int_of_wf f0, int_of_wf f1, int_of_wf f2, int_of_wf f3⟩
    haveI : Inhabited Ent := ⟨⟨0, 0, 0, 0⟩⟩
    obtain ⟨q, hq⟩ := Deep.choose_lt each
    obtain ⟨es, hl1, hes⟩ := list_of l q (fun i q => (W.cell? (y.add (i * 4)) = some (.int .i64 q.t) ∧ W.cell? (y.add (i * 4 + 1)) = some (.int .i64 q.i) ∧ W.cell? (y.add (i * 4 + 2)) = some (.int .i64 q.f) ∧ W.cell? (y.add (i * 4 + 3)) = some (.int .i64 q.n)) ∧ inI q.t ∧ inI q.i ∧ inI q.f ∧ inI q.n) hq
    refine ⟨some y, m, es, by rw [hcs, hl1], ?_, ?_, fun e => (by cases e), fun hn => ?_⟩
    · by_cases h0 : es.length = 0
      · exact .inl (List.eq_nil_of_length_eq_zero h0)
      · obtain ⟨b, off, spot⟩ := y
        have h1 := (hes 0 (by omega)).1.1
        have hspot : spot = none := by simpa [Addr.add] using World.cell?_spot h1
        subst hspot
        refine .inr ⟨b, off, rfl, ?_, ?_⟩
        · rw [addr_add] at h1
          exact lt_of_cell h1
        · intro i hi
          obtain ⟨⟨c0, c1, c2, c3⟩, _⟩ := hes i hi
          rw [addr_add] at c0 c1 c2 c3
          simp only [← Nat.add_assoc] at c1 c2 c3
          exact ⟨c0, c1, c2, c3⟩
    · intro e he
      obtain ⟨i, hi, rfl⟩ := List.mem_iff_getElem.1 he
      exact (hes i hi).2
    · rw [hx] at hn
      have := hn _ (by simp only [DataW.weights, Try.underlying22]; exact List.mem_cons_self ..)
      simp [Try.bytesEntry, reachBytes] at this
      omega
theorem open_root {H : Type} {enc : TypeId × Value → H} {W : World} {base : Nat} {v : Value} {d : DataW H} {p : List MemPlace} (hv : Value.okWide Try.prog W .any base 24 v) (h : DataW.Trod enc Try.prog W 0 (fun _ => true) true 24 v d p) :
    ∃ (x : Rt) (a : Option Addr) (c : Nat), v = .agg #[.int .i64 x.b, .int .i64 x.p, .int .i64 x.w, .int .i64 x.h, .int .i64 x.r, .int .i64 x.k, .slice a x.es.length c] ∧ IsW W a x.es ∧ EI x.es ∧ (a = none → x.es = [] ∧ c = 0) ∧ (inI x.b ∧ inI x.p ∧ inI x.w ∧ inI x.h ∧ inI x.r ∧ inI x.k) ∧ ((∀ n ∈ d.weights Try.prog 24, n ≤ reachBytes) → x.es.length ≤ 4398046511104) := by
  obtain ⟨cs, rfl, hsz⟩ := okWide_struct Try.underlying24 hv
  obtain ⟨c0, c1, c2, c3, c4, c5, c6, rfl⟩ := array7 (hsz.trans Try.cRoot)
  obtain ⟨fuel, hf⟩ := h
  obtain ⟨xs, n, _, hx, hl, hlen, hfs⟩ := DataW.trod_struct Try.underlying24 hf
  match xs, hlen with
  | [y0, y1, y2, y3, y4, y5, y6], _ =>
    have g0 := hfs 0 _ rfl
    have g1 := hfs 1 _ rfl
    have g2 := hfs 2 _ rfl
    have g3 := hfs 3 _ rfl
    have g4 := hfs 4 _ rfl
    have g5 := hfs 5 _ rfl
    have g6 := hfs 6 _ rfl
    obtain ⟨x0, e0, _, f0⟩ := DataW.trod_int Try.underlying3 g0
    obtain ⟨x1, e1, _, f1⟩ := DataW.trod_int Try.underlying3 g1
    obtain ⟨x2, e2, _, f2⟩ := DataW.trod_int Try.underlying3 g2
    obtain ⟨x3, e3, _, f3⟩ := DataW.trod_int Try.underlying3 g3
    obtain ⟨x4, e4, _, f4⟩ := DataW.trod_int Try.underlying3 g4
    obtain ⟨x5, e5, _, f5⟩ := DataW.trod_int Try.underlying3 g5
    obtain ⟨a, c, es, e6, hE, hI, hN, hw⟩ := entries_cells g6
    simp [Value.cells, Try.cInt, Try.cEntries] at e0 e1 e2 e3 e4 e5 e6
    subst e0 e1 e2 e3 e4 e5 e6
    refine ⟨⟨x0, x1, x2, x3, x4, x5, es⟩, a, c, rfl, hE, hI, hN, ⟨int_of_wf f0, int_of_wf f1, int_of_wf f2, int_of_wf f3, int_of_wf f4, int_of_wf f5⟩, fun hn => ?_⟩
    have hd : d = .agg [y0.1, y1.1, y2.1, y3.1, y4.1, y5.1, y6.1] := congrArg Prod.fst hx
    rw [hd] at hn
    simp only [DataW.weights, Try.underlying24] at hn
    exact hw (fun k hk => hn k (DataW.weights_mem_each (j := 6) rfl rfl k hk))
end Go.Proofs.Ytgpkiajakokjmaa
