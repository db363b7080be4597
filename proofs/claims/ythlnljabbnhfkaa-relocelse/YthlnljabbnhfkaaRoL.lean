/- What the laws of layer 16 share: how arguments that came in are opened. -/
import Derived.Test.YthlnljabbnhfkaaKeZ
import Derived.Laws.IdiomArrays
namespace Go.Proofs.Ythlnljabbnhfkaa
open Go.ChangeShapes Go.WideShapes Go.ChangeAt Go.RowKit
set_option linter.unusedVariables false

theorem open_longs {H : Type} {enc : TypeId × Value → H} {W : World} {a : Option Addr} {len cap : Nat} {d : DataW H} {p : List MemPlace} (h : DataW.Trod enc Try.prog W 0 (fun _ => true) true 22 (.slice a len cap) d p) :
    ∃ l : List Int, l.length = len ∧ IsI W a l ∧ (a = none → l = [] ∧ cap = 0) ∧ len ≤ maxLen ∧ ((∀ n ∈ d.weights Try.prog 22, n ≤ reachBytes) → l.length ≤ 17592186044416) := by
  obtain ⟨fuel, hf⟩ := h
  obtain ⟨a', cap', l, hcs, h1, h2, h3, h4⟩ := ints_cells hf
  simp [Value.cells] at hcs
  obtain ⟨rfl, rfl, rfl⟩ := hcs
  exact ⟨l, rfl, h1, h2, h3, h4⟩
theorem open_bases {H : Type} {enc : TypeId × Value → H} {W : World} {base : Nat} {v : Value} {d : DataW H} {p : List MemPlace} (hv : Value.okWide Try.prog W .any base 46 v) (h : DataW.Trod enc Try.prog W 0 (fun _ => true) true 46 v d p) :
    ∃ x y z : Int, v = .agg #[.int .i64 x, .int .i64 y, .int .i64 z] := by
  obtain ⟨v0, v1, v2, y0, y1, y2, n, rfl, _, _, h0, h1, h2⟩ := Joins.open_agg3 Try.underlying46 (by kernel_rfl) (by kernel_rfl) hv h
  obtain ⟨x, e0, _, f0⟩ := DataW.trod_int Try.underlying3 h0
  obtain ⟨y, e1, _, f1⟩ := DataW.trod_int Try.underlying3 h1
  obtain ⟨z, e2, _, f2⟩ := DataW.trod_int Try.underlying3 h2
  simp at e0 e1 e2
  subst e0 e1 e2
  exact ⟨x, y, z, rfl⟩
theorem word_of_wf {x : Int} (h : (Lit.int .u32 x).wf = true) : 0 ≤ x ∧ x ≤ 4294967295 := by
  simp [Lit.wf, IntKind.min, IntKind.max, IntKind.signed, IntKind.bits] at h
  exact ⟨by omega, by omega⟩
theorem okWide_array {t e : TypeId} {n : Nat} {W : World} {r : Reach} {base : Nat} {v : Value} (ht : Try.prog.underlying t = some (.array n e)) (h : Value.okWide Try.prog W r base t v) : ∃ cs, v = .agg cs ∧ cs.size = Try.prog.cellsOf t := by
  simp only [Value.okWide, ht] at h
  obtain ⟨cs, h1, h2, _⟩ := h
  exact ⟨cs, h1, h2⟩
theorem open_words {H : Type} {enc : TypeId × Value → H} {W : World} {base : Nat} {v : Value} {d : DataW H} {p : List MemPlace} (hv : Value.okWide Try.prog W .any base 51 v) (h : DataW.Trod enc Try.prog W 0 (fun _ => true) true 51 v d p) :
    ∃ x y z : Int, v = .agg #[.int .u32 x, .int .u32 y, .int .u32 z] ∧ (0 ≤ x ∧ x ≤ 4294967295) ∧ (0 ≤ y ∧ y ≤ 4294967295) ∧ (0 ≤ z ∧ z ≤ 4294967295) := by
  obtain ⟨cs, rfl, hsz⟩ := okWide_array Try.underlying51 hv
  obtain ⟨c0, c1, c2, rfl⟩ := Joins.array3 (hsz.trans (by kernel_rfl))
  obtain ⟨fuel, hf⟩ := h
  obtain ⟨y0, y1, y2, m, hx, hy0, hy1, hy2⟩ := trod_array3 Try.underlying51 (by kernel_rfl) hf
  obtain ⟨x, e0, _, f0⟩ := DataW.trod_int Try.underlying50 hy0
  obtain ⟨y, e1, _, f1⟩ := DataW.trod_int Try.underlying50 hy1
  obtain ⟨z, e2, _, f2⟩ := DataW.trod_int Try.underlying50 hy2
  simp at e0 e1 e2
  subst e0 e1 e2
  exact ⟨x, y, z, rfl, word_of_wf f0, word_of_wf f1, word_of_wf f2⟩
end Go.Proofs.Ythlnljabbnhfkaa
