/- Layer 17: an image that came in is opened. -/
import Derived.Test.YtbfamjnnlcopiaaDoorJrKeZ
import Derived.Test.YtbfamjnnlcopiaaDoorIgA
namespace Go.Proofs.YtbfamjnnlcopiaaDoor
open Go.ChangeShapes Go.WideShapes Go.ChangeAt Go.RowKit
set_option linter.unusedVariables false
set_option maxRecDepth 4000

theorem array7 {a : Array Value} (h : a.size = 7) : ∃ v0 v1 v2 v3 v4 v5 v6, a = #[v0, v1, v2, v3, v4, v5, v6] := by
  obtain ⟨l⟩ := a
  have h : l.length = 7 := h
  match l, h with
  | [v0, v1, v2, v3, v4, v5, v6], _ => exact ⟨v0, v1, v2, v3, v4, v5, v6, rfl⟩
theorem cells_limg : Tryd.prog.cellsOf 27 = 7 := by kernel_rfl
theorem cells_span17 : Tryd.prog.cellsOf 24 = 4 := by kernel_rfl
theorem cells_ints17 : Tryd.prog.cellsOf 22 = 1 := by kernel_rfl
theorem cells_bytes17 : Tryd.prog.cellsOf 25 = 1 := by kernel_rfl
/-- An image that came in. -/
theorem open_image {H : Type} {enc : TypeId × Value → H} {W : World} {base : Nat} {v : Value} {d : DataW H} {q : List MemPlace} (hv : Value.okWide Tryd.prog W .any base 27 v) (h : DataW.Trod enc Tryd.prog W 0 (fun _ => true) true 27 v d q) :
    ∃ (p c s b : Int) (live offs bytes : List Int) (la oa ba : Option Addr) (lc oc bc : Nat), v = .agg #[.int .i64 p, .int .i64 c, .int .i64 s, .slice la live.length lc, .int .i64 b, .slice oa offs.length oc, .slice ba bytes.length bc] ∧ i64' p ∧ IsI W la live ∧ IsI W oa offs ∧ IsB W ba bytes ∧
      ((∀ n ∈ d.weights Tryd.prog 27, n ≤ reachBytes) → live.length ≤ 17592186044416 ∧ offs.length ≤ 17592186044416 ∧ bytes.length ≤ 140737488355328) := by
  obtain ⟨cs, rfl, hsz⟩ := okWide_struct Tryd.underlying27 hv
  obtain ⟨v0, v1, v2, v3, v4, v5, v6, rfl⟩ := array7 (hsz.trans cells_limg)
  obtain ⟨fuel, hf⟩ := h
  obtain ⟨y0, y1, y2, y3, n, hx, _, h0, h1, h2, h3⟩ := Joins.trod_struct4 Tryd.underlying27 hf
  simp [Value.cells, cells_span17, Tryd.cells3, cells_ints17, cells_bytes17] at h0 h1 h2 h3
  obtain ⟨z0, z1, z2, z3, n', hz, _, k0, k1, k2, k3⟩ := Joins.trod_struct4 Tryd.underlying24 h0
  simp [Tryd.cells3, cells_ints17] at k0 k1 k2 k3
  obtain ⟨x, e0, _, f0⟩ := DataW.trod_int Tryd.underlying3 k0
  obtain ⟨x1, e1, _, f1⟩ := DataW.trod_int Tryd.underlying3 k1
  obtain ⟨x2, e2, _, f2⟩ := DataW.trod_int Tryd.underlying3 k2
  obtain ⟨x3, e3, _, f3⟩ := DataW.trod_int Tryd.underlying3 h1
  obtain ⟨la, lc, live, el, m1, n1, o1, p1⟩ := ints_cells k3
  obtain ⟨oa, oc, offs, eo, m2, n2, o2, p2⟩ := ints_cells h2
  obtain ⟨ba, bc, bytes, eb, m3, n3, o3, o4, o5, p3⟩ := rbytes_cells h3
  simp at e0 e1 e2 e3 el eo eb
  subst e0 e1 e2 e3 el eo eb
  simp only [Prod.mk.injEq] at hx
  refine ⟨x, x1, x2, x3, live, offs, bytes, la, oa, ba, lc, oc, bc, rfl, int_of_wf f0, m1, m2, m3, fun hn => ⟨p1 (fun k hk => hn k ?_), p2 (fun k hk => hn k ?_), p3 (fun k hk => hn k ?_)⟩⟩
  · rw [hx.1]
    simp only [DataW.weights, Tryd.underlying27]
    refine DataW.weights_mem_each (j := 0) rfl rfl k ?_
    rw [hz]
    simp only [DataW.weights, Tryd.underlying24]
    exact DataW.weights_mem_each (j := 3) rfl rfl k hk
  · rw [hx.1]
    simp only [DataW.weights, Tryd.underlying27]
    exact DataW.weights_mem_each (j := 2) rfl rfl k hk
  · rw [hx.1]
    simp only [DataW.weights, Tryd.underlying27]
    exact DataW.weights_mem_each (j := 3) rfl rfl k hk
end Go.Proofs.YtbfamjnnlcopiaaDoor
