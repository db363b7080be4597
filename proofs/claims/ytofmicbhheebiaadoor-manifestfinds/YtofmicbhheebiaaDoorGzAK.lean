/- What the lifts of ManifestFinds share: the variable errors.errorType, a handle, as the program's text lays it. -/
import Derived.Test.YtofmicbhheebiaaDoorMfEB
import Derived.Test.YtofmicbhheebiaaDoorGzAD
import Derived.Test.YtofmicbhheebiaaDoorTie
import Derived.Test.YtofmicbhheebiaaDoorCards
import Derived.ProofKit
import Derived.OpenShut
import Derived.ChangeOld
import Derived.ChangeSame
import Derived.ChangeVars
import Derived.JoinedOf
import Derived.SizedLaws
import Derived.LaidMore
import Derived.LaidLaws
import Derived.LaidHandle
import Derived.Stop.Joined
import Derived.SevenTiedAt
import Derived.Lib.SmallJoins
namespace Go.Proofs.YtofmicbhheebiaaDoor
open Go.ChangeShapes Go.WideShapes Go.ChangeAt Go.RowKit
set_option linter.unusedVariables false
set_option maxRecDepth 4000

/-- What the rows list. -/
def lst : List (String × DataW Unit) := [("errors.errorType", Rows.laid_errors_errorType)]
theorem gE : Tryd.prog.globalNamed "errors.errorType" = some 0 := by kernel_rfl
theorem rtE : (Tryd.prog.cutTypes.find? (·.1 == "internal/reflectlite.rtype")).map (·.2) = some 132 := by kernel_rfl
theorem oneRowE : ((List.range 179).filter fun t => Tryd.prog.rowNamed t [101, 114, 114, 111, 114]) = [40] := by kernel_rfl
theorem sizeE : Tryd.prog.types.size = 179 := by kernel_rfl
/-- What the condition gives a walk: the variable's one cell. -/
theorem errT_of_laid {W : World} (h : laidMetH Tryd.prog lst W) : ErrT W := by
  have h' : laidMet Tryd.prog [] W ∧ handlesMet Tryd.prog lst W := h
  obtain ⟨name, u, ty, e1, e2, e3, e4, e5⟩ := h'.2 _ (List.mem_singleton.2 rfl)
  have en : name = [101, 114, 114, 111, 114] := (Option.some.inj e1).symm
  subst en
  obtain rfl := Option.some.inj (rtE.symm.trans e2)
  have hm : ty ∈ (List.range 179).filter fun t => Tryd.prog.rowNamed t [101, 114, 114, 111, 114] := List.mem_filter.2 ⟨List.mem_range.2 (by rw [← sizeE]; exact e3), e4⟩
  rw [oneRowE] at hm
  obtain rfl := List.mem_singleton.1 hm
  have hh : typeHandle Tryd.prog 40 = .pointer (some ⟨1, 40, none⟩) := by kernel_rfl
  rw [hh] at e5
  have q := World.var?_cell gE e5 0
  unfold ErrT
  simpa using q

/-- A world that meets the condition: the settled one, the variable's cell laid. -/
noncomputable def laidWorld (os : Os) : World :=
  let w0 := World.holding Tryd.prog os ⟨#[], #[], []⟩
  { w0 with heap := w0.heap.modify 0 fun
      | .cells _ t frozen => .cells #[.iface 132 (.agg #[.pointer (some ⟨1, 40, none⟩)])] t frozen
      | o => o }
theorem laidWorld_met (os : Os) (args : Array Value) : laidMetH Tryd.prog lst ((laidWorld os).forCall (fun _ _ => 0) ⟨#[], args, []⟩).memory :=
  laidMetH_of_parts (laidMet_nil _ _) (by kernel_rfl)
end Go.Proofs.YtofmicbhheebiaaDoor

/- Layer 21: a disk's two slots that came in are opened. -/
namespace Go.Proofs.YtofmicbhheebiaaDoor
open Go.ChangeShapes Go.WideShapes Go.ChangeAt Go.RowKit
set_option linter.unusedVariables false
set_option maxRecDepth 4000

theorem array4 {a : Array Value} (h : a.size = 4) : ∃ v0 v1 v2 v3, a = #[v0, v1, v2, v3] := by
  obtain ⟨l⟩ := a
  have h : l.length = 4 := h
  match l, h with
  | [v0, v1, v2, v3], _ => exact ⟨v0, v1, v2, v3, rfl⟩
theorem cells_slots : Tryd.prog.cellsOf 24 = 4 := by kernel_rfl
theorem cells_bytes21 : Tryd.prog.cellsOf 22 = 1 := by kernel_rfl
theorem cells_5 : Tryd.prog.cellsOf 5 = 1 := by kernel_rfl
theorem cells_4 : Tryd.prog.cellsOf 4 = 1 := by kernel_rfl
theorem open_slots {H : Type} {enc : TypeId × Value → H} {W : World} {base : Nat} {v : Value} {d : DataW H} {q : List MemPlace} (hv : Value.okWide Tryd.prog W .any base 24 v) (h : DataW.Trod enc Tryd.prog W 0 (fun _ => true) true 24 v d q) :
    ∃ (la lb : List Int) (aa ab : Option Addr) (ca cb s : Nat) (ar : Bool), v = .agg #[.slice aa la.length ca, .slice ab lb.length cb, .int .u8 (s : Nat), .bool ar] ∧ IsB W aa la ∧ IsB W ab lb ∧ s < 256 := by
  obtain ⟨cs, rfl, hsz⟩ := okWide_struct Tryd.underlying24 hv
  obtain ⟨v0, v1, v2, v3, rfl⟩ := array4 (hsz.trans cells_slots)
  obtain ⟨fuel, hf⟩ := h
  obtain ⟨y0, y1, y2, y3, n, hx, _, h0, h1, h2, h3⟩ := Joins.trod_struct4 Tryd.underlying24 hf
  simp [Value.cells, cells_bytes21, cells_5, cells_4] at h0 h1 h2 h3
  obtain ⟨la, lc, l, el, m1, n1, o1, p1⟩ := bytes_cells h0
  obtain ⟨lb, lcb, l2, el2, m2, n2, o2, p2⟩ := bytes_cells h1
  obtain ⟨x2, e2, _, f2⟩ := DataW.trod_int Tryd.underlying5 h2
  obtain ⟨x3, e3, _⟩ := DataW.trod_bool Tryd.underlying4 h3
  simp at el el2 e2 e3
  obtain ⟨s, rfl, hs⟩ := u8_of_wf f2
  subst el el2 e2 e3
  exact ⟨l, l2, la, lb, lc, lcb, s, x3, rfl, m1, m2, hs⟩
end Go.Proofs.YtofmicbhheebiaaDoor
