/- What the lifts of layer 19 share: the variable errors.errorType, a handle, as the program's text lays it. -/
import Derived.Test.YtgmmgklcndnehaaDoorErB
import Derived.Test.YtgmmgklcndnehaaDoorGzAC
import Derived.Test.YtgmmgklcndnehaaDoorTie
import Derived.Test.YtgmmgklcndnehaaDoorCards
import Derived.ProofKit
import Derived.OpenShut
import Derived.ChangeOld
import Derived.ChangeSame
import Derived.ChangeVars
import Derived.JoinedOf
import Derived.SizedLaws
import Derived.LaidMore
import Derived.LaidLaws
import Derived.LaidHandle
import Derived.Stop.Joined
import Derived.SevenTiedAt
import Derived.Lib.SmallJoins
namespace Go.Proofs.YtgmmgklcndnehaaDoor
open Go.ChangeShapes Go.WideShapes Go.ChangeAt Go.RowKit
set_option linter.unusedVariables false
set_option maxRecDepth 4000

/-- What the rows list. -/
def lst : List (String × DataW Unit) := [("errors.errorType", Rows.laid_errors_errorType)]
theorem gE : Tryd.prog.globalNamed "errors.errorType" = some 0 := by kernel_rfl
theorem rtE : (Tryd.prog.cutTypes.find? (·.1 == "internal/reflectlite.rtype")).map (·.2) = some 131 := by kernel_rfl
theorem oneRowE : ((List.range 174).filter fun t => Tryd.prog.rowNamed t [101, 114, 114, 111, 114]) = [28] := by kernel_rfl
theorem sizeE : Tryd.prog.types.size = 174 := by kernel_rfl
/-- What the condition gives a walk: the variable's one cell. -/
theorem errT_of_laid {W : World} (h : laidMetH Tryd.prog lst W) : ErrT W := by
  have h' : laidMet Tryd.prog [] W ∧ handlesMet Tryd.prog lst W := h
  obtain ⟨name, u, ty, e1, e2, e3, e4, e5⟩ := h'.2 _ (List.mem_singleton.2 rfl)
  have en : name = [101, 114, 114, 111, 114] := (Option.some.inj e1).symm
  subst en
  obtain rfl := Option.some.inj (rtE.symm.trans e2)
  have hm : ty ∈ (List.range 174).filter fun t => Tryd.prog.rowNamed t [101, 114, 114, 111, 114] := List.mem_filter.2 ⟨List.mem_range.2 (by rw [← sizeE]; exact e3), e4⟩
  rw [oneRowE] at hm
  obtain rfl := List.mem_singleton.1 hm
  have hh : typeHandle Tryd.prog 28 = .pointer (some ⟨1, 28, none⟩) := by kernel_rfl
  rw [hh] at e5
  have q := World.var?_cell gE e5 0
  unfold ErrT
  simpa using q

/-- A world that meets the condition: the settled one, the variable's cell laid. -/
noncomputable def laidWorld (os : Os) : World :=
  let w0 := World.holding Tryd.prog os ⟨#[], #[], []⟩
  { w0 with heap := w0.heap.modify 0 fun
      | .cells _ t frozen => .cells #[.iface 131 (.agg #[.pointer (some ⟨1, 28, none⟩)])] t frozen
      | o => o }
theorem laidWorld_met (os : Os) (args : Array Value) : laidMetH Tryd.prog lst ((laidWorld os).forCall (fun _ _ => 0) ⟨#[], args, []⟩).memory :=
  laidMetH_of_parts (laidMet_nil _ _) (by kernel_rfl)
end Go.Proofs.YtgmmgklcndnehaaDoor

/- Layer 19: structs that came in are opened: a disk's bytes and a place in it; a burst. -/
namespace Go.Proofs.YtgmmgklcndnehaaDoor
open Go.ChangeShapes Go.WideShapes Go.ChangeAt Go.RowKit
set_option linter.unusedVariables false
set_option maxRecDepth 4000

theorem array4 {a : Array Value} (h : a.size = 4) : ∃ v0 v1 v2 v3, a = #[v0, v1, v2, v3] := by
  obtain ⟨l⟩ := a
  have h : l.length = 4 := h
  match l, h with
  | [v0, v1, v2, v3], _ => exact ⟨v0, v1, v2, v3, rfl⟩
theorem cells_held : Tryd.prog.cellsOf 42 = 4 := by kernel_rfl
theorem cells_bytes19 : Tryd.prog.cellsOf 22 = 1 := by kernel_rfl
theorem cells_3 : Tryd.prog.cellsOf 3 = 1 := by kernel_rfl
theorem cells_4 : Tryd.prog.cellsOf 4 = 1 := by kernel_rfl
theorem caps_cells {H : Type} {enc : TypeId × Value → H} {W : World} {fuel : Nat} {cs : List Value} {x : DataW H × List MemPlace} (hf : DataW.trod enc Tryd.prog W 0 (fun _ => true) true fuel 22 cs = some x) {a : Option Addr} {len cap : Nat} (hc : cs = [.slice a len cap]) : len ≤ cap ∧ cap ≤ maxLen := by
  subst hc
  rcases open_ints Tryd.underlying22 Tryd.underlying5 (by kernel_rfl) hf with ⟨hcs, hx⟩ | ⟨y, l, c, zs, hcs, _, hl, hm, hz, hx, hcell, hwz⟩
  · simp at hcs
    obtain ⟨rfl, rfl, rfl⟩ := hcs
    exact ⟨Nat.le_refl _, Nat.zero_le _⟩
  · simp at hcs
    obtain ⟨rfl, rfl, rfl⟩ := hcs
    exact ⟨hl, hm⟩
/-- A disk's bytes and a place in it that came in. -/
theorem open_held {H : Type} {enc : TypeId × Value → H} {W : World} {base : Nat} {v : Value} {d : DataW H} {q : List MemPlace} (hv : Value.okWide Tryd.prog W .any base 42 v) (h : DataW.Trod enc Tryd.prog W 0 (fun _ => true) true 42 v d q) :
    ∃ (l : List Int) (a : Option Addr) (c : Nat) (first n : Int) (ar : Bool), v = .agg #[.slice a l.length c, .int .i64 first, .int .i64 n, .bool ar] ∧ IsB W a l ∧ (l.length ≤ c ∧ c ≤ maxLen) ∧ (-9223372036854775808 ≤ first ∧ first ≤ 9223372036854775807) := by
  obtain ⟨cs, rfl, hsz⟩ := okWide_struct Tryd.underlying42 hv
  obtain ⟨v0, v1, v2, v3, rfl⟩ := array4 (hsz.trans cells_held)
  obtain ⟨fuel, hf⟩ := h
  obtain ⟨y0, y1, y2, y3, n, hx, _, h0, h1, h2, h3⟩ := Joins.trod_struct4 Tryd.underlying42 hf
  simp [Value.cells, cells_bytes19, cells_3, cells_4] at h0 h1 h2 h3
  obtain ⟨la, lc, l, el, m1, n1, o1, p1⟩ := bytes_cells h0
  simp at el
  have hcp := caps_cells h0 (a := la) (len := l.length) (cap := lc) (by simp [el])
  obtain ⟨x, e1, _, f1⟩ := DataW.trod_int Tryd.underlying3 h1
  obtain ⟨x2, e2, _, f2⟩ := DataW.trod_int Tryd.underlying3 h2
  obtain ⟨x3, e3, _⟩ := DataW.trod_bool Tryd.underlying4 h3
  simp at e1 e2 e3
  subst el e1 e2 e3
  exact ⟨l, la, lc, x, x2, x3, rfl, m1, hcp, int_of_wf f1⟩
end Go.Proofs.YtgmmgklcndnehaaDoor
