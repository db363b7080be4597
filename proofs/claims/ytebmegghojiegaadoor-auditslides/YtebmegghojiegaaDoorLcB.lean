/- What Plan answers, said ahead; Right; the document's example. -/
import Derived.Test.YtebmegghojiegaaDoorGsG
import Derived.Test.YtebmegghojiegaaDoorGsH
namespace Go.Proofs.YtebmegghojiegaaDoor
open Go.RowKit
set_option linter.unusedVariables false

/-- What Plan leaves. -/
def PlanP (w : World) (P : Int) (ts : List Td) (e : Ending) (w' : World) : Prop :=
  (stdB P ts = true ∧ ∃ a1 n1 c1 a2 n2 c2, e = .returned (.tuple #[.slice a1 n1 c1, .slice a2 n2 c2, .int .i64 0]) ∧ (planT (ts.map snT) (FT ts)).length = n1 ∧ (planV (ts.map snT) (FT ts)).length = n2 ∧ Told w' w.heap.size (.slice a1 n1 c1) (planT (ts.map snT) (FT ts)) ∧ Vs w' w.heap.size a2 (planV (ts.map snT) (FT ts)) c2 ∧ Below w.heap.size w w') ∨
  (stdB P ts = false ∧ e = .returned (.tuple #[.slice none 0 0, .slice none 0 0, .int .i64 4]) ∧ Below w.heap.size w w')
theorem PlanP.yes {w w' : World} {P : Int} {ts : List Td} {e : Ending} (h : PlanP w P ts e w') (hs : stdB P ts = true) : ∃ a1 n1 c1 a2 n2 c2, e = .returned (.tuple #[.slice a1 n1 c1, .slice a2 n2 c2, .int .i64 0]) ∧ (planT (ts.map snT) (FT ts)).length = n1 ∧ (planV (ts.map snT) (FT ts)).length = n2 ∧ Told w' w.heap.size (.slice a1 n1 c1) (planT (ts.map snT) (FT ts)) ∧ Vs w' w.heap.size a2 (planV (ts.map snT) (FT ts)) c2 ∧ Below w.heap.size w w' := by
  rcases h with ⟨_, h⟩ | ⟨h, _⟩
  · exact h
  · rw [hs] at h; cases h
theorem PlanP.no {w w' : World} {P : Int} {ts : List Td} {e : Ending} (h : PlanP w P ts e w') (hs : stdB P ts = false) : e = .returned (.tuple #[.slice none 0 0, .slice none 0 0, .int .i64 4]) ∧ Below w.heap.size w w' := by
  rcases h with ⟨h, _⟩ | ⟨_, h⟩
  · rw [hs] at h; cases h
  · exact h
theorem lright_any (P : Int) (a : Option Addr) (n cap : Nat) (ts : List Td) (w : World) (hT : Tabs w) (h : RdT w a ts) (hn : ts.length = n) (hn9 : n ≤ 4000000000000000000) (hr : ∀ t ∈ ts, -9223372036854775808 ≤ t.p ∧ t.p ≤ 9223372036854775807) (r : Bool) (hR : stdB P ts = r) :
    Calls Tryd.prog 84 #[.int .i64 P, .slice a n cap] w fun e w' => e = .returned (.bool r) ∧ Below w.heap.size w w' := by
  have HT : Hid (Tabs w) := hT
  have H : Hid (RdT w a ts) := h
  have HN : Hid (ts.length = n) := hn
  have HRG : Hid (∀ t ∈ ts, -9223372036854775808 ≤ t.p ∧ t.p ≤ 9223372036854775807) := hr
  have HR : Hid (stdB P ts = r) := hR
  clear hT h hn hr hR
  go_enter Tryd.func84, Tryd.ntmps84
  go_wp2_with fail
  refine (stand_any P a n cap ts _ HT.out H.out HN.out hn9 HRG.out r HR.out).mono ?_
  rintro e w1 (⟨rfl, a1, c1, L, ps, rfl, hst⟩ | ⟨rfl, rfl, b1⟩)
  · have B1 : Hid (Below w.heap.size w w1) := hst.bel
    clear hst
    go_wp2
    go_ret
    exact ⟨rfl, B1.out⟩
  · have B1 : Hid (Below w.heap.size w w1) := b1
    clear b1
    go_wp2
    go_ret
    exact ⟨rfl, B1.out⟩
end Go.Proofs.YtebmegghojiegaaDoor
