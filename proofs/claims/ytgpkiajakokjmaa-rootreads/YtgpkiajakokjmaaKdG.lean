/- A kind's bytes: what Bytes answers. -/
import Derived.Test.YtgpkiajakokjmaaKdE
import Derived.Test.YtgpkiajakokjmaaKdB
import Derived.Deep.CutBlock
import Derived.Deep.CutRange
namespace Go.Proofs.Ytgpkiajakokjmaa
open Go.RowKit
set_option linter.unusedVariables false
set_option maxRecDepth 4000

/-- Bytes appended to one's own, as a run. -/
theorem app_own (w : World) (base : Nat) (hbase : base ≤ w.heap.size) (as0 : Option Addr) (L : List Int) (cs : Nat) (hown : OwnsB w base as0 L cs) (ad : Addr) (l : List Int) (cx : Nat) (hB : IsB w (some ad) l) (hlen : L.length + l.length ≤ 140737488355328) :
    ∃ a' cap' w', (Builtin.append_ #[30, 30] 30 #[.slice as0 L.length cs, .slice (some ad) l.length cx]).run Try.prog w = .ok (.slice a' (L ++ l).length cap') w' ∧ OwnsB w' base a' (L ++ l) cap' ∧ Below base w w' := by
  obtain ⟨i0, hi, hz0, hz1, hz2⟩ := info_parts Try.info5
  obtain ⟨v', w', h1, h2, h3, _⟩ := run_append_own (P := Try.prog) w base 30 30 5 i0 (.int .u8 0) 1 1 Try.underlying30 hi hz0 hz1 hz2 rfl (by decide) _ L.length (L.map (Value.int .u8)) hown ad l.length cx (l.map (Value.int .u8)) (by simp) (by
      intro j u hj
      have hjn : j < l.length := by
        have := (List.getElem?_eq_some_iff.1 hj).1
        simpa using this
      obtain ⟨_, rfl | ⟨b, off, e, _, hc⟩⟩ := hB
      · simp at hjn
      · cases e
        rw [addr_add, hc j hjn]
        have e : (l.map (Value.int .u8))[j]? = some (Value.int .u8 (l.getD j 0)) := by simp [List.getD, List.getElem?_eq_getElem hjn]
        rw [e] at hj
        exact hj) (by intro u hu; obtain ⟨x, _, rfl⟩ := List.mem_map.1 hu; rfl) (by unfold maxLen; omega) (by omega) hbase
  obtain ⟨a', cap', rfl⟩ := owns_form h2
  refine ⟨a', cap', w', by rw [List.length_append]; exact h1, by simpa [OwnsB] using h2, ?_⟩
  exact (Below.refl _ w).grown h3 hbase (own_ge hown)

/-- Bytes appended to one's own, in a region that draws. -/
theorem step_appB {ops : Array Oper} {o : Oper} {a : Act} {K : Act → World → Prop} {Q : Exit → Act → World → Prop} {E : Prop} {w : World} (hgd : o.guard = none) (hty : o.type = 30) (s x : Operand)
    (ho : o.op = .call { callee := .builtin .append, args := #[s, x], argTypes := #[30, 30] }) (as0 : Option Addr) (L : List Int) (cs : Nat) (ad : Addr) (l : List Int) (cx : Nat)
    (hs : a.eval s = .slice as0 L.length cs) (hx : a.eval x = .slice (some ad) l.length cx) (base : Nat) (hbase : base ≤ w.heap.size) (hown : OwnsB w base as0 L cs) (hB : IsB w (some ad) l) (hlen : L.length + l.length ≤ 140737488355328)
    (h : ∀ a' cap' w', OwnsB w' base a' (L ++ l) cap' → Below base w w' → K (a.put o.dst (.slice a' (L ++ l).length cap')) w') :
    if Region.wanted o (yielded ops a.tmps) = true then Oper.wp Try.prog o a w K Q else E := by
  obtain ⟨a', cap', w', hrun, r1, r2⟩ := app_own w base hbase as0 L cs hown ad l cx hB hlen
  refine step_app hgd s x 30 ho _ _ hs hx _ w' (by rw [hty]; exact hrun) ?_
  exact h a' cap' w' r1 r2

/-- How far the bytes have come. -/
structure BAt (w wr : World) (s : Int) (ps : List Int) (a' : Option Addr) (c' k : Nat) (f : Int) (L : List Int) : Prop where
  own : OwnsB wr w.heap.size a' L c'
  below : Below w.heap.size w wr
  body : bodyK s ps = L ++ gapsL f (ps.drop k)
  placed : placedB s f (ps.drop k) = true
  f0 : 0 ≤ f
  f1 : f ≤ 4096
  f8 : f % 8 = 0
  len : L.length ≤ 20 + 10 * k

end Go.Proofs.Ytgpkiajakokjmaa
