/- Layer 17: KdE again -/
import Derived.Test.YtbajchidpffbpaaDoorAuB
import Derived.Test.YtbajchidpffbpaaDoorMhA
import Derived.Test.YtbajchidpffbpaaDoorJrKdA
import Derived.Test.YtbajchidpffbpaaDoorJrKdB
import Derived.Deep.CutBlock
import Derived.Deep.CutRange
import Derived.Test.YtbajchidpffbpaaDoorJrKdD
import Derived.Lib.BitFns
namespace Go.Proofs.YtbajchidpffbpaaDoor
open Go.RowKit
set_option linter.unusedVariables false
set_option maxRecDepth 4000

end Go.Proofs.YtbajchidpffbpaaDoor

/- Layer 17: KdG again -/
namespace Go.Proofs.YtbajchidpffbpaaDoor
open Go.RowKit
set_option linter.unusedVariables false
set_option maxRecDepth 4000
/-- Bytes appended to one's own, as a run. -/
theorem app_own (w : World) (base : Nat) (hbase : base ≤ w.heap.size) (as0 : Option Addr) (L : List Int) (cs : Nat) (hown : OwnsB w base as0 L cs) (ad : Addr) (l : List Int) (cx : Nat) (hB : IsB w (some ad) l) (hlen : L.length + l.length ≤ 140737488355328) :
    ∃ a' cap' w', (Builtin.append_ #[25, 25] 25 #[.slice as0 L.length cs, .slice (some ad) l.length cx]).run Tryd.prog w = .ok (.slice a' (L ++ l).length cap') w' ∧ OwnsB w' base a' (L ++ l) cap' ∧ Below base w w' := by
  obtain ⟨i0, hi, hz0, hz1, hz2⟩ := info_parts Tryd.info5
  obtain ⟨v', w', h1, h2, h3, _⟩ := run_append_own (P := Tryd.prog) w base 25 25 5 i0 (.int .u8 0) 1 1 Tryd.underlying25 hi hz0 hz1 hz2 rfl (by decide) _ L.length (L.map (Value.int .u8)) hown ad l.length cx (l.map (Value.int .u8)) (by simp) (by
      intro j u hj
      have hjn : j < l.length := by
        have := (List.getElem?_eq_some_iff.1 hj).1
        simpa using this
      obtain ⟨_, rfl | ⟨b, off, e, _, hc⟩⟩ := hB
      · simp at hjn
      · cases e
        rw [addr_add, hc j hjn]
        have e : (l.map (Value.int .u8))[j]? = some (Value.int .u8 (l.getD j 0)) := by simp [List.getD, List.getElem?_eq_getElem hjn]
        rw [e] at hj
        exact hj) (by intro u hu; obtain ⟨x, _, rfl⟩ := List.mem_map.1 hu; rfl) (by unfold maxLen; omega) (by omega) hbase
  obtain ⟨a', cap', rfl⟩ := rowns_form h2
  refine ⟨a', cap', w', by rw [List.length_append]; exact h1, by simpa [OwnsB] using h2, ?_⟩
  exact (Below.refl _ w).grown h3 hbase (own_ge hown)

/-- Bytes appended to one's own, in a region that draws. -/
theorem step_appB {ops : Array Oper} {o : Oper} {a : Act} {K : Act → World → Prop} {Q : Exit → Act → World → Prop} {E : Prop} {w : World} (hgd : o.guard = none) (hty : o.type = 25) (s x : Operand)
    (ho : o.op = .call { callee := .builtin .append, args := #[s, x], argTypes := #[25, 25] }) (as0 : Option Addr) (L : List Int) (cs : Nat) (ad : Addr) (l : List Int) (cx : Nat)
    (hs : a.eval s = .slice as0 L.length cs) (hx : a.eval x = .slice (some ad) l.length cx) (base : Nat) (hbase : base ≤ w.heap.size) (hown : OwnsB w base as0 L cs) (hB : IsB w (some ad) l) (hlen : L.length + l.length ≤ 140737488355328)
    (h : ∀ a' cap' w', OwnsB w' base a' (L ++ l) cap' → Below base w w' → K (a.put o.dst (.slice a' (L ++ l).length cap')) w') :
    if Region.wanted o (yielded ops a.tmps) = true then Oper.wp Tryd.prog o a w K Q else E := by
  obtain ⟨a', cap', w', hrun, r1, r2⟩ := app_own w base hbase as0 L cs hown ad l cx hB hlen
  refine step_app hgd s x 25 ho _ _ hs hx _ w' (by rw [hty]; exact hrun) ?_
  exact h a' cap' w' r1 r2

/-- How far the bytes have come. -/
structure BAt (w wr : World) (s : Int) (ps : List Int) (a' : Option Addr) (c' k : Nat) (f : Int) (L : List Int) : Prop where
  own : OwnsB wr w.heap.size a' L c'
  below : Below w.heap.size w wr
  body : bodyK s ps = L ++ gapsL f (ps.drop k)
  placed : placedB s f (ps.drop k) = true
  f0 : 0 ≤ f
  f1 : f ≤ 4096
  f8 : f % 8 = 0
  len : L.length ≤ 20 + 10 * k

end Go.Proofs.YtbajchidpffbpaaDoor

/- Layer 17: KdH again -/
namespace Go.Proofs.YtbajchidpffbpaaDoor
open Go.RowKit
set_option linter.unusedVariables false
set_option maxRecDepth 4000

end Go.Proofs.YtbajchidpffbpaaDoor

/- Layer 17: KdI again -/
namespace Go.Proofs.YtbajchidpffbpaaDoor
open Go.RowKit
set_option linter.unusedVariables false
set_option maxRecDepth 4000

end Go.Proofs.YtbajchidpffbpaaDoor

/- Layer 17: RoA again -/
namespace Go.Proofs.YtbajchidpffbpaaDoor
open Go.RowKit
set_option linter.unusedVariables false
set_option maxRecDepth 4000
theorem AllB.zeros (n : Nat) : AllB (List.replicate n 0) := fun x hx => by rw [List.eq_of_mem_replicate hx]; omega
/-- So many bytes, from this place on, lie among n. -/
def inR (n : Nat) (o k : Int) : Prop := 0 ≤ k ∧ 0 ≤ o ∧ o + k ≤ (n : Int)
instance (n : Nat) (o k : Int) : Decidable (inR n o k) := by unfold inR; infer_instance
def zeroR (l : List Int) (o k : Int) : List Int := if inR l.length o k then overR l o.toNat (List.replicate k.toNat 0) else l
theorem overR_len {l : List Int} {o : Nat} {b : List Int} (h : o + b.length ≤ l.length) : (overR l o b).length = l.length := by
  unfold overR; simp; omega
theorem AllB.over {l b : List Int} (h : AllB l) (hb : AllB b) (o : Nat) : AllB (overR l o b) := ((h.take _).append hb).append (h.drop _)
theorem AllB.zero {l : List Int} (h : AllB l) (o k : Int) : AllB (zeroR l o k) := by
  unfold zeroR; split
  · exact h.over (AllB.zeros _) _
  · exact h
theorem div_steps (n : Int) : n / 256 / 256 = n / 65536 ∧ n / 65536 / 256 = n / 16777216 ∧ n / 16777216 / 256 = n / 4294967296 ∧ n / 4294967296 / 256 = n / 1099511627776 ∧ n / 1099511627776 / 256 = n / 281474976710656 ∧ n / 281474976710656 / 256 = n / 72057594037927936 := by omega
end Go.Proofs.YtbajchidpffbpaaDoor
