/- What the lifts of layer 13 share: both tables in their variables, arguments opened. -/
import Derived.Test.YtbnmbkohmmiamaaDoorLbH
import Derived.Test.YtbnmbkohmmiamaaDoorSpI
import Derived.Test.YtbnmbkohmmiamaaDoorTie
import Derived.Test.YtbnmbkohmmiamaaDoorCards
import Derived.ProofKit
import Derived.OpenShut
import Derived.ChangeOld
import Derived.SizedLaws
import Derived.LaidMore
import Derived.LaidSub
import Derived.Lib.LaidTab
import Derived.Stop.Joined
import Derived.SevenTiedAt
import Derived.Deep.Slices
import Derived.Deep.SlicePairs
import Derived.Lib.SmallJoins
import Derived.Deep.Strs
namespace Go.Proofs.YtbnmbkohmmiamaaDoor
open Go.ChangeShapes Go.WideShapes Go.ChangeAt Go.RowKit
set_option linter.unusedVariables false
set_option maxRecDepth 4000

theorem own : ownKnob Tryd.prog.godebug = none := by kernel_rfl
theorem laidOut : laidOutB Tryd.prog = true := by kernel_rfl

/-- What the rows list. -/
def lst : List (String × DataW Unit) := [("hayloft/class.slotBytes", Rows.laid_hayloft_class_slotBytes), ("math/bits.deBruijn64tab", Rows.laid_math_bits_deBruijn64tab)]
/-- The second of them alone. -/
def lst2 : List (String × DataW Unit) := [("math/bits.deBruijn64tab", Rows.laid_math_bits_deBruijn64tab)]

theorem gC : Tryd.prog.globalNamed "hayloft/class.slotBytes" = some 0 := by kernel_rfl
theorem tC : (Tryd.prog.globals[0]?).map (·.type) = some 71 := by kernel_rfl
theorem Tryd.cellsC : Tryd.prog.cellsOf 71 = 7 := by kernel_rfl
theorem Tryd.cells3 : Tryd.prog.cellsOf 3 = 1 := by kernel_rfl
theorem gB : Tryd.prog.globalNamed "math/bits.deBruijn64tab" = some 1 := by kernel_rfl
theorem tB : (Tryd.prog.globals[1]?).map (·.type) = some 106 := by kernel_rfl
theorem Tryd.cellsB : Tryd.prog.cellsOf 106 = 64 := by kernel_rfl
theorem Tryd.cells5 : Tryd.prog.cellsOf 5 = 1 := by kernel_rfl

/-- The door's own heap meets the condition. -/
theorem door_met (os : Os) (args : Array Value) : laidMetH Tryd.prog lst ((World.doorLaid Tryd.prog 14 os).forCall (fun _ _ => 0) ⟨#[], args, []⟩).memory :=
  laidMetH_of_parts3 (fuel := 8) (laidMet_of_run' 8 (by kernel_rfl) (by kernel_rfl)) (by kernel_rfl) (by kernel_rfl)

theorem lst_tab : lst = [("hayloft/class.slotBytes", Lib.tabData .i64 [16, 24, 32, 48, 64, 96, 128]), ("math/bits.deBruijn64tab", Rows.laid_math_bits_deBruijn64tab)] := by rfl
theorem lst2_tab : lst2 = [("math/bits.deBruijn64tab", Lib.tabData .u8 (Lib.deBruijn64tab.map fun z : Nat => (z : Int)))] := by rfl

theorem heap_of_cell {w : World} {a : Addr} {v : Value} (h : w.cell? a = some v) : a.block < w.heap.size := by
  rcases Nat.lt_or_ge a.block w.heap.size with h' | h'
  · exact h'
  · simp [World.cell?, Array.getElem?_eq_none h'] at h
theorem tabC_of_laid {W : World} (h : laidMetH Tryd.prog lst W) : TabC W := by
  rw [MakeChecks.laidMetH_plain _ _ _ (by kernel_rfl), lst_tab] at h
  have hT := Lib.tabIs_of_head gC tC Tryd.underlying71 Tryd.underlying3 Tryd.cells3 Tryd.cellsC h
  have hc : ∀ j, j < 7 → W.cell? ⟨0, j, none⟩ = some (.int .i64 (sizeN j : Nat)) := by
    intro j hj
    rw [hT.cell gC j hj]
    rcases j with _ | _ | _ | _ | _ | _ | _ | j <;> first | rfl | omega
  exact ⟨heap_of_cell (hc 0 (by decide)), hc⟩
theorem lst_two : lst.filter (fun x => x.1 == "math/bits.deBruijn64tab") = lst2 := by rfl
theorem tabB_of_laid {W : World} (h0 : laidMetH Tryd.prog lst W) : TabB W := by
  have h := h0.filter (fun x => x.1 == "math/bits.deBruijn64tab")
  rw [lst_two, MakeChecks.laidMetH_plain _ _ _ (by kernel_rfl), lst2_tab] at h
  have hT := Lib.tabIs_of_head gB tB Tryd.underlying106 Tryd.underlying5 Tryd.cells5 Tryd.cellsB h
  have hc : ∀ j, j < 64 → W.cell? ⟨1, j, none⟩ = some (.int .u8 (Lib.deBruijn64tab.getD j 0 : Nat)) := by
    intro j hj
    have hl : (Lib.deBruijn64tab.map fun z : Nat => (z : Int)).length = 64 := by rfl
    rw [hT.cell gB j (by rw [hl]; exact hj)]
    congr 2
    have hl2 : Lib.deBruijn64tab.length = 64 := by rfl
    simp [List.getD, hl2, hj]
  exact ⟨heap_of_cell (hc 0 (by decide)), hc⟩
theorem tabs_of_laid {W : World} (h : laidMetH Tryd.prog lst W) : Tabs W := ⟨tabC_of_laid h, tabB_of_laid h⟩

theorem int_of_wf {x : Int} (h : (Lit.int .i64 x).wf = true) : -9223372036854775808 ≤ x ∧ x ≤ 9223372036854775807 := by
  simp [Lit.wf, IntKind.min, IntKind.max, IntKind.signed, IntKind.bits] at h
  exact ⟨by omega, by omega⟩
theorem isI_of_cells {w : World} (x : Addr) (len : Nat) (zs : List Int) (hl : len ≤ zs.length) (hc : ∀ i, i < zs.length → w.cell? (x.add i) = some (.int .i64 (zs.getD i 0))) (hw : ∀ n ∈ zs, (Lit.int .i64 n).wf = true) : IsI w (some x) (zs.take len) := by
  refine ⟨fun n hn => int_of_wf (hw n (List.mem_of_mem_take hn)), ?_⟩
  by_cases h0 : len = 0
  · exact .inl (by rw [h0]; rfl)
  · obtain ⟨b, off, spot⟩ := x
    have h1 := hc 0 (by omega)
    have hspot : spot = none := by simpa [Addr.add] using World.cell?_spot h1
    subst hspot
    refine .inr ⟨b, off, rfl, ?_, ?_⟩
    · rw [addr_add] at h1
      exact heap_of_cell h1
    · intro i hi
      rw [List.length_take] at hi
      rw [← addr_add, hc i (by omega)]
      simp [List.getD, show i < len by omega]
theorem Tryd.bytes3 : Tryd.prog.bytesOf 3 = 8 := by kernel_rfl
/-- A slice of numbers in a cell, and how long it may be. -/
theorem ints_cells {H : Type} {enc : TypeId × Value → H} {W : World} {fuel : Nat} {cs : List Value} {x : DataW H × List MemPlace} (hf : DataW.trod enc Tryd.prog W 0 (fun _ => true) true fuel 44 cs = some x) :
    ∃ (a : Option Addr) (cap : Nat) (l : List Int), cs = [.slice a l.length cap] ∧ IsI W a l ∧ (a = none → l = [] ∧ cap = 0) ∧ l.length ≤ maxLen ∧ ((∀ n ∈ x.1.weights Tryd.prog 44, n ≤ reachBytes) → l.length ≤ 17592186044416) := by
  rcases open_ints Tryd.underlying44 Tryd.underlying3 (by kernel_rfl) hf with ⟨hcs, hx⟩ | ⟨y, l, c, zs, hcs, _, hl, hm, hz, hx, hcell, hwz⟩
  · exact ⟨none, 0, [], hcs, ⟨by simp, .inl rfl⟩, fun _ => ⟨rfl, rfl⟩, Nat.zero_le _, fun _ => Nat.zero_le _⟩
  · simp only [if_true] at hz
    refine ⟨some y, c, zs.take l, ?_, isI_of_cells y l zs (by omega) hcell hwz, by simp, by rw [List.length_take]; omega, fun hn => ?_⟩
    · rw [hcs, List.length_take, Nat.min_eq_left (by omega)]
    · rw [hx] at hn
      have := hn _ (by simp [DataW.weights, Tryd.underlying44]; left; rfl)
      simp [lits, Tryd.bytes3, reachBytes] at this
      rw [List.length_take]
      omega
theorem weights_all {H : Type} {P : Program} {e : TypeId} : ∀ {l : List (DataW H)} {d : DataW H}, d ∈ l → ∀ n ∈ d.weights P e, n ∈ DataW.weightsAll P e l
  | x :: l, d, h, n, hn => by
    rw [DataW.weightsAll, List.mem_append]
    rcases List.mem_cons.1 h with rfl | h
    · exact .inl hn
    · exact .inr (weights_all h n hn)
theorem Tryd.cellsSpan : Tryd.prog.cellsOf 46 = 4 := by kernel_rfl
theorem Tryd.cellsIn : Tryd.prog.cellsOf 3 = 1 := by kernel_rfl
theorem Tryd.cellsInts : Tryd.prog.cellsOf 44 = 1 := by kernel_rfl
/-- A slice of spans in a cell. -/
theorem spans_cells {H : Type} {enc : TypeId × Value → H} {W : World} {fuel : Nat} {cs : List Value} {x : DataW H × List MemPlace} (hf : DataW.trod enc Tryd.prog W 0 (fun _ => true) true fuel 22 cs = some x) :
    ∃ (a : Option Addr) (cap : Nat) (ts : List Td), cs = [.slice a ts.length cap] ∧ RdT W a ts ∧ ts.length ≤ maxLen ∧ (∀ t ∈ ts, -9223372036854775808 ≤ t.p ∧ t.p ≤ 9223372036854775807) ∧ (∀ t ∈ ts, -9223372036854775808 ≤ t.c ∧ t.c ≤ 9223372036854775807) ∧ (∀ t ∈ ts, -9223372036854775808 ≤ t.s ∧ t.s ≤ 9223372036854775807) ∧ ((∀ n ∈ x.1.weights Tryd.prog 22, n ≤ reachBytes) → ∀ t ∈ ts, t.l.length ≤ 17592186044416) := by
  rcases Deep.open_slice Tryd.underlying22 hf with ⟨hcs, hx⟩ | ⟨x0, l, c, m, n, D, Pl, hcs, hb, hl, hm, hmm, hx, hcell⟩
  · exact ⟨none, 0, [], hcs, fun i hi => by simp at hi, Nat.zero_le _, by simp, by simp, by simp, by simp⟩
  · simp only [if_true] at hmm
    subst hmm
    rw [Tryd.cellsSpan] at hcell
    have each : ∀ i, i < l → ∃ q : Td × Option Addr × Nat, W.cell? (x0.add (i * 4)) = some (.int .i64 q.1.p) ∧ W.cell? (x0.add (i * 4 + 1)) = some (.int .i64 q.1.c) ∧ W.cell? (x0.add (i * 4 + 2)) = some (.int .i64 q.1.s) ∧ W.cell? (x0.add (i * 4 + 3)) = some (.slice q.2.1 q.1.l.length q.2.2) ∧ IsI W q.2.1 q.1.l ∧ q.1.l.length ≤ maxLen ∧ (Lit.int .i64 q.1.p).wf = true ∧ (Lit.int .i64 q.1.c).wf = true ∧ (Lit.int .i64 q.1.s).wf = true ∧ ((∀ n ∈ (D i).weights Tryd.prog 46, n ≤ reachBytes) → q.1.l.length ≤ 17592186044416) := by
      intro i hi
      obtain ⟨cs', h1, h2⟩ := hcell i (by omega)
      obtain ⟨_, hlen, hc⟩ := World.cells?_some h1
      obtain ⟨y0, y1, y2, y3, k, hD, _, g0, g1, g2, g3⟩ := Joins.trod_struct4 Tryd.underlying46 h2
      match cs', hlen with
      | [u0, u1, u2, u3], _ =>
        obtain ⟨z0, e0, _, f0⟩ := DataW.trod_int Tryd.underlying3 g0
        obtain ⟨z1, e1, _, f1⟩ := DataW.trod_int Tryd.underlying3 g1
        obtain ⟨z2, e2, _, f2⟩ := DataW.trod_int Tryd.underlying3 g2
        obtain ⟨a5, c5, l5, e3, m5, n5, o5, p5⟩ := ints_cells g3
        simp [Tryd.cellsIn, Tryd.cellsInts] at e0 e1 e2 e3
        subst e0 e1 e2 e3
        have c0 := hc 0 (by omega)
        have c1 := hc 1 (by omega)
        have c2 := hc 2 (by omega)
        have c3 := hc 3 (by omega)
        rw [Deep.add_add] at c0 c1 c2 c3
        refine ⟨(⟨z0, z1, z2, l5⟩, a5, c5), by simpa using c0, by simpa using c1, by simpa using c2, by simpa using c3, m5, o5, f0, f1, f2, fun hn => p5 (fun k hk => hn k ?_)⟩
        have hD' : D i = .agg [y0.1, y1.1, y2.1, y3.1] := congrArg Prod.fst hD
        rw [hD']
        simp only [DataW.weights, Tryd.underlying46]
        exact DataW.weights_mem_each (j := 3) rfl rfl k hk
    have pick : ∃ q : Nat → Td × Option Addr × Nat, ∀ i, i < l → W.cell? (x0.add (i * 4)) = some (.int .i64 (q i).1.p) ∧ W.cell? (x0.add (i * 4 + 1)) = some (.int .i64 (q i).1.c) ∧ W.cell? (x0.add (i * 4 + 2)) = some (.int .i64 (q i).1.s) ∧ W.cell? (x0.add (i * 4 + 3)) = some (.slice (q i).2.1 (q i).1.l.length (q i).2.2) ∧ IsI W (q i).2.1 (q i).1.l ∧ (q i).1.l.length ≤ maxLen ∧ (Lit.int .i64 (q i).1.p).wf = true ∧ (Lit.int .i64 (q i).1.c).wf = true ∧ (Lit.int .i64 (q i).1.s).wf = true ∧ ((∀ n ∈ (D i).weights Tryd.prog 46, n ≤ reachBytes) → (q i).1.l.length ≤ 17592186044416) := by
      refine ⟨fun i => if h : i < l then Classical.choose (each i h) else (⟨0, 0, 0, []⟩, none, 0), fun i hi => ?_⟩
      simp only [dif_pos hi]
      exact Classical.choose_spec (each i hi)
    obtain ⟨q, hq⟩ := pick
    have hln : ((List.range l).map (fun i => (q i).1)).length = l := by simp
    refine ⟨some x0, m, (List.range l).map (fun i => (q i).1), by rw [hcs, hln], fun i hi => ?_, by rw [hln]; omega, fun t ht => ?_, fun t ht => ?_, fun t ht => ?_, fun hn t ht => ?_⟩
    · have hi' : i < l := by rw [hln] at hi; exact hi
      obtain ⟨c0, c1, c2, c3, hI, hM, _⟩ := hq i hi'
      obtain ⟨b, off, spot⟩ := x0
      have h00 := (hq 0 (by omega)).1
      have hspot : spot = none := by simpa [Addr.add] using World.cell?_spot h00
      subst hspot
      rw [addr_add] at c0 c1 c2 c3
      simp only [List.getElem_map, List.getElem_range]
      exact ⟨b, off, (q i).2.1, (q i).2.2, rfl, c0, by rw [Nat.add_assoc]; exact c1, by rw [Nat.add_assoc]; exact c2, by rw [Nat.add_assoc]; exact c3, hI, hM⟩
    · obtain ⟨i, hi, rfl⟩ := List.mem_map.1 ht
      exact int_of_wf (hq i (List.mem_range.1 hi)).2.2.2.2.2.2.1
    · obtain ⟨i, hi, rfl⟩ := List.mem_map.1 ht
      exact int_of_wf (hq i (List.mem_range.1 hi)).2.2.2.2.2.2.2.1
    · obtain ⟨i, hi, rfl⟩ := List.mem_map.1 ht
      exact int_of_wf (hq i (List.mem_range.1 hi)).2.2.2.2.2.2.2.2.1
    · obtain ⟨i, hi, rfl⟩ := List.mem_map.1 ht
      refine (hq i (List.mem_range.1 hi)).2.2.2.2.2.2.2.2.2 (fun k hk => hn k ?_)
      rw [hx]
      simp only [DataW.weights, Tryd.underlying22]
      exact List.mem_cons_of_mem _ (List.mem_append_left _ (weights_all (List.mem_map.2 ⟨i, hi, rfl⟩) k hk))


/-- Spans that came in. -/
theorem open_spans {H : Type} {enc : TypeId × Value → H} {W : World} {a : Option Addr} {len cap : Nat} {d : DataW H} {p : List MemPlace} (h : DataW.Trod enc Tryd.prog W 0 (fun _ => true) true 22 (.slice a len cap) d p) :
    ∃ ts : List Td, ts.length = len ∧ RdT W a ts ∧ len ≤ maxLen ∧ (∀ t ∈ ts, -9223372036854775808 ≤ t.p ∧ t.p ≤ 9223372036854775807) ∧ ((∀ n ∈ d.weights Tryd.prog 22, n ≤ reachBytes) → ∀ t ∈ ts, t.l.length ≤ 17592186044416) := by
  obtain ⟨fuel, hf⟩ := h
  obtain ⟨a', cap', ts, e, h1, h2, h3, _, _, h4⟩ := spans_cells hf
  simp [Value.cells] at e
  obtain ⟨rfl, rfl, rfl⟩ := e
  exact ⟨ts, rfl, h1, h2, h3, h4⟩
theorem Tryd.cellsMove : Tryd.prog.cellsOf 35 = 3 := by kernel_rfl
/-- Moves that came in. -/
theorem open_moves {H : Type} {enc : TypeId × Value → H} {W : World} {a : Option Addr} {len cap : Nat} {d : DataW H} {p : List MemPlace} (h : DataW.Trod enc Tryd.prog W 0 (fun _ => true) true 25 (.slice a len cap) d p) :
    ∃ l : List Mv, l.length = len ∧ RdV W a l ∧ len ≤ maxLen := by
  obtain ⟨fuel, hf⟩ := h
  rcases Deep.open_slice Tryd.underlying25 hf with ⟨hcs, hx⟩ | ⟨x0, l, c, m, n, D, Pl, hcs, hb, hl, hm, hmm, hx, hcell⟩
  · simp [Value.cells] at hcs
    obtain ⟨rfl, rfl, rfl⟩ := hcs
    exact ⟨[], rfl, fun i hi => by simp at hi, Nat.zero_le _⟩
  · simp [Value.cells] at hcs
    obtain ⟨rfl, rfl, rfl⟩ := hcs
    simp only [if_true] at hmm
    subst hmm
    rw [Tryd.cellsMove] at hcell
    have each : ∀ i, i < len → ∃ q : Mv, W.cell? (x0.add (i * 3)) = some (.int .i64 q.fr) ∧ W.cell? (x0.add (i * 3 + 1)) = some (.int .i64 q.to) ∧ W.cell? (x0.add (i * 3 + 2)) = some (.int .i64 q.ln) := by
      intro i hi
      obtain ⟨cs', h1, h2⟩ := hcell i (by omega)
      obtain ⟨_, hlen, hc⟩ := World.cells?_some h1
      obtain ⟨y0, y1, y2, k, hD, _, g0, g1, g2⟩ := Deep.trod_struct3 Tryd.underlying35 h2
      match cs', hlen with
      | [u0, u1, u2], _ =>
        obtain ⟨z0, e0, _, f0⟩ := DataW.trod_int Tryd.underlying3 g0
        obtain ⟨z1, e1, _, f1⟩ := DataW.trod_int Tryd.underlying3 g1
        obtain ⟨z2, e2, _, f2⟩ := DataW.trod_int Tryd.underlying3 g2
        simp [Tryd.cellsIn] at e0 e1 e2
        subst e0 e1 e2
        have c0 := hc 0 (by omega)
        have c1 := hc 1 (by omega)
        have c2 := hc 2 (by omega)
        rw [Deep.add_add] at c0 c1 c2
        exact ⟨⟨z0, z1, z2⟩, by simpa using c0, by simpa using c1, by simpa using c2⟩
    haveI : Inhabited Mv := ⟨⟨0, 0, 0⟩⟩
    obtain ⟨q, hq⟩ := Deep.choose_lt each
    have hln : ((List.range len).map q).length = len := by simp
    refine ⟨(List.range len).map q, hln, fun i hi => ?_, by omega⟩
    have hi' : i < len := by rw [hln] at hi; exact hi
    obtain ⟨c0, c1, c2⟩ := hq i hi'
    obtain ⟨b, off, spot⟩ := x0
    have h00 := (hq 0 (by omega)).1
    have hspot : spot = none := by simpa [Addr.add] using World.cell?_spot h00
    subst hspot
    have hbl : b < W.heap.size := heap_of_cell h00
    rw [addr_add] at c0 c1 c2
    simp only [List.getElem_map, List.getElem_range]
    exact ⟨b, off, rfl, hbl, c0, by rw [Nat.add_assoc]; exact c1, by rw [Nat.add_assoc]; exact c2⟩
end Go.Proofs.YtbnmbkohmmiamaaDoor
