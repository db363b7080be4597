/- What the lifts of layer 11 share: both tables in their variables. -/
import Derived.Test.YtgmljgogmbaioaaGreatDoorSpG
import Derived.Test.YtgmljgogmbaioaaGreatDoorTie
import Derived.Test.YtgmljgogmbaioaaGreatDoorCards
import Derived.ProofKit
import Derived.OpenShut
import Derived.ChangeOld
import Derived.SizedLaws
import Derived.LaidMore
import Derived.LaidSub
import Derived.Lib.LaidTab
import Derived.Stop.Joined
import Derived.SevenTiedAt
import Derived.Deep.Slices
import Derived.Deep.SlicePairs
import Derived.Lib.SmallJoins
import Derived.Test.YtgmljgogmbaioaaGreatDoorKcAC
import Derived.Test.YtgmljgogmbaioaaGreatDoorMgAC
namespace Go.Proofs.YtgmljgogmbaioaaGreatDoor
open Go.ChangeShapes Go.WideShapes Go.ChangeAt Go.RowKit
set_option linter.unusedVariables false
set_option maxRecDepth 4000

theorem own : ownKnob Tryz.prog.godebug = none := by kernel_rfl
theorem laidOut : laidOutB Tryz.prog = true := by kernel_rfl

/-- What the rows list. -/
def lst : List (String × DataW Unit) := [("hayloft/class.slotBytes", Rows.laid_hayloft_class_slotBytes), ("math/bits.deBruijn64tab", Rows.laid_math_bits_deBruijn64tab)]
/-- The second of them alone. -/
def lst2 : List (String × DataW Unit) := [("math/bits.deBruijn64tab", Rows.laid_math_bits_deBruijn64tab)]

theorem gC : Tryz.prog.globalNamed "hayloft/class.slotBytes" = some 0 := by kernel_rfl
theorem tC : (Tryz.prog.globals[0]?).map (·.type) = some 127 := by kernel_rfl
theorem Tryz.cellsC : Tryz.prog.cellsOf 127 = 7 := by kernel_rfl
theorem Tryz.cells3 : Tryz.prog.cellsOf 3 = 1 := by kernel_rfl
theorem gB : Tryz.prog.globalNamed "math/bits.deBruijn64tab" = some 1 := by kernel_rfl
theorem tB : (Tryz.prog.globals[1]?).map (·.type) = some 161 := by kernel_rfl
theorem Tryz.cellsB : Tryz.prog.cellsOf 161 = 64 := by kernel_rfl
theorem Tryz.cells5 : Tryz.prog.cellsOf 5 = 1 := by kernel_rfl

/-- The door's own heap meets the condition. -/
theorem door_met (os : Os) (args : Array Value) : laidMetH Tryz.prog lst ((World.doorLaid Tryz.prog 14 os).forCall (fun _ _ => 0) ⟨#[], args, []⟩).memory :=
  laidMetH_of_parts3 (fuel := 8) (laidMet_of_run' 8 (by kernel_rfl) (by kernel_rfl)) (by kernel_rfl) (by kernel_rfl)

theorem lst_tab : lst = [("hayloft/class.slotBytes", Lib.tabData .i64 [16, 24, 32, 48, 64, 96, 128]), ("math/bits.deBruijn64tab", Rows.laid_math_bits_deBruijn64tab)] := by rfl
theorem lst2_tab : lst2 = [("math/bits.deBruijn64tab", Lib.tabData .u8 (Lib.deBruijn64tab.map fun z : Nat => (z : Int)))] := by rfl

theorem heap_of_cell {w : World} {a : Addr} {v : Value} (h : w.cell? a = some v) : a.block < w.heap.size := by
  rcases Nat.lt_or_ge a.block w.heap.size with h' | h'
  · exact h'
  · simp [World.cell?, Array.getElem?_eq_none h'] at h
theorem tabC_of_laid {W : World} (h : laidMetH Tryz.prog lst W) : TabC W := by
  rw [MakeChecks.laidMetH_plain _ _ _ (by kernel_rfl), lst_tab] at h
  have hT := Lib.tabIs_of_head gC tC Tryz.underlying127 Tryz.underlying3 Tryz.cells3 Tryz.cellsC h
  have hc : ∀ j, j < 7 → W.cell? ⟨0, j, none⟩ = some (.int .i64 (sizeN j : Nat)) := by
    intro j hj
    rw [hT.cell gC j hj]
    rcases j with _ | _ | _ | _ | _ | _ | _ | j <;> first | rfl | omega
  exact ⟨heap_of_cell (hc 0 (by decide)), hc⟩
theorem lst_two : lst.filter (fun x => x.1 == "math/bits.deBruijn64tab") = lst2 := by rfl
theorem tabB_of_laid {W : World} (h0 : laidMetH Tryz.prog lst W) : TabB W := by
  have h := h0.filter (fun x => x.1 == "math/bits.deBruijn64tab")
  rw [lst_two, MakeChecks.laidMetH_plain _ _ _ (by kernel_rfl), lst2_tab] at h
  have hT := Lib.tabIs_of_head gB tB Tryz.underlying161 Tryz.underlying5 Tryz.cells5 Tryz.cellsB h
  have hc : ∀ j, j < 64 → W.cell? ⟨1, j, none⟩ = some (.int .u8 (Lib.deBruijn64tab.getD j 0 : Nat)) := by
    intro j hj
    have hl : (Lib.deBruijn64tab.map fun z : Nat => (z : Int)).length = 64 := by rfl
    rw [hT.cell gB j (by rw [hl]; exact hj)]
    congr 2
    have hl2 : Lib.deBruijn64tab.length = 64 := by rfl
    simp [List.getD, hl2, hj]
  exact ⟨heap_of_cell (hc 0 (by decide)), hc⟩
theorem tabs_of_laid {W : World} (h : laidMetH Tryz.prog lst W) : Tabs W := ⟨tabC_of_laid h, tabB_of_laid h⟩

theorem int_of_wf {x : Int} (h : (Lit.int .i64 x).wf = true) : -9223372036854775808 ≤ x ∧ x ≤ 9223372036854775807 := by
  simp [Lit.wf, IntKind.min, IntKind.max, IntKind.signed, IntKind.bits] at h
  exact ⟨by omega, by omega⟩
end Go.Proofs.YtgmljgogmbaioaaGreatDoor

/- What the lifts of layer 11's laws over a script share. -/
namespace Go.Proofs.YtgmljgogmbaioaaGreatDoor
open Go.ChangeShapes Go.WideShapes Go.ChangeAt Go.RowKit
set_option linter.unusedVariables false
set_option maxRecDepth 4000

theorem u8_of_wf {x : Int} (h : (Lit.int .u8 x).wf = true) : 0 ≤ x ∧ x < 256 := by
  simp [Lit.wf, IntKind.min, IntKind.max, IntKind.signed, IntKind.bits] at h
  omega
theorem open_size {H : Type} {enc : TypeId × Value → H} {W : World} {base : Nat} {v : Value} {d : DataW H} {p : List MemPlace} (hv : Value.okWide Tryz.prog W .any base 23 v) (h : DataW.Trod enc Tryz.prog W 0 (fun _ => true) true 23 v d p) :
    ∃ x y : Int, v = .agg #[.int .u8 x, .int .u8 y] ∧ (0 ≤ x ∧ x < 256) ∧ (0 ≤ y ∧ y < 256) := by
  obtain ⟨c0, c1, y0, y1, n, rfl, rfl, rfl, h0, h1⟩ := Joins.open_agg2 Tryz.underlying23 (by kernel_rfl) (by kernel_rfl) hv h
  obtain ⟨x0, e0, _, w0⟩ := DataW.trod_int Tryz.underlying5 h0
  obtain ⟨x1, e1, _, w1⟩ := DataW.trod_int Tryz.underlying5 h1
  simp at e0 e1
  subst e0 e1
  exact ⟨x0, x1, rfl, u8_of_wf w0, u8_of_wf w1⟩
theorem Tryz.cellsCall : Tryz.prog.cellsOf 37 = 3 := by kernel_rfl
theorem Tryz.cellsInt : Tryz.prog.cellsOf 3 = 1 := by kernel_rfl

theorem open_calls {H : Type} {enc : TypeId × Value → H} {W : World} {a : Option Addr} {len cap : Nat} {d : DataW H} {p : List MemPlace} (h : DataW.Trod enc Tryz.prog W 0 (fun _ => true) true 24 (.slice a len cap) d p) :
    ∃ kd xx kk : Nat → Int, IsC W a len kd xx kk ∧ len ≤ maxLen := by
  obtain ⟨fuel, hf⟩ := h
  rcases Deep.open_slice Tryz.underlying24 hf with ⟨hcs, hx⟩ | ⟨x, l, c, m, n, D, Pl, hcs, hb, hl, hm, hmm, hx, hcell⟩
  · simp [Value.cells] at hcs
    obtain ⟨rfl, rfl, rfl⟩ := hcs
    exact ⟨fun _ => 0, fun _ => 0, fun _ => 0, ⟨fun i hi => by omega, .inl rfl⟩, Nat.zero_le _⟩
  · simp [Value.cells] at hcs
    obtain ⟨rfl, rfl, rfl⟩ := hcs
    simp only [if_true] at hmm
    subst hmm
    rw [Tryz.cellsCall] at hcell
    have each : ∀ i, i < len → ∃ q : Int × Int × Int, W.cell? (x.add (i * 3)) = some (.int .i64 q.1) ∧ W.cell? (x.add (i * 3 + 1)) = some (.int .i64 q.2.1) ∧ W.cell? (x.add (i * 3 + 2)) = some (.int .i64 q.2.2) ∧ (Lit.int .i64 q.1).wf = true ∧ (Lit.int .i64 q.2.1).wf = true ∧ (Lit.int .i64 q.2.2).wf = true := by
      intro i hi
      obtain ⟨cs', h1, h2⟩ := hcell i (by omega)
      obtain ⟨_, hlen, hc⟩ := World.cells?_some h1
      obtain ⟨y0, y1, y2, k, _, _, g0, g1, g2⟩ := Deep.trod_struct3 Tryz.underlying37 h2
      match cs', hlen with
      | [u0, u1, u2], _ =>
        obtain ⟨z0, e0, _, f0⟩ := DataW.trod_int Tryz.underlying3 g0
        obtain ⟨z1, e1, _, f1⟩ := DataW.trod_int Tryz.underlying3 g1
        obtain ⟨z2, e2, _, f2⟩ := DataW.trod_int Tryz.underlying3 g2
        simp [Tryz.cellsInt] at e0 e1 e2
        subst e0 e1 e2
        have c0 := hc 0 (by omega)
        have c1 := hc 1 (by omega)
        have c2 := hc 2 (by omega)
        rw [Deep.add_add] at c0 c1 c2
        exact ⟨(z0, z1, z2), by simpa using c0, by simpa using c1, by simpa using c2, f0, f1, f2⟩
    obtain ⟨q, hq⟩ := Deep.choose_lt each
    refine ⟨fun i => (q i).1, fun i => (q i).2.1, fun i => (q i).2.2, ⟨fun i hi => ⟨int_of_wf (hq i hi).2.2.2.2.1, int_of_wf (hq i hi).2.2.2.2.2⟩, ?_⟩, by omega⟩
    by_cases h0 : len = 0
    · exact .inl h0
    · obtain ⟨b, off, spot⟩ := x
      have h1 := (hq 0 (by omega)).1
      have hspot : spot = none := by simpa [Addr.add] using World.cell?_spot h1
      subst hspot
      refine .inr ⟨b, off, rfl, ?_, ?_⟩
      · rw [addr_add] at h1
        exact block_lt_of_cell h1
      · intro i hi
        obtain ⟨c0, c1, c2, _⟩ := hq i hi
        rw [addr_add] at c0 c1 c2
        exact ⟨c0, by rw [Nat.add_assoc]; exact c1, by rw [Nat.add_assoc]; exact c2⟩

end Go.Proofs.YtgmljgogmbaioaaGreatDoor

/- Spans that came in, opened. -/
namespace Go.Proofs.YtgmljgogmbaioaaGreatDoor
open Go.ChangeShapes Go.WideShapes Go.ChangeAt Go.RowKit
set_option linter.unusedVariables false
set_option maxRecDepth 4000

theorem isI_of_cells {w : World} (x : Addr) (len : Nat) (zs : List Int) (hl : len ≤ zs.length) (hc : ∀ i, i < zs.length → w.cell? (x.add i) = some (.int .i64 (zs.getD i 0))) (hw : ∀ n ∈ zs, (Lit.int .i64 n).wf = true) : IsI w (some x) (zs.take len) := by
  refine ⟨fun n hn => int_of_wf (hw n (List.mem_of_mem_take hn)), ?_⟩
  by_cases h0 : len = 0
  · exact .inl (by rw [h0]; rfl)
  · obtain ⟨b, off, spot⟩ := x
    have h1 := hc 0 (by omega)
    have hspot : spot = none := by simpa [Addr.add] using World.cell?_spot h1
    subst hspot
    refine .inr ⟨b, off, rfl, ?_, ?_⟩
    · rw [addr_add] at h1
      exact heap_of_cell h1
    · intro i hi
      rw [List.length_take] at hi
      rw [← addr_add, hc i (by omega)]
      simp [List.getD, show i < len by omega]
theorem Tryz.bytes3 : Tryz.prog.bytesOf 3 = 8 := by kernel_rfl
/-- A slice of numbers in a cell, and how long it may be. -/
theorem ints_cells {H : Type} {enc : TypeId × Value → H} {W : World} {fuel : Nat} {cs : List Value} {x : DataW H × List MemPlace} (hf : DataW.trod enc Tryz.prog W 0 (fun _ => true) true fuel 34 cs = some x) :
    ∃ (a : Option Addr) (cap : Nat) (l : List Int), cs = [.slice a l.length cap] ∧ IsI W a l ∧ (a = none → l = [] ∧ cap = 0) ∧ l.length ≤ maxLen ∧ ((∀ n ∈ x.1.weights Tryz.prog 34, n ≤ reachBytes) → l.length ≤ 17592186044416) := by
  rcases open_ints Tryz.underlying34 Tryz.underlying3 (by kernel_rfl) hf with ⟨hcs, hx⟩ | ⟨y, l, c, zs, hcs, _, hl, hm, hz, hx, hcell, hwz⟩
  · exact ⟨none, 0, [], hcs, ⟨by simp, .inl rfl⟩, fun _ => ⟨rfl, rfl⟩, Nat.zero_le _, fun _ => Nat.zero_le _⟩
  · simp only [if_true] at hz
    refine ⟨some y, c, zs.take l, ?_, isI_of_cells y l zs (by omega) hcell hwz, by simp, by rw [List.length_take]; omega, fun hn => ?_⟩
    · rw [hcs, List.length_take, Nat.min_eq_left (by omega)]
    · rw [hx] at hn
      have := hn _ (by simp [DataW.weights, Tryz.underlying34]; left; rfl)
      simp [lits, Tryz.bytes3, reachBytes] at this
      rw [List.length_take]
      omega

theorem weights_all {H : Type} {P : Program} {e : TypeId} : ∀ {l : List (DataW H)} {d : DataW H}, d ∈ l → ∀ n ∈ d.weights P e, n ∈ DataW.weightsAll P e l
  | x :: l, d, h, n, hn => by
    rw [DataW.weightsAll, List.mem_append]
    rcases List.mem_cons.1 h with rfl | h
    · exact .inl hn
    · exact .inr (weights_all h n hn)
theorem Tryz.cellsSpan : Tryz.prog.cellsOf 48 = 4 := by kernel_rfl
theorem Tryz.cellsIn : Tryz.prog.cellsOf 3 = 1 := by kernel_rfl
theorem Tryz.cellsInts : Tryz.prog.cellsOf 34 = 1 := by kernel_rfl
/-- A slice of spans in a cell. -/
theorem spans_cells {H : Type} {enc : TypeId × Value → H} {W : World} {fuel : Nat} {cs : List Value} {x : DataW H × List MemPlace} (hf : DataW.trod enc Tryz.prog W 0 (fun _ => true) true fuel 41 cs = some x) :
    ∃ (a : Option Addr) (cap : Nat) (ts : List Td), cs = [.slice a ts.length cap] ∧ RdT W a ts ∧ ts.length ≤ maxLen ∧ (∀ t ∈ ts, -9223372036854775808 ≤ t.p ∧ t.p ≤ 9223372036854775807) ∧ (∀ t ∈ ts, -9223372036854775808 ≤ t.c ∧ t.c ≤ 9223372036854775807) ∧ (∀ t ∈ ts, -9223372036854775808 ≤ t.s ∧ t.s ≤ 9223372036854775807) ∧ ((∀ n ∈ x.1.weights Tryz.prog 41, n ≤ reachBytes) → ∀ t ∈ ts, t.l.length ≤ 17592186044416) := by
  rcases Deep.open_slice Tryz.underlying41 hf with ⟨hcs, hx⟩ | ⟨x0, l, c, m, n, D, Pl, hcs, hb, hl, hm, hmm, hx, hcell⟩
  · exact ⟨none, 0, [], hcs, fun i hi => by simp at hi, Nat.zero_le _, by simp, by simp, by simp, by simp⟩
  · simp only [if_true] at hmm
    subst hmm
    rw [Tryz.cellsSpan] at hcell
    have each : ∀ i, i < l → ∃ q : Td × Option Addr × Nat, W.cell? (x0.add (i * 4)) = some (.int .i64 q.1.p) ∧ W.cell? (x0.add (i * 4 + 1)) = some (.int .i64 q.1.c) ∧ W.cell? (x0.add (i * 4 + 2)) = some (.int .i64 q.1.s) ∧ W.cell? (x0.add (i * 4 + 3)) = some (.slice q.2.1 q.1.l.length q.2.2) ∧ IsI W q.2.1 q.1.l ∧ q.1.l.length ≤ maxLen ∧ (Lit.int .i64 q.1.p).wf = true ∧ (Lit.int .i64 q.1.c).wf = true ∧ (Lit.int .i64 q.1.s).wf = true ∧ ((∀ n ∈ (D i).weights Tryz.prog 48, n ≤ reachBytes) → q.1.l.length ≤ 17592186044416) := by
      intro i hi
      obtain ⟨cs', h1, h2⟩ := hcell i (by omega)
      obtain ⟨_, hlen, hc⟩ := World.cells?_some h1
      obtain ⟨y0, y1, y2, y3, k, hD, _, g0, g1, g2, g3⟩ := Joins.trod_struct4 Tryz.underlying48 h2
      match cs', hlen with
      | [u0, u1, u2, u3], _ =>
        obtain ⟨z0, e0, _, f0⟩ := DataW.trod_int Tryz.underlying3 g0
        obtain ⟨z1, e1, _, f1⟩ := DataW.trod_int Tryz.underlying3 g1
        obtain ⟨z2, e2, _, f2⟩ := DataW.trod_int Tryz.underlying3 g2
        obtain ⟨a5, c5, l5, e3, m5, n5, o5, p5⟩ := ints_cells g3
        simp [Tryz.cellsIn, Tryz.cellsInts] at e0 e1 e2 e3
        subst e0 e1 e2 e3
        have c0 := hc 0 (by omega)
        have c1 := hc 1 (by omega)
        have c2 := hc 2 (by omega)
        have c3 := hc 3 (by omega)
        rw [Deep.add_add] at c0 c1 c2 c3
        refine ⟨(⟨z0, z1, z2, l5⟩, a5, c5), by simpa using c0, by simpa using c1, by simpa using c2, by simpa using c3, m5, o5, f0, f1, f2, fun hn => p5 (fun k hk => hn k ?_)⟩
        have hD' : D i = .agg [y0.1, y1.1, y2.1, y3.1] := congrArg Prod.fst hD
        rw [hD']
        simp only [DataW.weights, Tryz.underlying48]
        exact DataW.weights_mem_each (j := 3) rfl rfl k hk
    have pick : ∃ q : Nat → Td × Option Addr × Nat, ∀ i, i < l → W.cell? (x0.add (i * 4)) = some (.int .i64 (q i).1.p) ∧ W.cell? (x0.add (i * 4 + 1)) = some (.int .i64 (q i).1.c) ∧ W.cell? (x0.add (i * 4 + 2)) = some (.int .i64 (q i).1.s) ∧ W.cell? (x0.add (i * 4 + 3)) = some (.slice (q i).2.1 (q i).1.l.length (q i).2.2) ∧ IsI W (q i).2.1 (q i).1.l ∧ (q i).1.l.length ≤ maxLen ∧ (Lit.int .i64 (q i).1.p).wf = true ∧ (Lit.int .i64 (q i).1.c).wf = true ∧ (Lit.int .i64 (q i).1.s).wf = true ∧ ((∀ n ∈ (D i).weights Tryz.prog 48, n ≤ reachBytes) → (q i).1.l.length ≤ 17592186044416) := by
      refine ⟨fun i => if h : i < l then Classical.choose (each i h) else (⟨0, 0, 0, []⟩, none, 0), fun i hi => ?_⟩
      simp only [dif_pos hi]
      exact Classical.choose_spec (each i hi)
    obtain ⟨q, hq⟩ := pick
    have hln : ((List.range l).map (fun i => (q i).1)).length = l := by simp
    refine ⟨some x0, m, (List.range l).map (fun i => (q i).1), by rw [hcs, hln], fun i hi => ?_, by rw [hln]; omega, fun t ht => ?_, fun t ht => ?_, fun t ht => ?_, fun hn t ht => ?_⟩
    · have hi' : i < l := by rw [hln] at hi; exact hi
      obtain ⟨c0, c1, c2, c3, hI, hM, _⟩ := hq i hi'
      obtain ⟨b, off, spot⟩ := x0
      have h00 := (hq 0 (by omega)).1
      have hspot : spot = none := by simpa [Addr.add] using World.cell?_spot h00
      subst hspot
      rw [addr_add] at c0 c1 c2 c3
      simp only [List.getElem_map, List.getElem_range]
      exact ⟨b, off, (q i).2.1, (q i).2.2, rfl, c0, by rw [Nat.add_assoc]; exact c1, by rw [Nat.add_assoc]; exact c2, by rw [Nat.add_assoc]; exact c3, hI, hM⟩
    · obtain ⟨i, hi, rfl⟩ := List.mem_map.1 ht
      exact int_of_wf (hq i (List.mem_range.1 hi)).2.2.2.2.2.2.1
    · obtain ⟨i, hi, rfl⟩ := List.mem_map.1 ht
      exact int_of_wf (hq i (List.mem_range.1 hi)).2.2.2.2.2.2.2.1
    · obtain ⟨i, hi, rfl⟩ := List.mem_map.1 ht
      exact int_of_wf (hq i (List.mem_range.1 hi)).2.2.2.2.2.2.2.2.1
    · obtain ⟨i, hi, rfl⟩ := List.mem_map.1 ht
      refine (hq i (List.mem_range.1 hi)).2.2.2.2.2.2.2.2.2 (fun k hk => hn k ?_)
      rw [hx]
      simp only [DataW.weights, Tryz.underlying41]
      exact List.mem_cons_of_mem _ (List.mem_append_left _ (weights_all (List.mem_map.2 ⟨i, hi, rfl⟩) k hk))

/-- Pages, workers and spans that came in. -/
theorem open_laid {H : Type} {enc : TypeId × Value → H} {W : World} {base : Nat} {v : Value} {d : DataW H} {p : List MemPlace} (hv : Value.okWide Tryz.prog W .any base 43 v) (h : DataW.Trod enc Tryz.prog W 0 (fun _ => true) true 43 v d p) :
    ∃ (x y : Int) (a : Option Addr) (cap : Nat) (ts : List Td), v = .agg #[.int .i64 x, .int .i64 y, .slice a ts.length cap] ∧ RdT W a ts ∧ ts.length ≤ maxLen ∧ (∀ t ∈ ts, -9223372036854775808 ≤ t.p ∧ t.p ≤ 9223372036854775807) ∧ ((∀ n ∈ d.weights Tryz.prog 43, n ≤ reachBytes) → ∀ t ∈ ts, t.l.length ≤ 17592186044416) := by
  obtain ⟨v0, v1, v2, y0, y1, y2, n, rfl, hd, _, h0, h1, h2⟩ := Joins.open_agg3 Tryz.underlying43 (by kernel_rfl) (by kernel_rfl) hv h
  obtain ⟨x, e0, _, f0⟩ := DataW.trod_int Tryz.underlying3 h0
  obtain ⟨x1, e1, _, f1⟩ := DataW.trod_int Tryz.underlying3 h1
  obtain ⟨a, c, ts, e2, m1, n1, o1, _, _, p1⟩ := spans_cells h2
  simp at e0 e1 e2
  subst e0 e1 e2
  refine ⟨x, x1, a, c, ts, rfl, m1, n1, o1, fun hn => p1 (fun k hk => hn k ?_)⟩
  rw [hd]
  simp only [DataW.weights, Tryz.underlying43]
  exact DataW.weights_mem_each (j := 2) rfl rfl k hk
end Go.Proofs.YtgmljgogmbaioaaGreatDoor
