/- What the lifts of views share, for a seat with both tables. -/
import Derived.Test.YtbfamjnnlcopiaaGreatDoorSpL
import Derived.Test.YtbfamjnnlcopiaaGreatDoorGzBB
import Derived.ProofKit
import Derived.OpenShut
import Derived.ChangeOld
import Derived.SizedLaws
import Derived.LaidMore
import Derived.LaidSub
import Derived.Lib.LaidTab
import Derived.Stop.Joined
import Derived.SevenTiedAt
import Derived.Deep.Slices
import Derived.Deep.SlicePairs
import Derived.Lib.SmallJoins
import Derived.Deep.Strs
namespace Go.Proofs.YtbfamjnnlcopiaaGreatDoor
open Go.ChangeShapes Go.WideShapes Go.ChangeAt Go.RowKit
set_option linter.unusedVariables false
set_option maxRecDepth 4000

theorem weights_all {H : Type} {P : Program} {e : TypeId} : ∀ {l : List (DataW H)} {d : DataW H}, d ∈ l → ∀ n ∈ d.weights P e, n ∈ DataW.weightsAll P e l
  | x :: l, d, h, n, hn => by
    rw [DataW.weightsAll, List.mem_append]
    rcases List.mem_cons.1 h with rfl | h
    · exact .inl hn
    · exact .inr (weights_all h n hn)
theorem Tryz.cellsSpan : Tryz.prog.cellsOf 33 = 4 := by kernel_rfl
theorem Tryz.cellsIn : Tryz.prog.cellsOf 3 = 1 := by kernel_rfl
theorem Tryz.cellsInts : Tryz.prog.cellsOf 31 = 1 := by kernel_rfl
/-- A slice of spans in a cell. -/
theorem spans_cells {H : Type} {enc : TypeId × Value → H} {W : World} {fuel : Nat} {cs : List Value} {x : DataW H × List MemPlace} (hf : DataW.trod enc Tryz.prog W 0 (fun _ => true) true fuel 24 cs = some x) :
    ∃ (a : Option Addr) (cap : Nat) (ts : List Td), cs = [.slice a ts.length cap] ∧ RdT W a ts ∧ (ts.length ≤ cap ∧ cap ≤ maxLen) ∧ (∀ t ∈ ts, -9223372036854775808 ≤ t.p ∧ t.p ≤ 9223372036854775807) ∧ (∀ t ∈ ts, -9223372036854775808 ≤ t.c ∧ t.c ≤ 9223372036854775807) ∧ (∀ t ∈ ts, -9223372036854775808 ≤ t.s ∧ t.s ≤ 9223372036854775807) ∧ ((∀ n ∈ x.1.weights Tryz.prog 24, n ≤ reachBytes) → ∀ t ∈ ts, t.l.length ≤ 17592186044416) := by
  rcases Deep.open_slice Tryz.underlying24 hf with ⟨hcs, hx⟩ | ⟨x0, l, c, m, n, D, Pl, hcs, hb, hl, hm, hmm, hx, hcell⟩
  · exact ⟨none, 0, [], hcs, fun i hi => by simp at hi, ⟨Nat.zero_le _, Nat.zero_le _⟩, by simp, by simp, by simp, by simp⟩
  · simp only [if_true] at hmm
    subst hmm
    rw [Tryz.cellsSpan] at hcell
    have each : ∀ i, i < l → ∃ q : Td × Option Addr × Nat, W.cell? (x0.add (i * 4)) = some (.int .i64 q.1.p) ∧ W.cell? (x0.add (i * 4 + 1)) = some (.int .i64 q.1.c) ∧ W.cell? (x0.add (i * 4 + 2)) = some (.int .i64 q.1.s) ∧ W.cell? (x0.add (i * 4 + 3)) = some (.slice q.2.1 q.1.l.length q.2.2) ∧ IsI W q.2.1 q.1.l ∧ q.1.l.length ≤ maxLen ∧ (Lit.int .i64 q.1.p).wf = true ∧ (Lit.int .i64 q.1.c).wf = true ∧ (Lit.int .i64 q.1.s).wf = true ∧ ((∀ n ∈ (D i).weights Tryz.prog 33, n ≤ reachBytes) → q.1.l.length ≤ 17592186044416) := by
      intro i hi
      obtain ⟨cs', h1, h2⟩ := hcell i (by omega)
      obtain ⟨_, hlen, hc⟩ := World.cells?_some h1
      obtain ⟨y0, y1, y2, y3, k, hD, _, g0, g1, g2, g3⟩ := Joins.trod_struct4 Tryz.underlying33 h2
      match cs', hlen with
      | [u0, u1, u2, u3], _ =>
        obtain ⟨z0, e0, _, f0⟩ := DataW.trod_int Tryz.underlying3 g0
        obtain ⟨z1, e1, _, f1⟩ := DataW.trod_int Tryz.underlying3 g1
        obtain ⟨z2, e2, _, f2⟩ := DataW.trod_int Tryz.underlying3 g2
        obtain ⟨a5, c5, l5, e3, m5, n5, o5, p5⟩ := ints_cells g3
        simp [Tryz.cellsIn, Tryz.cellsInts] at e0 e1 e2 e3
        subst e0 e1 e2 e3
        have c0 := hc 0 (by omega)
        have c1 := hc 1 (by omega)
        have c2 := hc 2 (by omega)
        have c3 := hc 3 (by omega)
        rw [Deep.add_add] at c0 c1 c2 c3
        refine ⟨(⟨z0, z1, z2, l5⟩, a5, c5), by simpa using c0, by simpa using c1, by simpa using c2, by simpa using c3, m5, o5, f0, f1, f2, fun hn => p5 (fun k hk => hn k ?_)⟩
        have hD' : D i = .agg [y0.1, y1.1, y2.1, y3.1] := congrArg Prod.fst hD
        rw [hD']
        simp only [DataW.weights, Tryz.underlying33]
        exact DataW.weights_mem_each (j := 3) rfl rfl k hk
    have pick : ∃ q : Nat → Td × Option Addr × Nat, ∀ i, i < l → W.cell? (x0.add (i * 4)) = some (.int .i64 (q i).1.p) ∧ W.cell? (x0.add (i * 4 + 1)) = some (.int .i64 (q i).1.c) ∧ W.cell? (x0.add (i * 4 + 2)) = some (.int .i64 (q i).1.s) ∧ W.cell? (x0.add (i * 4 + 3)) = some (.slice (q i).2.1 (q i).1.l.length (q i).2.2) ∧ IsI W (q i).2.1 (q i).1.l ∧ (q i).1.l.length ≤ maxLen ∧ (Lit.int .i64 (q i).1.p).wf = true ∧ (Lit.int .i64 (q i).1.c).wf = true ∧ (Lit.int .i64 (q i).1.s).wf = true ∧ ((∀ n ∈ (D i).weights Tryz.prog 33, n ≤ reachBytes) → (q i).1.l.length ≤ 17592186044416) := by
      refine ⟨fun i => if h : i < l then Classical.choose (each i h) else (⟨0, 0, 0, []⟩, none, 0), fun i hi => ?_⟩
      simp only [dif_pos hi]
      exact Classical.choose_spec (each i hi)
    obtain ⟨q, hq⟩ := pick
    have hln : ((List.range l).map (fun i => (q i).1)).length = l := by simp
    refine ⟨some x0, m, (List.range l).map (fun i => (q i).1), by rw [hcs, hln], fun i hi => ?_, ⟨by rw [hln]; omega, by omega⟩, fun t ht => ?_, fun t ht => ?_, fun t ht => ?_, fun hn t ht => ?_⟩
    · have hi' : i < l := by rw [hln] at hi; exact hi
      obtain ⟨c0, c1, c2, c3, hI, hM, _⟩ := hq i hi'
      obtain ⟨b, off, spot⟩ := x0
      have h00 := (hq 0 (by omega)).1
      have hspot : spot = none := by simpa [Addr.add] using World.cell?_spot h00
      subst hspot
      rw [addr_add] at c0 c1 c2 c3
      simp only [List.getElem_map, List.getElem_range]
      exact ⟨b, off, (q i).2.1, (q i).2.2, rfl, c0, by rw [Nat.add_assoc]; exact c1, by rw [Nat.add_assoc]; exact c2, by rw [Nat.add_assoc]; exact c3, hI, hM⟩
    · obtain ⟨i, hi, rfl⟩ := List.mem_map.1 ht
      exact int_of_wf (hq i (List.mem_range.1 hi)).2.2.2.2.2.2.1
    · obtain ⟨i, hi, rfl⟩ := List.mem_map.1 ht
      exact int_of_wf (hq i (List.mem_range.1 hi)).2.2.2.2.2.2.2.1
    · obtain ⟨i, hi, rfl⟩ := List.mem_map.1 ht
      exact int_of_wf (hq i (List.mem_range.1 hi)).2.2.2.2.2.2.2.2.1
    · obtain ⟨i, hi, rfl⟩ := List.mem_map.1 ht
      refine (hq i (List.mem_range.1 hi)).2.2.2.2.2.2.2.2.2 (fun k hk => hn k ?_)
      rw [hx]
      simp only [DataW.weights, Tryz.underlying24]
      exact List.mem_cons_of_mem _ (List.mem_append_left _ (weights_all (List.mem_map.2 ⟨i, hi, rfl⟩) k hk))


theorem byte_of_wf {x : Int} (h : (Lit.int .u8 x).wf = true) : 0 ≤ x ∧ x ≤ 255 := by
  simp [Lit.wf, IntKind.min, IntKind.max, IntKind.signed, IntKind.bits] at h
  exact ⟨by omega, by omega⟩
theorem isB_of_cells {w : World} (x : Addr) (len : Nat) (zs : List Int) (hl : len ≤ zs.length) (hc : ∀ i, i < zs.length → w.cell? (x.add i) = some (.int .u8 (zs.getD i 0))) (hw : ∀ n ∈ zs, (Lit.int .u8 n).wf = true) : IsB w (some x) (zs.take len) := by
  refine ⟨fun n hn => byte_of_wf (hw n (List.mem_of_mem_take hn)), ?_⟩
  by_cases h0 : len = 0
  · exact .inl (by rw [h0]; rfl)
  · obtain ⟨b, off, spot⟩ := x
    have h1 := hc 0 (by omega)
    have hspot : spot = none := by simpa [Addr.add] using World.cell?_spot h1
    subst hspot
    refine .inr ⟨b, off, rfl, ?_, ?_⟩
    · rw [addr_add] at h1
      exact heap_of_cell h1
    · intro i hi
      rw [List.length_take] at hi
      rw [← addr_add, hc i (by omega)]
      simp [List.getD, show i < len by omega]
theorem Tryz.bytes5 : Tryz.prog.bytesOf 5 = 1 := by kernel_rfl
/-- A slice of bytes in a cell, and how long it may be. -/
theorem bytes_cells {H : Type} {enc : TypeId × Value → H} {W : World} {fuel : Nat} {cs : List Value} {x : DataW H × List MemPlace} (hf : DataW.trod enc Tryz.prog W 0 (fun _ => true) true fuel 25 cs = some x) :
    ∃ (a : Option Addr) (cap : Nat) (l : List Int), cs = [.slice a l.length cap] ∧ IsB W a l ∧ (a = none → l = [] ∧ cap = 0) ∧ l.length ≤ cap ∧ cap ≤ maxLen ∧ l.length ≤ maxLen ∧ ((∀ n ∈ x.1.weights Tryz.prog 25, n ≤ reachBytes) → l.length ≤ 140737488355328) := by
  rcases open_ints Tryz.underlying25 Tryz.underlying5 (by kernel_rfl) hf with ⟨hcs, hx⟩ | ⟨y, l, c, zs, hcs, _, hl, hm, hz, hx, hcell, hwz⟩
  · exact ⟨none, 0, [], hcs, ⟨by simp, .inl rfl⟩, fun _ => ⟨rfl, rfl⟩, Nat.zero_le _, Nat.zero_le _, Nat.zero_le _, fun _ => Nat.zero_le _⟩
  · simp only [if_true] at hz
    refine ⟨some y, c, zs.take l, ?_, isB_of_cells y l zs (by omega) hcell hwz, by simp, by rw [List.length_take]; omega, by omega, by rw [List.length_take]; omega, fun hn => ?_⟩
    · rw [hcs, List.length_take, Nat.min_eq_left (by omega)]
    · rw [hx] at hn
      have := hn _ (by simp [DataW.weights, Tryz.underlying25]; left; rfl)
      simp [lits, Tryz.bytes5, reachBytes] at this
      rw [List.length_take]
      omega
theorem Tryz.cellsKind : Tryz.prog.cellsOf 66 = 2 := by kernel_rfl
/-- A slice of kinds in a cell. -/
theorem kinds_cells {H : Type} {enc : TypeId × Value → H} {W : World} {fuel : Nat} {cs : List Value} {x : DataW H × List MemPlace} (hf : DataW.trod enc Tryz.prog W 0 (fun _ => true) true fuel 22 cs = some x) :
    ∃ (a : Option Addr) (cap : Nat) (ks : List Kn), cs = [.slice a ks.length cap] ∧ RdK W a ks ∧ ((∀ n ∈ x.1.weights Tryz.prog 22, n ≤ reachBytes) → ∀ k ∈ ks, k.l.length ≤ 17592186044416) := by
  rcases Deep.open_slice Tryz.underlying22 hf with ⟨hcs, hx⟩ | ⟨x0, l, c, m, n, D, Pl, hcs, hb, hl, hm, hmm, hx, hcell⟩
  · exact ⟨none, 0, [], hcs, fun i hi => by simp at hi, by simp⟩
  · simp only [if_true] at hmm
    subst hmm
    rw [Tryz.cellsKind] at hcell
    have each : ∀ i, i < l → ∃ q : Kn × Option Addr × Nat, W.cell? (x0.add (i * 2)) = some (.int .i64 q.1.s) ∧ W.cell? (x0.add (i * 2 + 1)) = some (.slice q.2.1 q.1.l.length q.2.2) ∧ IsI W q.2.1 q.1.l ∧ (q.2.1 = none → q.1.l = [] ∧ q.2.2 = 0) ∧ q.1.l.length ≤ maxLen ∧ ((∀ n ∈ (D i).weights Tryz.prog 66, n ≤ reachBytes) → q.1.l.length ≤ 17592186044416) := by
      intro i hi
      obtain ⟨cs', h1, h2⟩ := hcell i (by omega)
      obtain ⟨_, hlen, hc⟩ := World.cells?_some h1
      obtain ⟨y0, y1, k, hD, _, g0, g1⟩ := trod_struct2 Tryz.underlying66 h2
      match cs', hlen with
      | [u0, u1], _ =>
        obtain ⟨z0, e0, _, f0⟩ := DataW.trod_int Tryz.underlying3 g0
        obtain ⟨a5, c5, l5, e1, m5, n5, o5, p5⟩ := ints_cells g1
        simp [Tryz.cellsIn, Tryz.cellsInts] at e0 e1
        subst e0 e1
        have c0 := hc 0 (by omega)
        have c1 := hc 1 (by omega)
        rw [Deep.add_add] at c0 c1
        refine ⟨(⟨z0, l5⟩, a5, c5), by simpa using c0, by simpa using c1, m5, n5, o5, fun hn => p5 (fun k hk => hn k ?_)⟩
        have hD' : D i = .agg [y0.1, y1.1] := congrArg Prod.fst hD
        rw [hD']
        simp only [DataW.weights, Tryz.underlying66]
        exact DataW.weights_mem_each (j := 1) rfl rfl k hk
    have pick : ∃ q : Nat → Kn × Option Addr × Nat, ∀ i, i < l → W.cell? (x0.add (i * 2)) = some (.int .i64 (q i).1.s) ∧ W.cell? (x0.add (i * 2 + 1)) = some (.slice (q i).2.1 (q i).1.l.length (q i).2.2) ∧ IsI W (q i).2.1 (q i).1.l ∧ ((q i).2.1 = none → (q i).1.l = [] ∧ (q i).2.2 = 0) ∧ (q i).1.l.length ≤ maxLen ∧ ((∀ n ∈ (D i).weights Tryz.prog 66, n ≤ reachBytes) → (q i).1.l.length ≤ 17592186044416) := by
      refine ⟨fun i => if h : i < l then Classical.choose (each i h) else (⟨0, []⟩, none, 0), fun i hi => ?_⟩
      simp only [dif_pos hi]
      exact Classical.choose_spec (each i hi)
    obtain ⟨q, hq⟩ := pick
    have hln : ((List.range l).map (fun i => (q i).1)).length = l := by simp
    refine ⟨some x0, m, (List.range l).map (fun i => (q i).1), by rw [hcs, hln], fun i hi => ?_, fun hn k hk => ?_⟩
    · have hi' : i < l := by rw [hln] at hi; exact hi
      obtain ⟨c0, c1, hI, hN, hM, _⟩ := hq i hi'
      obtain ⟨b, off, spot⟩ := x0
      have h00 := (hq 0 (by omega)).1
      have hspot : spot = none := by simpa [Addr.add] using World.cell?_spot h00
      subst hspot
      rw [addr_add] at c0 c1
      simp only [List.getElem_map, List.getElem_range]
      exact ⟨b, off, (q i).2.1, (q i).2.2, rfl, c0, by rw [Nat.add_assoc]; exact c1, hI, hN, hM⟩
    · obtain ⟨i, hi, rfl⟩ := List.mem_map.1 hk
      refine (hq i (List.mem_range.1 hi)).2.2.2.2.2 (fun k hk => hn k ?_)
      rw [hx]
      simp only [DataW.weights, Tryz.underlying22]
      exact List.mem_cons_of_mem _ (List.mem_append_left _ (weights_all (List.mem_map.2 ⟨i, hi, rfl⟩) k hk))
theorem Tryz.cellsRow : Tryz.prog.cellsOf 73 = 4 := by kernel_rfl
theorem Tryz.cellsBool : Tryz.prog.cellsOf 4 = 1 := by kernel_rfl
/-- A slice of rows in a cell. -/
theorem rows_cells {H : Type} {enc : TypeId × Value → H} {W : World} {fuel : Nat} {cs : List Value} {x : DataW H × List MemPlace} (hf : DataW.trod enc Tryz.prog W 0 (fun _ => true) true fuel 23 cs = some x) :
    ∃ (a : Option Addr) (cap : Nat) (rs : List HRw), cs = [.slice a rs.length cap] ∧ IsW W a rs ∧ ∀ r ∈ rs, i64 r.pl ∧ i64 r.kind ∧ i64 r.gen := by
  rcases Deep.open_slice Tryz.underlying23 hf with ⟨hcs, hx⟩ | ⟨x0, l, c, m, n, D, Pl, hcs, hb, hl, hm, hmm, hx, hcell⟩
  · exact ⟨none, 0, [], hcs, .inl rfl, by simp⟩
  · simp only [if_true] at hmm
    subst hmm
    rw [Tryz.cellsRow] at hcell
    have each : ∀ i, i < l → ∃ q : HRw, (W.cell? (x0.add (i * 4)) = some (.int .i64 q.gen) ∧ W.cell? (x0.add (i * 4 + 1)) = some (.bool q.live) ∧ W.cell? (x0.add (i * 4 + 2)) = some (.int .i64 q.kind) ∧ W.cell? (x0.add (i * 4 + 3)) = some (.int .i64 q.pl)) ∧ i64 q.pl ∧ i64 q.kind ∧ i64 q.gen := by
      intro i hi
      obtain ⟨cs', h1, h2⟩ := hcell i (by omega)
      obtain ⟨_, hlen, hc⟩ := World.cells?_some h1
      obtain ⟨y0, y1, y2, y3, k, hD, _, g0, g1, g2, g3⟩ := Joins.trod_struct4 Tryz.underlying73 h2
      match cs', hlen with
      | [u0, u1, u2, u3], _ =>
        obtain ⟨z0, e0, _, f0⟩ := DataW.trod_int Tryz.underlying3 g0
        obtain ⟨z1, e1, _⟩ := DataW.trod_bool Tryz.underlying4 g1
        obtain ⟨z2, e2, _, f2⟩ := DataW.trod_int Tryz.underlying3 g2
        obtain ⟨z3, e3, _, f3⟩ := DataW.trod_int Tryz.underlying3 g3
        simp [Tryz.cellsIn, Tryz.cellsBool] at e0 e1 e2 e3
        subst e0 e1 e2 e3
        have c0 := hc 0 (by omega)
        have c1 := hc 1 (by omega)
        have c2 := hc 2 (by omega)
        have c3 := hc 3 (by omega)
        rw [Deep.add_add] at c0 c1 c2 c3
        exact ⟨⟨z0, z1, z2, z3⟩, ⟨by simpa using c0, by simpa using c1, by simpa using c2, by simpa using c3⟩, int_of_wf f3, int_of_wf f2, int_of_wf f0⟩
    have pick : ∃ q : Nat → HRw, ∀ i, i < l → (W.cell? (x0.add (i * 4)) = some (.int .i64 (q i).gen) ∧ W.cell? (x0.add (i * 4 + 1)) = some (.bool (q i).live) ∧ W.cell? (x0.add (i * 4 + 2)) = some (.int .i64 (q i).kind) ∧ W.cell? (x0.add (i * 4 + 3)) = some (.int .i64 (q i).pl)) ∧ i64 (q i).pl ∧ i64 (q i).kind ∧ i64 (q i).gen := by
      refine ⟨fun i => if h : i < l then Classical.choose (each i h) else ⟨0, false, 0, 0⟩, fun i hi => ?_⟩
      simp only [dif_pos hi]
      exact Classical.choose_spec (each i hi)
    obtain ⟨q, hq⟩ := pick
    have hln : ((List.range l).map q).length = l := by simp
    refine ⟨some x0, m, (List.range l).map q, by rw [hcs, hln], ?_, fun r hr => ?_⟩
    · by_cases h0 : l = 0
      · exact .inl (by rw [h0]; rfl)
      · obtain ⟨b, off, spot⟩ := x0
        have h1 := (hq 0 (by omega)).1.1
        have hspot : spot = none := by simpa [Addr.add] using World.cell?_spot h1
        subst hspot
        refine .inr ⟨b, off, rfl, ?_, fun i hi => ?_⟩
        · rw [addr_add] at h1
          exact heap_of_cell h1
        · obtain ⟨⟨c0, c1, c2, c3⟩, _⟩ := hq i (by simpa using hi)
          rw [addr_add] at c0 c1 c2 c3
          simp only [List.getElem_map, List.getElem_range]
          exact ⟨c0, by rw [Nat.add_assoc]; exact c1, by rw [Nat.add_assoc]; exact c2, by rw [Nat.add_assoc]; exact c3⟩
    · obtain ⟨i, hi, rfl⟩ := List.mem_map.1 hr
      exact (hq i (List.mem_range.1 hi)).2
theorem u32_of_wf {x : Int} (h : (Lit.int .u32 x).wf = true) : ∃ m : Nat, x = m ∧ m < 4294967296 := by
  simp [Lit.wf, IntKind.min, IntKind.max, IntKind.signed, IntKind.bits] at h
  exact ⟨x.toNat, by omega, by omega⟩
theorem array6 {α : Type} {cs : Array α} (h : cs.size = 6) : ∃ c0 c1 c2 c3 c4 c5, cs = #[c0, c1, c2, c3, c4, c5] := by
  obtain ⟨l⟩ := cs
  match l, h with
  | [c0, c1, c2, c3, c4, c5], _ => exact ⟨c0, c1, c2, c3, c4, c5, rfl⟩
theorem Tryz.cellsView : Tryz.prog.cellsOf 27 = 6 := by kernel_rfl
/-- A view that came in. -/
theorem open_view {H : Type} {enc : TypeId × Value → H} {W : World} {base : Nat} {v : Value} {d : DataW H} {p : List MemPlace} (hv : Value.okWide Tryz.prog W .any base 27 v) (h : DataW.Trod enc Tryz.prog W 0 (fun _ => true) true 27 v d p) :
    ∃ (V : Vw) (A : Va), v = .agg #[.int .i64 V.base, .int .i64 V.pgs, .slice A.ka A.kn A.kc, .slice A.ra A.rn A.rc, .slice A.sa A.sn A.sc, .slice A.ba A.bn A.bc] ∧ Rv0 W V A ∧ ((∀ n ∈ d.weights Tryz.prog 27, n ≤ reachBytes) → (∀ k ∈ V.ks, k.l.length ≤ 17592186044416) ∧ ∀ t ∈ V.ts, t.l.length ≤ 17592186044416) := by
  obtain ⟨cs, rfl, hsz⟩ := okWide_struct Tryz.underlying27 hv
  obtain ⟨c0, c1, c2, c3, c4, c5, rfl⟩ := array6 (hsz.trans Tryz.cellsView)
  obtain ⟨fuel, hf⟩ := h
  obtain ⟨xs, n, _, hx, hl, hlen, hfs⟩ := DataW.trod_struct Tryz.underlying27 hf
  match xs, hlen with
  | [y0, y1, y2, y3, y4, y5], _ =>
    have g0 := hfs 0 _ rfl
    have g1 := hfs 1 _ rfl
    have g2 := hfs 2 _ rfl
    have g3 := hfs 3 _ rfl
    have g4 := hfs 4 _ rfl
    have g5 := hfs 5 _ rfl
    obtain ⟨x0, e0, _, f0⟩ := DataW.trod_int Tryz.underlying3 g0
    obtain ⟨x1, e1, _, f1⟩ := DataW.trod_int Tryz.underlying3 g1
    obtain ⟨ka, kc, ks, e2, hK, hKw⟩ := kinds_cells g2
    obtain ⟨ra, rc, rs, e3, hR, hRi⟩ := rows_cells g3
    obtain ⟨sa, sc, ts, e4, hT, hTc, hTi, _, _, hTw⟩ := spans_cells g4
    obtain ⟨ba, bc, bs, e5, hB, _, hB1, hB2, hB3, _⟩ := bytes_cells g5
    simp [Value.cells, show Tryz.prog.cellsOf 22 = 1 from by kernel_rfl, show Tryz.prog.cellsOf 23 = 1 from by kernel_rfl, show Tryz.prog.cellsOf 24 = 1 from by kernel_rfl, show Tryz.prog.cellsOf 25 = 1 from by kernel_rfl, Tryz.cellsIn] at e0 e1 e2 e3 e4 e5
    subst e0 e1 e2 e3 e4 e5
    refine ⟨⟨x0, x1, ks, rs, ts, bs⟩, ⟨ka, ra, sa, ba, ks.length, rs.length, ts.length, bs.length, kc, rc, sc, bc⟩, rfl, ⟨rfl, rfl, rfl, rfl, hK, hR, hT, hB, int_of_wf f0, int_of_wf f1, hTi, hRi, ⟨hTc.1, by have := hTc.2; unfold maxLen at this; omega⟩, ⟨hB1, by have := hB2; unfold maxLen at this; omega⟩⟩, fun hn => ?_⟩
    have hd : d = .agg [y0.1, y1.1, y2.1, y3.1, y4.1, y5.1] := congrArg Prod.fst hx
    rw [hd] at hn
    simp only [DataW.weights, Tryz.underlying27] at hn
    exact ⟨hKw (fun k hk => hn k (DataW.weights_mem_each (j := 2) rfl rfl k hk)), hTw (fun k hk => hn k (DataW.weights_mem_each (j := 4) rfl rfl k hk))⟩
end Go.Proofs.YtbfamjnnlcopiaaGreatDoor
