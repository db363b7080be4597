/- What the laws of layer 5 share: how arguments that came in are opened. -/
import Derived.Test.YtddkmmkhlfjhiaaDkK
import Derived.Deep.Slices
import Derived.Deep.Strs
import Derived.Lib.SmallJoins
namespace Go.Proofs.Ytddkmmkhlfjhiaa
open Go.ChangeShapes Go.WideShapes Go.ChangeAt Go.RowKit
set_option linter.unusedVariables false

theorem own : ownKnob Try.prog.godebug = none := by kernel_rfl
theorem laidOut : laidOutB Try.prog = true := by kernel_rfl

theorem byte_of_wf {x : Int} (h : (Lit.int .u8 x).wf = true) : 0 ≤ x ∧ x ≤ 255 := by
  simp [Lit.wf, IntKind.min, IntKind.max, IntKind.signed, IntKind.bits] at h
  exact ⟨by omega, by omega⟩
theorem int_of_wf {x : Int} (h : (Lit.int .i64 x).wf = true) : -9223372036854775808 ≤ x ∧ x ≤ 9223372036854775807 := by
  simp [Lit.wf, IntKind.min, IntKind.max, IntKind.signed, IntKind.bits] at h
  exact ⟨by omega, by omega⟩
theorem u8_of_wf {x : Int} (h : (Lit.int .u8 x).wf = true) : ∃ m : Nat, x = m ∧ m < 256 := by
  have := byte_of_wf h
  exact ⟨x.toNat, by omega, by omega⟩

theorem lt_of_cell {w : World} {b off : Nat} {v : Value} (h : w.cell? ⟨b, off, none⟩ = some v) : b < w.heap.size := block_lt_of_cell h

theorem isB_of_cells {w : World} (x : Addr) (len : Nat) (zs : List Int) (hl : len ≤ zs.length) (hc : ∀ i, i < zs.length → w.cell? (x.add i) = some (.int .u8 (zs.getD i 0))) (hw : ∀ n ∈ zs, (Lit.int .u8 n).wf = true) : IsB w (some x) (zs.take len) := by
  refine ⟨fun n hn => byte_of_wf (hw n (List.mem_of_mem_take hn)), ?_⟩
  by_cases h0 : len = 0
  · exact .inl (by rw [h0]; rfl)
  · obtain ⟨b, off, spot⟩ := x
    have h1 := hc 0 (by omega)
    have hspot : spot = none := by simpa [Addr.add] using World.cell?_spot h1
    subst hspot
    refine .inr ⟨b, off, rfl, ?_, ?_⟩
    · rw [addr_add] at h1
      exact lt_of_cell h1
    · intro i hi
      rw [List.length_take] at hi
      rw [← addr_add, hc i (by omega)]
      simp [List.getD, show i < len by omega]
theorem isI_of_cells {w : World} (x : Addr) (len : Nat) (zs : List Int) (hl : len ≤ zs.length) (hc : ∀ i, i < zs.length → w.cell? (x.add i) = some (.int .i64 (zs.getD i 0))) (hw : ∀ n ∈ zs, (Lit.int .i64 n).wf = true) : IsI w (some x) (zs.take len) := by
  refine ⟨fun n hn => int_of_wf (hw n (List.mem_of_mem_take hn)), ?_⟩
  by_cases h0 : len = 0
  · exact .inl (by rw [h0]; rfl)
  · obtain ⟨b, off, spot⟩ := x
    have h1 := hc 0 (by omega)
    have hspot : spot = none := by simpa [Addr.add] using World.cell?_spot h1
    subst hspot
    refine .inr ⟨b, off, rfl, ?_, ?_⟩
    · rw [addr_add] at h1
      exact lt_of_cell h1
    · intro i hi
      rw [List.length_take] at hi
      rw [← addr_add, hc i (by omega)]
      simp [List.getD, show i < len by omega]

theorem Try.bytes5 : Try.prog.bytesOf 5 = 1 := by kernel_rfl
theorem Try.bytes3 : Try.prog.bytesOf 3 = 8 := by kernel_rfl

/-- A slice of bytes in a cell, and how long it may be. -/
theorem bytes_cells {H : Type} {enc : TypeId × Value → H} {W : World} {fuel : Nat} {cs : List Value} {x : DataW H × List MemPlace} (hf : DataW.trod enc Try.prog W 0 (fun _ => true) true fuel 32 cs = some x) :
    ∃ (a : Option Addr) (cap : Nat) (l : List Int), cs = [.slice a l.length cap] ∧ IsB W a l ∧ (a = none → l = [] ∧ cap = 0) ∧ l.length ≤ maxLen ∧ ((∀ n ∈ x.1.weights Try.prog 32, n ≤ reachBytes) → l.length ≤ 140737488355328) := by
  rcases open_ints Try.underlying32 Try.underlying5 (by kernel_rfl) hf with ⟨hcs, hx⟩ | ⟨y, l, c, zs, hcs, _, hl, hm, hz, hx, hcell, hwz⟩
  · exact ⟨none, 0, [], hcs, ⟨by simp, .inl rfl⟩, fun _ => ⟨rfl, rfl⟩, Nat.zero_le _, fun _ => Nat.zero_le _⟩
  · simp only [if_true] at hz
    refine ⟨some y, c, zs.take l, ?_, isB_of_cells y l zs (by omega) hcell hwz, by simp, by rw [List.length_take]; omega, fun hn => ?_⟩
    · rw [hcs, List.length_take, Nat.min_eq_left (by omega)]
    · rw [hx] at hn
      have := hn _ (by simp [DataW.weights, Try.underlying32]; left; rfl)
      simp [lits, Try.bytes5, reachBytes] at this
      rw [List.length_take]
      omega
theorem ints_cells {H : Type} {enc : TypeId × Value → H} {W : World} {fuel : Nat} {cs : List Value} {x : DataW H × List MemPlace} (hf : DataW.trod enc Try.prog W 0 (fun _ => true) true fuel 33 cs = some x) :
    ∃ (a : Option Addr) (cap : Nat) (l : List Int), cs = [.slice a l.length cap] ∧ IsI W a l ∧ (a = none → l = [] ∧ cap = 0) ∧ l.length ≤ maxLen ∧ ((∀ n ∈ x.1.weights Try.prog 33, n ≤ reachBytes) → l.length ≤ 17592186044416) := by
  rcases open_ints Try.underlying33 Try.underlying3 (by kernel_rfl) hf with ⟨hcs, hx⟩ | ⟨y, l, c, zs, hcs, _, hl, hm, hz, hx, hcell, hwz⟩
  · exact ⟨none, 0, [], hcs, ⟨by simp, .inl rfl⟩, fun _ => ⟨rfl, rfl⟩, Nat.zero_le _, fun _ => Nat.zero_le _⟩
  · simp only [if_true] at hz
    refine ⟨some y, c, zs.take l, ?_, isI_of_cells y l zs (by omega) hcell hwz, by simp, by rw [List.length_take]; omega, fun hn => ?_⟩
    · rw [hcs, List.length_take, Nat.min_eq_left (by omega)]
    · rw [hx] at hn
      have := hn _ (by simp [DataW.weights, Try.underlying33]; left; rfl)
      simp [lits, Try.bytes3, reachBytes] at this
      rw [List.length_take]
      omega

theorem open_bytes {H : Type} {enc : TypeId × Value → H} {W : World} {a : Option Addr} {len cap : Nat} {d : DataW H} {p : List MemPlace} (h : DataW.Trod enc Try.prog W 0 (fun _ => true) true 32 (.slice a len cap) d p) :
    ∃ l : List Int, l.length = len ∧ IsB W a l ∧ (a = none → l = [] ∧ cap = 0) ∧ len ≤ maxLen ∧ ((∀ n ∈ d.weights Try.prog 32, n ≤ reachBytes) → l.length ≤ 140737488355328) := by
  obtain ⟨fuel, hf⟩ := h
  obtain ⟨a', cap', l, hcs, h1, h2, h3, h4⟩ := bytes_cells hf
  simp [Value.cells] at hcs
  obtain ⟨rfl, rfl, rfl⟩ := hcs
  exact ⟨l, rfl, h1, h2, h3, h4⟩
theorem open_longs {H : Type} {enc : TypeId × Value → H} {W : World} {a : Option Addr} {len cap : Nat} {d : DataW H} {p : List MemPlace} (h : DataW.Trod enc Try.prog W 0 (fun _ => true) true 33 (.slice a len cap) d p) :
    ∃ l : List Int, l.length = len ∧ IsI W a l ∧ (a = none → l = [] ∧ cap = 0) ∧ len ≤ maxLen ∧ ((∀ n ∈ d.weights Try.prog 33, n ≤ reachBytes) → l.length ≤ 17592186044416) := by
  obtain ⟨fuel, hf⟩ := h
  obtain ⟨a', cap', l, hcs, h1, h2, h3, h4⟩ := ints_cells hf
  simp [Value.cells] at hcs
  obtain ⟨rfl, rfl, rfl⟩ := hcs
  exact ⟨l, rfl, h1, h2, h3, h4⟩

/-- A call, as it came in. -/
structure Cl where
  kd : Int
  «at» : Int
  a : Option Addr
  c : Nat
  b : List Int
  ka : Option Addr
  kc : Nat
  ks : List Int

/-- What a call's cells hold. -/
structure ClOk (w : World) (x : Cl) : Prop where
  kd : -9223372036854775808 ≤ x.kd ∧ x.kd ≤ 9223372036854775807
  «at» : -9223372036854775808 ≤ x.at ∧ x.at ≤ 9223372036854775807
  isB : IsB w x.a x.b
  nilB : x.a = none → x.b = [] ∧ x.c = 0
  lenB : x.b.length ≤ maxLen
  isI : IsI w x.ka x.ks
  nilI : x.ka = none → x.ks = [] ∧ x.kc = 0
  lenI : x.ks.length ≤ maxLen

/-- A slice of calls. -/
structure IsC (w : World) (a : Option Addr) (cs : List Cl) : Prop where
  at' : cs = [] ∨ ∃ b off, a = some ⟨b, off, none⟩ ∧ b < w.heap.size ∧ ∀ i (h : i < cs.length), w.cell? ⟨b, off + i * 4, none⟩ = some (.int .i64 cs[i].kd) ∧ w.cell? ⟨b, off + i * 4 + 1, none⟩ = some (.int .i64 cs[i].at) ∧
    w.cell? ⟨b, off + i * 4 + 2, none⟩ = some (.slice cs[i].a cs[i].b.length cs[i].c) ∧ w.cell? ⟨b, off + i * 4 + 3, none⟩ = some (.slice cs[i].ka cs[i].ks.length cs[i].kc)
  body : ∀ x ∈ cs, ClOk w x

theorem IsC.keep {w w' : World} {a : Option Addr} {cs : List Cl} (h : IsC w a cs) (hb : Below w.heap.size w w') : IsC w' a cs where
  at' := by
    rcases h.at' with h0 | ⟨b, off, e, hs, hc⟩
    · exact .inl h0
    · refine .inr ⟨b, off, e, by have := hb.size; omega, fun i hi => ?_⟩
      rw [hb.cell (p := ⟨b, off + i * 4, none⟩) hs, hb.cell (p := ⟨b, off + i * 4 + 1, none⟩) hs, hb.cell (p := ⟨b, off + i * 4 + 2, none⟩) hs, hb.cell (p := ⟨b, off + i * 4 + 3, none⟩) hs]
      exact hc i hi
  body := fun x hx => let y := h.body x hx; ⟨y.kd, y.at, y.isB.keep hb, y.nilB, y.lenB, y.isI.keep hb, y.nilI, y.lenI⟩

theorem Try.cellsCall : Try.prog.cellsOf 35 = 4 := by kernel_rfl
theorem Try.cellsInt : Try.prog.cellsOf 3 = 1 := by kernel_rfl
theorem Try.cellsBytes : Try.prog.cellsOf 32 = 1 := by kernel_rfl
theorem Try.cellsInts : Try.prog.cellsOf 33 = 1 := by kernel_rfl

theorem weights_all {H : Type} {P : Program} {e : TypeId} : ∀ {ds : List (DataW H)} {d : DataW H}, d ∈ ds → ∀ n ∈ d.weights P e, n ∈ DataW.weightsAll P e ds
  | x :: r, d, hd, n, hn => by
    simp only [DataW.weightsAll, List.mem_append]
    rcases List.mem_cons.1 hd with rfl | hd
    · exact .inl hn
    · exact .inr (weights_all hd n hn)

theorem open_calls {H : Type} {enc : TypeId × Value → H} {W : World} {a : Option Addr} {len cap : Nat} {d : DataW H} {p : List MemPlace} (h : DataW.Trod enc Try.prog W 0 (fun _ => true) true 22 (.slice a len cap) d p) :
    ∃ cs : List Cl, cs.length = len ∧ IsC W a cs ∧ len ≤ maxLen ∧ ((∀ n ∈ d.weights Try.prog 22, n ≤ reachBytes) → ∀ x ∈ cs, x.b.length ≤ 140737488355328 ∧ x.ks.length ≤ 17592186044416) := by
  obtain ⟨fuel, hf⟩ := h
  rcases Deep.open_slice Try.underlying22 hf with ⟨hcs, hx⟩ | ⟨x, l, c, m, n, D, Pl, hcs, hb, hl, hm, hmm, hx, hcell⟩
  · simp [Value.cells] at hcs
    obtain ⟨rfl, rfl, rfl⟩ := hcs
    exact ⟨[], rfl, ⟨.inl rfl, fun x hx => by cases hx⟩, Nat.zero_le _, fun _ x hx => by cases hx⟩
  · simp [Value.cells] at hcs
    obtain ⟨rfl, rfl, rfl⟩ := hcs
    simp only [if_true] at hmm
    subst hmm
    rw [Try.cellsCall] at hcell
    have each : ∀ i, i < len → ∃ q : Cl, W.cell? (x.add (i * 4)) = some (.int .i64 q.kd) ∧ W.cell? (x.add (i * 4 + 1)) = some (.int .i64 q.at) ∧ W.cell? (x.add (i * 4 + 2)) = some (.slice q.a q.b.length q.c) ∧ W.cell? (x.add (i * 4 + 3)) = some (.slice q.ka q.ks.length q.kc) ∧ ClOk W q ∧
        ((∀ n ∈ (D i).weights Try.prog 35, n ≤ reachBytes) → q.b.length ≤ 140737488355328 ∧ q.ks.length ≤ 17592186044416) := by
      intro i hi
      obtain ⟨cs', h1, h2⟩ := hcell i (by omega)
      obtain ⟨_, hlen, hc⟩ := World.cells?_some h1
      obtain ⟨xs, k, _, hD, _, hxl, hfs⟩ := DataW.trod_struct Try.underlying35 h2
      match cs', hlen, xs, hxl with
      | [u0, u1, u2, u3], _, [y0, y1, y2, y3], _ =>
        have g0 := hfs 0 _ rfl
        have g1 := hfs 1 _ rfl
        have g2 := hfs 2 _ rfl
        have g3 := hfs 3 _ rfl
        obtain ⟨z0, e0, _, f0⟩ := DataW.trod_int Try.underlying3 g0
        obtain ⟨z1, e1, _, f1⟩ := DataW.trod_int Try.underlying3 g1
        obtain ⟨a2, c2, l2, e2, m2, n2, o2, p2⟩ := bytes_cells g2
        obtain ⟨a3, c3, l3, e3, m3, n3, o3, p3⟩ := ints_cells g3
        simp [Try.cellsInt, Try.cellsBytes, Try.cellsInts] at e0 e1 e2 e3
        subst e0 e1 e2 e3
        have c0 := hc 0 (by omega)
        have c1 := hc 1 (by omega)
        have c2' := hc 2 (by omega)
        have c3' := hc 3 (by omega)
        rw [Deep.add_add] at c0 c1 c2' c3'
        have eD : D i = .agg [y0.1, y1.1, y2.1, y3.1] := by have := congrArg Prod.fst hD; simpa using this
        refine ⟨⟨z0, z1, a2, c2, l2, a3, c3, l3⟩, by simpa using c0, by simpa using c1, by simpa using c2', by simpa using c3', ⟨int_of_wf f0, int_of_wf f1, m2, n2, o2, m3, n3, o3⟩, fun hn => ⟨p2 (fun n hm => hn n ?_), p3 (fun n hm => hn n ?_)⟩⟩
        · rw [eD]; simp only [DataW.weights, Try.underlying35]
          exact DataW.weights_mem_each (j := 2) rfl rfl n hm
        · rw [eD]; simp only [DataW.weights, Try.underlying35]
          exact DataW.weights_mem_each (j := 3) rfl rfl n hm
    have pick : ∃ q : Nat → Cl, ∀ i, i < len → W.cell? (x.add (i * 4)) = some (.int .i64 (q i).kd) ∧ W.cell? (x.add (i * 4 + 1)) = some (.int .i64 (q i).at) ∧ W.cell? (x.add (i * 4 + 2)) = some (.slice (q i).a (q i).b.length (q i).c) ∧ W.cell? (x.add (i * 4 + 3)) = some (.slice (q i).ka (q i).ks.length (q i).kc) ∧ ClOk W (q i) ∧
        ((∀ n ∈ (D i).weights Try.prog 35, n ≤ reachBytes) → (q i).b.length ≤ 140737488355328 ∧ (q i).ks.length ≤ 17592186044416) := by
      refine ⟨fun i => if h : i < len then Classical.choose (each i h) else ⟨0, 0, none, 0, [], none, 0, []⟩, fun i hi => ?_⟩
      simp only [dif_pos hi]
      exact Classical.choose_spec (each i hi)
    obtain ⟨q, hq⟩ := pick
    refine ⟨(List.range len).map q, by simp, ⟨?_, ?_⟩, by omega, ?_⟩
    · by_cases h0 : len = 0
      · exact .inl (by rw [h0]; rfl)
      · obtain ⟨b, off, spot⟩ := x
        have h1 := (hq 0 (by omega)).1
        have hspot : spot = none := by simpa [Addr.add] using World.cell?_spot h1
        subst hspot
        refine .inr ⟨b, off, rfl, ?_, ?_⟩
        · rw [addr_add] at h1
          exact lt_of_cell h1
        · intro i hi
          obtain ⟨c0, c1, c2, c3, _⟩ := hq i (by simpa using hi)
          rw [addr_add] at c0 c1 c2 c3
          simp only [List.getElem_map, List.getElem_range]
          exact ⟨c0, by rw [Nat.add_assoc]; exact c1, by rw [Nat.add_assoc]; exact c2, by rw [Nat.add_assoc]; exact c3⟩
    · intro y hy
      obtain ⟨i, hi, rfl⟩ := List.mem_map.1 hy
      exact (hq i (by simpa using hi)).2.2.2.2.1
    · intro hn y hy
      obtain ⟨i, hi, rfl⟩ := List.mem_map.1 hy
      have hi' : i < len := by simpa using hi
      refine (hq i hi').2.2.2.2.2 (fun n hm => hn n ?_)
      have hx1 := congrArg Prod.fst hx
      simp only at hx1
      rw [hx1]
      simp only [DataW.weights, Try.underlying22, List.mem_cons, List.mem_append]
      exact .inr (.inl (weights_all (List.mem_map.2 ⟨i, by simpa using hi', rfl⟩) n hm))
end Go.Proofs.Ytddkmmkhlfjhiaa
