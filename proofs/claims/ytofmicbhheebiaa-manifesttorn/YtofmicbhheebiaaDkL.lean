/- What the laws of layer 5 share: how arguments that came in are opened. -/
import Derived.Test.YtofmicbhheebiaaDkK
import Derived.Deep.Slices
import Derived.Deep.Strs
import Derived.Lib.SmallJoins
namespace Go.Proofs.Ytofmicbhheebiaa
open Go.ChangeShapes Go.WideShapes Go.ChangeAt Go.RowKit
set_option linter.unusedVariables false
set_option maxRecDepth 4000

theorem own : ownKnob Try.prog.godebug = none := by kernel_rfl
theorem laidOut : laidOutB Try.prog = true := by kernel_rfl

theorem byte_of_wf {x : Int} (h : (Lit.int .u8 x).wf = true) : 0 ≤ x ∧ x ≤ 255 := by
  simp [Lit.wf, IntKind.min, IntKind.max, IntKind.signed, IntKind.bits] at h
  exact ⟨by omega, by omega⟩
theorem int_of_wf {x : Int} (h : (Lit.int .i64 x).wf = true) : -9223372036854775808 ≤ x ∧ x ≤ 9223372036854775807 := by
  simp [Lit.wf, IntKind.min, IntKind.max, IntKind.signed, IntKind.bits] at h
  exact ⟨by omega, by omega⟩
theorem u8_of_wf {x : Int} (h : (Lit.int .u8 x).wf = true) : ∃ m : Nat, x = m ∧ m < 256 := by
  have := byte_of_wf h
  exact ⟨x.toNat, by omega, by omega⟩

theorem lt_of_cell {w : World} {b off : Nat} {v : Value} (h : w.cell? ⟨b, off, none⟩ = some v) : b < w.heap.size := block_lt_of_cell h

theorem isB_of_cells {w : World} (x : Addr) (len : Nat) (zs : List Int) (hl : len ≤ zs.length) (hc : ∀ i, i < zs.length → w.cell? (x.add i) = some (.int .u8 (zs.getD i 0))) (hw : ∀ n ∈ zs, (Lit.int .u8 n).wf = true) : IsB w (some x) (zs.take len) := by
  refine ⟨fun n hn => byte_of_wf (hw n (List.mem_of_mem_take hn)), ?_⟩
  by_cases h0 : len = 0
  · exact .inl (by rw [h0]; rfl)
  · obtain ⟨b, off, spot⟩ := x
    have h1 := hc 0 (by omega)
    have hspot : spot = none := by simpa [Addr.add] using World.cell?_spot h1
    subst hspot
    refine .inr ⟨b, off, rfl, ?_, ?_⟩
    · rw [addr_add] at h1
      exact lt_of_cell h1
    · intro i hi
      rw [List.length_take] at hi
      rw [← addr_add, hc i (by omega)]
      simp [List.getD, show i < len by omega]
theorem isI_of_cells {w : World} (x : Addr) (len : Nat) (zs : List Int) (hl : len ≤ zs.length) (hc : ∀ i, i < zs.length → w.cell? (x.add i) = some (.int .i64 (zs.getD i 0))) (hw : ∀ n ∈ zs, (Lit.int .i64 n).wf = true) : IsI w (some x) (zs.take len) := by
  refine ⟨fun n hn => int_of_wf (hw n (List.mem_of_mem_take hn)), ?_⟩
  by_cases h0 : len = 0
  · exact .inl (by rw [h0]; rfl)
  · obtain ⟨b, off, spot⟩ := x
    have h1 := hc 0 (by omega)
    have hspot : spot = none := by simpa [Addr.add] using World.cell?_spot h1
    subst hspot
    refine .inr ⟨b, off, rfl, ?_, ?_⟩
    · rw [addr_add] at h1
      exact lt_of_cell h1
    · intro i hi
      rw [List.length_take] at hi
      rw [← addr_add, hc i (by omega)]
      simp [List.getD, show i < len by omega]

theorem Try.bytes5 : Try.prog.bytesOf 5 = 1 := by kernel_rfl
theorem Try.bytes3 : Try.prog.bytesOf 3 = 8 := by kernel_rfl

/-- A slice of bytes in a cell, and how long it may be. -/
theorem bytes_cells {H : Type} {enc : TypeId × Value → H} {W : World} {fuel : Nat} {cs : List Value} {x : DataW H × List MemPlace} (hf : DataW.trod enc Try.prog W 0 (fun _ => true) true fuel 25 cs = some x) :
    ∃ (a : Option Addr) (cap : Nat) (l : List Int), cs = [.slice a l.length cap] ∧ IsB W a l ∧ (a = none → l = [] ∧ cap = 0) ∧ l.length ≤ maxLen ∧ ((∀ n ∈ x.1.weights Try.prog 25, n ≤ reachBytes) → l.length ≤ 140737488355328) := by
  rcases open_ints Try.underlying25 Try.underlying5 (by kernel_rfl) hf with ⟨hcs, hx⟩ | ⟨y, l, c, zs, hcs, _, hl, hm, hz, hx, hcell, hwz⟩
  · exact ⟨none, 0, [], hcs, ⟨by simp, .inl rfl⟩, fun _ => ⟨rfl, rfl⟩, Nat.zero_le _, fun _ => Nat.zero_le _⟩
  · simp only [if_true] at hz
    refine ⟨some y, c, zs.take l, ?_, isB_of_cells y l zs (by omega) hcell hwz, by simp, by rw [List.length_take]; omega, fun hn => ?_⟩
    · rw [hcs, List.length_take, Nat.min_eq_left (by omega)]
    · rw [hx] at hn
      have := hn _ (by simp [DataW.weights, Try.underlying25]; left; rfl)
      simp [lits, Try.bytes5, reachBytes] at this
      rw [List.length_take]
      omega
theorem ints_cells {H : Type} {enc : TypeId × Value → H} {W : World} {fuel : Nat} {cs : List Value} {x : DataW H × List MemPlace} (hf : DataW.trod enc Try.prog W 0 (fun _ => true) true fuel 71 cs = some x) :
    ∃ (a : Option Addr) (cap : Nat) (l : List Int), cs = [.slice a l.length cap] ∧ IsI W a l ∧ (a = none → l = [] ∧ cap = 0) ∧ l.length ≤ maxLen ∧ ((∀ n ∈ x.1.weights Try.prog 71, n ≤ reachBytes) → l.length ≤ 17592186044416) := by
  rcases open_ints Try.underlying71 Try.underlying3 (by kernel_rfl) hf with ⟨hcs, hx⟩ | ⟨y, l, c, zs, hcs, _, hl, hm, hz, hx, hcell, hwz⟩
  · exact ⟨none, 0, [], hcs, ⟨by simp, .inl rfl⟩, fun _ => ⟨rfl, rfl⟩, Nat.zero_le _, fun _ => Nat.zero_le _⟩
  · simp only [if_true] at hz
    refine ⟨some y, c, zs.take l, ?_, isI_of_cells y l zs (by omega) hcell hwz, by simp, by rw [List.length_take]; omega, fun hn => ?_⟩
    · rw [hcs, List.length_take, Nat.min_eq_left (by omega)]
    · rw [hx] at hn
      have := hn _ (by simp [DataW.weights, Try.underlying71]; left; rfl)
      simp [lits, Try.bytes3, reachBytes] at this
      rw [List.length_take]
      omega

theorem open_bytes {H : Type} {enc : TypeId × Value → H} {W : World} {a : Option Addr} {len cap : Nat} {d : DataW H} {p : List MemPlace} (h : DataW.Trod enc Try.prog W 0 (fun _ => true) true 25 (.slice a len cap) d p) :
    ∃ l : List Int, l.length = len ∧ IsB W a l ∧ (a = none → l = [] ∧ cap = 0) ∧ len ≤ maxLen ∧ ((∀ n ∈ d.weights Try.prog 25, n ≤ reachBytes) → l.length ≤ 140737488355328) := by
  obtain ⟨fuel, hf⟩ := h
  obtain ⟨a', cap', l, hcs, h1, h2, h3, h4⟩ := bytes_cells hf
  simp [Value.cells] at hcs
  obtain ⟨rfl, rfl, rfl⟩ := hcs
  exact ⟨l, rfl, h1, h2, h3, h4⟩
theorem open_longs {H : Type} {enc : TypeId × Value → H} {W : World} {a : Option Addr} {len cap : Nat} {d : DataW H} {p : List MemPlace} (h : DataW.Trod enc Try.prog W 0 (fun _ => true) true 71 (.slice a len cap) d p) :
    ∃ l : List Int, l.length = len ∧ IsI W a l ∧ (a = none → l = [] ∧ cap = 0) ∧ len ≤ maxLen ∧ ((∀ n ∈ d.weights Try.prog 71, n ≤ reachBytes) → l.length ≤ 17592186044416) := by
  obtain ⟨fuel, hf⟩ := h
  obtain ⟨a', cap', l, hcs, h1, h2, h3, h4⟩ := ints_cells hf
  simp [Value.cells] at hcs
  obtain ⟨rfl, rfl, rfl⟩ := hcs
  exact ⟨l, rfl, h1, h2, h3, h4⟩

/-- A call, as it came in. -/
structure Cl where
  kd : Int
  «at» : Int
  a : Option Addr
  c : Nat
  b : List Int
  ka : Option Addr
  kc : Nat
  ks : List Int

/-- What a call's cells hold. -/
structure ClOk (w : World) (x : Cl) : Prop where
  kd : -9223372036854775808 ≤ x.kd ∧ x.kd ≤ 9223372036854775807
  «at» : -9223372036854775808 ≤ x.at ∧ x.at ≤ 9223372036854775807
  isB : IsB w x.a x.b
  nilB : x.a = none → x.b = [] ∧ x.c = 0
  lenB : x.b.length ≤ maxLen
  isI : IsI w x.ka x.ks
  nilI : x.ka = none → x.ks = [] ∧ x.kc = 0
  lenI : x.ks.length ≤ maxLen

/-- A slice of calls. -/
structure IsC (w : World) (a : Option Addr) (cs : List Cl) : Prop where
  at' : cs = [] ∨ ∃ b off, a = some ⟨b, off, none⟩ ∧ b < w.heap.size ∧ ∀ i (h : i < cs.length), w.cell? ⟨b, off + i * 4, none⟩ = some (.int .i64 cs[i].kd) ∧ w.cell? ⟨b, off + i * 4 + 1, none⟩ = some (.int .i64 cs[i].at) ∧
    w.cell? ⟨b, off + i * 4 + 2, none⟩ = some (.slice cs[i].a cs[i].b.length cs[i].c) ∧ w.cell? ⟨b, off + i * 4 + 3, none⟩ = some (.slice cs[i].ka cs[i].ks.length cs[i].kc)
  body : ∀ x ∈ cs, ClOk w x

theorem IsC.keep {w w' : World} {a : Option Addr} {cs : List Cl} (h : IsC w a cs) (hb : Below w.heap.size w w') : IsC w' a cs where
  at' := by
    rcases h.at' with h0 | ⟨b, off, e, hs, hc⟩
    · exact .inl h0
    · refine .inr ⟨b, off, e, by have := hb.size; omega, fun i hi => ?_⟩
      rw [hb.cell (p := ⟨b, off + i * 4, none⟩) hs, hb.cell (p := ⟨b, off + i * 4 + 1, none⟩) hs, hb.cell (p := ⟨b, off + i * 4 + 2, none⟩) hs, hb.cell (p := ⟨b, off + i * 4 + 3, none⟩) hs]
      exact hc i hi
  body := fun x hx => let y := h.body x hx; ⟨y.kd, y.at, y.isB.keep hb, y.nilB, y.lenB, y.isI.keep hb, y.nilI, y.lenI⟩

theorem Try.cellsInt : Try.prog.cellsOf 3 = 1 := by kernel_rfl
theorem Try.cellsBytes : Try.prog.cellsOf 25 = 1 := by kernel_rfl
theorem Try.cellsInts : Try.prog.cellsOf 71 = 1 := by kernel_rfl

theorem weights_all {H : Type} {P : Program} {e : TypeId} : ∀ {ds : List (DataW H)} {d : DataW H}, d ∈ ds → ∀ n ∈ d.weights P e, n ∈ DataW.weightsAll P e ds
  | x :: r, d, hd, n, hn => by
    simp only [DataW.weightsAll, List.mem_append]
    rcases List.mem_cons.1 hd with rfl | hd
    · exact .inl hn
    · exact .inr (weights_all hd n hn)

end Go.Proofs.Ytofmicbhheebiaa
