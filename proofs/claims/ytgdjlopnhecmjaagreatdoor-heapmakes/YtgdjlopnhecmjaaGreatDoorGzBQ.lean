/- What the lifts of views share, for a seat with both tables. -/
import Derived.Test.YtgdjlopnhecmjaaGreatDoorSpL
import Derived.Test.YtgdjlopnhecmjaaGreatDoorGzAJ
import Derived.ProofKit
import Derived.OpenShut
import Derived.ChangeOld
import Derived.SizedLaws
import Derived.LaidMore
import Derived.LaidSub
import Derived.Lib.LaidTab
import Derived.Stop.Joined
import Derived.SevenTiedAt
import Derived.Deep.Slices
import Derived.Deep.SlicePairs
import Derived.Lib.SmallJoins
import Derived.Deep.Strs
import Derived.Test.YtgdjlopnhecmjaaGreatDoorGzBK
namespace Go.Proofs.YtgdjlopnhecmjaaGreatDoor
open Go.ChangeShapes Go.WideShapes Go.ChangeAt Go.RowKit
set_option linter.unusedVariables false
set_option maxRecDepth 4000

theorem Tryz.cellsIn : Tryz.prog.cellsOf 3 = 1 := by kernel_rfl
theorem Tryz.cellsInts : Tryz.prog.cellsOf 40 = 1 := by kernel_rfl
theorem byte_of_wf {x : Int} (h : (Lit.int .u8 x).wf = true) : 0 ≤ x ∧ x ≤ 255 := by
  simp [Lit.wf, IntKind.min, IntKind.max, IntKind.signed, IntKind.bits] at h
  exact ⟨by omega, by omega⟩
theorem isB_of_cells {w : World} (x : Addr) (len : Nat) (zs : List Int) (hl : len ≤ zs.length) (hc : ∀ i, i < zs.length → w.cell? (x.add i) = some (.int .u8 (zs.getD i 0))) (hw : ∀ n ∈ zs, (Lit.int .u8 n).wf = true) : IsB w (some x) (zs.take len) := by
  refine ⟨fun n hn => byte_of_wf (hw n (List.mem_of_mem_take hn)), ?_⟩
  by_cases h0 : len = 0
  · exact .inl (by rw [h0]; rfl)
  · obtain ⟨b, off, spot⟩ := x
    have h1 := hc 0 (by omega)
    have hspot : spot = none := by simpa [Addr.add] using World.cell?_spot h1
    subst hspot
    refine .inr ⟨b, off, rfl, ?_, ?_⟩
    · rw [addr_add] at h1
      exact heap_of_cell h1
    · intro i hi
      rw [List.length_take] at hi
      rw [← addr_add, hc i (by omega)]
      simp [List.getD, show i < len by omega]
theorem Tryz.bytes5 : Tryz.prog.bytesOf 5 = 1 := by kernel_rfl
/-- A slice of bytes in a cell, and how long it may be. -/
theorem bytes_cells {H : Type} {enc : TypeId × Value → H} {W : World} {fuel : Nat} {cs : List Value} {x : DataW H × List MemPlace} (hf : DataW.trod enc Tryz.prog W 0 (fun _ => true) true fuel 39 cs = some x) :
    ∃ (a : Option Addr) (cap : Nat) (l : List Int), cs = [.slice a l.length cap] ∧ IsB W a l ∧ (a = none → l = [] ∧ cap = 0) ∧ l.length ≤ cap ∧ cap ≤ maxLen ∧ l.length ≤ maxLen ∧ ((∀ n ∈ x.1.weights Tryz.prog 39, n ≤ reachBytes) → l.length ≤ 140737488355328) := by
  rcases open_ints Tryz.underlying39 Tryz.underlying5 (by kernel_rfl) hf with ⟨hcs, hx⟩ | ⟨y, l, c, zs, hcs, _, hl, hm, hz, hx, hcell, hwz⟩
  · exact ⟨none, 0, [], hcs, ⟨by simp, .inl rfl⟩, fun _ => ⟨rfl, rfl⟩, Nat.zero_le _, Nat.zero_le _, Nat.zero_le _, fun _ => Nat.zero_le _⟩
  · simp only [if_true] at hz
    refine ⟨some y, c, zs.take l, ?_, isB_of_cells y l zs (by omega) hcell hwz, by simp, by rw [List.length_take]; omega, by omega, by rw [List.length_take]; omega, fun hn => ?_⟩
    · rw [hcs, List.length_take, Nat.min_eq_left (by omega)]
    · rw [hx] at hn
      have := hn _ (by simp [DataW.weights, Tryz.underlying39]; left; rfl)
      simp [lits, Tryz.bytes5, reachBytes] at this
      rw [List.length_take]
      omega
end Go.Proofs.YtgdjlopnhecmjaaGreatDoor

/- Layer 15: opening a Config and a step (for the lift of HeapMakes). -/
namespace Go.Proofs.YtgdjlopnhecmjaaGreatDoor
open Go.ChangeShapes Go.WideShapes Go.ChangeAt Go.RowKit
set_option linter.unusedVariables false
set_option maxRecDepth 4000

theorem array5 {α : Type} {cs : Array α} (h : cs.size = 5) : ∃ c0 c1 c2 c3 c4, cs = #[c0, c1, c2, c3, c4] := by
  obtain ⟨l⟩ := cs
  match l, h with
  | [c0, c1, c2, c3, c4], _ => exact ⟨c0, c1, c2, c3, c4, rfl⟩
theorem array9 {α : Type} {cs : Array α} (h : cs.size = 9) : ∃ c0 c1 c2 c3 c4 c5 c6 c7 c8, cs = #[c0, c1, c2, c3, c4, c5, c6, c7, c8] := by
  obtain ⟨l⟩ := cs
  match l, h with
  | [c0, c1, c2, c3, c4, c5, c6, c7, c8], _ => exact ⟨c0, c1, c2, c3, c4, c5, c6, c7, c8, rfl⟩
theorem u64_of_wf {x : Int} (h : (Lit.int .u64 x).wf = true) : ∃ m : Nat, x = m ∧ m < 18446744073709551616 := by
  simp [Lit.wf, IntKind.min, IntKind.max, IntKind.signed, IntKind.bits] at h
  exact ⟨x.toNat, by omega, by omega⟩
theorem Tryz.cellsConfig : Tryz.prog.cellsOf 34 = 5 := by kernel_rfl
theorem Tryz.cellsOp : Tryz.prog.cellsOf 42 = 9 := by kernel_rfl
theorem Tryz.cellsHandle : Tryz.prog.cellsOf 38 = 1 := by kernel_rfl
theorem Tryz.cellsBytes : Tryz.prog.cellsOf 39 = 1 := by kernel_rfl

/-- Five numbers. -/
theorem open_config {H : Type} {enc : TypeId × Value → H} {W : World} {base : Nat} {v : Value} {d : DataW H} {p : List MemPlace} (hv : Value.okWide Tryz.prog W .any base 34 v) (h : DataW.Trod enc Tryz.prog W 0 (fun _ => true) true 34 v d p) :
    ∃ b g k n s : Int, v = .agg #[.int .i64 b, .int .i64 g, .int .i64 k, .int .i64 n, .int .i64 s] := by
  obtain ⟨cs, rfl, hsz⟩ := okWide_struct Tryz.underlying34 hv
  obtain ⟨c0, c1, c2, c3, c4, rfl⟩ := array5 (hsz.trans Tryz.cellsConfig)
  obtain ⟨fuel, hf⟩ := h
  obtain ⟨xs, n, _, hx, hl, hlen, hfs⟩ := DataW.trod_struct Tryz.underlying34 hf
  match xs, hlen with
  | [y0, y1, y2, y3, y4], _ =>
    have g0 := hfs 0 _ rfl
    have g1 := hfs 1 _ rfl
    have g2 := hfs 2 _ rfl
    have g3 := hfs 3 _ rfl
    have g4 := hfs 4 _ rfl
    obtain ⟨x0, e0, _, f0⟩ := DataW.trod_int Tryz.underlying3 g0
    obtain ⟨x1, e1, _, f1⟩ := DataW.trod_int Tryz.underlying3 g1
    obtain ⟨x2, e2, _, f2⟩ := DataW.trod_int Tryz.underlying3 g2
    obtain ⟨x3, e3, _, f3⟩ := DataW.trod_int Tryz.underlying3 g3
    obtain ⟨x4, e4, _, f4⟩ := DataW.trod_int Tryz.underlying3 g4
    simp [Value.cells, Tryz.cellsIn] at e0 e1 e2 e3 e4
    subst e0 e1 e2 e3 e4
    exact ⟨x0, x1, x2, x3, x4, rfl⟩

/-- A step. -/
theorem open_op {H : Type} {enc : TypeId × Value → H} {W : World} {base : Nat} {v : Value} {d : DataW H} {p : List MemPlace} (hv : Value.okWide Tryz.prog W .any base 42 v) (h : DataW.Trod enc Tryz.prog W 0 (fun _ => true) true 42 v d p) :
    ∃ (o : Op15) (lb lp : List Int), v = .agg o.cs ∧ IsB W o.ba lb ∧ o.bn = lb.length ∧ IsI W o.pa lp ∧ o.pn = lp.length ∧ (o.pa = none → lp = [] ∧ o.pc = 0) ∧ ((∀ n ∈ d.weights Tryz.prog 42, n ≤ reachBytes) → lb.length ≤ 140737488355328 ∧ lp.length ≤ 17592186044416) := by
  obtain ⟨cs, rfl, hsz⟩ := okWide_struct Tryz.underlying42 hv
  obtain ⟨c0, c1, c2, c3, c4, c5, c6, c7, c8, rfl⟩ := array9 (hsz.trans Tryz.cellsOp)
  obtain ⟨fuel, hf⟩ := h
  obtain ⟨xs, n, _, hx, hl, hlen, hfs⟩ := DataW.trod_struct Tryz.underlying42 hf
  match xs, hlen with
  | [y0, y1, y2, y3, y4, y5, y6, y7, y8], _ =>
    have g0 := hfs 0 _ rfl
    have g1 := hfs 1 _ rfl
    have g2 := hfs 2 _ rfl
    have g3 := hfs 3 _ rfl
    have g4 := hfs 4 _ rfl
    have g5 := hfs 5 _ rfl
    have g6 := hfs 6 _ rfl
    have g7 := hfs 7 _ rfl
    have g8 := hfs 8 _ rfl
    obtain ⟨x0, e0, _, f0⟩ := DataW.trod_int Tryz.underlying3 g0
    obtain ⟨x1, e1, _, f1⟩ := DataW.trod_int Tryz.underlying3 g1
    obtain ⟨x2, e2, _, f2⟩ := DataW.trod_int Tryz.underlying38 g2
    obtain ⟨x3, e3, _, f3⟩ := DataW.trod_int Tryz.underlying38 g3
    obtain ⟨x4, e4, _, f4⟩ := DataW.trod_int Tryz.underlying3 g4
    obtain ⟨x5, e5, _, f5⟩ := DataW.trod_int Tryz.underlying3 g5
    obtain ⟨ba, bc, lb, e6, hB, _, hB1, hB2, hB3, hBw⟩ := bytes_cells g6
    obtain ⟨pa, pc, lp, e7, hP, hP0, hP1, hPw⟩ := ints_cells g7
    obtain ⟨ka, kc, lk, e8, _, _, _, _⟩ := ints_cells g8
    obtain ⟨m2, rfl, _⟩ := u64_of_wf f2
    obtain ⟨m3, rfl, _⟩ := u64_of_wf f3
    simp [Value.cells, Tryz.cellsIn, Tryz.cellsHandle, Tryz.cellsBytes, Tryz.cellsInts] at e0 e1 e2 e3 e4 e5 e6 e7 e8
    subst e0 e1 e2 e3 e4 e5 e6 e7 e8
    refine ⟨⟨x0, x1, m2, m3, x4, x5, ba, lb.length, bc, pa, lp.length, pc, ka, lk.length, kc⟩, lb, lp, rfl, hB, rfl, hP, rfl, hP0, fun hn => ?_⟩
    have hd : d = .agg [y0.1, y1.1, y2.1, y3.1, y4.1, y5.1, y6.1, y7.1, y8.1] := congrArg Prod.fst hx
    rw [hd] at hn
    simp only [DataW.weights, Tryz.underlying42] at hn
    exact ⟨hBw (fun k hk => hn k (DataW.weights_mem_each (j := 6) rfl rfl k hk)), hPw (fun k hk => hn k (DataW.weights_mem_each (j := 7) rfl rfl k hk))⟩
end Go.Proofs.YtgdjlopnhecmjaaGreatDoor
