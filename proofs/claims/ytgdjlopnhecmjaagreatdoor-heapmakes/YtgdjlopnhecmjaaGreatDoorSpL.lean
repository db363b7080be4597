/- What the lifts of layer 10 share: both tables in their variables, arguments opened. -/
import Derived.Test.YtgdjlopnhecmjaaGreatDoorGzAD
import Derived.Test.YtgdjlopnhecmjaaGreatDoorTie
import Derived.Test.YtgdjlopnhecmjaaGreatDoorCards
import Derived.ProofKit
import Derived.OpenShut
import Derived.ChangeOld
import Derived.SizedLaws
import Derived.LaidMore
import Derived.LaidSub
import Derived.Lib.LaidTab
import Derived.Stop.Joined
import Derived.SevenTiedAt
import Derived.Deep.Slices
import Derived.Deep.SlicePairs
import Derived.Lib.SmallJoins
namespace Go.Proofs.YtgdjlopnhecmjaaGreatDoor
open Go.ChangeShapes Go.WideShapes Go.ChangeAt Go.RowKit
set_option linter.unusedVariables false
set_option maxRecDepth 4000

theorem own : ownKnob Tryz.prog.godebug = none := by kernel_rfl
theorem laidOut : laidOutB Tryz.prog = true := by kernel_rfl

/-- What the rows list. -/
def lst : List (String × DataW Unit) := [("hayloft/class.slotBytes", Rows.laid_hayloft_class_slotBytes), ("math/bits.deBruijn64tab", Rows.laid_math_bits_deBruijn64tab)]
/-- The second of them alone. -/
def lst2 : List (String × DataW Unit) := [("math/bits.deBruijn64tab", Rows.laid_math_bits_deBruijn64tab)]

theorem gC : Tryz.prog.globalNamed "hayloft/class.slotBytes" = some 0 := by kernel_rfl
theorem tC : (Tryz.prog.globals[0]?).map (·.type) = some 206 := by kernel_rfl
theorem Tryz.cellsC : Tryz.prog.cellsOf 206 = 7 := by kernel_rfl
theorem Tryz.cells3 : Tryz.prog.cellsOf 3 = 1 := by kernel_rfl
theorem gB : Tryz.prog.globalNamed "math/bits.deBruijn64tab" = some 1 := by kernel_rfl
theorem tB : (Tryz.prog.globals[1]?).map (·.type) = some 322 := by kernel_rfl
theorem Tryz.cellsB : Tryz.prog.cellsOf 322 = 64 := by kernel_rfl
theorem Tryz.cells5 : Tryz.prog.cellsOf 5 = 1 := by kernel_rfl

/-- The door's own heap meets the condition. -/
theorem door_met (os : Os) (args : Array Value) : laidMetH Tryz.prog lst ((World.doorLaid Tryz.prog 14 os).forCall (fun _ _ => 0) ⟨#[], args, []⟩).memory :=
  laidMetH_of_parts3 (fuel := 8) (laidMet_of_run' 8 (by kernel_rfl) (by kernel_rfl)) (by kernel_rfl) (by kernel_rfl)

theorem lst_tab : lst = [("hayloft/class.slotBytes", Lib.tabData .i64 [16, 24, 32, 48, 64, 96, 128]), ("math/bits.deBruijn64tab", Rows.laid_math_bits_deBruijn64tab)] := by rfl
theorem lst2_tab : lst2 = [("math/bits.deBruijn64tab", Lib.tabData .u8 (Lib.deBruijn64tab.map fun z : Nat => (z : Int)))] := by rfl

theorem heap_of_cell {w : World} {a : Addr} {v : Value} (h : w.cell? a = some v) : a.block < w.heap.size := by
  rcases Nat.lt_or_ge a.block w.heap.size with h' | h'
  · exact h'
  · simp [World.cell?, Array.getElem?_eq_none h'] at h
theorem tabC_of_laid {W : World} (h : laidMetH Tryz.prog lst W) : TabC W := by
  rw [MakeChecks.laidMetH_plain _ _ _ (by kernel_rfl), lst_tab] at h
  have hT := Lib.tabIs_of_head gC tC Tryz.underlying206 Tryz.underlying3 Tryz.cells3 Tryz.cellsC h
  have hc : ∀ j, j < 7 → W.cell? ⟨0, j, none⟩ = some (.int .i64 (sizeN j : Nat)) := by
    intro j hj
    rw [hT.cell gC j hj]
    rcases j with _ | _ | _ | _ | _ | _ | _ | j <;> first | rfl | omega
  exact ⟨heap_of_cell (hc 0 (by decide)), hc⟩
theorem lst_two : lst.filter (fun x => x.1 == "math/bits.deBruijn64tab") = lst2 := by rfl
theorem tabB_of_laid {W : World} (h0 : laidMetH Tryz.prog lst W) : TabB W := by
  have h := h0.filter (fun x => x.1 == "math/bits.deBruijn64tab")
  rw [lst_two, MakeChecks.laidMetH_plain _ _ _ (by kernel_rfl), lst2_tab] at h
  have hT := Lib.tabIs_of_head gB tB Tryz.underlying322 Tryz.underlying5 Tryz.cells5 Tryz.cellsB h
  have hc : ∀ j, j < 64 → W.cell? ⟨1, j, none⟩ = some (.int .u8 (Lib.deBruijn64tab.getD j 0 : Nat)) := by
    intro j hj
    have hl : (Lib.deBruijn64tab.map fun z : Nat => (z : Int)).length = 64 := by rfl
    rw [hT.cell gB j (by rw [hl]; exact hj)]
    congr 2
    have hl2 : Lib.deBruijn64tab.length = 64 := by rfl
    simp [List.getD, hl2, hj]
  exact ⟨heap_of_cell (hc 0 (by decide)), hc⟩
theorem tabs_of_laid {W : World} (h : laidMetH Tryz.prog lst W) : Tabs W := ⟨tabC_of_laid h, tabB_of_laid h⟩

theorem int_of_wf {x : Int} (h : (Lit.int .i64 x).wf = true) : -9223372036854775808 ≤ x ∧ x ≤ 9223372036854775807 := by
  simp [Lit.wf, IntKind.min, IntKind.max, IntKind.signed, IntKind.bits] at h
  exact ⟨by omega, by omega⟩
theorem isI_of_cells {w : World} (x : Addr) (len : Nat) (zs : List Int) (hl : len ≤ zs.length) (hc : ∀ i, i < zs.length → w.cell? (x.add i) = some (.int .i64 (zs.getD i 0))) (hw : ∀ n ∈ zs, (Lit.int .i64 n).wf = true) : IsI w (some x) (zs.take len) := by
  refine ⟨fun n hn => int_of_wf (hw n (List.mem_of_mem_take hn)), ?_⟩
  by_cases h0 : len = 0
  · exact .inl (by rw [h0]; rfl)
  · obtain ⟨b, off, spot⟩ := x
    have h1 := hc 0 (by omega)
    have hspot : spot = none := by simpa [Addr.add] using World.cell?_spot h1
    subst hspot
    refine .inr ⟨b, off, rfl, ?_, ?_⟩
    · rw [addr_add] at h1
      exact heap_of_cell h1
    · intro i hi
      rw [List.length_take] at hi
      rw [← addr_add, hc i (by omega)]
      simp [List.getD, show i < len by omega]
theorem Tryz.bytes3 : Tryz.prog.bytesOf 3 = 8 := by kernel_rfl
/-- A slice of numbers in a cell, and how long it may be. -/
theorem ints_cells {H : Type} {enc : TypeId × Value → H} {W : World} {fuel : Nat} {cs : List Value} {x : DataW H × List MemPlace} (hf : DataW.trod enc Tryz.prog W 0 (fun _ => true) true fuel 40 cs = some x) :
    ∃ (a : Option Addr) (cap : Nat) (l : List Int), cs = [.slice a l.length cap] ∧ IsI W a l ∧ (a = none → l = [] ∧ cap = 0) ∧ l.length ≤ maxLen ∧ ((∀ n ∈ x.1.weights Tryz.prog 40, n ≤ reachBytes) → l.length ≤ 17592186044416) := by
  rcases open_ints Tryz.underlying40 Tryz.underlying3 (by kernel_rfl) hf with ⟨hcs, hx⟩ | ⟨y, l, c, zs, hcs, _, hl, hm, hz, hx, hcell, hwz⟩
  · exact ⟨none, 0, [], hcs, ⟨by simp, .inl rfl⟩, fun _ => ⟨rfl, rfl⟩, Nat.zero_le _, fun _ => Nat.zero_le _⟩
  · simp only [if_true] at hz
    refine ⟨some y, c, zs.take l, ?_, isI_of_cells y l zs (by omega) hcell hwz, by simp, by rw [List.length_take]; omega, fun hn => ?_⟩
    · rw [hcs, List.length_take, Nat.min_eq_left (by omega)]
    · rw [hx] at hn
      have := hn _ (by simp [DataW.weights, Tryz.underlying40]; left; rfl)
      simp [lits, Tryz.bytes3, reachBytes] at this
      rw [List.length_take]
      omega
end Go.Proofs.YtgdjlopnhecmjaaGreatDoor
