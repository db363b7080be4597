/- What the lifts of layer 11 share: both tables in their variables. -/
import Derived.Test.YtgmljgogmbaioaaGreatDoorSpG
import Derived.Test.YtgmljgogmbaioaaGreatDoorTie
import Derived.Test.YtgmljgogmbaioaaGreatDoorCards
import Derived.ProofKit
import Derived.OpenShut
import Derived.ChangeOld
import Derived.SizedLaws
import Derived.LaidMore
import Derived.LaidSub
import Derived.Lib.LaidTab
import Derived.Stop.Joined
import Derived.SevenTiedAt
import Derived.Deep.Slices
import Derived.Deep.SlicePairs
import Derived.Lib.SmallJoins
import Derived.Test.YtgmljgogmbaioaaGreatDoorKcAC
namespace Go.Proofs.YtgmljgogmbaioaaGreatDoor
open Go.ChangeShapes Go.WideShapes Go.ChangeAt Go.RowKit
set_option linter.unusedVariables false
set_option maxRecDepth 4000

theorem own : ownKnob Tryz.prog.godebug = none := by kernel_rfl
theorem laidOut : laidOutB Tryz.prog = true := by kernel_rfl

/-- What the rows list. -/
def lst : List (String × DataW Unit) := [("hayloft/class.slotBytes", Rows.laid_hayloft_class_slotBytes), ("math/bits.deBruijn64tab", Rows.laid_math_bits_deBruijn64tab)]
/-- The second of them alone. -/
def lst2 : List (String × DataW Unit) := [("math/bits.deBruijn64tab", Rows.laid_math_bits_deBruijn64tab)]

theorem gC : Tryz.prog.globalNamed "hayloft/class.slotBytes" = some 0 := by kernel_rfl
theorem tC : (Tryz.prog.globals[0]?).map (·.type) = some 127 := by kernel_rfl
theorem Tryz.cellsC : Tryz.prog.cellsOf 127 = 7 := by kernel_rfl
theorem Tryz.cells3 : Tryz.prog.cellsOf 3 = 1 := by kernel_rfl
theorem gB : Tryz.prog.globalNamed "math/bits.deBruijn64tab" = some 1 := by kernel_rfl
theorem tB : (Tryz.prog.globals[1]?).map (·.type) = some 161 := by kernel_rfl
theorem Tryz.cellsB : Tryz.prog.cellsOf 161 = 64 := by kernel_rfl
theorem Tryz.cells5 : Tryz.prog.cellsOf 5 = 1 := by kernel_rfl

/-- The door's own heap meets the condition. -/
theorem door_met (os : Os) (args : Array Value) : laidMetH Tryz.prog lst ((World.doorLaid Tryz.prog 14 os).forCall (fun _ _ => 0) ⟨#[], args, []⟩).memory :=
  laidMetH_of_parts3 (fuel := 8) (laidMet_of_run' 8 (by kernel_rfl) (by kernel_rfl)) (by kernel_rfl) (by kernel_rfl)

theorem lst_tab : lst = [("hayloft/class.slotBytes", Lib.tabData .i64 [16, 24, 32, 48, 64, 96, 128]), ("math/bits.deBruijn64tab", Rows.laid_math_bits_deBruijn64tab)] := by rfl
theorem lst2_tab : lst2 = [("math/bits.deBruijn64tab", Lib.tabData .u8 (Lib.deBruijn64tab.map fun z : Nat => (z : Int)))] := by rfl

theorem heap_of_cell {w : World} {a : Addr} {v : Value} (h : w.cell? a = some v) : a.block < w.heap.size := by
  rcases Nat.lt_or_ge a.block w.heap.size with h' | h'
  · exact h'
  · simp [World.cell?, Array.getElem?_eq_none h'] at h
theorem tabC_of_laid {W : World} (h : laidMetH Tryz.prog lst W) : TabC W := by
  rw [MakeChecks.laidMetH_plain _ _ _ (by kernel_rfl), lst_tab] at h
  have hT := Lib.tabIs_of_head gC tC Tryz.underlying127 Tryz.underlying3 Tryz.cells3 Tryz.cellsC h
  have hc : ∀ j, j < 7 → W.cell? ⟨0, j, none⟩ = some (.int .i64 (sizeN j : Nat)) := by
    intro j hj
    rw [hT.cell gC j hj]
    rcases j with _ | _ | _ | _ | _ | _ | _ | j <;> first | rfl | omega
  exact ⟨heap_of_cell (hc 0 (by decide)), hc⟩
theorem lst_two : lst.filter (fun x => x.1 == "math/bits.deBruijn64tab") = lst2 := by rfl
theorem tabB_of_laid {W : World} (h0 : laidMetH Tryz.prog lst W) : TabB W := by
  have h := h0.filter (fun x => x.1 == "math/bits.deBruijn64tab")
  rw [lst_two, MakeChecks.laidMetH_plain _ _ _ (by kernel_rfl), lst2_tab] at h
  have hT := Lib.tabIs_of_head gB tB Tryz.underlying161 Tryz.underlying5 Tryz.cells5 Tryz.cellsB h
  have hc : ∀ j, j < 64 → W.cell? ⟨1, j, none⟩ = some (.int .u8 (Lib.deBruijn64tab.getD j 0 : Nat)) := by
    intro j hj
    have hl : (Lib.deBruijn64tab.map fun z : Nat => (z : Int)).length = 64 := by rfl
    rw [hT.cell gB j (by rw [hl]; exact hj)]
    congr 2
    have hl2 : Lib.deBruijn64tab.length = 64 := by rfl
    simp [List.getD, hl2, hj]
  exact ⟨heap_of_cell (hc 0 (by decide)), hc⟩
theorem tabs_of_laid {W : World} (h : laidMetH Tryz.prog lst W) : Tabs W := ⟨tabC_of_laid h, tabB_of_laid h⟩

theorem int_of_wf {x : Int} (h : (Lit.int .i64 x).wf = true) : -9223372036854775808 ≤ x ∧ x ≤ 9223372036854775807 := by
  simp [Lit.wf, IntKind.min, IntKind.max, IntKind.signed, IntKind.bits] at h
  exact ⟨by omega, by omega⟩
end Go.Proofs.YtgmljgogmbaioaaGreatDoor

/- What the lifts of layer 11's laws over a script share. -/
namespace Go.Proofs.YtgmljgogmbaioaaGreatDoor
open Go.ChangeShapes Go.WideShapes Go.ChangeAt Go.RowKit
set_option linter.unusedVariables false
set_option maxRecDepth 4000

theorem u8_of_wf {x : Int} (h : (Lit.int .u8 x).wf = true) : 0 ≤ x ∧ x < 256 := by
  simp [Lit.wf, IntKind.min, IntKind.max, IntKind.signed, IntKind.bits] at h
  omega
theorem open_size {H : Type} {enc : TypeId × Value → H} {W : World} {base : Nat} {v : Value} {d : DataW H} {p : List MemPlace} (hv : Value.okWide Tryz.prog W .any base 23 v) (h : DataW.Trod enc Tryz.prog W 0 (fun _ => true) true 23 v d p) :
    ∃ x y : Int, v = .agg #[.int .u8 x, .int .u8 y] ∧ (0 ≤ x ∧ x < 256) ∧ (0 ≤ y ∧ y < 256) := by
  obtain ⟨c0, c1, y0, y1, n, rfl, rfl, rfl, h0, h1⟩ := Joins.open_agg2 Tryz.underlying23 (by kernel_rfl) (by kernel_rfl) hv h
  obtain ⟨x0, e0, _, w0⟩ := DataW.trod_int Tryz.underlying5 h0
  obtain ⟨x1, e1, _, w1⟩ := DataW.trod_int Tryz.underlying5 h1
  simp at e0 e1
  subst e0 e1
  exact ⟨x0, x1, rfl, u8_of_wf w0, u8_of_wf w1⟩
theorem Tryz.cellsCall : Tryz.prog.cellsOf 37 = 3 := by kernel_rfl
theorem Tryz.cellsInt : Tryz.prog.cellsOf 3 = 1 := by kernel_rfl

theorem open_calls {H : Type} {enc : TypeId × Value → H} {W : World} {a : Option Addr} {len cap : Nat} {d : DataW H} {p : List MemPlace} (h : DataW.Trod enc Tryz.prog W 0 (fun _ => true) true 24 (.slice a len cap) d p) :
    ∃ kd xx kk : Nat → Int, IsC W a len kd xx kk ∧ len ≤ maxLen := by
  obtain ⟨fuel, hf⟩ := h
  rcases Deep.open_slice Tryz.underlying24 hf with ⟨hcs, hx⟩ | ⟨x, l, c, m, n, D, Pl, hcs, hb, hl, hm, hmm, hx, hcell⟩
  · simp [Value.cells] at hcs
    obtain ⟨rfl, rfl, rfl⟩ := hcs
    exact ⟨fun _ => 0, fun _ => 0, fun _ => 0, ⟨fun i hi => by omega, .inl rfl⟩, Nat.zero_le _⟩
  · simp [Value.cells] at hcs
    obtain ⟨rfl, rfl, rfl⟩ := hcs
    simp only [if_true] at hmm
    subst hmm
    rw [Tryz.cellsCall] at hcell
    have each : ∀ i, i < len → ∃ q : Int × Int × Int, W.cell? (x.add (i * 3)) = some (.int .i64 q.1) ∧ W.cell? (x.add (i * 3 + 1)) = some (.int .i64 q.2.1) ∧ W.cell? (x.add (i * 3 + 2)) = some (.int .i64 q.2.2) ∧ (Lit.int .i64 q.1).wf = true ∧ (Lit.int .i64 q.2.1).wf = true ∧ (Lit.int .i64 q.2.2).wf = true := by
      intro i hi
      obtain ⟨cs', h1, h2⟩ := hcell i (by omega)
      obtain ⟨_, hlen, hc⟩ := World.cells?_some h1
      obtain ⟨y0, y1, y2, k, _, _, g0, g1, g2⟩ := Deep.trod_struct3 Tryz.underlying37 h2
      match cs', hlen with
      | [u0, u1, u2], _ =>
        obtain ⟨z0, e0, _, f0⟩ := DataW.trod_int Tryz.underlying3 g0
        obtain ⟨z1, e1, _, f1⟩ := DataW.trod_int Tryz.underlying3 g1
        obtain ⟨z2, e2, _, f2⟩ := DataW.trod_int Tryz.underlying3 g2
        simp [Tryz.cellsInt] at e0 e1 e2
        subst e0 e1 e2
        have c0 := hc 0 (by omega)
        have c1 := hc 1 (by omega)
        have c2 := hc 2 (by omega)
        rw [Deep.add_add] at c0 c1 c2
        exact ⟨(z0, z1, z2), by simpa using c0, by simpa using c1, by simpa using c2, f0, f1, f2⟩
    obtain ⟨q, hq⟩ := Deep.choose_lt each
    refine ⟨fun i => (q i).1, fun i => (q i).2.1, fun i => (q i).2.2, ⟨fun i hi => ⟨int_of_wf (hq i hi).2.2.2.2.1, int_of_wf (hq i hi).2.2.2.2.2⟩, ?_⟩, by omega⟩
    by_cases h0 : len = 0
    · exact .inl h0
    · obtain ⟨b, off, spot⟩ := x
      have h1 := (hq 0 (by omega)).1
      have hspot : spot = none := by simpa [Addr.add] using World.cell?_spot h1
      subst hspot
      refine .inr ⟨b, off, rfl, ?_, ?_⟩
      · rw [addr_add] at h1
        exact block_lt_of_cell h1
      · intro i hi
        obtain ⟨c0, c1, c2, _⟩ := hq i hi
        rw [addr_add] at c0 c1 c2
        exact ⟨c0, by rw [Nat.add_assoc]; exact c1, by rw [Nat.add_assoc]; exact c2⟩

end Go.Proofs.YtgmljgogmbaioaaGreatDoor
