/- The grids of layer 2: what ofEight and squared return. -/
import Derived.Test.YtfojmpcdgkolhaaSumH
namespace Go.Proofs.Ytfojmpcdgkolhaa
open Go.RowKit
set_option linter.unusedVariables false

/-- A grid of which the first k numbers are laid. -/
def partL (f : Nat → Nat) (k : Nat) : List Nat := (List.range' 0 32).map fun i => if i < k then f i else 0

theorem partL_length (f : Nat → Nat) (k : Nat) : (partL f k).length = 32 := by simp [partL]

theorem partL_set (f : Nat → Nat) (k : Nat) (hk : k < 32) : (cellsN (partL f k)).setIfInBounds k (.int .u32 ((f k : Nat) : Int)) = cellsN (partL f (k + 1)) := by
  apply Array.ext
  · simp [cellsN_size, partL_length]
  · intro i h1 h2
    have hi : i < 32 := by simpa [cellsN_size, partL_length] using h2
    rw [Array.getElem_setIfInBounds]
    · simp only [cellsN, partL, List.getElem_toArray, List.getElem_map, List.getElem_range']
      by_cases e : k = i
      · subst e; simp
      · simp only [e, if_false]
        have : (0 + 1 * i < k) ↔ (0 + 1 * i < k + 1) := by omega
        simp only [this]
    · rw [cellsN_size, partL_length]; exact hi

theorem partL_all (m : Nat) : partL (fun i => steps m (2 ^ i)) 32 = gridL m := by
  apply List.ext_getElem
  · simp [partL, gridL]
  · intro i h1 h2
    have hi : i < 32 := by simpa [partL] using h1
    simp [partL, gridL, hi]

theorem row_setCell (w : World) (b k : Nat) (c : Array Value) (t : TypeId) (v : Value) (h : w.heap[b]? = some (.cells c t (0, 0))) :
    (w.setCell ⟨b, k, none⟩ v).heap[b]? = some (.cells (c.setIfInBounds k v) t (0, 0)) := by
  simp [World.setCell, Array.getElem?_modify, h]

theorem row_frozen (w : World) (b k : Nat) (c : Array Value) (t : TypeId) (h : w.heap[b]? = some (.cells c t (0, 0))) : w.frozen? ⟨b, k, none⟩ = false := by
  simp [World.frozen?, h]

theorem row_lt (w : World) (b : Nat) (o : Obj) (h : w.heap[b]? = some o) : b < w.heap.size := (Array.getElem?_eq_some_iff.1 h).1

theorem setRow_same (w : World) (b : Nat) (old c : Array Value) (t : TypeId) (h : w.heap[b]? = some (.cells old t (0, 0))) : (w.setRow b c).heap[b]? = some (.cells c t (0, 0)) := by
  simp [World.setRow, Array.getElem?_modify, h]

theorem setRow_other (w : World) (b k : Nat) (c : Array Value) (h : k ≠ b) : (w.setRow b c).heap[k]? = w.heap[k]? := by
  simp [World.setRow, Array.getElem?_modify, Ne.symm h]

theorem below_setRow {B : Nat} {a w : World} (h : Below B a w) {b : Nat} (hb : B ≤ b) (c : Array Value) : Below B a (w.setRow b c) :=
  h.trans ⟨rfl, rfl, rfl, by simp [World.setRow], fun k hk => setRow_other _ _ _ _ (by omega)⟩

theorem shl_bit (k : Nat) (h : k < 32) : (2 : Int) ^ k % 4294967296 = ((2 ^ k : Nat) : Int) := by
  have : 2 ^ k < 2 ^ 32 := Nat.pow_lt_pow_right (by decide) h
  have e : ((2 : Int) ^ k) = ((2 ^ k : Nat) : Int) := by push_cast; rfl
  rw [e]
  generalize 2 ^ k = q at *
  omega

/-- Two blocks of a call's own: one for the answer, one that is filled up to k. -/
def Fills (w wr : World) (b0 b1 : Nat) (f : Nat → Nat) (k : Nat) : Prop :=
  b0 ≠ b1 ∧ w.heap.size ≤ b0 ∧ w.heap.size ≤ b1 ∧ (∃ c0, wr.heap[b0]? = some (.cells c0 42 (0, 0)) ∧ c0.size = 32) ∧ wr.heap[b1]? = some (.cells (cellsN (partL f k)) 42 (0, 0)) ∧ Below w.heap.size w wr

theorem Fills.next {w wr : World} {b0 b1 : Nat} {f : Nat → Nat} {k : Nat} (h : Fills w wr b0 b1 f k) (hk : k < 32) :
    Fills w (wr.setCell ⟨b1, k, none⟩ (.int .u32 ((f k : Nat) : Int))) b0 b1 f (k + 1) := by
  obtain ⟨hne, h0, h1, ⟨c0, hc0, hs0⟩, hc1, hb⟩ := h
  refine ⟨hne, h0, h1, ⟨c0, ?_, hs0⟩, ?_, hb.setCell h1 _⟩
  · rw [Below.heap_setCell _ _ _ _ hne]; exact hc0
  · rw [row_setCell _ _ _ _ _ _ hc1, partL_set f k hk]

theorem Fills.alloc {w wr : World} {b0 b1 : Nat} {f : Nat → Nat} {k : Nat} (h : Fills w wr b0 b1 f k) (o : Obj) : Fills w (wr.alloc o) b0 b1 f k := by
  obtain ⟨hne, h0, h1, ⟨c0, hc0, hs0⟩, hc1, hb⟩ := h
  refine ⟨hne, h0, h1, ⟨c0, ?_, hs0⟩, ?_, hb.alloc hb.size _⟩
  · rw [Below.heap_alloc _ _ _ (row_lt _ _ _ hc0)]; exact hc0
  · rw [Below.heap_alloc _ _ _ (row_lt _ _ _ hc1)]; exact hc1

theorem Fills.cell {w wr : World} {b0 b1 : Nat} {f : Nat → Nat} {k : Nat} (h : Fills w wr b0 b1 f k) (hk : k < 32) :
    (∃ v, wr.cell? ⟨b1, k, none⟩ = some v) ∧ wr.frozen? ⟨b1, k, none⟩ = false := by
  obtain ⟨hne, h0, h1, ⟨c0, hc0, hs0⟩, hc1, hb⟩ := h
  have hl : k < (partL f k).length := by rw [partL_length]; exact hk
  refine ⟨⟨.int .u32 (((partL f k)[k]'hl : Nat) : Int), ?_⟩, row_frozen _ _ _ _ _ hc1⟩
  rw [cell_of_row _ _ k _ _ _ hc1]
  exact cellsN_at _ k hl

theorem zeroes : (#[Value.int .u32 0, .int .u32 0, .int .u32 0, .int .u32 0, .int .u32 0, .int .u32 0, .int .u32 0, .int .u32 0, .int .u32 0, .int .u32 0, .int .u32 0, .int .u32 0, .int .u32 0, .int .u32 0, .int .u32 0, .int .u32 0, .int .u32 0, .int .u32 0, .int .u32 0, .int .u32 0, .int .u32 0, .int .u32 0, .int .u32 0, .int .u32 0, .int .u32 0, .int .u32 0, .int .u32 0, .int .u32 0, .int .u32 0, .int .u32 0, .int .u32 0, .int .u32 0] : Array Value) = cellsN (List.replicate 32 0) := rfl

theorem partL_none (f : Nat → Nat) : partL f 0 = List.replicate 32 0 := by
  apply List.ext_getElem
  · simp [partL]
  · intro i h1 h2
    simp only [partL, List.getElem_map, List.getElem_replicate]
    simp

set_option maxRecDepth 100000 in
set_option maxHeartbeats 2000000 in
theorem ofEight_any (w : World) :
    Calls Try.prog 20 #[] w fun e w' => e = .returned (.agg (cellsN (gridL 8))) ∧ Below w.heap.size w w' := by
  go_enter Try.func20, Try.ntmps20
  go_wp2
  rw [zeroes]
  go_loopw [3] (fun i wr => ∃ k : Nat, k ≤ 32 ∧ i = .int .i64 k ∧ Fills w wr w.heap.size (w.heap.size + 1) (fun i => steps 8 (2 ^ i)) k) (fun i _ => 32 - (intOf i).toNat)
  case atStart =>
    refine ⟨0, Nat.zero_le _, rfl, by omega, Nat.le_refl _, by omega, ⟨cellsN (List.replicate 32 0), ?_, rfl⟩, ?_, ((Below.refl _ w).alloc (Nat.le_refl _) _).alloc (by simp) _⟩
    · rw [Below.heap_alloc _ _ _ (by simp)]; exact heap_alloc_new _ _
    · rw [partL_none]; exact heap_alloc2_new _ _ _
  case round =>
    obtain ⟨k, hk, rfl, hF⟩ := hrel
    have F : Hid (Fills w _ w.heap.size (w.heap.size + 1) (fun i => steps 8 (2 ^ i)) k) := hF
    by_cases h32 : k < 32
    · obtain ⟨⟨v, hcell⟩, hfr⟩ := hF.cell h32
      clear hF
      have hp : 2 ^ k < 4294967296 := by
        have : 2 ^ k < 2 ^ 32 := Nat.pow_lt_pow_right (by decide) h32
        exact this
      go_wp2_with fail
      refine (eight_any _ (2 ^ k) ?_ hp _).mono ?_
      · exact shl_bit k h32
      · rintro e w1 ⟨rfl, rfl⟩
        go_wp2
        go_roundw
        case rel => exact ⟨k + 1, by omega, by go_num, F.out.next h32⟩
        case measure => simp [intOf]; omega
    · obtain rfl : k = 32 := by omega
      obtain ⟨hne, h0, h1, ⟨c0, hc0, hs0⟩, hc1, hb⟩ := hF
      rw [partL_all] at hc1
      have hsz : (cellsN (gridL 8)).size = 32 := by rw [cellsN_size, gridL_length]
      go_wp2_with (first
        | refine wpList_load_row rfl 42 _ rfl (w.heap.size + 1) rfl 42 (cellsN (gridL 8)) (0, 0) _ hc1 Try.underlying42 rfl (by rw [hsz]; exact size_grid) ?_
        | refine wpList_store_row rfl 42 _ _ rfl w.heap.size (cellsN (gridL 8)) rfl rfl 42 c0 hc0 (by rw [hsz]; exact size_grid) (by rw [hsz, hs0]) (cellsN_one _) ?_)
      (try simp only [Exit.inBlock, Exit.then])
      refine bodyPost_ret (v := .agg (cellsN (gridL 8))) ?_ rfl ⟨rfl, below_setRow hb h0 _⟩
      exact results_cell_row rfl _ _ w.heap.size 42 (cellsN (gridL 8)) (0, 0) _ rfl (setRow_same _ _ _ _ _ hc0) Try.underlying42 rfl (by rw [hsz]; exact size_grid)
end Go.Proofs.Ytfojmpcdgkolhaa
