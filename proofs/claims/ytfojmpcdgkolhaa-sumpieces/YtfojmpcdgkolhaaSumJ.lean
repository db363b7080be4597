/- The grids of layer 2: what squared returns. -/
import Derived.Test.YtfojmpcdgkolhaaSumI
namespace Go.Proofs.Ytfojmpcdgkolhaa
open Go.RowKit
set_option linter.unusedVariables false

theorem heap_alloc3 (w : World) (A B C : Obj) : (((w.alloc A).alloc B).alloc C).heap[w.heap.size]? = some A ∧ (((w.alloc A).alloc B).alloc C).heap[w.heap.size + 1]? = some B ∧ (((w.alloc A).alloc B).alloc C).heap[w.heap.size + 1 + 1]? = some C := by
  refine ⟨?_, ?_, ?_⟩
  · rw [Below.heap_alloc _ _ _ (by simp; omega), Below.heap_alloc _ _ _ (by simp)]; exact heap_alloc_new _ _
  · rw [Below.heap_alloc _ _ _ (by simp)]; exact heap_alloc2_new _ _ _
  · have := heap_alloc_new ((w.alloc A).alloc B) C
    simpa using this

set_option maxRecDepth 100000 in
set_option maxHeartbeats 2000000 in
theorem squared_any (m : Nat) (w : World) :
    Calls Try.prog 21 #[.agg (cellsN (gridL m))] w fun e w' => e = .returned (.agg (cellsN (gridL (m + m)))) ∧ Below w.heap.size w w' := by
  have hs : (cellsN (gridL m)).size = 32 := by rw [cellsN_size, gridL_length]
  have hss : (cellsN (gridL (m + m))).size = 32 := by rw [cellsN_size, gridL_length]
  go_enter Try.func21, Try.ntmps21
  go_wp2_with (refine wpList_load_row rfl 42 _ rfl w.heap.size rfl 42 (cellsN (gridL m)) (0, 0) _ (heap_alloc3 _ _ _ _).1 Try.underlying42 rfl (by rw [hs]; exact size_grid) ?_)
  rw [zeroes]
  go_loopw [7] (fun i wr => ∃ k : Nat, k ≤ 32 ∧ i = .int .i64 k ∧ wr.heap[w.heap.size]? = some (.cells (cellsN (gridL m)) 42 (0, 0)) ∧ Fills w wr (w.heap.size + 1) (w.heap.size + 1 + 1) (fun i => steps (m + m) (2 ^ i)) k) (fun i _ => 32 - (intOf i).toNat)
  case atStart =>
    have h3 := heap_alloc3 w (.cells (cellsN (gridL m)) 42) (.cells (cellsN (List.replicate 32 0)) 42) (.cells (cellsN (List.replicate 32 0)) 42)
    refine ⟨0, Nat.zero_le _, rfl, h3.1, by omega, by omega, by omega, ⟨cellsN (List.replicate 32 0), h3.2.1, rfl⟩, ?_, (((Below.refl _ w).alloc (Nat.le_refl _) _).alloc (by simp) _).alloc (by simp; omega) _⟩
    rw [partL_none]; exact h3.2.2
  case round =>
    obtain ⟨k, hk, rfl, hG, hF⟩ := hrel
    have F : Hid (Fills w _ (w.heap.size + 1) (w.heap.size + 1 + 1) (fun i => steps (m + m) (2 ^ i)) k) := hF
    by_cases h32 : k < 32
    · clear hF
      have hkl : k < (gridL m).length := by rw [gridL_length]; exact h32
      have hidx := fun w => index_grid (gridL m) k hkl (gridL_length m) w
      have hgk : steps m (2 ^ k) < 4294967296 := bit_lt m k h32
      have hget : (gridL m)[k] = steps m (2 ^ k) := gridL_get m k hkl
      rw [hget] at hidx
      go_wp2_with (refine wpList_load_row rfl 42 _ rfl w.heap.size rfl 42 (cellsN (gridL m)) (0, 0) _ hG Try.underlying42 rfl (by rw [hs]; exact size_grid) ?_)
      refine (of_any (gridL m) (gridL_length m) (gridL_lt m) _ (steps m (2 ^ k)) rfl hgk _).mono ?_
      rintro e w1 ⟨rfl, rfl⟩
      rw [lay_grid m _ hgk, grid_twice m k h32]
      have F2 := F.out.alloc (.cells (cellsN (gridL m)) 42)
      have hG2 : (World.alloc _ (.cells (cellsN (gridL m)) 42)).heap[w.heap.size]? = some (.cells (cellsN (gridL m)) 42 (0, 0)) := (Below.heap_alloc _ (.cells (cellsN (gridL m)) 42) _ (row_lt _ _ _ hG)).trans hG
      obtain ⟨⟨v, hcell⟩, hfr⟩ := F2.cell h32
      have FF : Hid (Fills w _ (w.heap.size + 1) (w.heap.size + 1 + 1) (fun i => steps (m + m) (2 ^ i)) k) := F2
      have GG : Hid ((World.alloc _ (.cells (cellsN (gridL m)) 42)).heap[w.heap.size]? = some (.cells (cellsN (gridL m)) 42 (0, 0))) := hG2
      clear hG2 F2
      go_wp2
      go_roundw
      case rel => exact ⟨k + 1, by omega, by go_num, (Below.heap_setCell _ _ _ _ (by show w.heap.size ≠ w.heap.size + 1 + 1; omega)).trans GG.out, FF.out.next h32⟩
      case measure => simp [intOf]; omega
    · obtain rfl : k = 32 := by omega
      obtain ⟨hne, h0, h1, ⟨c0, hc0, hs0⟩, hc1, hb⟩ := hF
      rw [partL_all] at hc1
      go_wp2_with (first
        | refine wpList_load_row rfl 42 _ rfl (w.heap.size + 1 + 1) rfl 42 (cellsN (gridL (m + m))) (0, 0) _ hc1 Try.underlying42 rfl (by rw [hss]; exact size_grid) ?_
        | refine wpList_store_row rfl 42 _ _ rfl (w.heap.size + 1) (cellsN (gridL (m + m))) rfl rfl 42 c0 hc0 (by rw [hss]; exact size_grid) (by rw [hss, hs0]) (cellsN_one _) ?_)
      (try simp only [Exit.inBlock, Exit.then])
      refine bodyPost_ret (v := .agg (cellsN (gridL (m + m)))) ?_ rfl ⟨rfl, below_setRow hb h0 _⟩
      exact results_cell_row rfl _ _ (w.heap.size + 1) 42 (cellsN (gridL (m + m))) (0, 0) _ rfl (setRow_same _ _ _ _ _ hc0) Try.underlying42 rfl (by rw [hss]; exact size_grid)
end Go.Proofs.Ytfojmpcdgkolhaa
