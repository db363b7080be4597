/- What Shift and Join of layer 2 return. -/
import Derived.Test.YtfojmpcdgkolhaaSumJ
namespace Go.Proofs.Ytfojmpcdgkolhaa
open Go.RowKit
set_option linter.unusedVariables false

/-- Under way: s behind M n steps more is what is asked for, and the grid of M steps lies in block b. -/
def Goes (w wr : World) (b M : Nat) (n : Int) (s all : Nat) : Prop :=
  w.heap.size ≤ b ∧ wr.heap[b]? = some (.cells (cellsN (gridL M)) 42 (0, 0)) ∧ s < 4294967296 ∧ steps (M * n.toNat) s = all ∧ Below w.heap.size w wr

theorem tmod_two (q : Nat) : (q : Int).tmod 2 = ((q % 2 : Nat) : Int) := rfl

theorem grid_size (M : Nat) : (Try.prog.info? 42).map (·.size) = some (cellsN (gridL M)).size := by
  rw [cellsN_size, gridL_length]; exact size_grid

theorem grid_size2 (M : Nat) : (cellsN (List.replicate 32 0)).size = (cellsN (gridL M)).size := by
  rw [cellsN_size, cellsN_size, gridL_length]; rfl

set_option maxRecDepth 100000 in
set_option maxHeartbeats 2000000 in
theorem shift_any (x : Int) (m : Nat) (e : x = m) (h : m < 4294967296) (n : Int) (hn : n ≤ 9223372036854775807) (w : World) :
    Calls Try.prog 14 #[.int .u32 x, .int .i64 n] w fun e w' => e = .returned (.int .u32 (steps (8 * n.toNat) m : Nat)) ∧ Below w.heap.size w w' := by
  subst e
  go_enter Try.func14, Try.ntmps14
  go_wp2_with fail
  refine (ofEight_any w).mono ?_
  rintro e w1 ⟨rfl, hb1⟩
  go_wp2_with (refine wpList_store_row rfl 42 _ _ rfl w1.heap.size (cellsN (gridL 8)) rfl rfl 42 (cellsN (List.replicate 32 0)) (heap_alloc_new _ _) (grid_size 8) (grid_size2 8) (cellsN_one _) ?_)
  rw [World.setRow_alloc_new]
  simp only [Act.put]
  go_loopw [0, 1, 5] (fun sv nv pv wr => ∃ (b M : Nat) (n' : Int) (s' : Nat), n' ≤ 9223372036854775807 ∧ sv = .int .u32 s' ∧ nv = .int .i64 n' ∧ pv = .pointer (some ⟨b, 0, none⟩) ∧ Goes w wr b M n' s' (steps (8 * n.toNat) m)) (fun _ nv _ _ => (intOf nv).toNat)
  case atStart => exact ⟨w1.heap.size, 8, n, m, hn, rfl, rfl, rfl, hb1.size, heap_alloc_new _ _, h, rfl, hb1.alloc hb1.size _⟩
  case round =>
    obtain ⟨b, M, n', s', hn', rfl, rfl, rfl, hG⟩ := hrel
    obtain ⟨hwb, hrow, hs', hall, hbel⟩ := hG
    have ALL : Hid (steps (M * n'.toNat) s' = steps (8 * n.toNat) m) := hall
    clear hall
    by_cases hpos : 0 < n'
    · obtain ⟨q, rfl⟩ : ∃ q : Nat, n' = q := ⟨n'.toNat, by omega⟩
      rcases Nat.mod_two_eq_zero_or_one q with ho | ho
      · have ht : (q : Int).tmod 2 = 0 := by rw [tmod_two, ho]; rfl
        go_wp2_with (first
          | refine wpList_load_row rfl 42 _ rfl b rfl 42 (cellsN (gridL M)) (0, 0) _ hrow Try.underlying42 rfl (grid_size M) ?_
          | (refine wpList_store_row rfl 42 _ _ rfl (World.heap _).size (cellsN (gridL M)) rfl rfl 42 (cellsN (List.replicate 32 0)) (heap_alloc_new _ _) (grid_size M) (grid_size2 M) (cellsN_one _) ?_; rw [World.setRow_alloc_new])
          | refine wpList_load_row rfl 42 _ rfl _ rfl 42 (cellsN (gridL M)) (0, 0) _ (heap_alloc_new _ _) Try.underlying42 rfl (grid_size M) ?_)
        refine (squared_any M _).mono ?_
        rintro e w2 ⟨rfl, hb2⟩
        have hrow2 := (hb2.block _ (by simp)).trans (heap_alloc_new wr (.cells (cellsN (gridL M)) 42))
        have hbel2 := (hbel.alloc hbel.size (.cells (cellsN (gridL M)) 42)).trans (hb2.mono (Nat.le_trans hbel.size (by simp)))
        have hz : w.heap.size ≤ (World.heap wr).size := hbel.size
        go_wp2_with (refine wpList_store_row rfl 42 _ _ rfl (World.heap _).size (cellsN (gridL (M + M))) rfl rfl 42 (cellsN (gridL M)) hrow2 (grid_size (M + M)) (by rw [cellsN_size, cellsN_size, gridL_length, gridL_length]) (cellsN_one _) ?_)
        go_roundw
        case rel => exact ⟨_, M + M, ((q / 2 : Nat) : Int), s', by omega, rfl, by go_num, rfl, hz, setRow_same _ _ _ _ _ hrow2, hs', by rw [← ALL.out, Int.toNat_natCast, Int.toNat_natCast]; exact (shift_even M q s' ho).symm, below_setRow hbel2 hz _⟩
        case measure => simp [intOf]; omega
      · have ht : (q : Int).tmod 2 = 1 := by rw [tmod_two, ho]; rfl
        go_wp2_with (refine wpList_load_row rfl 42 _ rfl b rfl 42 (cellsN (gridL M)) (0, 0) _ hrow Try.underlying42 rfl (grid_size M) ?_)
        refine (of_any (gridL M) (gridL_length M) (gridL_lt M) _ s' rfl hs' _).mono ?_
        rintro e w3 ⟨rfl, rfl⟩
        rw [lay_grid M s' hs']
        have hrow3 : (World.alloc _ (.cells (cellsN (gridL M)) 42)).heap[b]? = some (.cells (cellsN (gridL M)) 42 (0, 0)) := (Below.heap_alloc _ (.cells (cellsN (gridL M)) 42) _ (row_lt _ _ _ hrow)).trans hrow
        have hbel3 := hbel.alloc hbel.size (.cells (cellsN (gridL M)) 42)
        generalize World.alloc _ (.cells (cellsN (gridL M)) 42) = w4 at *
        go_wp2_with (first
          | refine wpList_load_row rfl 42 _ rfl b rfl 42 (cellsN (gridL M)) (0, 0) _ hrow3 Try.underlying42 rfl (grid_size M) ?_
          | (refine wpList_store_row rfl 42 _ _ rfl (World.heap _).size (cellsN (gridL M)) rfl rfl 42 (cellsN (List.replicate 32 0)) (heap_alloc_new _ _) (grid_size M) (grid_size2 M) (cellsN_one _) ?_; rw [World.setRow_alloc_new])
          | refine wpList_load_row rfl 42 _ rfl _ rfl 42 (cellsN (gridL M)) (0, 0) _ (heap_alloc_new _ _) Try.underlying42 rfl (grid_size M) ?_)
        refine (squared_any M _).mono ?_
        rintro e w2 ⟨rfl, hb2⟩
        have hrow2 := (hb2.block _ (by simp)).trans (heap_alloc_new w4 (.cells (cellsN (gridL M)) 42))
        have hbel2 := (hbel3.alloc hbel3.size (.cells (cellsN (gridL M)) 42)).trans (hb2.mono (Nat.le_trans hbel3.size (by simp)))
        have hz : w.heap.size ≤ (World.heap w4).size := hbel3.size
        go_wp2_with (refine wpList_store_row rfl 42 _ _ rfl (World.heap _).size (cellsN (gridL (M + M))) rfl rfl 42 (cellsN (gridL M)) hrow2 (grid_size (M + M)) (by rw [cellsN_size, cellsN_size, gridL_length, gridL_length]) (cellsN_one _) ?_)
        go_roundw
        case rel => exact ⟨_, M + M, ((q / 2 : Nat) : Int), steps M s', by omega, rfl, by go_num, rfl, hz, setRow_same _ _ _ _ _ hrow2, steps_lt _ _ hs', by rw [← ALL.out, Int.toNat_natCast, Int.toNat_natCast]; exact (shift_odd M q s' ho).symm, below_setRow hbel2 hz _⟩
        case measure => simp [intOf]; omega
    · go_wp2
      go_ret
      have := ALL.out
      rw [show n'.toNat = 0 from by omega, Nat.mul_zero] at this
      exact ⟨ret_int (by rw [← this]; rfl), hbel⟩

theorem join_any (x y : Int) (a b : Nat) (ea : x = a) (eb : y = b) (ha : a < 4294967296) (hb : b < 4294967296) (n : Int) (hn : n ≤ 9223372036854775807) (w : World) :
    Calls Try.prog 16 #[.int .u32 x, .int .u32 y, .int .i64 n] w fun e w' => e = .returned (.int .u32 ((steps (8 * n.toNat) a ^^^ b : Nat) : Int)) ∧ Below w.heap.size w w' := by
  subst ea eb
  have X : Hid (bits BinOp.xor IntKind.u32 ((steps (8 * n.toNat) a : Nat) : Int) (b : Int) = ((steps (8 * n.toNat) a ^^^ b : Nat) : Int)) := u32_xor_nat _ _ (steps_lt _ _ ha) hb
  go_enter Try.func16, Try.ntmps16
  go_wp2_with fail
  refine (shift_any _ a rfl ha n hn w).mono ?_
  rintro e w1 ⟨rfl, hb1⟩
  go_wp2
  go_ret
  exact ⟨ret_int X.out, hb1⟩
end Go.Proofs.Ytfojmpcdgkolhaa
