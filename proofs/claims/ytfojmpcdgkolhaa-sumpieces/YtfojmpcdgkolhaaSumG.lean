/- The grids of layer 2: what of and lay return. -/
import Derived.Test.YtfojmpcdgkolhaaSumA
import Derived.Deep.WholeRow
namespace Go.Proofs.Ytfojmpcdgkolhaa
open Go.RowKit
set_option linter.unusedVariables false

/-- A list of numbers as the cells of an array. -/
def cellsN (g : List Nat) : Array Value := (g.map fun (x : Nat) => Value.int .u32 ((x : Nat) : Int)).toArray

theorem cellsN_size (g : List Nat) : (cellsN g).size = g.length := by simp [cellsN]

theorem cellsN_at (g : List Nat) (k : Nat) (h : k < g.length) : (cellsN g)[k]? = some (.int .u32 ((g[k] : Nat) : Int)) := by
  simp [cellsN, h]

theorem cellsN_one (g : List Nat) : (cellsN g).all (·.oneCell') = true := by
  rw [Array.all_eq_true_iff_forall_mem]
  intro v hv
  simp only [cellsN, List.mem_toArray, List.mem_map] at hv
  obtain ⟨x, _, rfl⟩ := hv
  rfl

theorem size_grid : (Try.prog.info? 42).map (·.size) = some 32 := by kernel_rfl
theorem size_arr : (Try.prog.info? 41).map (·.size) = some 32 := by kernel_rfl

theorem shr_bit (m k : Nat) : ((m : Int) / 2 ^ k).tmod 2 = ((m / 2 ^ k % 2 : Nat) : Int) := by
  have e : ((m : Int) / 2 ^ k) = ((m / 2 ^ k : Nat) : Int) := by push_cast; rfl
  rw [e]
  rfl

theorem u32_xor_get (y z : Nat) (hy : y < 4294967296) (hz : z < 4294967296) : bits BinOp.xor IntKind.u32 (y : Int) (z : Int) = ((y ^^^ z : Nat) : Int) := u32_xor_nat y z hy hz

theorem index_grid (g : List Nat) (k : Nat) (hk : k < g.length) (hg : g.length = 32) (w : World) :
    (Instr.index 42 (.agg (cellsN g)) (.int .i64 (k : Nat))).run Try.prog w = .ok (.int .u32 ((g[k] : Nat) : Int)) w := by
  have h1 : k < 32 := by omega
  have e := cellsN_at g k hk
  simp [Instr.index, asIntOf, Sem.run_bind, run_underlying Try.underlying42, h1, Try.sizeOf22, part, Try.isAgg22, e]

set_option maxRecDepth 100000 in
theorem of_any (g : List Nat) (hg : g.length = 32) (hb : ∀ x ∈ g, x < 4294967296) (x : Int) (m : Nat) (e : x = m) (h : m < 4294967296) (w : World) :
    Calls Try.prog 22 #[.agg (cellsN g), .int .u32 x] w fun e w' => e = .returned (.int .u32 (layL g m : Nat)) ∧ w' = w.alloc (.cells (cellsN g) 42) := by
  subst e
  have hs : (cellsN g).size = 32 := by rw [cellsN_size, hg]
  go_enter Try.func22, Try.ntmps22
  go_wp2_with (refine wpList_load_row rfl 42 _ rfl w.heap.size rfl 42 (cellsN g) (0, 0) _ (heap_alloc_new _ _) Try.underlying42 rfl (by rw [hs]; exact size_grid) ?_)
  go_loop [5, 9] (fun n i => ∃ k : Nat, k ≤ 32 ∧ i = .int .i64 k ∧ ∃ y : Nat, y < 4294967296 ∧ n = .int .u32 y ∧ y ^^^ layL (g.drop k) (m / 2 ^ k) = layL g m) (fun _ i => 32 - (intOf i).toNat)
  case atStart => exact ⟨0, Nat.zero_le _, rfl, 0, by decide, rfl, by simp⟩
  case round =>
    obtain ⟨k, hk, rfl, y, hy, rfl, hrel⟩ := hrel
    have R : Hid (y ^^^ layL (g.drop k) (m / 2 ^ k) = layL g m) := hrel
    clear hrel
    by_cases h32 : k < 32
    · have hkl : k < g.length := by omega
      have hidx := fun w => index_grid g k hkl hg w
      have hgk : g[k] < 4294967296 := hb _ (List.getElem_mem hkl)
      have S : Hid (layL (g.drop k) (m / 2 ^ k) = (if m / 2 ^ k % 2 = 1 then g[k] else 0) ^^^ layL (g.drop (k + 1)) (m / 2 ^ (k + 1))) := layL_step g k m hkl
      rcases Nat.mod_two_eq_zero_or_one (m / 2 ^ k) with ho | ho
      · have ht : ((m : Int) / 2 ^ k).tmod 2 = 0 := by rw [shr_bit, ho]; rfl
        have O : Hid (m / 2 ^ k % 2 = 0) := ho
        clear ho
        go_wp2
        go_round
        case rel =>
          refine ⟨k + 1, by omega, by go_num, y, hy, rfl, ?_⟩
          rw [← R.out, S.out, if_neg (by rw [O.out]; decide), Nat.zero_xor]
        case measure => simp [intOf]; omega
      · have ht : ((m : Int) / 2 ^ k).tmod 2 = 1 := by rw [shr_bit, ho]; rfl
        have O : Hid (m / 2 ^ k % 2 = 1) := ho
        clear ho
        go_wp2
        go_round
        case rel =>
          refine ⟨k + 1, by omega, by go_num, y ^^^ g[k], xor_lt hy hgk, by rw [u32_xor_nat y g[k] hy hgk], ?_⟩
          rw [← R.out, S.out, if_pos O.out, Nat.xor_assoc]
        case measure => simp [intOf]; omega
    · obtain rfl : k = 32 := by omega
      go_wp2
      go_ret
      refine ⟨ret_int ?_, rfl⟩
      have := R.out
      rw [List.drop_of_length_le (by omega)] at this
      simp only [layL, Nat.xor_zero] at this
      rw [this]
end Go.Proofs.Ytfojmpcdgkolhaa
