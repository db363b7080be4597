/- The grids of layer 2: what lay, ofEight and squared return. -/
import Derived.Test.YtfojmpcdgkolhaaSumG
namespace Go.Proofs.Ytfojmpcdgkolhaa
open Go.RowKit
set_option linter.unusedVariables false

set_option maxRecDepth 100000 in
theorem lay_any (g : List Nat) (hg : g.length = 32) (hb : ∀ x ∈ g, x < 4294967296) (x : Int) (m : Nat) (e : x = m) (h : m < 4294967296) (w : World) :
    Calls Try.prog 23 #[.agg (cellsN g), .int .u32 x] w fun e w' => e = .returned (.int .u32 (layL g m : Nat)) ∧ w' = w.alloc (.cells (cellsN g) 41) := by
  subst e
  have hs : (cellsN g).size = 32 := by rw [cellsN_size, hg]
  go_enter Try.func23, Try.ntmps23
  go_wp2
  go_loop [1, 5, 6] (fun x n i => ∃ k : Nat, k ≤ 32 ∧ i = .int .i64 k ∧ ∃ z : Nat, x = .int .u32 z ∧ z = m / 2 ^ k ∧ z < 4294967296 ∧ ∃ y : Nat, y < 4294967296 ∧ n = .int .u32 y ∧ y ^^^ layL (g.drop k) (m / 2 ^ k) = layL g m) (fun _ _ i => 32 - (intOf i).toNat)
  case atStart => exact ⟨0, Nat.zero_le _, rfl, m, rfl, by simp, h, 0, by decide, rfl, by simp⟩
  case round =>
    obtain ⟨k, hk, rfl, z, rfl, hz, hz2, y, hy, rfl, hrel⟩ := hrel
    have R : Hid (y ^^^ layL (g.drop k) (m / 2 ^ k) = layL g m) := hrel
    have Z : Hid (z = m / 2 ^ k) := hz
    have Z2 : Hid (z / 2 = m / 2 ^ (k + 1)) := by show z / 2 = _; rw [hz, Nat.pow_succ, Nat.div_div_eq_div_mul]
    clear hrel hz
    by_cases h32 : k < 32
    · have hkl : k < g.length := by omega
      have hcell : (w.alloc (.cells (cellsN g) 41)).cell? ⟨w.heap.size, k, none⟩ = some (.int .u32 ((g[k] : Nat) : Int)) := by
        rw [cell_of_row _ _ k _ _ _ (heap_alloc_new _ _)]
        exact cellsN_at g k hkl
      have hgk : g[k] < 4294967296 := hb _ (List.getElem_mem hkl)
      have S : Hid (layL (g.drop k) (m / 2 ^ k) = (if m / 2 ^ k % 2 = 1 then g[k] else 0) ^^^ layL (g.drop (k + 1)) (m / 2 ^ (k + 1))) := layL_step g k m hkl
      rcases Nat.mod_two_eq_zero_or_one z with ho | ho
      · go_wp2
        go_round
        case rel =>
          refine ⟨k + 1, by omega, by go_num, z / 2, by go_num, Z2.out, by omega, y, hy, rfl, ?_⟩
          rw [← R.out, S.out, ← Z.out, if_neg (by rw [ho]; decide), Nat.zero_xor]
        case measure => simp [intOf]; omega
      · go_wp2
        go_round
        case rel =>
          refine ⟨k + 1, by omega, by go_num, z / 2, by go_num, Z2.out, by omega, y ^^^ g[k], xor_lt hy hgk, by rw [u32_xor_nat y g[k] hy hgk], ?_⟩
          rw [← R.out, S.out, ← Z.out, if_pos ho, Nat.xor_assoc]
        case measure => simp [intOf]; omega
    · obtain rfl : k = 32 := by omega
      go_wp2
      go_ret
      refine ⟨ret_int ?_, rfl⟩
      have := R.out
      rw [List.drop_of_length_le (by omega)] at this
      simp only [layL, Nat.xor_zero] at this
      rw [this]
end Go.Proofs.Ytfojmpcdgkolhaa
