/- The document's Of; what the law HandleOf goes through. -/
import Derived.Test.YtjdgildeilcfiaaHdI
namespace Go.Proofs.Ytjdgildeilcfiaa
open Go.RowKit
set_option linter.unusedVariables false

theorem rof_any (i g : Int) (w : World) (hi : -9223372036854775808 ≤ i ∧ i ≤ 9223372036854775807) (hg : -9223372036854775808 ≤ g ∧ g ≤ 9223372036854775807) :
    Calls Try.prog 19 #[.int .i64 i, .int .i64 g] w fun e w' => e = .returned (.int .u64 (ofN i g : Nat)) ∧ w = w' := by
  by_cases h1 : i < 1
  · rw [of_out (by omega)]
    go_enter Try.func19, Try.ntmps19
    go_wp2
    go_ret
    exact ⟨rfl, rfl⟩
  · by_cases h2 : 4096 < i
    · rw [of_out (by omega)]
      go_enter Try.func19, Try.ntmps19
      go_wp2
      go_ret
      exact ⟨rfl, rfl⟩
    · by_cases h3 : g < 1
      · rw [of_out (by omega)]
        go_enter Try.func19, Try.ntmps19
        go_wp2
        go_ret
        exact ⟨rfl, rfl⟩
      · by_cases h4 : 65535 < g
        · rw [of_out (by omega)]
          go_enter Try.func19, Try.ntmps19
          go_wp2
          go_ret
          exact ⟨rfl, rfl⟩
        · rw [of_in (by omega)]
          have e : ((i + 65536 * g).toNat : Int) = i + 65536 * g := by omega
          rw [e]
          go_enter Try.func19, Try.ntmps19
          go_wp2
          go_ret
          exact ⟨rfl, rfl⟩
/-- No others have a handle. -/
theorem of_one {i g j k : Int} (h1 : ofN i g ≠ 0) (h2 : ofN j k ≠ 0) : ofN i g = ofN j k ↔ i = j ∧ g = k := by
  by_cases q1 : 1 ≤ i ∧ i ≤ 4096 ∧ 1 ≤ g ∧ g ≤ 65535
  · by_cases q2 : 1 ≤ j ∧ j ≤ 4096 ∧ 1 ≤ k ∧ k ≤ 65535
    · rw [of_in q1, of_in q2]; omega
    · exact absurd (of_out q2) h2
  · exact absurd (of_out q1) h1

theorem of_q (i g : Int) (N : Nat) (w : World) (hi : -9223372036854775808 ≤ i ∧ i ≤ 9223372036854775807) (hg : -9223372036854775808 ≤ g ∧ g ≤ 9223372036854775807) (hN : ofN i g = N) :
    Calls Try.prog 18 #[.int .i64 i, .int .i64 g] w fun e w' => e = .returned (.int .u64 (N : Nat)) ∧ w' = w := by
  subst hN
  exact (of_any i g w hi hg).mono (fun e w' h => ⟨h.1, h.2.symm⟩)
theorem rof_q (i g : Int) (N : Nat) (w : World) (hi : -9223372036854775808 ≤ i ∧ i ≤ 9223372036854775807) (hg : -9223372036854775808 ≤ g ∧ g ≤ 9223372036854775807) (hN : ofN i g = N) :
    Calls Try.prog 19 #[.int .i64 i, .int .i64 g] w fun e w' => e = .returned (.int .u64 (N : Nat)) ∧ w' = w := by
  subst hN
  exact (rof_any i g w hi hg).mono (fun e w' h => ⟨h.1, h.2.symm⟩)
theorem Try.cellsInt : Try.prog.cellsOf 3 = 1 := by kernel_rfl
theorem eq2 (w : World) (x y u v : Int) (T : Bool) (hT : T = (decide (x = u) && decide (y = v))) : (Op.equalIn 10000 48 (.agg #[.int .i64 x, .int .i64 y]) (.agg #[.int .i64 u, .int .i64 v])).run Try.prog w = .ok T w := by
  obtain ⟨i0, hi0⟩ : ∃ i, Try.prog.info? 3 = some i := ⟨_, rfl⟩
  have h := run_equalIn_array (P := Try.prog) w 9999 #[.int .i64 x, .int .i64 y] #[.int .i64 u, .int .i64 v] Try.underlying48 hi0
  rw [Try.cellsInt] at h
  rw [h, hT]
  by_cases h1 : x = u <;> by_cases h2 : y = v <;> simp [List.range, List.range.loop, Op.eqItems, go_sem, Try.underlying3, h1, h2]

set_option maxHeartbeats 2000000 in
theorem handleOf_any (x y u v : Int) (w : World) (hx : -9223372036854775808 ≤ x ∧ x ≤ 9223372036854775807) (hy : -9223372036854775808 ≤ y ∧ y ≤ 9223372036854775807) (hu : -9223372036854775808 ≤ u ∧ u ≤ 9223372036854775807) (hv : -9223372036854775808 ≤ v ∧ v ≤ 9223372036854775807) :
    Calls Try.prog 5 #[.agg #[.int .i64 x, .int .i64 y], .agg #[.int .i64 u, .int .i64 v]] w fun e w' => e = .returned (.bool true) ∧ Below w.heap.size w w' := by
  obtain ⟨wz, hwz⟩ : ∃ wz, (w.alloc (.cells #[.int .i64 x, .int .i64 y] 48)).alloc (.cells #[.int .i64 u, .int .i64 v] 48) = wz := ⟨_, rfl⟩
  have BZ : Hid (Below w.heap.size w wz) := by show Below _ _ _; rw [← hwz]; exact ((Below.refl _ w).alloc (Nat.le_refl _) _).alloc (by simp) _
  have Q1 : wz.heap[w.heap.size + 1]? = some (.cells #[.int .i64 u, .int .i64 v] 48 (0, 0)) := by
    rw [← hwz]
    have := Go.heap_alloc_new (w.alloc (.cells #[.int .i64 x, .int .i64 y] 48)) (.cells #[.int .i64 u, .int .i64 v] 48)
    rw [World.size_alloc] at this
    exact this
  have Q0 : wz.heap[w.heap.size]? = some (.cells #[.int .i64 x, .int .i64 y] 48 (0, 0)) := by
    rw [← hwz, Below.heap_alloc _ _ _ (by simp)]; exact Go.heap_alloc_new w _
  have CC : Hid (∀ w1, Below wz.heap.size wz w1 → w1.cell? ⟨w.heap.size, 0, none⟩ = some (.int .i64 x) ∧ w1.cell? ⟨w.heap.size, 1, none⟩ = some (.int .i64 y) ∧ w1.cell? ⟨w.heap.size + 1, 0, none⟩ = some (.int .i64 u) ∧ w1.cell? ⟨w.heap.size + 1, 1, none⟩ = some (.int .i64 v)) := fun w1 hb => by
    have h0 := hlt Q0
    have h1 := hlt Q1
    exact ⟨(hb.cell (p := ⟨w.heap.size, 0, none⟩) h0).trans (cell_of_row wz _ 0 _ _ _ Q0), (hb.cell (p := ⟨w.heap.size, 1, none⟩) h0).trans (cell_of_row wz _ 1 _ _ _ Q0), (hb.cell (p := ⟨w.heap.size + 1, 0, none⟩) h1).trans (cell_of_row wz _ 0 _ _ _ Q1), (hb.cell (p := ⟨w.heap.size + 1, 1, none⟩) h1).trans (cell_of_row wz _ 1 _ _ _ Q1)⟩
  clear Q0 Q1
  obtain ⟨N, hN⟩ : ∃ N, ofN x y = N := ⟨_, rfl⟩
  obtain ⟨M, hM⟩ : ∃ M, ofN u v = M := ⟨_, rfl⟩
  have EN : Hid (ofN x y = N) := hN
  have EM : Hid (ofN u v = M) := hM
  have ONE : Hid (N ≠ 0 → M ≠ 0 → (N = M ↔ x = u ∧ y = v)) := fun h1 h2 => by rw [← hN, ← hM]; exact of_one (by rw [hN]; exact h1) (by rw [hM]; exact h2)
  have hNl : N < 4294967296 := by rw [← hN]; exact of_lt _ _
  have hMl : M < 4294967296 := by rw [← hM]; exact of_lt _ _
  clear hN hM
  go_enter Try.func5, Try.ntmps5
  go_wp2_with fail
  refine (alive_any _).mono ?_
  rintro e w1 ⟨rfl, b1⟩
  obtain ⟨c0, c1, d0, d1⟩ := CC.out w1 b1
  have B1 : Hid (Below w.heap.size w w1) := BZ.out.trans (b1.mono BZ.out.size)
  clear b1 hwz
  go_wp2_with fail
  go_quiet (first | (go_at_call_of 18 (Value.int .i64 x); exact Calls.quiet_of_same (of_q x y N _ hx hy EN.out)) | (go_at_call_of 18 (Value.int .i64 u); exact Calls.quiet_of_same (of_q u v M _ hu hv EM.out)))
  obtain ⟨wq, hwq⟩ : ∃ wq, w1.drewN nq = wq := ⟨_, rfl⟩
  have BQ : Hid (Below w.heap.size w wq) := by show Below _ _ _; rw [← hwq]; exact ⟨B1.out.os, B1.out.tape, B1.out.output, B1.out.size, B1.out.block⟩
  have c0' : wq.cell? ⟨w.heap.size, 0, none⟩ = some (.int .i64 x) := by rw [← hwq]; exact c0
  have c1' : wq.cell? ⟨w.heap.size, 1, none⟩ = some (.int .i64 y) := by rw [← hwq]; exact c1
  have d0' : wq.cell? ⟨w.heap.size + 1, 0, none⟩ = some (.int .i64 u) := by rw [← hwq]; exact d0
  have d1' : wq.cell? ⟨w.heap.size + 1, 1, none⟩ = some (.int .i64 v) := by rw [← hwq]; exact d1
  rw [hwq]
  clear hwq c0 c1 d0 d1
  by_cases hN0 : N = 0
  · have hz : (N : Int) = 0 := by omega
    go_wp2_with (first | (go_at_call_of 19 (Value.int .i64 x); refine (rof_q x y N _ hx hy EN.out).mono ?_; rintro e w2 ⟨rfl, rfl⟩) | (go_at_call_of 19 (Value.int .i64 u); refine (rof_q u v M _ hu hv EM.out).mono ?_; rintro e w2 ⟨rfl, rfl⟩))
    go_ret
    exact ⟨rfl, BQ.out⟩
  · have hz : ¬ ((N : Int) = 0) := by omega
    by_cases hM0 : M = 0
    · have hz' : (M : Int) = 0 := by omega
      go_wp2_with (first | (go_at_call_of 19 (Value.int .i64 x); refine (rof_q x y N _ hx hy EN.out).mono ?_; rintro e w2 ⟨rfl, rfl⟩) | (go_at_call_of 19 (Value.int .i64 u); refine (rof_q u v M _ hu hv EM.out).mono ?_; rintro e w2 ⟨rfl, rfl⟩))
      go_ret
      exact ⟨rfl, BQ.out⟩
    · have hz' : ¬ ((M : Int) = 0) := by omega
      have hone := ONE.out hN0 hM0
      by_cases e1 : x = u
      · by_cases e2 : y = v
        · have e3 : N = M := hone.2 ⟨e1, e2⟩
          subst e1 e2 e3
          have qe : ∀ w : World, (Op.equalIn 10000 48 (.agg #[.int .i64 x, .int .i64 y]) (.agg #[.int .i64 x, .int .i64 y])).run Try.prog w = .ok true w := fun w => eq2 w x y x y true (by simp)
          clear hone hN0 hM0
          go_wp2_with (go_at_call_of 19 (Value.int .i64 x); refine (rof_q x y N _ hx hy EN.out).mono ?_; rintro e w2 ⟨rfl, rfl⟩)
          go_ret
          exact ⟨ret_bool (by simp), BQ.out⟩
        · have e3 : ¬ ((N : Int) = (M : Int)) := fun e => e2 (hone.1 (by omega)).2
          subst e1
          have qe : ∀ w : World, (Op.equalIn 10000 48 (.agg #[.int .i64 x, .int .i64 y]) (.agg #[.int .i64 x, .int .i64 v])).run Try.prog w = .ok false w := fun w => eq2 w x y x v false (by simp [e2])
          clear hone hN0 hM0
          go_wp2_with (first | (go_at_call_of 19 (Value.int .i64 y); refine (rof_q x y N _ hx hy EN.out).mono ?_; rintro e w2 ⟨rfl, rfl⟩) | (go_at_call_of 19 (Value.int .i64 v); refine (rof_q x v M _ hu hv EM.out).mono ?_; rintro e w2 ⟨rfl, rfl⟩))
          go_ret
          exact ⟨ret_bool (by simp; exact .inr e3), BQ.out⟩
      · have e3 : ¬ ((N : Int) = (M : Int)) := fun e => e1 (hone.1 (by omega)).1
        have qe : ∀ w : World, (Op.equalIn 10000 48 (.agg #[.int .i64 x, .int .i64 y]) (.agg #[.int .i64 u, .int .i64 v])).run Try.prog w = .ok false w := fun w => eq2 w x y u v false (by simp [e1])
        clear hone hN0 hM0
        go_wp2_with (first | (go_at_call_of 19 (Value.int .i64 x); refine (rof_q x y N _ hx hy EN.out).mono ?_; rintro e w2 ⟨rfl, rfl⟩) | (go_at_call_of 19 (Value.int .i64 u); refine (rof_q u v M _ hu hv EM.out).mono ?_; rintro e w2 ⟨rfl, rfl⟩))
        go_ret
        exact ⟨ret_bool (by simp; exact .inr e3), BQ.out⟩
end Go.Proofs.Ytjdgildeilcfiaa
