/- The document's New and Free; Same. -/
import Derived.Test.YtdpkmlkckhhcgaaRnS
namespace Go.Proofs.Ytdpkmlkckhhcgaa
open Go.RowKit
set_option linter.unusedVariables false

theorem Try.info4 : (Try.prog.info? 4).map (fun i => (i.zero, i.size, i.bytes)) = some (some (.bool false), 1, 1) := by kernel_rfl
theorem made_T (n : Nat) : madeCells #[.bool false] n = (cellsT (fun _ => false) n).toArray := by
  apply Array.toList_inj.1
  apply List.ext_getElem
  · simp [madeCells, cellsT]
  · intro i h1 h2
    simp [madeCells, cellsT, Nat.mod_one]
theorem make_T (w : World) (n : Nat) (hn : n ≤ 1000000) : (Instr.makeSlice 36 (.int .i64 (n : Nat)) (.int .i64 (n : Nat))).run Try.prog w = .ok (.slice (some ⟨w.heap.size, 0, none⟩) n n) (w.alloc (.cells (cellsT (fun _ => false) n).toArray 4)) := by
  obtain ⟨i0, hi0, hz0, hs0, hb0⟩ := info_parts Try.info4
  have h := run_make (P := Try.prog) w 36 4 i0 _ Try.underlying36 hi0 hz0 .i64 .i64 (n : Int) (n : Int) (by omega) (Int.le_refl _) (by rw [hb0]; omega) (by omega)
  rw [h, hs0]
  simp only [Int.toNat_natCast, Value.cells, Nat.mul_one, made_T]

theorem rnew_any (n : Nat) (w : World) (hn : n ≤ 65536) :
    Calls Try.prog 24 #[.int .i64 (n : Nat)] w fun e w' => e = .returned (.tuple #[.pointer (some ⟨w.heap.size + 1, 0, none⟩), .int .i64 0]) ∧ Ref w' (w.heap.size + 1) w.heap.size n (fun _ => false) ∧ Below w.heap.size w w' ∧ w'.heap.size = w.heap.size + 2 := by
  have MK : ∀ w : World, (Instr.makeSlice 36 (.int .i64 (n : Nat)) (.int .i64 (n : Nat))).run Try.prog w = .ok (.slice (some ⟨w.heap.size, 0, none⟩) n n) (w.alloc (.cells (cellsT (fun _ => false) n).toArray 4)) := fun w => make_T w n (by omega)
  have h1 : ¬ ((n : Int) < 0) := by omega
  have h2 : ¬ ((65536 : Int) < (n : Int)) := by omega
  have RN : Hid (Ref ((w.alloc (.cells (cellsT (fun _ => false) n).toArray 4)).alloc (.cells #[.slice (some ⟨w.heap.size, 0, none⟩) n n] 38)) (w.heap.size + 1) w.heap.size n (fun _ => false)) := by
    refine ⟨?_, ?_⟩
    · have := Go.heap_alloc_new (w.alloc (.cells (cellsT (fun _ => false) n).toArray 4)) (.cells #[.slice (some ⟨w.heap.size, 0, none⟩) n n] 38)
      rwa [World.size_alloc] at this
    · rw [Below.heap_alloc _ _ _ (by simp)]; exact Go.heap_alloc_new w _
  have BN : Hid (Below w.heap.size w ((w.alloc (.cells (cellsT (fun _ => false) n).toArray 4)).alloc (.cells #[.slice (some ⟨w.heap.size, 0, none⟩) n n] 38))) := ((Below.refl _ w).alloc (Nat.le_refl _) _).alloc (by simp) _
  go_enter Try.func24, Try.ntmps24
  go_wp2
  go_ret2
  exact ⟨rfl, RN.out, BN.out, by simp⟩

set_option maxHeartbeats 1000000 in
theorem same_any (a b : Option Addr) (ca cb : Nat) (L : List (Nat × Nat)) (w : World) (ha : IsL w a L) (hb : IsL w b L) (hl : L.length ≤ 65536) :
    Calls Try.prog 12 #[.slice a L.length ca, .slice b L.length cb] w fun e w' => e = .returned (.bool true) ∧ ∃ m, w' = w.drewN m := by
  have HA : Hid (IsL w a L) := ha
  have HB : Hid (IsL w b L) := hb
  clear ha hb
  go_enter Try.func12, Try.ntmps12
  go_wp2
  go_loopw [13] (fun iv wr => ∃ i m : Nat, i ≤ L.length ∧ iv = .int .i64 (i : Nat) ∧ wr = w.drewN m) (fun iv _ => L.length - (intOf iv).toNat)
  case atStart => exact ⟨0, 0, Nat.zero_le _, rfl, rfl⟩
  case round =>
    obtain ⟨i, m, hi, rfl, rfl⟩ := hrel
    by_cases hlt : i < L.length
    · rcases HA.out with e | ⟨ga, oa, rfl, _, hca⟩
      · rw [e] at hlt; simp at hlt
      · rcases HB.out with e | ⟨gb, ob, rfl, _, hcb⟩
        · rw [e] at hlt; simp at hlt
        · obtain ⟨d0, d1⟩ := hca i hlt
          obtain ⟨e0, e1⟩ := hcb i hlt
          obtain ⟨x, hx⟩ : ∃ x, L[i] = x := ⟨_, rfl⟩
          rw [hx] at d0 d1 e0 e1
          obtain ⟨x1, x2⟩ := x
          simp only at d0 d1 e0 e1
          have hlt' : (i : Int) < (L.length : Int) := by omega
          clear hca hcb hx
          go_wp2_with fail
          go_quiet (fail)
          all_goals go_wp2
          go_roundw
          case rel => exact ⟨i + 1, m + nq, by omega, by go_num, rfl⟩
          case measure => simp [intOf]; omega
    · obtain rfl : i = L.length := by omega
      go_wp2
      go_ret
      exact ⟨rfl, m, rfl⟩
end Go.Proofs.Ytdpkmlkckhhcgaa
