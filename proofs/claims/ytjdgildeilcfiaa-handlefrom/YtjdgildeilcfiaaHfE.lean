/- The document's From of no rows. -/
import Derived.Test.YtjdgildeilcfiaaHfC
namespace Go.Proofs.Ytjdgildeilcfiaa
open Go.RowKit
set_option linter.unusedVariables false

theorem zeroC_W (n : Nat) : Builtin.zeroCells #[.int .i64 0, .bool false, .int .i64 0, .int .i64 0] n = (cellsW (List.replicate n zr)).toArray := by
  apply Array.toList_inj.1
  apply List.ext_getElem?
  intro i
  by_cases h : i < n * 4
  · have hi : i / 4 < (List.replicate n zr).length := by simp; omega
    obtain ⟨k0, k1, k2, k3⟩ := cellsW_at (List.replicate n zr) (i / 4) hi
    have hz : (List.replicate n zr)[i / 4] = zr := by simp
    rw [hz] at k0 k1 k2 k3
    have hm : i % 4 < 4 := Nat.mod_lt _ (by decide)
    rcases (by omega : i % 4 = 0 ∨ i % 4 = 1 ∨ i % 4 = 2 ∨ i % 4 = 3) with e | e | e | e
    · rw [show i / 4 * 4 = i by omega] at k0
      exact Eq.trans (b := some (.int .i64 0)) (by simp [Builtin.zeroCells, h, e]) k0.symm
    · rw [show i / 4 * 4 + 1 = i by omega] at k1
      exact Eq.trans (b := some (.bool false)) (by simp [Builtin.zeroCells, h, e]) k1.symm
    · rw [show i / 4 * 4 + 2 = i by omega] at k2
      exact Eq.trans (b := some (.int .i64 0)) (by simp [Builtin.zeroCells, h, e]) k2.symm
    · rw [show i / 4 * 4 + 3 = i by omega] at k3
      exact Eq.trans (b := some (.int .i64 0)) (by simp [Builtin.zeroCells, h, e]) k3.symm
  · rw [List.getElem?_eq_none (by simp [Builtin.zeroCells]; omega), List.getElem?_eq_none (by simp [cellsW_len]; omega)]
theorem made_W (n : Nat) : madeCells #[.int .i64 0, .bool false, .int .i64 0, .int .i64 0] (n * 4) = (cellsW (List.replicate n zr)).toArray := by
  rw [← zeroC_W]; rfl
theorem make_W (w : World) (n : Nat) (hn : n ≤ 1000000) : (Instr.makeSlice 40 (.int .i64 (n : Nat)) (.int .i64 (n : Nat))).run Try.prog w = .ok (.slice (some ⟨w.heap.size, 0, none⟩) n n) (w.alloc (.cells (cellsW (List.replicate n zr)).toArray 44)) := by
  obtain ⟨i0, hi0, hz0, hs0, hb0⟩ := info_parts Try.infoW
  have h := run_make (P := Try.prog) w 40 44 i0 _ Try.undRows hi0 hz0 .i64 .i64 (n : Int) (n : Int) (by omega) (Int.le_refl _) (by rw [hb0]; omega) (by omega)
  rw [h, hs0]
  simp only [Int.toNat_natCast, Value.cells]
  rw [made_W]
theorem rowCells {w : World} {g : Nat} {A : List Rw} (h : w.heap[g]? = some (.cells (cellsW A).toArray 44 (0, 0))) (i : Nat) (hi : i < A.length) : w.cell? ⟨g, i * 4, none⟩ = some (.int .i64 A[i].gen) ∧ w.cell? ⟨g, i * 4 + 1, none⟩ = some (.bool A[i].live) ∧ w.cell? ⟨g, i * 4 + 2, none⟩ = some (.int .i64 A[i].kind) ∧ w.cell? ⟨g, i * 4 + 3, none⟩ = some (.int .i64 A[i].pl) := by
  obtain ⟨k0, k1, k2, k3⟩ := cellsW_at A i hi
  refine ⟨?_, ?_, ?_, ?_⟩
  · rw [cell_of_row _ _ _ _ _ _ h]; simpa using k0
  · rw [cell_of_row _ _ _ _ _ _ h]; simpa using k1
  · rw [cell_of_row _ _ _ _ _ _ h]; simpa using k2
  · rw [cell_of_row _ _ _ _ _ _ h]; simpa using k3
theorem rowSet4 {w : World} {g : Nat} {A : List Rw} (h : w.heap[g]? = some (.cells (cellsW A).toArray 44 (0, 0))) (i : Nat) (hi : i < A.length) (r : Rw) : (set4 w g i r).heap[g]? = some (.cells (cellsW (A.set i r)).toArray 44 (0, 0)) := by
  have k1 := heap_setCell_same w g (i * 4) _ _ (.int .i64 r.gen) h
  have k2 := heap_setCell_same _ g (i * 4 + 1) _ _ (.bool r.live) k1
  have k3 := heap_setCell_same _ g (i * 4 + 2) _ _ (.int .i64 r.kind) k2
  have k4 := heap_setCell_same _ g (i * 4 + 3) _ _ (.int .i64 r.pl) k3
  show (World.setCell _ _ _).heap[g]? = _
  rw [k4, ← cellsW_set A i r hi]
  simp
theorem fill_step {xs : List Rw} {i n : Nat} (hi : i < xs.length) (hn : xs.length ≤ n) (r : Rw) (hr : xs[i] = r) : (xs.take i ++ List.replicate (n - i) zr).set i r = xs.take (i + 1) ++ List.replicate (n - (i + 1)) zr := by
  have hl : (xs.take i).length = i := by simp; omega
  rw [List.set_append_right _ _ (by omega), hl, Nat.sub_self, List.take_succ_eq_append_getElem hi, hr, List.append_assoc]
  obtain ⟨k, hk⟩ : ∃ k, n - i = k + 1 := ⟨n - i - 1, by omega⟩
  rw [hk, List.replicate_succ, List.set_cons_zero, show n - (i + 1) = k by omega]
  rfl

set_option maxHeartbeats 1000000 in
theorem rnew_any (n : Nat) (w : World) (h1 : 1 ≤ n) (h2 : n ≤ 4096) :
    Calls Try.prog 11 #[.int .i64 (n : Nat), .slice none 0 0] w fun e w' => Below w.heap.size w w' ∧ e = .returned (.tuple #[.pointer (some ⟨w.heap.size + 1, 0, none⟩), .int .i64 0]) ∧ Rt w' (w.heap.size + 1) w.heap.size n [] := by
  have e1 : ¬ ((n : Int) < 1) := by omega
  have e2 : ¬ ((n : Int) > 4096) := by omega
  have e3 : ¬ ((0 : Int) > (n : Int)) := by omega
  have MK : ∀ w : World, (Instr.makeSlice 40 (.int .i64 (n : Nat)) (.int .i64 (n : Nat))).run Try.prog w = .ok (.slice (some ⟨w.heap.size, 0, none⟩) n n) (w.alloc (.cells (cellsW (List.replicate n zr)).toArray 44)) := fun w => make_W w n (by omega)
  obtain ⟨wz, hwz⟩ : ∃ wz, (w.alloc (.cells (cellsW (List.replicate n zr)).toArray 44)).alloc (.cells #[.slice (some ⟨w.heap.size, 0, none⟩) n n] 64) = wz := ⟨_, rfl⟩
  have BZ : Hid (Below w.heap.size w wz) := by show Below _ _ _; rw [← hwz]; exact ((Below.refl _ w).alloc (Nat.le_refl _) _).alloc (by simp) _
  have XZ : wz.heap[w.heap.size + 1]? = some (.cells #[.slice (some ⟨w.heap.size, 0, none⟩) n n] 64 (0, 0)) := by
    rw [← hwz]
    have := Go.heap_alloc_new (w.alloc (.cells (cellsW (List.replicate n zr)).toArray 44)) (.cells #[.slice (some ⟨w.heap.size, 0, none⟩) n n] 64)
    rw [World.size_alloc] at this
    exact this
  have RZ : wz.heap[w.heap.size]? = some (.cells (cellsW (List.replicate n zr)).toArray 44 (0, 0)) := by
    rw [← hwz, Below.heap_alloc _ _ _ (by simp)]; exact Go.heap_alloc_new w _
  have TZ : Hid (Rt wz (w.heap.size + 1) w.heap.size n []) := ⟨XZ, by rw [RZ]; simp [pad], Gd.nil h1 h2⟩
  have HW : Hid ((w.alloc (.cells (cellsW (List.replicate n zr)).toArray 44)).alloc (.cells #[.slice (some ⟨w.heap.size, 0, none⟩) n n] 64) = wz) := hwz
  clear XZ RZ hwz
  go_enter Try.func11, Try.ntmps11
  go_wp2
  go_loopw [25] (fun iv wr => iv = .int .i64 0 ∧ wr = wz) (fun _ _ => 0)
  case atStart => exact ⟨rfl, HW.out⟩
  case round =>
    obtain ⟨rfl, rfl⟩ := hrel
    go_wp2
    go_ret2
    exact ⟨BZ.out, rfl, TZ.out⟩
end Go.Proofs.Ytjdgildeilcfiaa
