/- What Free, Copy and New answer. -/
import Derived.Test.YtgmljgogmbaioaaGreatDoorRuGH
import Derived.Laws.MakeOwn
import Derived.RegionTactic
namespace Go.Proofs.YtgmljgogmbaioaaGreatDoor
open Go.RowKit
set_option linter.unusedVariables false
set_option maxRecDepth 4000


theorem bcellK {w w' : World} {p : Addr} {v : Value} (hb : Below w.heap.size w w') (h : w.cell? p = some v) : w'.cell? p = some v := (hb.cell (World.block_lt_of_cell? w p h)).trans h
theorem made_R (n : Nat) : madeCells #[.int .i64 0, .int .i64 0] (n * 2) = (cellsR (List.replicate n (0, 0))).toArray := by
  rw [← zeroC_R]; rfl
theorem make_R (w : World) (n : Nat) (hn : n ≤ 1000000) : (Instr.makeSlice 50 (.int .i64 (n : Nat)) (.int .i64 (n : Nat))).run Tryz.prog w = .ok (.slice (some ⟨w.heap.size, 0, none⟩) n n) (w.alloc (.cells (cellsR (List.replicate n (0, 0))).toArray 55)) := by
  obtain ⟨i0, hi0, hz0, hs0, hb0⟩ := info_parts Tryz.info41
  have h := run_make (P := Tryz.prog) w 50 55 i0 _ Tryz.underlying50 hi0 hz0 .i64 .i64 (n : Int) (n : Int) (by omega) (Int.le_refl _) (by rw [hb0]; omega) (by omega)
  rw [h, hs0]
  simp only [Int.toNat_natCast, Value.cells, made_R]
set_option maxHeartbeats 1000000 in
theorem free_any (S : Nat → Prop) (b n : Nat) (f : Nat → Bool) (w : World) (h : IsR w S b n f) (hn : n ≤ 65536) :
    Calls Tryz.prog 56 #[.pointer (some ⟨b, 0, none⟩)] w fun e w' => e = .returned (.slice (some ⟨w.heap.size, 0, none⟩) (freeL f n).length (freeL f n).length) ∧ Row w' w.heap.size (freeL f n) ∧ Below w.heap.size w w' := by
  have hll := freeL_len f n
  unfold IsR at h
  obtain ⟨L, hL⟩ : ∃ L, freeL f n = L := ⟨_, rfl⟩
  rw [hL] at h hll ⊢
  clear hL
  obtain ⟨a, cap, hB⟩ := h
  have HB : Hid (Box w S b a cap n L) := hB
  have c1 := hB.cell1
  obtain ⟨wz, hwz⟩ : ∃ wz, w.alloc (.cells (cellsR (List.replicate L.length (0, 0))).toArray 55) = wz := ⟨_, rfl⟩
  have BZ : Hid (Below w.heap.size w wz) := by show Below _ _ _; rw [← hwz]; exact (Below.refl _ w).alloc (Nat.le_refl _) _
  have RZ : Hid (Row wz w.heap.size (List.replicate L.length (0, 0))) := by show wz.heap[w.heap.size]? = _; rw [← hwz]; exact Go.heap_alloc_new w _
  have LZ : Hid (UIsL wz a L) := (HB.out.keep BZ.out).row.isL
  have c2 := bcellK BZ.out c1
  have MK : ∀ w : World, (Instr.makeSlice 50 (.int .i64 (L.length : Nat)) (.int .i64 (L.length : Nat))).run Tryz.prog w = .ok (.slice (some ⟨w.heap.size, 0, none⟩) L.length L.length) (w.alloc (.cells (cellsR (List.replicate L.length (0, 0))).toArray 55)) := fun w => make_R w _ (by omega)
  clear hB
  go_enter Tryz.func56, Tryz.ntmps56
  go_wp2_with (refine wpList_copyR rfl _ _ rfl w.heap.size 0 _ _ (List.replicate L.length (0, 0)) L _ a _ _ L.length rfl rfl rfl (by simp) RZ.out LZ.out (by simp) (.inr (by simp)) ?_; intro w2 r2 o2; have R2 : Hid (Row w2 w.heap.size L) := (by have q := r2; simp at q; exact q); have B2 : Hid (Below w.heap.size w w2) := BZ.out.trans ⟨o2.os, o2.tape, o2.output, Nat.le_of_eq o2.size.symm, fun k hk => o2.block k (by omega)⟩; clear r2 o2)
  go_ret
  exact ⟨rfl, R2.out, B2.out⟩
theorem IsR.of {w : World} {S : Nat → Prop} {b n : Nat} {f : Nat → Bool} {L : List (Nat × Nat)} (h : At w S b n L) (hF : FL n f L) : IsR w S b n f := by rw [IsR, ← hF.eq]; exact h
set_option maxHeartbeats 1000000 in
theorem new_any (n : Nat) (w : World) (hn : n ≤ 65536) :
    Calls Tryz.prog 45 #[.int .i64 (n : Nat)] w fun e w' => e = .returned (.tuple #[.pointer (some ⟨w.heap.size, 0, none⟩), .int .i64 0]) ∧ IsR w' (fun k => w.heap.size ≤ k) w.heap.size n (fun _ => false) ∧ Below w.heap.size w w' := by
  obtain ⟨wz, hwz⟩ : ∃ wz, (w.alloc (.cells #[.int .i64 (n : Nat), .slice none 0 0] 113)).alloc (.cells #[.int .i64 0, .int .i64 (n : Nat)] 55) = wz := ⟨_, rfl⟩
  have BZ : Hid (Below w.heap.size w wz) := by show Below _ _ _; rw [← hwz]; exact ((Below.refl _ w).alloc (Nat.le_refl _) _).alloc (by simp) _
  have ZZ : Hid (wz.heap.size = w.heap.size + 2) := by show _ = _; rw [← hwz]; simp
  have AZ : Hid (At wz (fun k => w.heap.size ≤ k ∧ k ≠ w.heap.size + 1) w.heap.size n []) := by
    refine ⟨none, 0, ?_, ⟨Nat.le_refl _, by omega⟩, RowAt.nil _ _⟩
    rw [← hwz, Below.heap_alloc _ _ _ (by simp)]; exact Go.heap_alloc_new w _
  have RZ : Hid (Row wz (w.heap.size + 1) [(0, n)]) := by
    show wz.heap[w.heap.size + 1]? = _
    rw [← hwz]
    have := Go.heap_alloc_new (w.alloc (.cells #[.int .i64 (n : Nat), .slice none 0 0] 113)) (.cells #[.int .i64 0, .int .i64 (n : Nat)] 55)
    rw [World.size_alloc] at this
    rw [this]; rfl
  have h1 : ¬ ((n : Int) < 0) := by omega
  have h2 : ¬ ((65536 : Int) < (n : Int)) := by omega
  go_enter Tryz.func45, Tryz.ntmps45
  go_wp2_with fail
  refine (replace_any (fun k => w.heap.size ≤ k) w.heap.size n (w.heap.size + 1) 0 0 [] [(0, n)] wz AZ.out (fun k hk => by have := ZZ.out; omega) RZ.out (Nat.le_succ _) (Nat.le_refl _) (Nat.le_refl _) (by simp) (by simp)).mono ?_
  rintro e w1 ⟨rfl, h9, t9⟩
  have H9 : Hid (IsR w1 (fun k => w.heap.size ≤ k) w.heap.size n (fun _ => false)) := by
    show At _ _ _ _ _
    rw [← free_new]
    simpa using h9
  have B9 : Hid (Below w.heap.size w w1) := BZ.out.trans (t9.below (fun i hi => hi) BZ.out.size)
  clear h9 t9
  go_wp2
  go_ret2
  exact ⟨rfl, H9.out, B9.out⟩
theorem unew_bad (n : Int) (w : World) (h : n < 0 ∨ 65536 < n) :
    Calls Tryz.prog 45 #[.int .i64 n] w fun e w' => e = .returned (.tuple #[.pointer none, .int .i64 2]) ∧ w = w' := by
  rcases h with h | h
  · go_enter Tryz.func45, Tryz.ntmps45
    go_wp2
    go_ret2
    exact ⟨rfl, rfl⟩
  · have h1 : ¬ (n < 0) := by omega
    go_enter Tryz.func45, Tryz.ntmps45
    go_wp2
    go_ret2
    exact ⟨rfl, rfl⟩
end Go.Proofs.YtgmljgogmbaioaaGreatDoor
