/- The document's examples come out: alive answers true, and turns nothing that was there. -/
import Derived.Test.YtdhamfhicdcdgaaNumUp
namespace Go.Proofs.Ytdhamfhicdcdgaa
open Go.RowKit
set_option linter.unusedVariables false

theorem put258 (w : World) :
    Calls Try.prog 11 #[.int .u64 258, .int .i64 3] w fun e w' => e = .returned (.slice (some ⟨w.heap.size, 0, none⟩) 3 3) ∧ w' = w.alloc (.cells #[.int .u8 2, .int .u8 1, .int .u8 0] 5) :=
  put3 258 3 (by decide) (by decide) (by decide) w

theorem varL300 : varL 300 = [172, 2] := by decide

theorem var300 (w : World) :
    Calls Try.prog 16 #[.int .u64 300] w fun e w' => e = .returned (.slice (some ⟨w.heap.size, 0, none⟩) 2 2) ∧ w'.cell? ⟨w.heap.size, 0, none⟩ = some (.int .u8 172) ∧ w.heap.size < w'.heap.size ∧ Below w.heap.size w w' := by
  refine (var_any 300 w (by decide) (by decide)).mono ?_
  rintro e w' ⟨rfl, hown, hb⟩
  have hB := isB_owns (varL_byte 300 (by decide) (by decide)) hown
  rw [varL300] at hB ⊢
  obtain ⟨_, h | ⟨b, off, e, hs, hc⟩⟩ := hB
  · cases h
  · cases e
    exact ⟨rfl, by simpa using hc 0 (by decide), hs, hb⟩

theorem size300 (w : World) :
    Calls Try.prog 17 #[.int .u64 300] w fun e w' => e = .returned (.int .i64 2) ∧ w = w' := by
  have := size_any 300 w (by decide) (by decide)
  rw [varL300] at this
  exact this

theorem get3 (b : Nat) (w : World) (hs : b < w.heap.size) (h0 : w.cell? ⟨b, 0, none⟩ = some (.int .u8 2)) (h1 : w.cell? ⟨b, 1, none⟩ = some (.int .u8 1)) (h2 : w.cell? ⟨b, 2, none⟩ = some (.int .u8 0)) :
    Calls Try.prog 13 #[.slice (some ⟨b, 0, none⟩) 3 3] w fun e w' => e = .returned (.int .u64 258) ∧ w = w' := by
  refine get_any (some ⟨b, 0, none⟩) 3 [2, 1, 0] w ⟨by decide, .inr ⟨b, 0, rfl, hs, ?_⟩⟩ (by decide)
  intro i hi
  match i, hi with
  | 0, _ => exact h0
  | 1, _ => exact h1
  | 2, _ => exact h2

theorem open3 (b : Nat) (w : World) (hs : b < w.heap.size) (h0 : w.cell? ⟨b, 0, none⟩ = some (.int .u8 172)) (h1 : w.cell? ⟨b, 1, none⟩ = some (.int .u8 2)) (h2 : w.cell? ⟨b, 2, none⟩ = some (.int .u8 7)) :
    Calls Try.prog 19 #[.slice (some ⟨b, 0, none⟩) 3 3] w fun e w' => ∃ B, e = .returned (.pointer (some ⟨B, 0, none⟩)) ∧ w.heap.size ≤ B ∧ B < w'.heap.size ∧ RdAt w' B [172, 2, 7] 0 ∧ Below w.heap.size w w' := by
  refine open_any (some ⟨b, 0, none⟩) 3 [172, 2, 7] w ⟨by decide, .inr ⟨b, 0, rfl, hs, ?_⟩⟩ (by decide) (by simp)
  intro i hi
  match i, hi with
  | 0, _ => exact h0
  | 1, _ => exact h1
  | 2, _ => exact h2

theorem rvar300 (B : Nat) (w : World) (h : RdAt w B [172, 2, 7] 0) :
    Calls Try.prog 22 #[.pointer (some ⟨B, 0, none⟩)] w fun r w' => r = .returned (.int .u64 300) ∧ RdAt w' B [7] 0 ∧ w.grownBy w' (some B) := by
  have := rvar_any B [172, 2, 7] 0 w h
  rw [show upS [172, 2, 7] 0 18446744073709551615 = (300, [7], 0) from by decide] at this
  exact this

set_option maxHeartbeats 2000000 in
theorem alive_any (w : World) : Calls Try.prog 9 #[] w fun r w' => r = .returned (.bool true) ∧ Below w.heap.size w w' := by
  go_enter Try.func9, Try.ntmps9
  go_wp2_with fail
  refine (put258 w).mono ?_
  rintro e w1 ⟨rfl, rfl⟩
  go_wp2_with fail
  refine (var300 _).mono ?_
  rintro e w2 ⟨rfl, hv, hs2, hb2⟩
  have z1 : (w.alloc (.cells #[.int .u8 2, .int .u8 1, .int .u8 0] 5)).heap.size = w.heap.size + 1 := by simp
  rw [z1] at hv hs2 hb2
  have f0 : w2.cell? ⟨w.heap.size, 0, none⟩ = some (.int .u8 2) := by rw [hb2.cell (by simp)]; simp
  have f1 : w2.cell? ⟨w.heap.size, 1, none⟩ = some (.int .u8 1) := by rw [hb2.cell (by simp)]; simp
  have f2 : w2.cell? ⟨w.heap.size, 2, none⟩ = some (.int .u8 0) := by rw [hb2.cell (by simp)]; simp
  go_wp2_with fail
  refine (open3 w2.heap.size _ (by simp) (by simp) (by simp) (by simp)).mono ?_
  rintro e w3 ⟨B, rfl, hB1, hB2, hR, hb3⟩
  have z2 : (w2.alloc (.cells #[.int .u8 172, .int .u8 2, .int .u8 7] 5)).heap.size = w2.heap.size + 1 := by simp
  rw [z2] at hB1 hb3
  have hz3 := hb3.size
  rw [z2] at hz3
  have g0 : w3.cell? ⟨w.heap.size, 0, none⟩ = some (.int .u8 2) := by rw [hb3.cell (by simp; omega)]; exact Lib.cell?_alloc_some _ f0
  have g1 : w3.cell? ⟨w.heap.size, 1, none⟩ = some (.int .u8 1) := by rw [hb3.cell (by simp; omega)]; exact Lib.cell?_alloc_some _ f1
  have g2 : w3.cell? ⟨w.heap.size, 2, none⟩ = some (.int .u8 0) := by rw [hb3.cell (by simp; omega)]; exact Lib.cell?_alloc_some _ f2
  have g3 : w3.cell? ⟨w.heap.size + 1, 0, none⟩ = some (.int .u8 172) := by rw [hb3.cell (by simp; omega)]; exact Lib.cell?_alloc_some _ hv
  have hbw : Below w.heap.size w w3 := (((Below.refl _ w).alloc (Nat.le_refl _) _).trans (hb2.mono (by omega))).trans (((Below.refl _ w2).alloc (by omega) _).trans (hb3.mono (by omega)))
  clear f0 f1 f2 hv hb2 hb3 z1 z2
  go_wp2_with fail
  refine (get3 w.heap.size w3 (by omega) g0 g1 g2).mono ?_
  rintro e w3' ⟨rfl, rfl⟩
  go_wp2_with fail
  refine (rvar300 B w3 hR).mono ?_
  rintro e w4 ⟨rfl, hR4, hg4⟩
  obtain ⟨a, cap, c1, c2, c3, c4, hB, hc, hm⟩ := isB_of_rd hR4
  go_wp2_with fail
  refine (left_ok B a 1 cap w4 c1 c2).mono ?_
  rintro e w4' ⟨rfl, rfl⟩
  go_wp2_with fail
  refine (end_long B a 1 cap w4 c1 c2 (by decide)).mono ?_
  rintro e w4' ⟨rfl, rfl⟩
  go_wp2_with fail
  refine (size300 w4).mono ?_
  rintro e w4' ⟨rfl, rfl⟩
  go_wp2
  go_ret
  exact ⟨rfl, hbw.grown hg4 hbw.size (fun k hk => by cases hk; omega)⟩
end Go.Proofs.Ytdhamfhicdcdgaa
