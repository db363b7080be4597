/- What the laws lean on: Put and Get in the forms in which they are met. -/
import Derived.Test.YtdhamfhicdcdgaaNumAl
namespace Go.Proofs.Ytdhamfhicdcdgaa
open Go.RowKit
set_option linter.unusedVariables false

theorem put_is (n width : Int) (K : Nat) (hK : clampW width = K) (h0 : 0 ≤ n) (h1 : n ≤ 18446744073709551615) (w : World) :
    Calls Try.prog 11 #[.int .u64 n, .int .i64 width] w fun e w' => e = .returned (.slice (some ⟨w.heap.size, 0, none⟩) K K) ∧ w.heap.size < w'.heap.size ∧ IsB w' (some ⟨w.heap.size, 0, none⟩) (putL K n) ∧ Below w.heap.size w w' := by
  have := put_any n width h0 h1 w
  rw [hK, Int.toNat_natCast] at this
  refine this.mono ?_
  rintro e w' ⟨rfl, rfl⟩
  refine ⟨rfl, by simp, ⟨putL_byte K n, .inr ⟨w.heap.size, 0, rfl, by simp, ?_⟩⟩, (Below.refl _ _).alloc (Nat.le_refl _) _⟩
  intro i hi
  rw [Nat.zero_add]
  simp only [World.cell?]
  rw [cell_push]
  simp [List.getD, hi]

theorem get_is (a : Option Addr) (len cap : Nat) (l : List Int) (x : Int) (w : World) (h : IsB w a l) (hl : l.length = len) (hm : l.length ≤ maxLen) (hx : getL (l.take 8) = x) :
    Calls Try.prog 13 #[.slice a len cap] w fun e w' => e = .returned (.int .u64 x) ∧ w = w' := by
  subst hl hx
  exact get_any a cap l w h hm

theorem word_of_wf {x : Int} (h : (Lit.int .u64 x).wf = true) : 0 ≤ x ∧ x ≤ 18446744073709551615 := by
  simp [Lit.wf, IntKind.min, IntKind.max, IntKind.signed, IntKind.bits] at h
  exact ⟨by omega, by omega⟩

theorem get_put8 (n : Int) (h0 : 0 ≤ n) (h1 : n ≤ 18446744073709551615) : getL ((putL 8 n).take 8) = n := by
  rw [List.take_of_length_le (by rw [putL_length]; exact Nat.le_refl _)]
  exact getL_putL8 n h0 h1
end Go.Proofs.Ytdhamfhicdcdgaa
