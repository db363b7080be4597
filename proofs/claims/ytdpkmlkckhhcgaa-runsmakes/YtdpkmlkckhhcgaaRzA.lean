/- Units on which a law goes on, and calls of nil ones. -/
import Derived.Test.YtdpkmlkckhhcgaaRnY
namespace Go.Proofs.Ytdpkmlkckhhcgaa
open Go.RowKit
set_option linter.unusedVariables false

/-- Units that a law has made. -/
structure On (w wr : World) (S : Nat → Prop) (b n : Nat) (f : Nat → Bool) : Prop where
  isR : IsR wr S b n f
  hS : ∀ i, wr.heap.size ≤ i → S i
  low : Below w.heap.size w wr
  lows : ∀ i, S i → w.heap.size ≤ i
theorem On.keep {w wr w' : World} {S : Nat → Prop} {b n : Nat} {f : Nat → Bool} (h : On w wr S b n f) (hb : Below wr.heap.size wr w') : On w w' S b n f :=
  ⟨h.isR.keep hb, fun i hi => h.hS i (by have := hb.size; omega), h.low.trans (hb.mono h.low.size), h.lows⟩
theorem On.next {w wr w' : World} {S : Nat → Prop} {b n : Nat} {f f' : Nat → Bool} (h : On w wr S b n f) (i : IsR w' S b n f') (t : Tu S wr w') : On w w' S b n f' :=
  ⟨i, fun k hk => h.hS k (by have := t.size; omega), h.low.trans (t.below h.lows h.low.size), h.lows⟩
theorem On.drew {w wr : World} {S : Nat → Prop} {b n : Nat} {f : Nat → Bool} (h : On w wr S b n f) : On w wr.drew S b n f := ⟨h.isR.drew, h.hS, h.low.drew, h.lows⟩
theorem On.drewN {w wr : World} {S : Nat → Prop} {b n : Nat} {f : Nat → Bool} (h : On w wr S b n f) (m : Nat) : On w (wr.drewN m) S b n f := ⟨h.isR.drewN m, h.hS, ⟨h.low.os, h.low.tape, h.low.output, h.low.size, h.low.block⟩, h.lows⟩
theorem Played.on {w0 w wr : World} {b mb mg n : Nat} {f : Nat → Bool} (h : Played w wr b mb mg n f) (hb : Below w0.heap.size w0 w) : On w0 wr (Mine w.heap.size mb mg) b n f :=
  ⟨h.two.isR, h.two.hS, hb.trans (h.low.mono hb.size), fun i hi => Nat.le_trans hb.size hi.1⟩

theorem len_q (S : Nat → Prop) (b n : Nat) (f : Nat → Bool) (w : World) (h : IsR w S b n f) :
    Calls Try.prog 15 #[.pointer (some ⟨b, 0, none⟩)] w fun e w' => e = .returned (.int .i64 (n : Nat)) ∧ w' = w := (len_any S b n f w h).mono fun e w' ⟨h1, h2⟩ => ⟨h1, h2.symm⟩
theorem nil_take (k : Int) (w : World) : Calls Try.prog 19 #[.pointer none, .int .i64 k] w fun e w' => e = .returned (.tuple #[.int .i64 0, .int .i64 1]) ∧ w = w' := by
  go_enter Try.func19, Try.ntmps19
  go_wp2
  go_ret2
  exact ⟨rfl, rfl⟩
theorem nil_mark (x k : Int) (w : World) : Calls Try.prog 22 #[.pointer none, .int .i64 x, .int .i64 k] w fun e w' => e = .returned (.int .i64 1) ∧ w = w' := by
  go_enter Try.func22, Try.ntmps22
  go_wp2_with (go_at_call 29; refine (check_nil x k _).mono ?_; rintro e w' ⟨rfl, rfl⟩)
  go_ret
  exact ⟨rfl, rfl⟩
theorem nil_give (x k : Int) (w : World) : Calls Try.prog 20 #[.pointer none, .int .i64 x, .int .i64 k] w fun e w' => e = .returned (.int .i64 1) ∧ w = w' := by
  go_enter Try.func20, Try.ntmps20
  go_wp2_with (go_at_call 29; refine (check_nil x k _).mono ?_; rintro e w' ⟨rfl, rfl⟩)
  go_ret
  exact ⟨rfl, rfl⟩
theorem nil_has (x : Int) (w : World) : Calls Try.prog 16 #[.pointer none, .int .i64 x] w fun e w' => e = .returned (.bool false) ∧ w = w' := by
  go_enter Try.func16, Try.ntmps16
  go_wp2_with (go_at_call 29; refine (check_nil x 1 _).mono ?_; rintro e w' ⟨rfl, rfl⟩)
  go_ret
  exact ⟨rfl, rfl⟩
theorem nil_len (w : World) : Calls Try.prog 15 #[.pointer none] w fun e w' => e = .returned (.int .i64 0) ∧ w = w' := by
  go_enter Try.func15, Try.ntmps15
  go_wp2
  go_ret
  exact ⟨rfl, rfl⟩
theorem nil_left (w : World) : Calls Try.prog 17 #[.pointer none] w fun e w' => e = .returned (.int .i64 0) ∧ w = w' := by
  go_enter Try.func17, Try.ntmps17
  go_wp2
  go_ret
  exact ⟨rfl, rfl⟩
theorem nil_most (w : World) : Calls Try.prog 18 #[.pointer none] w fun e w' => e = .returned (.int .i64 0) ∧ w = w' := by
  go_enter Try.func18, Try.ntmps18
  go_wp2
  go_ret
  exact ⟨rfl, rfl⟩
theorem nil_free (w : World) : Calls Try.prog 13 #[.pointer none] w fun e w' => e = .returned (.slice none 0 0) ∧ w = w' := by
  go_enter Try.func13, Try.ntmps13
  go_wp2
  go_ret
  exact ⟨rfl, rfl⟩
theorem nil_copy (w : World) : Calls Try.prog 21 #[.pointer none] w fun e w' => e = .returned (.pointer none) ∧ w = w' := by
  go_enter Try.func21, Try.ntmps21
  go_wp2
  go_ret
  exact ⟨rfl, rfl⟩
end Go.Proofs.Ytdpkmlkckhhcgaa
