/- A kind is read: what readField and Read answer, and what becomes of the reader. -/
import Derived.Test.YtjalagjnhjaaoaaKdJ
import Derived.Test.YtjalagjnhjaaoaaKdC
namespace Go.Proofs.Ytjalagjnhjaaoaa
open Go.RowKit
set_option linter.unusedVariables false
set_option maxRecDepth 4000

theorem Tg.ofGrown {g : Nat} {w w' : World} (h : w.grownBy w' (some g)) : Tg g w w' := ⟨h.os, h.tape, h.output, h.size, fun i hi hn => h.block i hi (fun e => hn (Option.some.inj e))⟩
theorem OwnsI.tg {g : Nat} {w w' : World} {base cap : Nat} {a : Option Addr} {l : List Int} (h : OwnsI w base a l cap) (t : Tg g w w') (hg : g < base) : OwnsI w' base a l cap := by
  obtain ⟨h0, h1 | ⟨g', c', cur, h1, hb, h2, h3⟩⟩ := h
  · exact ⟨h0, .inl h1⟩
  · exact ⟨h0, .inr ⟨g', c', cur, h1, hb, by rw [t.block g' (Array.getElem?_eq_some_iff.1 h2).1 (by omega)]; exact h2, h3⟩⟩
theorem RdAt.tg {w w' : World} {B g : Nat} {l : List Int} {e : Int} (h : RdAt w B l e) (t : Tg g w w') (hg : B < g) : RdAt w' B l e := by
  obtain ⟨a, cap, hh, h1, h2, h3, h4⟩ := h
  have hlt := lt_of_block hh
  refine ⟨a, cap, (t.block B hlt (by omega)).trans hh, h1, h2, h3, ?_⟩
  rcases h4 with h4 | ⟨b, off, e1, e2, e3⟩
  · exact .inl h4
  · exact .inr ⟨b, off, e1, e2, fun i hi => t.cell (e3 i hi) (by omega)⟩
theorem RdAt.below {w w' : World} {B base : Nat} {l : List Int} {e : Int} (h : RdAt w B l e) (t : Below base w w') (hg : B < base) : RdAt w' B l e := by
  obtain ⟨a, cap, hh, h1, h2, h3, h4⟩ := h
  refine ⟨a, cap, (t.block B hg).trans hh, h1, h2, h3, ?_⟩
  rcases h4 with h4 | ⟨b, off, e1, e2, e3⟩
  · exact .inl h4
  · exact .inr ⟨b, off, e1, e2, fun i hi => by rw [t.cell (p := ⟨b, off + i, none⟩) (by show b < _; omega)]; exact e3 i hi⟩
theorem RdAt.allB {w : World} {B : Nat} {l : List Int} {e : Int} (h : RdAt w B l e) : AllB l := by
  obtain ⟨_, _, _, _, _, h3, _⟩ := h
  exact h3
theorem RdAt.lt {w : World} {B : Nat} {l : List Int} {e : Int} (h : RdAt w B l e) : B < w.heap.size := by
  obtain ⟨_, _, hh, _⟩ := h
  exact lt_of_block hh

/-- A number is read without a fault ahead, and is small enough. -/
theorem readField_go (B : Nat) (l r : List Int) (f s v : Int) (w : World) (h : RdAt w B l 0) (f0 : 0 ≤ f) (f1 : f ≤ s) (s1 : s ≤ 4096) (v0 : 0 ≤ v) (hu : upS l 0 18446744073709551615 = (v, r, 0)) (hv : v < (s - f) / 8) :
    Calls Try.prog 53 #[.pointer (some ⟨B, 0, none⟩), .int .i64 f, .int .i64 s] w fun e w' => e = .returned (.int .i64 (f + 8 * v)) ∧ RdAt w' B r 0 ∧ Tg B w w' := by
  have HR : Hid (RdAt w B l 0) := h
  have HU : Hid (upS l 0 18446744073709551615 = (v, r, 0)) := hu
  clear h hu
  go_enter Try.func53, Try.ntmps53
  go_wp2_with (go_at_call 61; refine (rvar_any B l 0 _ HR.out).mono ?_; rw [HU.out]; rintro e w1 ⟨rfl, r1, g1⟩)
  go_ret
  exact ⟨ret_int (by omega), r1, Tg.ofGrown g1⟩
/-- A number is read without a fault ahead, and is too great. -/
theorem readField_far (B : Nat) (l r : List Int) (f s v : Int) (w : World) (h : RdAt w B l 0) (f0 : 0 ≤ f) (f1 : f ≤ s) (s1 : s ≤ 4096) (hu : upS l 0 18446744073709551615 = (v, r, 0)) (hv : (s - f) / 8 ≤ v) :
    Calls Try.prog 53 #[.pointer (some ⟨B, 0, none⟩), .int .i64 f, .int .i64 s] w fun e w' => e = .returned (.int .i64 0) ∧ RdAt w' B r 4 ∧ Tg B w w' := by
  have HR : Hid (RdAt w B l 0) := h
  have HU : Hid (upS l 0 18446744073709551615 = (v, r, 0)) := hu
  clear h hu
  go_enter Try.func53, Try.ntmps53
  go_wp2_with (first
    | (go_at_call 61; refine (rvar_any B l 0 _ HR.out).mono ?_; rw [HU.out]; rintro e w1 ⟨rfl, r1, g1⟩; have R1 : Hid (RdAt w1 B r 0) := r1; have G1 : Hid (Tg B w w1) := Tg.ofGrown g1; clear r1 g1)
    | (go_at_call 49; refine (fail_any B r 0 4 _ R1.out).mono ?_; rintro e w2 ⟨rfl, r2, g2⟩; have R2 : Hid (RdAt w2 B r 4) := r2; have G2 : Hid (Tg B w1 w2) := Tg.ofGrown g2; clear r2 g2))
  go_ret
  exact ⟨rfl, R2.out, G1.out.trans G2.out⟩
/-- There is a fault, now or already: nothing is told. -/
theorem readField_bad (B : Nat) (l : List Int) (f s e er : Int) (w : World) (h : RdAt w B l e) (f0 : 0 ≤ f) (f1 : f < s + 8) (s0 : 0 ≤ s) (s1 : s ≤ 4096) (hu : upS l e 18446744073709551615 = (0, l, er)) (he : er ≠ 0) :
    Calls Try.prog 53 #[.pointer (some ⟨B, 0, none⟩), .int .i64 f, .int .i64 s] w fun r w' => ∃ p, r = .returned (.int .i64 p) ∧ 0 ≤ p ∧ (p = 0 ∨ p + 8 ≤ s) ∧ RdAt w' B l er ∧ Tg B w w' := by
  have HR : Hid (RdAt w B l e) := h
  have HU : Hid (upS l e 18446744073709551615 = (0, l, er)) := hu
  have HF : Hid (failV er 4 = er) := if_neg he
  clear h hu
  by_cases h1 : 8 ≤ s - f
  · have hd : 0 < (s - f) / 8 := by omega
    go_enter Try.func53, Try.ntmps53
    go_wp2_with (go_at_call 61; refine (rvar_any B l e _ HR.out).mono ?_; rw [HU.out]; rintro r w1 ⟨rfl, r1, g1⟩)
    go_ret
    exact ⟨f, rfl, f0, .inr (by omega), r1, Tg.ofGrown g1⟩
  · by_cases h2 : 0 ≤ s - f
    · have hd : (s - f) / 8 = 0 := by omega
      go_enter Try.func53, Try.ntmps53
      go_wp2_with (first
        | (go_at_call 61; refine (rvar_any B l e _ HR.out).mono ?_; rw [HU.out]; rintro r w1 ⟨rfl, r1, g1⟩; have R1 : Hid (RdAt w1 B l er) := r1; have G1 : Hid (Tg B w w1) := Tg.ofGrown g1; clear r1 g1)
        | (go_at_call 49; refine (fail_any B l er 4 _ R1.out).mono ?_; rw [HF.out]; rintro r w2 ⟨rfl, r2, g2⟩; have R2 : Hid (RdAt w2 B l er) := r2; have G2 : Hid (Tg B w1 w2) := Tg.ofGrown g2; clear r2 g2))
      go_ret
      exact ⟨0, rfl, by omega, .inl rfl, R2.out, G1.out.trans G2.out⟩
    · have hd : (s - f).tdiv 8 = 0 := by
        have h : s - f = -7 ∨ s - f = -6 ∨ s - f = -5 ∨ s - f = -4 ∨ s - f = -3 ∨ s - f = -2 ∨ s - f = -1 := by omega
        rcases h with h | h | h | h | h | h | h <;> rw [h] <;> rfl
      go_enter Try.func53, Try.ntmps53
      go_wp2_with (first
        | (go_at_call 61; refine (rvar_any B l e _ HR.out).mono ?_; rw [HU.out]; rintro r w1 ⟨rfl, r1, g1⟩; have R1 : Hid (RdAt w1 B l er) := r1; have G1 : Hid (Tg B w w1) := Tg.ofGrown g1; clear r1 g1)
        | (go_at_call 49; refine (fail_any B l er 4 _ R1.out).mono ?_; rw [HF.out]; rintro r w2 ⟨rfl, r2, g2⟩; have R2 : Hid (RdAt w2 B l er) := r2; have G2 : Hid (Tg B w1 w2) := Tg.ofGrown g2; clear r2 g2))
      go_ret
      exact ⟨0, rfl, by omega, .inl rfl, R2.out, G1.out.trans G2.out⟩
end Go.Proofs.Ytjalagjnhjaaoaa
