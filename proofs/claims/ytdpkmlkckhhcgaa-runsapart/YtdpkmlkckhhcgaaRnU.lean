/- The document's first example: what alive answers. -/
import Derived.Test.YtdpkmlkckhhcgaaRnM
import Derived.Test.YtdpkmlkckhhcgaaRnO
namespace Go.Proofs.Ytdpkmlkckhhcgaa
open Go.RowKit
set_option linter.unusedVariables false

def f0 : Nat → Bool := fun _ => false
def f1 : Nat → Bool := turn f0 0 3 true
def f2 : Nat → Bool := turn f1 3 2 true
def f3 : Nat → Bool := turn f2 0 3 false
def f4 : Nat → Bool := turn f3 5 4 true
theorem alive_t1 : TakeR 10 f0 3 0 0 f1 := .inr (.inr ⟨by decide, 0, ⟨by decide, fun i _ _ => rfl, fun q hq => by omega⟩, rfl, rfl, rfl⟩)
theorem alive_t2 : TakeR 10 f1 2 3 0 f2 := .inr (.inr ⟨by decide, 3, ⟨by decide, fun i h1 h2 => by simp only [show (2 : Int).toNat = 2 from rfl] at h2; rw [f1, turn_out (by omega)]; rfl, fun q hq ha => by
  have := ha q (Nat.le_refl _) (by simp only [show (2 : Int).toNat = 2 from rfl]; omega)
  rw [f1, turn_in (by omega) (by omega)] at this; cases this⟩, rfl, rfl, rfl⟩)
theorem alive_g : TurnR 10 f2 0 3 false 0 f3 := .inr (.inr ⟨by decide, by decide, by decide, fun i h1 h2 => by
  simp only [show (0 : Int).toNat = 0 from rfl, show (3 : Int).toNat = 3 from rfl] at h1 h2
  rw [f2, turn_out (by omega), f1, turn_in (by omega) (by omega)]; rfl, rfl, rfl⟩)
theorem alive_t3 : TakeR 10 f3 4 5 0 f4 := .inr (.inr ⟨by decide, 5, ⟨by decide, fun i h1 h2 => by
    simp only [show (4 : Int).toNat = 4 from rfl] at h2
    rw [f3, turn_out (by omega), f2, turn_out (by omega), f1, turn_out (by omega)]; rfl, fun q hq ha => by
  have h := ha (max q 3) (by omega) (by simp only [show (4 : Int).toNat = 4 from rfl]; omega)
  rw [f3, turn_out (by omega), f2, turn_in (by omega) (by omega)] at h; cases h⟩, rfl, rfl, rfl⟩)
theorem alive_l : freeL f4 10 = [(0, 3), (9, 1)] := by decide

set_option maxHeartbeats 2000000 in
theorem alive_any (w : World) : Calls Try.prog 9 #[] w fun e w' => e = .returned (.bool true) ∧ Below w.heap.size w w' := by
  have B0 : Hid (∀ w1 w2, Below w.heap.size w w1 → Tu (fun k => w.heap.size ≤ k) w1 w2 → Below w.heap.size w w2) := fun w1 w2 b t => b.trans (t.below (fun i hi => hi) b.size)
  go_enter Try.func9, Try.ntmps9
  go_wp2_with fail
  refine (new_any 10 _ (by decide)).mono ?_
  rintro e w1 ⟨rfl, i1, b1⟩
  have I1 : Hid (IsR w1 (fun k => w.heap.size ≤ k) w.heap.size 10 f0) := i1
  have B1 : Hid (Below w.heap.size w w1) := b1
  clear i1 b1
  go_wp2_with fail
  refine (take_any _ _ 10 f0 3 _ I1.out (fun i hi => by have := B1.out.size; omega) (by decide) (by decide)).mono ?_
  rintro e w2 ⟨x2, r2, g2, rfl, t2, i2, u2⟩
  obtain ⟨rfl, rfl, rfl⟩ := alive_t1.one t2
  have I2 : Hid (IsR w2 (fun k => w.heap.size ≤ k) w.heap.size 10 f1) := i2
  have B2 : Hid (Below w.heap.size w w2) := B0.out _ _ B1.out u2
  clear t2 i2 u2
  go_wp2_with fail
  refine (take_any _ _ 10 f1 2 _ I2.out (fun i hi => by have := B2.out.size; omega) (by decide) (by decide)).mono ?_
  rintro e w3 ⟨x3, r3, g3, rfl, t3, i3, u3⟩
  obtain ⟨rfl, rfl, rfl⟩ := alive_t2.one t3
  have I3 : Hid (IsR w3 (fun k => w.heap.size ≤ k) w.heap.size 10 f2) := i3
  have B3 : Hid (Below w.heap.size w w3) := B0.out _ _ B2.out u3
  clear t3 i3 u3
  go_wp2_with fail
  refine (give_any _ _ 10 f2 0 3 _ I3.out (fun i hi => by have := B3.out.size; omega) (by decide) (by decide) (by decide)).mono ?_
  rintro e w4 ⟨r4, g4, rfl, t4, i4, u4⟩
  obtain ⟨rfl, rfl⟩ := alive_g.one t4
  have I4 : Hid (IsR w4 (fun k => w.heap.size ≤ k) w.heap.size 10 f3) := i4
  have B4 : Hid (Below w.heap.size w w4) := B0.out _ _ B3.out u4
  clear t4 i4 u4
  go_wp2_with fail
  refine (take_any _ _ 10 f3 4 _ I4.out (fun i hi => by have := B4.out.size; omega) (by decide) (by decide)).mono ?_
  rintro e w5 ⟨x5, r5, g5, rfl, t5, i5, u5⟩
  obtain ⟨rfl, rfl, rfl⟩ := alive_t3.one t5
  have I5 : Hid (IsR w5 (fun k => w.heap.size ≤ k) w.heap.size 10 f4) := i5
  have B5 : Hid (Below w.heap.size w w5) := B0.out _ _ B4.out u5
  clear t5 i5 u5
  go_wp2_with fail
  refine (free_any _ _ 10 f4 _ I5.out (by decide)).mono ?_
  rw [alive_l]
  rintro e w6 ⟨rfl, r6, b6⟩
  have y0 := r6.cell0 0 (by decide)
  have y1 := r6.cell1 0 (by decide)
  have y2 := r6.cell0 1 (by decide)
  have y3 := r6.cell1 1 (by decide)
  simp only [List.getElem_cons_zero, List.getElem_cons_succ, Nat.zero_mul, Nat.one_mul, Nat.zero_add] at y0 y1 y2 y3
  have B6 : Hid (Below w.heap.size w w6) := B5.out.trans (b6.mono B5.out.size)
  clear r6 b6
  go_wp2
  go_ret
  exact ⟨rfl, B6.out⟩
end Go.Proofs.Ytdpkmlkckhhcgaa
