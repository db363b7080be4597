/- The document's examples. -/
import Derived.Test.YtjdgildeilcfiaaHdH
namespace Go.Proofs.Ytjdgildeilcfiaa
open Go.RowKit
set_option linter.unusedVariables false

theorem Mine.mono {b : Nat} {a a' : Option Addr} {w w' w'' : World} (h : Tu (Mine b a) w w') (k : Tu (Mine b a') w' w'') (ha : ob a' = ob a ∨ ∃ g, ob a' = some g ∧ w.heap.size ≤ g) : Tu (Mine b a) w w'' :=
  ⟨k.os.trans h.os, k.tape.trans h.tape, k.output.trans h.output, Nat.le_trans h.size k.size, fun i o ho hk => k.block i o (h.block i o ho hk) (by
    rintro (e | e)
    · exact hk (.inl e)
    · rcases ha with q | ⟨g, q, hg⟩
      · exact hk (.inr (by rw [← q]; exact e))
      · rw [q] at e
        have := Option.some.inj e
        have := hlt ho
        omega)⟩
theorem Ct.below {w w' : World} {B b : Nat} {a : Option Addr} {c n : Nat} {L : List Rw} (h : Ct w B b a c n L) (ht : Tu (Mine b a) w w') (hB : B ≤ w.heap.size) : Below B w w' := ht.below (fun i hi => by
  rcases hi with e | e
  · rw [e]; exact h.bb
  · exact (h.row.ge i e).1) hB

def exA : List Rw := [⟨1, true, 1, 2⟩]
def exB : List Rw := [⟨1, true, 1, 2⟩, ⟨1, true, 3, 4⟩]
theorem ex_a : makeL [] 1 2 = exA ∧ nxL [] = 0 ∧ makeG [] = 1 ∧ ofN ((0 : Nat) + 1) 1 = 65537 := ⟨rfl, rfl, rfl, by decide⟩
theorem ex_b : makeL exA 3 4 = exB ∧ nxL exA = 1 ∧ makeG exA = 1 ∧ ofN ((1 : Nat) + 1) 1 = 65538 := ⟨rfl, rfl, rfl, by decide⟩
theorem ex_c : nxL exB = 2 := rfl
theorem ex_g : LvAt exB 65538 1 := ⟨⟨1, true, 3, 4⟩, rfl, rfl, by decide, by decide⟩
theorem ex_d : LvAt exB 65537 0 := ⟨⟨1, true, 1, 2⟩, rfl, rfl, by decide, by decide⟩
theorem ex_o : ofN 1 2 = 131073 := by decide

set_option maxHeartbeats 4000000 in
theorem alive_any (w : World) : Calls Try.prog 9 #[] w fun e w' => e = .returned (.bool true) ∧ Below w.heap.size w w' := by
  go_enter Try.func9, Try.ntmps9
  go_wp2_with fail
  refine (new_ok 2 _ (by decide) (by decide)).mono ?_
  rintro e w1 ⟨b, a1, c1, rfl, k1, b1⟩
  have K1 : Hid (Ct w1 w.heap.size b a1 c1 2 []) := k1
  have B1 : Hid (Below w.heap.size w w1) := b1
  clear k1 b1
  go_wp2_with fail
  refine (make_any w.heap.size b a1 c1 2 [] 1 2 _ K1.out B1.out.size (by decide)).mono ?_
  rw [ex_a.2.1, ex_a.2.2.1, ex_a.2.2.2, ex_a.1]
  rintro e w2 ⟨a2, c2, rfl, k2, u2, _⟩
  have K2 : Hid (Ct w2 w.heap.size b a2 c2 2 exA) := k2
  have B2 : Hid (Below w.heap.size w w2) := B1.out.trans (K1.out.below u2 B1.out.size)
  clear k2 u2
  go_wp2_with fail
  refine (make_any w.heap.size b a2 c2 2 exA 3 4 _ K2.out B2.out.size (by decide)).mono ?_
  rw [ex_b.2.1, ex_b.2.2.1, ex_b.2.2.2, ex_b.1]
  rintro e w3 ⟨a3, c3, rfl, k3, u3, _⟩
  have K3 : Hid (Ct w3 w.heap.size b a3 c3 2 exB) := k3
  have B3 : Hid (Below w.heap.size w w3) := B2.out.trans (K2.out.below u3 B2.out.size)
  clear k3 u3
  go_wp2_with fail
  refine (make_full w.heap.size b a3 c3 2 exB 5 6 _ K3.out (by decide)).mono ?_
  rintro e w4 ⟨rfl, b4⟩
  have K4 : Hid (Ct w4 w.heap.size b a3 c3 2 exB) := K3.out.keep b4
  have B4 : Hid (Below w.heap.size w w4) := B3.out.trans (b4.mono B3.out.size)
  clear b4
  go_wp2_with fail
  refine (get_ok w.heap.size b a3 c3 2 exB 65538 1 _ K4.out (by decide) ex_g).mono ?_
  rw [show (gtL exB 1).kind = 3 from rfl, show (gtL exB 1).pl = 4 from rfl]
  rintro e w5 ⟨rfl, m5, rfl⟩
  have K5 : Hid (Ct (w4.drewN m5) w.heap.size b a3 c3 2 exB) := K4.out.drewN m5
  have B5 : Hid (Below w.heap.size w (w4.drewN m5)) := ⟨B4.out.os, B4.out.tape, B4.out.output, B4.out.size, B4.out.block⟩
  obtain ⟨wq, hwq⟩ : ∃ wq, w4.drewN m5 = wq := ⟨_, rfl⟩
  rw [hwq] at K5 B5 ⊢
  clear hwq
  go_wp2_with (first
    | (go_at_call 22; refine (drop_ok w.heap.size b a3 c3 2 exB 65537 0 _ K5.out (by decide) ex_d).mono ?_; rintro e w6 ⟨rfl, k6, u6⟩; have B6 : Hid (Below w.heap.size w w6) := B5.out.trans (K5.out.below u6 B5.out.size); clear k6 u6)
    | (go_at_call 18; refine (of_any 1 2 _ (by decide) (by decide)).mono ?_; rw [ex_o]; rintro e w7 ⟨rfl, rfl⟩))
  go_ret
  exact ⟨rfl, B6.out⟩
end Go.Proofs.Ytjdgildeilcfiaa
