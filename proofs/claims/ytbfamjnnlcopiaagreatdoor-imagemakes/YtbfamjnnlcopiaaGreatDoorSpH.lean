/- A span in memory: noneOf, New; what alive answers. -/
import Derived.Test.YtbfamjnnlcopiaaGreatDoorGzAE
namespace Go.Proofs.YtbfamjnnlcopiaaGreatDoor
open Go.RowKit
set_option linter.unusedVariables false
set_option maxRecDepth 4000

theorem bfrozen {w w' : World} {p : Addr} {v : Value} (hb : Below w.heap.size w w') (h : w.cell? p = some v) (z : w.frozen? p = false) : w'.frozen? p = false := (hb.frozen (World.block_lt_of_cell? w p h)).trans z

theorem noneOf_any (n : Nat) (x : Int) (w : World) (hx : x = (n : Int)) (hn : n ≤ 65536) :
    Calls Tryz.prog 110 #[.int .i64 x] w fun e w' => e = .returned (.agg #[.pointer (some ⟨w.heap.size + 2, 0, none⟩)]) ∧ SetAt w' (w.heap.size + 2) (w.heap.size + 1) n (fun _ => false) ∧ Below w.heap.size w w' := by
  subst hx
  have EC : Hid (clampN (n : Int) = n) := by show _ = _; unfold clampN; rw [if_neg (by omega), if_neg (by omega)]; omega
  obtain ⟨w1, hw1⟩ : ∃ w1, w.alloc (.cells #[.pointer none] 136) = w1 := ⟨_, rfl⟩
  have HW : Hid (w.alloc (.cells #[.pointer none] 136) = w1) := hw1
  have sz1 : w1.heap.size = w.heap.size + 1 := by rw [← hw1]; simp
  have row1 : w1.heap[w.heap.size]? = some (.cells #[.pointer none] 136 (0, 0)) := by rw [← hw1]; exact Go.heap_alloc_new w _
  have q0 : w1.cell? ⟨w.heap.size, 0, none⟩ = some (.pointer none) := cell_of_row _ _ 0 _ _ _ row1
  have z0 : w1.frozen? ⟨w.heap.size, 0, none⟩ = false := frozen_of_row _ _ 0 _ _ row1
  have B1 : Hid (Below w.heap.size w w1) := by show Below _ _ _; rw [← hw1]; exact (Below.refl _ w).alloc (Nat.le_refl _) _
  clear hw1 row1
  have SZ : Hid (w1.heap.size = w.heap.size + 1) := sz1
  clear sz1
  go_enter Tryz.func110, Tryz.ntmps110
  go_wp2_with fail
  rw [HW.out]
  refine (snew_any (n : Int) w1).mono ?_
  rintro e w2 ⟨rfl, hw2⟩
  rw [EC.out] at hw2
  have sz1 := SZ.out
  have b2 : Below w1.heap.size w1 w2 := by rw [← hw2]; exact newW_below w1 n
  have s2 : SetAt w2 (w1.heap.size + 1) w1.heap.size n (fun _ => false) := by rw [← hw2]; exact newW_at w1 n hn
  have q2 := bcell b2 q0
  have z2 := bfrozen b2 q0 z0
  have B2 : Hid (Below w.heap.size w w2) := B1.out.trans (b2.mono (by omega))
  clear hw2 b2 q0 z0
  rw [sz1] at s2
  rw [show w1.heap.size + 1 = w.heap.size + 2 from by omega]
  obtain ⟨k, hk⟩ : ∃ k, w.heap.size + 2 = k := ⟨_, rfl⟩
  rw [show w.heap.size + 1 + 1 = k from hk] at s2
  rw [hk]
  have S3 : Hid (SetAt (w2.setCell ⟨w.heap.size, 0, none⟩ (.pointer (some ⟨k, 0, none⟩))) k (w.heap.size + 1) n (fun _ => false)) := s2.beside (Only.set w.heap.size 0 (.pointer (some ⟨k, 0, none⟩)) w2) (by omega) (by omega)
  have B3 : Hid (Below w.heap.size w (w2.setCell ⟨w.heap.size, 0, none⟩ (.pointer (some ⟨k, 0, none⟩)))) := B2.out.setCell (Nat.le_refl _) _
  have q3 : (w2.setCell ⟨w.heap.size, 0, none⟩ (.pointer (some ⟨k, 0, none⟩))).cell? ⟨w.heap.size, 0, none⟩ = some (.pointer (some ⟨k, 0, none⟩)) := cell_set q2
  have HK : Hid (w.heap.size + 2 = k) := hk
  clear s2 sz1 hk
  go_wp2
  refine bodyPost_ret (v := .agg #[.pointer (some ⟨k, 0, none⟩)]) (by simp [results, Tryz.results110, go_sem, q3]) rfl ?_
  rw [HK.out]
  exact ⟨rfl, S3.out, B3.out⟩

/-- What New lays ahead of the check. -/
theorem newbox (w : World) (p c s : Int) : ∃ w1, w.alloc (.cells #[.int .i64 p, .int .i64 c, .int .i64 s, .pointer none] 138) = w1 ∧ w1.heap.size = w.heap.size + 1 ∧ Bx w1 w.heap.size p c s ∧ w1.cell? ⟨w.heap.size, 3, none⟩ = some (.pointer none) ∧ w1.frozen? ⟨w.heap.size, 3, none⟩ = false ∧ Below w.heap.size w w1 := by
  have row1 := Go.heap_alloc_new w (.cells #[.int .i64 p, .int .i64 c, .int .i64 s, .pointer none] 138)
  exact ⟨_, rfl, by simp, ⟨cell_of_row _ _ 0 _ _ _ row1, cell_of_row _ _ 1 _ _ _ row1, cell_of_row _ _ 2 _ _ _ row1⟩, cell_of_row _ _ 3 _ _ _ row1, frozen_of_row _ _ 3 _ _ row1, (Below.refl _ w).alloc (Nat.le_refl _) _⟩

theorem new_bad (p c s : Int) (w : World) (hT : Tabs w) (hp : -9223372036854775808 ≤ p ∧ p ≤ 9223372036854775807) (x : Int) (hx : newE p c s = x) (h0 : x ≠ 0) :
    Calls Tryz.prog 81 #[.int .i64 p, .int .i64 c, .int .i64 s] w fun e w' => e = .returned (.tuple #[.pointer none, .int .i64 x]) ∧ Below w.heap.size w w' := by
  obtain ⟨w1, hw1, sz1, hB, q3, z3, b1⟩ := newbox w p c s
  have HW : Hid (w.alloc (.cells #[.int .i64 p, .int .i64 c, .int .i64 s, .pointer none] 138) = w1) := hw1
  have HB : Hid (Bx w1 w.heap.size p c s) := hB
  have B1 : Hid (Below w.heap.size w w1) := b1
  have T1 : Hid (TabC w1) := hT.1.keep b1
  have HX : Hid (newE p c s = x) := hx
  have hne : (x == 0) = false := beq_eq_false_iff_ne.2 h0
  have hne' : (x != 0) = true := by rw [bne, hne]; rfl
  clear hw1 hB b1 hT q3 z3 hx h0
  go_enter Tryz.func81, Tryz.ntmps81
  go_wp2_with fail
  rw [HW.out]
  refine (check_any w.heap.size p c s w1 HB.out T1.out hp).mono ?_
  rw [HX.out]
  rintro e w2 ⟨rfl, b2⟩
  have B2 : Hid (Below w.heap.size w w2) := B1.out.trans (b2.mono (by omega))
  clear b2
  go_wp2
  go_ret2
  exact ⟨rfl, B2.out⟩

set_option maxHeartbeats 1000000 in
theorem new_ok (p c s : Int) (w : World) (hT : Tabs w) (r : Rt p c s) (hE : newE p c s = 0) :
    Calls Tryz.prog 81 #[.int .i64 p, .int .i64 c, .int .i64 s] w fun e w' => ∃ sb b g, e = .returned (.tuple #[.pointer (some ⟨sb, 0, none⟩), .int .i64 0]) ∧ SpanAt w' sb b g p c s (fun _ => false) ∧ Below w.heap.size w w' ∧ w.heap.size ≤ sb ∧ w.heap.size ≤ b ∧ w.heap.size ≤ g := by
  obtain ⟨w1, hw1, sz1, hB, q3, z3, b1⟩ := newbox w p c s
  have HW : Hid (w.alloc (.cells #[.int .i64 p, .int .i64 c, .int .i64 s, .pointer none] 138) = w1) := hw1
  have HB : Hid (Bx w1 w.heap.size p c s) := hB
  have B1 : Hid (Below w.heap.size w w1) := b1
  have T1 : Hid (TabC w1) := hT.1.keep b1
  have HX : Hid (newE p c s = 0) := hE
  have R : Hid (Rt p c s) := r
  have hp : -9223372036854775808 ≤ p ∧ p ≤ 9223372036854775807 := by have := r.p0; have := r.p1; omega
  have F : Hid (slN c ≤ 65536) := by show slN c ≤ 65536; have := r.facts.2.1; omega
  clear hw1 hB b1 hT hE r
  go_enter Tryz.func81, Tryz.ntmps81
  go_wp2_with fail
  rw [HW.out]
  refine (check_any w.heap.size p c s w1 HB.out T1.out hp).mono ?_
  rw [HX.out]
  rintro e w2 ⟨rfl, b2⟩
  have B2 : Hid (Below w.heap.size w w2) := B1.out.trans (b2.mono (by omega))
  have HB2 : Hid (Bx w2 w.heap.size p c s) := HB.out.keep b2
  have T2 : Hid (TabC w2) := T1.out.keep b2
  have q32 := bcell b2 q3
  have z32 := bfrozen b2 q3 z3
  have sz2 : w.heap.size + 1 ≤ w2.heap.size := by have := b2.size; omega
  clear b2 q3 z3
  go_wp2_with (first
    | (go_at_call 78; refine (slots_rt w.heap.size p c s w2 HB2.out T2.out R.out (slN c) rfl).mono ?_; rintro e w' ⟨rfl, rfl⟩)
    | (go_at_call 110; refine (noneOf_any (slN c) _ w2 rfl F.out).mono ?_; rintro e w3 ⟨rfl, s3, b3⟩; have S3 : Hid (SetAt w3 (w2.heap.size + 2) (w2.heap.size + 1) (slN c) (fun _ => false)) := s3; have B3 : Hid (Below w2.heap.size w2 w3) := b3; have q33 := bcell b3 q32; have z33 := bfrozen b3 q32 z32; clear s3 b3))
  go_ret2
  have O := Only.set w.heap.size 3 (.pointer (some ⟨w2.heap.size + 2, 0, none⟩)) w3
  have HB3 := HB2.out.keep B3.out
  refine ⟨w.heap.size, w2.heap.size + 2, w2.heap.size + 1, rfl, ⟨⟨?_, ?_, ?_⟩, cell_set q33, S3.out.beside O (by omega) (by omega), by omega, by omega⟩, (B2.out.trans (B3.out.mono (by omega))).setCell (Nat.le_refl _) _, Nat.le_refl _, by omega, by omega⟩
  · rw [cell_else (by decide)]; exact HB3.b0
  · rw [cell_else (by decide)]; exact HB3.b1
  · rw [cell_else (by decide)]; exact HB3.b2

end Go.Proofs.YtbfamjnnlcopiaaGreatDoor
