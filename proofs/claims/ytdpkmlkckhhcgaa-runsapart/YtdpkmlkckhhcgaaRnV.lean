/- What do answers. -/
import Derived.Test.YtdpkmlkckhhcgaaRnM
import Derived.Test.YtdpkmlkckhhcgaaRnN
import Derived.Test.YtdpkmlkckhhcgaaRnO
import Derived.Test.YtdpkmlkckhhcgaaRnS
namespace Go.Proofs.Ytdpkmlkckhhcgaa
open Go.RowKit
set_option linter.unusedVariables false

/-- The code's units and the document's, side by side. -/
structure Two (w : World) (S : Nat → Prop) (b mb mg n : Nat) (f : Nat → Bool) : Prop where
  isR : IsR w S b n f
  ref : Ref w mb mg n f
  n1 : ¬ S mb
  n2 : ¬ S mg
  hS : ∀ i, w.heap.size ≤ i → S i
theorem Two.keep {w w' : World} {S : Nat → Prop} {b mb mg n : Nat} {f : Nat → Bool} (h : Two w S b mb mg n f) (hb : Below w.heap.size w w') : Two w' S b mb mg n f :=
  ⟨h.isR.keep hb, h.ref.keep hb, h.n1, h.n2, fun i hi => h.hS i (by have := hb.size; omega)⟩
theorem IsR.fresh {w w' : World} {S : Nat → Prop} {b n : Nat} {f : Nat → Bool} (h : IsR w S b n f) (g : Nat) (hb : Below w.heap.size w w') (hg : w.heap.size ≤ g) : IsR w' (fun k => S k ∧ k ≠ g) b n f := At.fresh h g hb hg
theorem IsR.wide {w : World} {S : Nat → Prop} {b n g : Nat} {f : Nat → Bool} (h : IsR w (fun k => S k ∧ k ≠ g) b n f) : IsR w S b n f := h.mono (fun i _ hs => hs.1)
theorem IsR.beside {w w' : World} {S : Nat → Prop} {b n g : Nat} {f : Nat → Bool} (h : IsR w S b n f) (ho : Only g w w') (hg : ¬ S g) : IsR w' S b n f := h.same (old_only ho hg)

theorem callC (w : World) (kd x k : Int) : (w.alloc (.cells #[.int .i64 kd, .int .i64 x, .int .i64 k] 31)).heap[w.heap.size]? = some (.cells #[.int .i64 kd, .int .i64 x, .int .i64 k] 31 (0, 0)) := Go.heap_alloc_new w _

set_option maxHeartbeats 4000000 in
theorem do_any (S : Nat → Prop) (b mb mg n : Nat) (f : Nat → Bool) (kd x k : Int) (w : World) (h : Two w S b mb mg n f) (hn : n ≤ 65536) (hx : -9223372036854775808 ≤ x ∧ x ≤ 9223372036854775807) (hk : -9223372036854775808 ≤ k ∧ k ≤ 9223372036854775807) :
    Calls Try.prog 11 #[.pointer (some ⟨b, 0, none⟩), .pointer (some ⟨mb, 0, none⟩), .agg #[.int .i64 kd, .int .i64 x, .int .i64 k]] w fun e w' => e = .returned (.bool true) ∧ ∃ f', Two w' S b mb mg n f' ∧ Tu (fun i => S i ∨ i = mg) w w' := by
  have H : Hid (Two w S b mb mg n f) := h
  obtain ⟨D, hD⟩ : ∃ D, w.alloc (.cells #[.int .i64 kd, .int .i64 x, .int .i64 k] 31) = D := ⟨_, rfl⟩
  have BD : Hid (Below w.heap.size w D) := by show Below _ _ _; rw [← hD]; exact (Below.refl _ w).alloc (Nat.le_refl _) _
  have SD : Hid (D.heap.size = w.heap.size + 1) := by show _ = _; rw [← hD]; simp
  have QD : Hid (D.heap[w.heap.size]? = some (.cells #[.int .i64 kd, .int .i64 x, .int .i64 k] 31 (0, 0))) := by show _ = _; rw [← hD]; exact callC w kd x k
  have ID : Hid (IsR D (fun k => S k ∧ k ≠ w.heap.size) b n f) := h.isR.fresh _ BD.out (Nat.le_refl _)
  have HS : Hid (∀ i, D.heap.size ≤ i → S i ∧ i ≠ w.heap.size) := fun i hi => ⟨h.hS i (by have := SD.out; omega), by have := SD.out; omega⟩
  have RD : Hid (Ref D mb mg n f) := h.ref.keep BD.out
  have N1 : Hid (¬ (S mb ∧ mb ≠ w.heap.size)) := fun e => h.n1 e.1
  have N2 : Hid (¬ (S mg ∧ mg ≠ w.heap.size)) := fun e => h.n2 e.1
  have q0 : D.cell? ⟨w.heap.size, 0, none⟩ = some (.int .i64 kd) := cell_of_row _ _ 0 _ _ _ QD.out
  have q1 : D.cell? ⟨w.heap.size, 1, none⟩ = some (.int .i64 x) := cell_of_row _ _ 1 _ _ _ QD.out
  have q2 : D.cell? ⟨w.heap.size, 2, none⟩ = some (.int .i64 k) := cell_of_row _ _ 2 _ _ _ QD.out
  have KEEP : Hid (∀ w1 j, Tu (fun k => S k ∧ k ≠ w.heap.size) D w1 → w1.cell? ⟨w.heap.size, j, none⟩ = D.cell? ⟨w.heap.size, j, none⟩) := fun w1 j ht => ht.cell (fun hs => hs.2 rfl) (by have := SD.out; omega)
  have KEEP2 : Hid (∀ w1 w2 j, Only mg w1 w2 → w2.cell? ⟨w.heap.size, j, none⟩ = w1.cell? ⟨w.heap.size, j, none⟩) := fun w1 w2 j ho => World.cell?_of_block (ho.block _ (by have := h.ref.lt.2; show w.heap.size ≠ mg; omega))
  have FIN : Hid (∀ w1 w2 f', IsR w1 (fun k => S k ∧ k ≠ w.heap.size) b n f' → Tu (fun k => S k ∧ k ≠ w.heap.size) D w1 → Ref w2 mb mg n f' → Only mg w1 w2 → Two w2 S b mb mg n f' ∧ Tu (fun i => S i ∨ i = mg) w w2) := fun w1 w2 f' i1 t1 r2 o2 =>
    ⟨⟨(i1.beside o2 N2.out).wide, r2, h.n1, h.n2, fun i hi => h.hS i (by have := BD.out.size; have := t1.size; have := o2.size; omega)⟩,
      ((Tu.ofBelow BD.out).trans (t1.mono (fun i _ hs => .inl hs.1))).only o2 (.inr rfl)⟩
  clear h
  by_cases k1 : kd = 1
  · subst k1
    go_enter Try.func11, Try.ntmps11
    go_wp2_with (first
      | (go_at_call 25; refine (rtake_any mb mg n f k _ R1.out hn hk).mono ?_; rintro e w2 ⟨x2, r2, f2, rfl, t2, m2, o2⟩; obtain ⟨rfl, rfl, rfl⟩ := T1.out.one t2; have E2 : Hid (Two w2 S b mb mg n f1 ∧ Tu (fun i => S i ∨ i = mg) w w2) := FIN.out w1 w2 f1 I1.out U1.out m2 o2; clear t2 m2 o2)
      | (go_at_call 19; refine (take_any (fun k => S k ∧ k ≠ w.heap.size) b n f k _ ID.out HS.out hn hk).mono ?_; rintro e w1 ⟨x1, r1, f1, rfl, t1, i1, u1⟩; have T1 : Hid (TakeR n f k x1 r1 f1) := t1; have I1 : Hid (IsR w1 (fun k => S k ∧ k ≠ w.heap.size) b n f1) := i1; have U1 : Hid (Tu (fun k => S k ∧ k ≠ w.heap.size) D w1) := u1; have R1 : Hid (Ref w1 mb mg n f) := RD.out.tu u1 N1.out N2.out; have p2 : w1.cell? ⟨w.heap.size, 2, none⟩ = some (.int .i64 k) := (KEEP.out w1 2 u1).trans q2; clear t1 i1 u1))
    go_ret
    exact ⟨rfl, f1, E2.out⟩
  · by_cases k2 : kd = 2
    · subst k2
      go_enter Try.func11, Try.ntmps11
      go_wp2_with fail
      go_region_held3 (fun w' => w'.cell? ⟨w.heap.size, 1, none⟩ = some (.int .i64 x) ∧ w'.cell? ⟨w.heap.size, 2, none⟩ = some (.int .i64 k)) (first | assumption | exact ⟨by assumption, by assumption⟩ | go_keep)
        (first
          | (go_at_call 26; refine (rmark_any mb mg n f x k _ R1.out hn hx hk).mono ?_; rintro e w2 ⟨r2, f2, rfl, t2, m2, o2⟩; obtain ⟨rfl, rfl⟩ := T1.out.one t2; have E2 : Hid (Two w2 S b mb mg n f1 ∧ Tu (fun i => S i ∨ i = mg) w w2) := FIN.out w1 w2 f1 I1.out U1.out m2 o2; have p12 : w2.cell? ⟨w.heap.size, 1, none⟩ = some (.int .i64 x) := (KEEP2.out w1 w2 1 o2).trans p11; have p22 : w2.cell? ⟨w.heap.size, 2, none⟩ = some (.int .i64 k) := (KEEP2.out w1 w2 2 o2).trans p21; clear t2 m2 o2)
          | (go_at_call 22; refine (mark_any (fun k => S k ∧ k ≠ w.heap.size) b n f x k _ ID.out.drew HS.out hn hx hk).mono ?_; rintro e w1 ⟨r1, f1, rfl, t1, i1, u1⟩; have T1 : Hid (TurnR n f x k true r1 f1) := t1; have I1 : Hid (IsR w1 (fun k => S k ∧ k ≠ w.heap.size) b n f1) := i1; have U1 : Hid (Tu (fun k => S k ∧ k ≠ w.heap.size) D w1) := ⟨u1.os, u1.tape, u1.output, u1.size, u1.block⟩; have R1 : Hid (Ref w1 mb mg n f) := RD.out.tu U1.out N1.out N2.out; have p11 : w1.cell? ⟨w.heap.size, 1, none⟩ = some (.int .i64 x) := (KEEP.out w1 1 U1.out).trans q1; have p21 : w1.cell? ⟨w.heap.size, 2, none⟩ = some (.int .i64 k) := (KEEP.out w1 2 U1.out).trans q2; clear t1 i1 u1))
      go_wp2
      go_ret
      exact ⟨rfl, f1, E2.out⟩
    · by_cases k3 : kd = 3
      · subst k3
        go_enter Try.func11, Try.ntmps11
        go_wp2_with fail
        go_region_held3 (fun w' => w'.cell? ⟨w.heap.size, 1, none⟩ = some (.int .i64 x) ∧ w'.cell? ⟨w.heap.size, 2, none⟩ = some (.int .i64 k)) (first | assumption | exact ⟨by assumption, by assumption⟩ | go_keep)
          (first
            | (go_at_call 27; refine (rgive_any mb mg n f x k _ R1.out hn hx hk).mono ?_; rintro e w2 ⟨r2, f2, rfl, t2, m2, o2⟩; obtain ⟨rfl, rfl⟩ := T1.out.one t2; have E2 : Hid (Two w2 S b mb mg n f1 ∧ Tu (fun i => S i ∨ i = mg) w w2) := FIN.out w1 w2 f1 I1.out U1.out m2 o2; have p12 : w2.cell? ⟨w.heap.size, 1, none⟩ = some (.int .i64 x) := (KEEP2.out w1 w2 1 o2).trans p11; have p22 : w2.cell? ⟨w.heap.size, 2, none⟩ = some (.int .i64 k) := (KEEP2.out w1 w2 2 o2).trans p21; clear t2 m2 o2)
            | (go_at_call 20; refine (give_any (fun k => S k ∧ k ≠ w.heap.size) b n f x k _ ID.out.drew HS.out hn hx hk).mono ?_; rintro e w1 ⟨r1, f1, rfl, t1, i1, u1⟩; have T1 : Hid (TurnR n f x k false r1 f1) := t1; have I1 : Hid (IsR w1 (fun k => S k ∧ k ≠ w.heap.size) b n f1) := i1; have U1 : Hid (Tu (fun k => S k ∧ k ≠ w.heap.size) D w1) := ⟨u1.os, u1.tape, u1.output, u1.size, u1.block⟩; have R1 : Hid (Ref w1 mb mg n f) := RD.out.tu U1.out N1.out N2.out; have p11 : w1.cell? ⟨w.heap.size, 1, none⟩ = some (.int .i64 x) := (KEEP.out w1 1 U1.out).trans q1; have p21 : w1.cell? ⟨w.heap.size, 2, none⟩ = some (.int .i64 k) := (KEEP.out w1 2 U1.out).trans q2; clear t1 i1 u1))
        go_wp2
        go_ret
        exact ⟨rfl, f1, E2.out⟩
      · by_cases k4 : kd = 4
        · subst k4
          go_enter Try.func11, Try.ntmps11
          go_wp2_with fail
          go_region_held3 (fun w' => w'.cell? ⟨w.heap.size, 1, none⟩ = some (.int .i64 x)) (first | assumption | go_keep)
            (first
              | (go_at_call 28; refine (rhas_any mb mg n f x _ R1.out hn).mono ?_; rw [HE.out]; rintro e w2 ⟨rfl, rfl⟩)
              | (go_at_call 16; refine (has_any (fun k => S k ∧ k ≠ w.heap.size) b n f x _ ID.out.drew hn hx).mono ?_; obtain ⟨v, hv⟩ : ∃ v, hasF n f x = v := ⟨_, rfl⟩; have HE : Hid (hasF n f x = v) := hv; rw [hv]; clear hv; rintro e w1 ⟨rfl, u1⟩; have U1 : Hid (Below D.heap.size D w1) := ⟨u1.os, u1.tape, u1.output, u1.size, u1.block⟩; have R1 : Hid (Ref w1 mb mg n f) := RD.out.keep U1.out; have I1 : Hid (IsR w1 (fun k => S k ∧ k ≠ w.heap.size) b n f) := ID.out.keep U1.out; have p11 : w1.cell? ⟨w.heap.size, 1, none⟩ = some (.int .i64 x) := bcellK U1.out q1; clear u1))
          go_wp2
          go_ret
          have E2 := FIN.out w1 w1 f I1.out (Tu.ofBelow U1.out) R1.out (Only.refl _ _)
          first | exact ⟨rfl, f, E2⟩ | exact ⟨by simp, f, E2⟩
        · have m1 : (kd == 1) = false := beq_eq_false_iff_ne.2 k1
          have m2 : (kd == 2) = false := beq_eq_false_iff_ne.2 k2
          have m3 : (kd == 3) = false := beq_eq_false_iff_ne.2 k3
          have m4 : (kd == 4) = false := beq_eq_false_iff_ne.2 k4
          go_enter Try.func11, Try.ntmps11
          go_wp2
          go_ret
          exact ⟨rfl, f, FIN.out D D f ID.out (Tu.refl _ _) RD.out (Only.refl _ _)⟩
end Go.Proofs.Ytdpkmlkckhhcgaa
