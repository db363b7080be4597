/- Layer 18: a kind is read, behind a fault or not, and ReadKinds' closure. -/
import Derived.Test.YtjalagjnhjaaoaaPhE
import Derived.Test.YtjalagjnhjaaoaaPgH
namespace Go.Proofs.Ytjalagjnhjaaoaa
open Go.RowKit
set_option linter.unusedVariables false
set_option maxRecDepth 4000

set_option maxHeartbeats 2000000 in
/-- Read behind a fault, or the size is none. -/
theorem read_flt (B : Nat) (l l1 : List Int) (e0 e1 er : Int) (w : World) (h : RdAt w B l e0) (hu : upS l e0 4096 = (0, l1, e1)) (he : failV e1 4 = er) (hne : er ≠ 0) :
    Calls Try.prog 43 #[.pointer (some ⟨B, 0, none⟩)] w (ReadPost w B 0 [] [] er) := by
  have HR : Hid (RdAt (w.alloc (.cells #[.int .i64 0, .slice none 0 0] 54)) B l e0) := rd_keep h ((Below.refl _ _).alloc (Nat.le_refl _) _)
  have HU : Hid (upS l e0 4096 = (0, l1, e1)) := hu
  have HE : Hid (failV e1 4 = er) := he
  have hB := h.lt
  have hq : (er != 0) = true := by rw [bne_iff_ne]; exact hne
  have HV : Hid (upS l1 er 16 = (0, l1, er)) := by show _ = _; rw [upS, if_neg hne]
  clear h hu he
  go_enter Try.func43, Try.ntmps43
  go_wp2_with fail
  refine (upto_any B l e0 4096 _ HR.out).mono ?_
  rw [HU.out]
  rintro r w1 ⟨rfl, r1, g1⟩
  obtain ⟨x1, x2, x3, x4⟩ := boxes 0 hB (Tg.ofGrown g1)
  obtain ⟨D, hD⟩ : ∃ D, w1.alloc (.cells #[.int .i64 0, .slice none 0 0] 54) = D := ⟨_, rfl⟩
  have R1 : Hid (RdAt D B l1 e1) := by show RdAt _ _ _ _; rw [← hD]; exact rd_keep r1 ((Below.refl _ _).alloc (Nat.le_refl _) _)
  rw [hD] at x1 x2 x3
  have HD : Hid _ := hD
  clear hD
  have X2 : Hid _ := x2
  have X3 : Hid (Tg B w D) := x3
  clear r1 g1 x1 x2 x3
  go_wp2_with fail
  rw [HD.out]
  refine (fail_any B l1 e1 4 _ R1.out).mono ?_
  rw [HE.out]
  rintro r w2 ⟨rfl, r2, g2⟩
  have R2 : Hid (RdAt w2 B l1 er) := r2
  have T2 : Hid (Tg B D w2) := Tg.ofGrown g2
  clear r2 g2
  go_wp2_with fail
  refine (upto_any B l1 er 16 _ R2.out).mono ?_
  rw [HV.out]
  rintro r w3 ⟨rfl, r3, g3⟩
  have R3 : Hid (RdAt w3 B l1 er) := r3
  have T3 : Hid (Tg B D w3) := T2.out.trans (Tg.ofGrown g3)
  clear r3 g3
  have hz : D.heap.size ≤ w3.heap.size := T3.out.size
  have x5 : w3.heap[w.heap.size]? = some (.cells #[.int .i64 0, .slice none 0 0] 54 (0, 0)) := by rw [T3.out.block _ (Array.getElem?_eq_some_iff.1 X2.out).1 (by omega)]; exact X2.out
  obtain ⟨m0, m1, mz0, mz1⟩ := cells_box x5
  have f0 := laid0 (k := 0) (v := .slice none 0 0) m0
  have e1' := laid1 (k := 0) (v := .slice none 0 0) m1
  have F : Hid (RdAt (laid w3 w.heap.size 0 (.slice none 0 0)) B l1 er ∧ Tg B w (laid w3 w.heap.size 0 (.slice none 0 0))) := ⟨R3.out.tg laid_tg (by omega), (X3.out.trans T3.out).laid (Nat.le_refl _)⟩
  unfold laid at f0 e1'
  clear x5
  go_wp2
  refine wp_loop_rounds 1 ?_
  rw [rounds_succ]
  go_wp2_with (go_at_call 54; refine (err_any B l1 er _ R3.out).mono ?_; rintro r w' ⟨rfl, rfl⟩)
  refine bodyPost_ret (v := .agg #[.int .i64 0, .slice none 0 0]) (by simp [results, Try.results43, go_sem, f0, e1']) rfl ⟨none, 0, l1, rfl, IsI.nil _ _, fun _ => ⟨rfl, rfl⟩, F.out.1, fun h => absurd h hne, F.out.2, fun ad h => by cases h⟩

/-- What becomes of a kind that is read, behind a fault or not. -/
def KindR (l : List Int) (e0 : Int) (x : Int × List Int) (l' : List Int) (e' : Int) : Prop :=
  (e' = 0 ∧ e0 = 0 ∧ kdRd l = (x, l', 0)) ∨ (e' ≠ 0 ∧ ((e0 ≠ 0 ∧ e' = e0) ∨ (e0 = 0 ∧ (kdRd l).2.2 = e')))
/-- What Read leaves behind, whatever was ahead. -/
def KinP18 (w : World) (B : Nat) (l : List Int) (e0 : Int) (e : Ending) (w' : World) : Prop :=
  ∃ (k : Kd) (l' : List Int) (e' : Int), e = .returned (.agg #[.int .i64 k.s, .slice k.a k.l.length k.c]) ∧ RdAt w' B l' e' ∧ Tg B w w' ∧ IsI w' k.a k.l ∧ (k.a = none → k.l = [] ∧ k.c = 0) ∧ k.l.length ≤ maxLen ∧ (∀ ad, k.a = some ad → w.heap.size ≤ ad.block) ∧ KindR l e0 (kp k) l' e'
theorem kread18_any (B : Nat) (l : List Int) (e0 : Int) (w : World) (h : RdAt w B l e0) :
    Calls Try.prog 43 #[.pointer (some ⟨B, 0, none⟩)] w (KinP18 w B l e0) := by
  by_cases he : e0 = 0
  · subst he
    obtain ⟨s, ps, rest, er, hk⟩ : ∃ s ps rest er, readK l = (s, ps, rest, er) := ⟨_, _, _, _, rfl⟩
    have hr : kdRd l = ((s, ps), rest, er) := by unfold kdRd; rw [hk]
    refine (read_any B l s ps rest er w h hk).mono ?_
    rintro e w' ⟨a', c', l', rfl, hI, hn, hR, hl, t, hf⟩
    have q := read_good h.allB hk
    have hm : ps.length ≤ maxLen := by
      rcases q with ⟨_, q, _⟩ | ⟨_, _, q, _⟩
      · have := (check_zero.1 q).2.2.1; unfold maxLen; omega
      · rw [q]; exact Nat.zero_le _
    refine ⟨⟨s, a', c', ps⟩, l', er, rfl, hR, t, hI, hn, hm, hf, ?_⟩
    by_cases h0 : er = 0
    · exact .inl ⟨h0, rfl, by rw [hr, h0, hl h0]; rfl⟩
    · exact .inr ⟨h0, .inr ⟨rfl, by rw [hr]⟩⟩
  · refine (read_flt B l l e0 e0 e0 w h (up_stop he) (if_neg he) he).mono ?_
    rintro e w' ⟨a', c', l', rfl, hI, hn, hR, hl, t, hf⟩
    exact ⟨⟨0, a', c', []⟩, l', e0, rfl, hR, t, hI, hn, Nat.zero_le _, hf, .inr ⟨he, .inl ⟨he, rfl⟩⟩⟩
set_option maxRecDepth 20000 in
set_option maxHeartbeats 4000000 in
/-- What ReadKinds gives: the next kind. -/
theorem preadkinds1_any (B R : Nat) (l : List Int) (e0 : Int) (w : World) (h : RdAt w B l e0) (hR : w.cell? ⟨R, 0, none⟩ = some (.pointer (some ⟨B, 0, none⟩))) (hRs : R < w.heap.size) :
    Calls Try.prog 42 #[.pointer (some ⟨R, 0, none⟩)] w (KinP18 w B l e0) := by
  have hB := h.lt
  obtain ⟨D, hD⟩ : ∃ D, w.alloc (.cells #[.int .i64 0, .slice none 0 0] 54) = D := ⟨_, rfl⟩
  have rD : D.heap[w.heap.size]? = some (.cells #[.int .i64 0, .slice none 0 0] 54 (0, 0)) := by rw [← hD]; exact Go.heap_alloc_new w _
  have bD : Below w.heap.size w D := by rw [← hD]; exact (Below.refl _ w).alloc (Nat.le_refl _) _
  have HD : Hid (w.alloc (.cells #[.int .i64 0, .slice none 0 0] 54) = D) := hD
  have R0 : Hid (RdAt D B l e0) := rd_keep h bD
  have RD : Hid (D.heap[w.heap.size]? = some (.cells #[.int .i64 0, .slice none 0 0] 54 (0, 0))) := rD
  have BD : Hid (Below w.heap.size w D) := bD
  have c0 : D.cell? ⟨R, 0, none⟩ = some (.pointer (some ⟨B, 0, none⟩)) := by rw [bD.cell (p := ⟨R, 0, none⟩) hRs]; exact hR
  have zD := hlt rD
  clear h hD rD bD hR
  go_enter Try.func42, Try.ntmps42
  go_upto_region 1 with (fail)
  rw [HD.out]
  go_wp2_with fail
  refine (kread18_any B l e0 _ R0.out).mono ?_
  rintro e w1 ⟨⟨s, ka, kc, ps⟩, l', e', rfl, r1, t1, hI, hn, hm, hf, rr⟩
  simp only at hI hn hm hf
  have x1 : w1.heap[w.heap.size]? = some (.cells #[.int .i64 0, .slice none 0 0] 54 (0, 0)) := by rw [t1.block _ zD (by omega)]; exact RD.out
  obtain ⟨m0, m1, mz0, mz1⟩ := cells_box x1
  have f0 := laid0 (k := s) (v := .slice ka ps.length kc) m0
  have f1 := laid1 (k := s) (v := .slice ka ps.length kc) m1
  have on : Only w.heap.size w1 (laid w1 w.heap.size s (.slice ka ps.length kc)) := laid_only
  have hf2 : ∀ ad, ka = some ad → w.heap.size < ad.block := fun ad e => by have := hf ad e; omega
  have F9 : Hid (KinP18 w B l e0 (.returned (.agg #[.int .i64 s, .slice ka ps.length kc])) (laid w1 w.heap.size s (.slice ka ps.length kc))) := by
    refine ⟨⟨s, ka, kc, ps⟩, l', e', rfl, r1.tg laid_tg (by omega), ((Tg.ofBelow BD.out).trans t1).onto on (Nat.le_refl _), ?_, hn, hm, fun ad e => Nat.le_of_lt (hf2 ad e), rr⟩
    exact isI_stay hI (Nat.le_of_eq on.size.symm) (fun ad e _ => on.block _ (by have := hf2 ad e; omega))
  unfold laid at f0 f1
  clear x1 r1 t1 rr c0 hI hn hm hf hf2 on
  go_wp2
  refine bodyPost_ret (v := .agg #[.int .i64 s, .slice ka ps.length kc]) (by simp [results, Try.results42, go_sem, f0, f1]) rfl ?_
  exact F9.out
end Go.Proofs.Ytjalagjnhjaaoaa
