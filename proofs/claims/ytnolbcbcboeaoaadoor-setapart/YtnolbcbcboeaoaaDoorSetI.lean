/- What Copy answers, and what it makes. -/
import Derived.Test.YtnolbcbcboeaoaaDoorSetG
import Derived.RegionTactic
import Derived.Laws.CopyRow
import Derived.Laws.IdiomCopy
namespace Go.Proofs.YtnolbcbcboeaoaaDoor
open Go.RowKit
set_option linter.unusedVariables false

/-- The words of a set, side by side. -/
def wordsL (f : Nat → Bool) (m : Nat) : List Value := (List.range m).map fun j => Value.int .u64 (wd f j : Nat)

theorem wordsL_at (f : Nat → Bool) (m j : Nat) (h : j < m) : (wordsL f m)[j]? = some (.int .u64 (wd f j : Nat)) := by simp [wordsL, h]

theorem Tryd.size62 : (Tryd.prog.info? 62).map (·.size) = some 1 := by kernel_rfl

/-- 'copy' of all words of one set over those of another. -/
theorem copy_run (w : World) (g g' m : Nat) (f : Nat → Bool) (cur : Array Value) (hg : w.heap[g']? = some (.cells cur 62 (0, 0))) (hc : cur.size = m) (hsrc : ∀ j, j < m → w.cell? ⟨g, j, none⟩ = some (.int .u64 (wd f j : Nat))) :
    ∃ w2, (∀ ty, (Builtin.copy_ #[59, 59] ty #[.slice (some ⟨g', 0, none⟩) m m, .slice (some ⟨g, 0, none⟩) m m]).run Tryd.prog w = .ok (.int .i64 m) w2) ∧ Only g' w w2 ∧
      (∀ j, j < m → w2.cell? ⟨g', j, none⟩ = some (.int .u64 (wd f j : Nat))) ∧ ∀ j, w2.frozen? ⟨g', j, none⟩ = false := by
  have hl : (wordsL f m).length = m := by simp [wordsL]
  by_cases h0 : m = 0
  · subst h0
    refine ⟨w, fun ty => run_copy_none w _ _ ty 62 _ _ _ _ _ _ Tryd.underlying59 Tryd.size62 rfl, Only.refl _ _, fun j hj => by omega, fun j => ?_⟩
    simp [World.frozen?, hg]
  · have hrun := fun ty => run_copy_row (P := Tryd.prog) w 59 59 ty 62 g' 0 m m ⟨g, 0, none⟩ m m cur 62 (wordsL f m) Tryd.underlying59 Tryd.size62 hg (by rw [hl]; exact (Nat.min_self m).symm)
      (fun j v hv => by
        have hj : j < m := by have := (List.getElem?_eq_some_iff.1 hv).1; omega
        rw [wordsL_at f m j hj] at hv
        cases hv
        have := hsrc j hj
        by_cases e : j = 0
        · subst e; simpa [Addr.add] using this
        · simpa [Addr.add, e] using this)
      (by rw [hl]; omega) (fun v hv => by obtain ⟨j, _, rfl⟩ := List.mem_map.1 hv; rfl)
    have ea : (cur.toList.take 0 ++ wordsL f m ++ cur.toList.drop (0 + (wordsL f m).length)).toArray = (wordsL f m).toArray := by
      rw [hl, List.drop_eq_nil_of_le (by simp; omega)]
      simp
    have hrun' : ∀ ty, (Builtin.copy_ #[59, 59] ty #[.slice (some ⟨g', 0, none⟩) m m, .slice (some ⟨g, 0, none⟩) m m]).run Tryd.prog w = .ok (.int .i64 m) (w.setRow g' (wordsL f m).toArray) := fun ty => by
      rw [hrun ty, ea, hl]; rfl
    refine ⟨_, hrun', ?_, ?_, ?_⟩
    · exact ⟨rfl, rfl, rfl, by simp [World.setRow], fun k hk => setRow_other w g' k _ hk⟩
    · intro j hj
      rw [cell_setRow_same w g' j cur _ 62 (0, 0) hg]
      simpa using wordsL_at f m j hj
    · intro j
      simp only [World.frozen?, setRow_heap w g' cur (wordsL f m).toArray 62 (0, 0) hg]
      simp

theorem newW_heap (w : World) (n : Nat) : (newW w n).heap[w.heap.size]? = some (.cells (madeCells #[.int .u64 0] ((n + 63) / 64)) 62 (0, 0)) := by
  rw [newW, Below.heap_alloc _ _ _ (by simp)]
  show (w.heap.push _)[w.heap.size]? = _
  simp

set_option maxHeartbeats 1000000 in
theorem copy_any (b g n : Nat) (f : Nat → Bool) (w : World) (h : SetAt w b g n f) :
    Calls Tryd.prog 25 #[.pointer (some ⟨b, 0, none⟩)] w fun e w' => e = .returned (.pointer (some ⟨w.heap.size + 1, 0, none⟩)) ∧ SetAt w' (w.heap.size + 1) w.heap.size n f ∧ Below w.heap.size w w' := by
  have hl := h.len
  have few := h.few
  have HS : Hid (SetAt w b g n f) := h
  have hcl : clampN n = n := by rw [clampN, if_neg (by omega), if_neg (by omega)]; omega
  have HCL : Hid (clampN n = n) := hcl
  clear h hcl
  go_enter Tryd.func25, Tryd.ntmps25
  go_wp2_with (go_at_call 28; refine (new_any _ _).mono ?_; rintro e w1 ⟨rfl, hw1⟩)
  rw [HCL.out] at hw1
  have N1 : SetAt w1 (w.heap.size + 1) w.heap.size n (fun _ => false) := by rw [← hw1]; exact newW_at w n few
  have B1 : Below w.heap.size w w1 := by rw [← hw1]; exact newW_below w n
  have S1 : SetAt w1 b g n f := HS.out.keepAll B1
  have hh1 : w1.heap[w.heap.size]? = some (.cells (madeCells #[.int .u64 0] ((n + 63) / 64)) 62 (0, 0)) := by rw [← hw1]; exact newW_heap w n
  obtain ⟨w2, hcp, ho, hcell, hfr⟩ := copy_run w1.drew g w.heap.size ((n + 63) / 64) f _ hh1 (size_madeCells _ _) S1.word
  have HE : Hid (SetAt w2 (w.heap.size + 1) w.heap.size n f) :=
    ⟨by rw [ho.cell (p := ⟨w.heap.size + 1, 0, none⟩) N1.apart]; exact N1.len, by rw [ho.cell (p := ⟨w.heap.size + 1, 1, none⟩) N1.apart]; exact N1.words, hcell, hfr, few, HS.out.within,
      by rw [ho.size]; exact N1.hb, by rw [ho.size]; exact N1.hg, N1.apart⟩
  have BE : Hid (Below w.heap.size w w2) := B1.drew.trans (ho.below (Nat.le_refl _))
  have k1 := N1.words
  have k2 := S1.words
  clear ho hcell hfr hw1 hh1 N1 S1 B1
  go_region
  all_goals go_wp2
  all_goals go_ret
  all_goals exact ⟨rfl, HE.out, BE.out⟩
end Go.Proofs.YtnolbcbcboeaoaaDoor
