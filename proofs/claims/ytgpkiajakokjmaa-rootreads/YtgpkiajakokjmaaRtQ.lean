/- Layer 20: the document's first example: what alive answers; theirs, Entries, Same. -/
import Derived.Test.YtgpkiajakokjmaaRtJ
import Derived.Test.YtgpkiajakokjmaaKdH
import Derived.Laws.StructEq
namespace Go.Proofs.Ytgpkiajakokjmaa
open Go.RowKit
set_option linter.unusedVariables false
set_option maxRecDepth 4000

def x20 : Rt := ⟨256, 1, 1, 2, 1, 1, [⟨1, 0, 1, 11⟩, ⟨2, 0, 2, 10⟩, ⟨3, 0, 3, 40⟩]⟩
theorem al_right : rightR x20 8 = true := by decide +kernel
theorem al_body : bodyR x20 = [1, 1, 1, 2, 1, 1, 1, 1, 11, 2, 10, 0, 3, 40] := by decide +kernel
theorem al_bodyO : bodyO x20 8 = ([1, 1, 1, 2, 1, 1, 1, 1, 11, 2, 10, 0, 3, 40], 0) := by rw [← al_body]; exact if_pos al_right
theorem al_read : readR [1, 1, 1, 2, 1, 1, 1, 1, 11, 2, 10, 0, 3, 40] 8 = (x20, 0) := by rw [← al_body]; exact rread_back al_right (by omega)
theorem al_list : (listE 1 33 [4]).length = 4 := by decide +kernel
theorem al_s1 : ((bs [1, 1, 1, 2, 1, 1, 1, 1, 11, 2, 10, 0, 3, 40]).toList == [1, 1, 1, 2, 1, 1, 1, 1, 11, 2, 10, 0, 3, 40]) = true := by decide +kernel
theorem al_box (w : World) : ∃ E, (w.alloc (.cells #[.int .i64 1, .int .i64 0, .int .i64 1, .int .i64 11, .int .i64 2, .int .i64 0, .int .i64 2, .int .i64 10, .int .i64 3, .int .i64 0, .int .i64 3, .int .i64 40] 54)).alloc (.cells #[.int .i64 256, .int .i64 1, .int .i64 1, .int .i64 2, .int .i64 1, .int .i64 1, .slice (some ⟨w.heap.size, 0, none⟩) 3 3] 26) = E ∧
    E.heap[w.heap.size + 1]? = some (.cells #[.int .i64 256, .int .i64 1, .int .i64 1, .int .i64 2, .int .i64 1, .int .i64 1, .slice (some ⟨w.heap.size, 0, none⟩) 3 3] 26 (0, 0)) ∧ IsW E (some ⟨w.heap.size, 0, none⟩) x20.es ∧ Below w.heap.size w E := by
  refine ⟨_, rfl, ?_, ?_, (below_alloc w _).alloc (by simp) _⟩
  · have := Go.heap_alloc_new (w.alloc (.cells #[.int .i64 1, .int .i64 0, .int .i64 1, .int .i64 11, .int .i64 2, .int .i64 0, .int .i64 2, .int .i64 10, .int .i64 3, .int .i64 0, .int .i64 3, .int .i64 40] 54)) (.cells #[.int .i64 256, .int .i64 1, .int .i64 1, .int .i64 2, .int .i64 1, .int .i64 1, .slice (some ⟨w.heap.size, 0, none⟩) 3 3] 26)
    rw [show (w.alloc (.cells #[.int .i64 1, .int .i64 0, .int .i64 1, .int .i64 11, .int .i64 2, .int .i64 0, .int .i64 2, .int .i64 10, .int .i64 3, .int .i64 0, .int .i64 3, .int .i64 40] 54)).heap.size = w.heap.size + 1 by simp] at this
    exact this
  · have r : (w.alloc (.cells #[.int .i64 1, .int .i64 0, .int .i64 1, .int .i64 11, .int .i64 2, .int .i64 0, .int .i64 2, .int .i64 10, .int .i64 3, .int .i64 0, .int .i64 3, .int .i64 40] 54)).heap[w.heap.size]? = some (.cells #[.int .i64 1, .int .i64 0, .int .i64 1, .int .i64 11, .int .i64 2, .int .i64 0, .int .i64 2, .int .i64 10, .int .i64 3, .int .i64 0, .int .i64 3, .int .i64 40] 54 (0, 0)) := Go.heap_alloc_new w _
    refine IsW.keep (w := w.alloc (.cells #[.int .i64 1, .int .i64 0, .int .i64 1, .int .i64 11, .int .i64 2, .int .i64 0, .int .i64 2, .int .i64 10, .int .i64 3, .int .i64 0, .int .i64 3, .int .i64 40] 54)) ?_ (below_alloc _ _)
    refine .inr ⟨w.heap.size, 0, rfl, hlt r, fun i hi => ?_⟩
    rw [cell_of_row _ _ _ _ _ _ r, cell_of_row _ _ _ _ _ _ r, cell_of_row _ _ _ _ _ _ r, cell_of_row _ _ _ _ _ _ r]
    have hi' : i < 3 := hi
    rcases (by omega : i = 0 ∨ i = 1 ∨ i = 2) with rfl | rfl | rfl
    · exact ⟨rfl, rfl, rfl, rfl⟩
    · exact ⟨rfl, rfl, rfl, rfl⟩
    · exact ⟨rfl, rfl, rfl, rfl⟩
theorem x20_in : EI x20.es := by
  intro e he
  simp only [x20, List.mem_cons, List.not_mem_nil, or_false] at he
  rcases he with rfl | rfl | rfl <;> simp [inI]
set_option maxRecDepth 20000 in
set_option maxHeartbeats 8000000 in
theorem alive20 (w : World) : Calls Try.prog 8 #[] w fun e w' => e = .returned (.bool true) ∧ Below w.heap.size w w' := by
  obtain ⟨E, hE, rE, iE, bE⟩ := al_box w
  have HE : Hid ((w.alloc (.cells #[.int .i64 1, .int .i64 0, .int .i64 1, .int .i64 11, .int .i64 2, .int .i64 0, .int .i64 2, .int .i64 10, .int .i64 3, .int .i64 0, .int .i64 3, .int .i64 40] 54)).alloc (.cells #[.int .i64 256, .int .i64 1, .int .i64 1, .int .i64 2, .int .i64 1, .int .i64 1, .slice (some ⟨w.heap.size, 0, none⟩) 3 3] 26) = E) := hE
  have IE : Hid (IsW E (some ⟨w.heap.size, 0, none⟩) x20.es) := iE
  have BE : Hid (Below w.heap.size w E) := bE
  have CB : Hid (Calls Try.prog 11 #[.agg #[.int .i64 256, .int .i64 1, .int .i64 1, .int .i64 2, .int .i64 1, .int .i64 1, .slice (some ⟨w.heap.size, 0, none⟩) 3 3], .int .i64 8] E fun e w' => ∃ a' c, e = .returned (.tuple #[.slice a' 14 c, .int .i64 0]) ∧ OwnsB w' E.heap.size a' [1, 1, 1, 2, 1, 1, 1, 1, 11, 2, 10, 0, 3, 40] c ∧ Below E.heap.size E w') := by
    have q := cbody_any x20 8 (some ⟨w.heap.size, 0, none⟩) 3 E iE x20_in (by decide) (by omega) (by decide) (by decide)
    rw [al_bodyO] at q
    exact q
  obtain ⟨c0, c1, c2, c3, c4, c5, c6⟩ := seven rE
  clear hE rE iE bE
  go_enter Try.func8, Try.ntmps8
  go_upto_region 2 with (fail)
  rw [HE.out]
  go_wp2_with fail
  refine Calls.mono CB.out ?_
  rintro e w1 ⟨a1, k1, rfl, o1, b1⟩
  have B1 : Hid (Below w.heap.size w w1) := BE.out.trans (b1.mono BE.out.size)
  have I1 : Hid (IsB w1 a1 [1, 1, 1, 2, 1, 1, 1, 1, 11, 2, 10, 0, 3, 40]) := ownsB_isB (by intro x hx; simp at hx; omega) o1
  have N1 : Hid (a1 = none → ([1, 1, 1, 2, 1, 1, 1, 1, 11, 2, 10, 0, 3, 40] : List Int) = []) := fun e => by
    subst e
    obtain ⟨_, ⟨q, q2⟩ | ⟨g, c', cur, q, _⟩⟩ := o1
    · simp at q2
    · cases q
  have CR : Hid (Calls Try.prog 17 #[.slice a1 14 k1, .int .i64 8] w1 fun e w' => ∃ a c, e = .returned (.tuple #[.agg #[.int .i64 256, .int .i64 1, .int .i64 1, .int .i64 2, .int .i64 1, .int .i64 1, .slice a 3 c], .int .i64 0]) ∧ Ow w' w1.heap.size a x20.es c ∧ Below w1.heap.size w1 w') := by
    have q := cread_any a1 k1 [1, 1, 1, 2, 1, 1, 1, 1, 11, 2, 10, 0, 3, 40] 8 w1 I1.out (by decide) N1.out (by omega)
    unfold RdPost at q
    rw [al_read] at q
    exact q
  clear b1 o1 CB c0 c1 c2 c3 c4 c5 c6
  go_wp2_with fail
  refine Calls.mono CR.out ?_
  rintro e w2 ⟨a2, k2, rfl, o2, b2⟩
  obtain ⟨F, hF⟩ : ∃ F, w2.alloc (.cells #[.int .i64 256, .int .i64 1, .int .i64 1, .int .i64 2, .int .i64 1, .int .i64 1, .slice a2 3 k2] 26) = F := ⟨_, rfl⟩
  have bF : Below w2.heap.size w2 F := by rw [← hF]; exact below_alloc _ _
  have rF : F.heap[w2.heap.size]? = some (.cells #[.int .i64 256, .int .i64 1, .int .i64 1, .int .i64 2, .int .i64 1, .int .i64 1, .slice a2 3 k2] 26 (0, 0)) := by rw [← hF]; exact Go.heap_alloc_new w2 _
  obtain ⟨ga, rfl, _, _, _, _, _, u3⟩ := (o2.keep bF).cells 2 (by decide)
  have u3 : F.cell? ⟨ga, 11, none⟩ = some (.int .i64 40) := u3
  have BF : Hid (Below w.heap.size w F) := (B1.out.trans (b2.mono B1.out.size)).trans (bF.mono (Nat.le_trans B1.out.size b2.size))
  have k3 : (convert 30 9 (.slice a1 14 k1)).run Try.prog F = .ok (.string (bs [1, 1, 1, 2, 1, 1, 1, 1, 11, 2, 10, 0, 3, 40])) F := conv_run F a1 k1 [1, 1, 1, 2, 1, 1, 1, 1, 11, 2, 10, 0, 3, 40] ((I1.out.keep b2).keep bF)
  have HF : Hid (w2.alloc (.cells #[.int .i64 256, .int .i64 1, .int .i64 1, .int .i64 2, .int .i64 1, .int .i64 1, .slice (some ⟨ga, 0, none⟩) 3 k2] 26) = F) := hF
  obtain ⟨nf, hnf⟩ : ∃ nf, w2.heap.size = nf := ⟨_, rfl⟩
  rw [hnf] at rF
  have HNF : Hid (w2.heap.size = nf) := hnf
  have c6 : F.cell? ⟨nf, 6, none⟩ = some (.slice (some ⟨ga, 0, none⟩) 3 k2) := cell_of_row _ _ 6 _ _ _ rF
  have s1 := al_s1
  have CL : Hid (Calls Try.prog 20 #[.int .i64 1, .int .i64 33, .slice (some ⟨F.heap.size, 0, none⟩) 1 1] (F.alloc (.cells #[.int .i64 4] 3)) fun e w' => ∃ a' c, e = .returned (.slice a' 4 c) ∧ Below F.heap.size F w') := by
    refine (clist_any 1 33 (some ⟨F.heap.size, 0, none⟩) 1 [4] (F.alloc (.cells #[.int .i64 4] 3)) (by omega) (by omega) (one_isI F 4 (by omega)) (by decide)).mono ?_
    rintro e w' ⟨a', c, rfl, _, b⟩
    exact ⟨a', c, by rw [al_list], (below_alloc F _).trans (b.mono (by simp))⟩
  clear hF bF rF o2 b2 hnf CR
  go_upto_region 4 with (fail)
  rw [HF.out]
  try rw [HNF.out]
  go_wp2_with fail
  refine Calls.mono CL.out ?_
  rintro e w5 ⟨a5, c5, rfl, b5⟩
  have B5 : Hid (Below w.heap.size w w5) := BF.out.trans (b5.mono BF.out.size)
  clear b5
  go_wp2
  go_ret
  exact ⟨rfl, B5.out⟩
end Go.Proofs.Ytgpkiajakokjmaa
