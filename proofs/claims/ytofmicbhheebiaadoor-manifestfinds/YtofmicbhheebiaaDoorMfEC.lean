/- errors.As of a number that a struct of the package's own wraps; the sector of an error. -/
import Derived.Test.YtofmicbhheebiaaDoorMfEB
namespace Go.Proofs.YtofmicbhheebiaaDoor
open Go.RowKit Go.Extern.Stop Go.Stop Go.Extern
set_option linter.unusedVariables false
set_option maxRecDepth 4000

set_option maxRecDepth 20000 in
set_option maxHeartbeats 8000000 in
theorem as_ref (t : Addr) (w : World) (hg : ErrT w) (htl : t.block < w.heap.size) :
    Calls Tryd.prog 36 #[refE, .iface 93 (.pointer (some t))] w fun ev w' => ev = .returned (.bool false) ∧ Below w.heap.size w w' := by
  unfold refE
  have hgc : w.cell? ⟨0, 0, none⟩ = some (.iface 132 (.agg #[.pointer (some ⟨1, 40, none⟩)])) := hg
  have a1 := asValuePP
  have a3 := asTypePP
  have a4 := asMethodKind
  have a5 := asMethodElem
  have a6 := asMethodImplements
  have a7 := asMethodAssignable
  have a8 := asKindPP
  have a9 := asKindP
  have b1 := asElemPP
  have b2 := asImplements
  have b3 : ∀ v w, (callFunc 51 #[.iface 83 v]).run Tryd.prog w = .ok (.value (.iface 132 (.agg #[.pointer (some ⟨1, 83, none⟩)]))) w := fun v w => asTypeOf _ v w (.inr (.inl rfl))
  have b3' : ∀ v w, (callFunc 51 #[.iface 27 v]).run Tryd.prog w = .ok (.value (.iface 132 (.agg #[.pointer (some ⟨1, 27, none⟩)]))) w := fun v w => asTypeOf _ v w (.inr (.inr rfl))
  have b4 := asAssignR
  have b5 := asAssignE
  have n1 := noAsE
  have n2 := noUnE
  have n3 := noUnsE
  have m1 := noAsR
  have m2 := hasUnR
  have m3 := methodUnR
  have hlt := lt_of_cell hgc
  have n8 := asIsNil ⟨w.heap.size, 0, none⟩ t ((w.alloc (.cells #[.pointer (some t)] 93)).alloc (.cells #[.pointer (some ⟨1, 93, none⟩), .pointer (some ⟨w.heap.size, 0, none⟩), .int .u64 150] 118)) (by simp)
  have hg2 : ((w.alloc (.cells #[.pointer (some t)] 93)).alloc (.cells #[.pointer (some ⟨1, 93, none⟩), .pointer (some ⟨w.heap.size, 0, none⟩), .int .u64 150] 118)).cell? ⟨0, 0, none⟩ = some (.iface 132 (.agg #[.pointer (some ⟨1, 40, none⟩)])) := by
    rw [World.cell?_alloc_lt _ _ ⟨0, 0, none⟩ (by simp), World.cell?_alloc_lt _ _ ⟨0, 0, none⟩ hlt]; exact hgc
  have BB : ∀ o : Obj, Below w.heap.size w ((((w.alloc (.cells #[.pointer (some t)] 93)).alloc (.cells #[.pointer (some ⟨1, 93, none⟩), .pointer (some ⟨w.heap.size, 0, none⟩), .int .u64 150] 118)).alloc (.cells #[.pointer (some ⟨1, 93, none⟩), .pointer (some ⟨w.heap.size, 0, none⟩), .int .u64 150] 118)).alloc o) :=
    fun o => ((((Below.refl _ w).alloc (Nat.le_refl _) _).alloc (by simp) _).alloc (by simp; omega) _).alloc (by simp; omega) _
  have HB : Hid (∀ o : Obj, Below w.heap.size w ((((w.alloc (.cells #[.pointer (some t)] 93)).alloc (.cells #[.pointer (some ⟨1, 93, none⟩), .pointer (some ⟨w.heap.size, 0, none⟩), .int .u64 150] 118)).alloc (.cells #[.pointer (some ⟨1, 93, none⟩), .pointer (some ⟨w.heap.size, 0, none⟩), .int .u64 150] 118)).alloc o)) := BB
  clear hg BB
  go_enter Tryd.func36, Tryd.ntmps36
  go_wp2
  refine wp_loop_rounds 2 ?_
  rw [rounds_succ]
  go_wp2
  rw [rounds_succ]
  go_wp2
  go_ret
  exact ⟨rfl, HB.out _⟩

set_option maxRecDepth 20000 in
set_option maxHeartbeats 4000000 in
/-- The sector at which an error was met. -/
theorem sector_any (v : Value) (c s : Int) (w : World) (h : ErrIs w v c s) (hg : ErrT w) : Calls Tryd.prog 16 #[v] w fun e w' => e = .returned (.int .i64 s) ∧ Below w.heap.size w w' := by
  rcases h with ⟨rfl, _, rfl⟩ | ⟨h0, h1, ⟨rfl, rfl, rfl⟩ | ⟨b, rfl, h3⟩⟩
  · refine (sector_nil w).mono ?_
    rintro e w' ⟨rfl, rfl⟩
    exact ⟨rfl, Below.refl _ _⟩
  · have b1 : Below w.heap.size w (w.alloc (.cells #[.pointer none] 91)) := (Below.refl _ w).alloc (Nat.le_refl _) _
    have AS : Hid (Calls Tryd.prog 36 #[refE, .iface 93 (.pointer (some ⟨w.heap.size, 0, none⟩))] (w.alloc (.cells #[.pointer none] 91)) fun ev w' => ev = .returned (.bool false) ∧ Below w.heap.size w w') := by
      refine (as_ref ⟨w.heap.size, 0, none⟩ _ (hg.keep b1) (by simp)).mono ?_
      rintro e w' ⟨rfl, b⟩
      exact ⟨rfl, b1.trans (b.mono b1.size)⟩
    clear h0 h1 hg
    unfold refE at AS ⊢
    go_enter Tryd.func16, Tryd.ntmps16
    go_wp2_with (go_at_call 36; refine Calls.mono AS.out ?_; rintro e w1 ⟨rfl, b1⟩)
    go_ret
    exact ⟨rfl, b1⟩
  · have b1 : Below w.heap.size w (w.alloc (.cells #[.pointer none] 91)) := (Below.refl _ w).alloc (Nat.le_refl _) _
    have hbl : b < w.heap.size := (Array.getElem?_eq_some_iff.1 h3).1
    have AS : Hid (Calls Tryd.prog 36 #[.iface 91 (.pointer (some ⟨b, 0, none⟩)), .iface 93 (.pointer (some ⟨w.heap.size, 0, none⟩))] (w.alloc (.cells #[.pointer none] 91)) fun ev w' => ev = .returned (.bool true) ∧ w'.cell? ⟨w.heap.size, 0, none⟩ = some (.pointer (some ⟨b, 0, none⟩)) ∧ w'.cell? ⟨b, 0, none⟩ = some (.int .i64 s) ∧ Below w.heap.size w w') := by
      refine (as_hit ⟨b, 0, none⟩ ⟨w.heap.size, 0, none⟩ (.pointer none) _ (hg.keep b1) (by simp) (by simp)).mono ?_
      rintro e w' ⟨rfl, w1, b2, rfl⟩
      have r1 : w1.heap[w.heap.size]? = some (.cells #[.pointer none] 91 (0, 0)) := by
        rw [b2.block w.heap.size (by simp)]; exact Go.heap_alloc_new _ _
      have o := Only.set w.heap.size 0 (.pointer (some ⟨b, 0, none⟩)) w1
      have B : Below w.heap.size w (w1.setCell ⟨w.heap.size, 0, none⟩ (.pointer (some ⟨b, 0, none⟩))) := (b1.trans (b2.mono b1.size)).trans (o.below (Nat.le_refl _))
      refine ⟨rfl, ?_, ?_, B⟩
      · exact cell_of_row _ _ 0 _ _ _ (set_same w1 w.heap.size 0 _ #[.pointer none] #[.pointer (some ⟨b, 0, none⟩)] 91 r1 rfl)
      · exact cell_of_row _ _ 0 _ _ _ (h3.keep B)
    clear h0 h1 hg h3
    unfold fltE
    go_enter Tryd.func16, Tryd.ntmps16
    go_wp2_with (go_at_call 36; refine Calls.mono AS.out ?_; rintro e w1 ⟨rfl, c1, c2, b1⟩)
    go_ret
    exact ⟨rfl, b1⟩
end Go.Proofs.YtofmicbhheebiaaDoor
