/- The walk of SpanNil: a span that isn't there. -/
import Derived.Test.YtmahgdjbgkeecaaDoorSpJ
namespace Go.Proofs.YtmahgdjbgkeecaaDoor
open Go.RowKit
set_option linter.unusedVariables false

set_option maxRecDepth 20000 in
set_option maxHeartbeats 4000000 in
theorem spanNil_any (i : Int) (w : World) (hT : Tabs w) :
    Calls Tryd.prog 8 #[.int .i64 i] w fun e w' => e = .returned (.bool true) ∧ Below w.heap.size w w' := by
  have HT : Hid (Tabs w) := hT
  clear hT
  go_enter Tryd.func8, Tryd.ntmps8
  go_wp2_with (first
    | (go_at_call 28; refine (take_nil _).mono ?_; rintro e w' ⟨rfl, rfl⟩)
    | (go_at_call 30; refine (at_nil i _).mono ?_; rintro e w' ⟨rfl, rfl⟩)
    | (go_at_call 31; refine (slot_nil i _).mono ?_; rintro e w' ⟨rfl, rfl⟩)
    | (go_at_call 9; refine (alive_any w HT.out).mono ?_; rintro e w1 ⟨rfl, b1⟩; have B1 : Hid (Below w.heap.size w w1) := b1; have T1 : Hid (Tabs w1) := HT.out.keep b1; clear b1)
    | (go_at_call 18; refine (page_nil _).mono ?_; rintro e w' ⟨rfl, rfl⟩)
    | (go_at_call 23; refine (pages_nil w1 T1.out.1).mono ?_; rintro e w' ⟨rfl, rfl⟩)
    | (go_at_call 19; refine (class_nil _).mono ?_; rintro e w' ⟨rfl, rfl⟩)
    | (go_at_call 20; refine (size_nil _).mono ?_; rintro e w' ⟨rfl, rfl⟩)
    | (go_at_call 22; refine (slots_nil _).mono ?_; rintro e w' ⟨rfl, rfl⟩)
    | (go_at_call 13; refine (live_nil _).mono ?_; rintro e w' ⟨rfl, rfl⟩)
    | (go_at_call 32; refine (has_nil i _).mono ?_; rintro e w' ⟨rfl, rfl⟩)
    | (go_at_call 29; refine (give_nil i _).mono ?_; rintro e w' ⟨rfl, rfl⟩)
    | (go_at_call 16; refine (data_nil _).mono ?_; rintro e w2 ⟨rfl, b2⟩; have B2 : Hid (Below w.heap.size w w2) := B1.out.trans (b2.mono B1.out.size); clear b2)
    | (go_at_call 15; refine (same_true 0 0 0 none none 0 0 0 0 [] w2 (IsI.nil _ _) (IsI.nil _ _) rfl rfl (Nat.zero_le _)).mono ?_; rintro e w3 ⟨rfl, b3⟩; have B3 : Hid (Below w.heap.size w w3) := B2.out.trans (b3.mono B2.out.size); clear b3))
  go_ret
  exact ⟨rfl, B3.out⟩
end Go.Proofs.YtmahgdjbgkeecaaDoor
