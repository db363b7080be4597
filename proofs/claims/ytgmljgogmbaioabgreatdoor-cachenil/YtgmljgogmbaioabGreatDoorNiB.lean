/- The walk of CacheNil. -/
import Derived.Test.YtgmljgogmbaioabGreatDoorKaTU
namespace Go.Proofs.YtgmljgogmbaioabGreatDoor
open Go.RowKit
set_option linter.unusedVariables false
set_option maxRecDepth 4000

theorem free_none (P : Nat) (h : 1 ≤ P) : freeM P 0 [] = [(0, P)] := by unfold freeM; rw [if_pos (by omega)]; simp
set_option maxHeartbeats 1000000 in
theorem cacheNil_any (v n : Int) (w : World) (hT : Tabs w) : Calls Tryz.prog 3 #[.int .i64 v, .int .i64 n] w fun e w' => e = .returned (.bool true) ∧ Below w.heap.size w w' := by
  have HT : Hid (Tabs w) := hT
  clear hT
  go_enter Tryz.func3, Tryz.ntmps3
  go_wp2_with fail
  refine (kalive_any _ HT.out).mono ?_
  rintro e w1 ⟨rfl, b1⟩
  have T1 : Hid (Tabs w1) := HT.out.keep b1
  have B1 : Hid (Below w.heap.size w w1) := b1
  clear b1
  by_cases hbad : n < 1 ∨ 4096 < n ∨ v < 1 ∨ 8 < v
  · go_wp2_with (first
      | (go_at_call 5; refine (ktake_nil v n _ T1.out).mono ?_; rintro e w2 ⟨rfl, rfl⟩)
      | (go_at_call 6; refine (kgive_nil v n _).mono ?_; rintro e w2 ⟨rfl, rfl⟩)
      | (go_at_call 7; refine (kflush_nil v _).mono ?_; rintro e w2 ⟨rfl, rfl⟩)
      | (go_at_call 8; refine (kscav_nil _).mono ?_; rintro e w2 ⟨rfl, b2⟩; have B2 : Hid (Below w.heap.size w w2) := (B1.out.trans (b2.mono B1.out.size)); clear b2)
      | (go_at_call 9; refine (kspans_nil _).mono ?_; rintro e w3 ⟨rfl, rfl⟩)
      | (go_at_call 10; refine (kkept_nil v n _).mono ?_; rintro e w3 ⟨rfl, rfl⟩)
      | (go_at_call 11; refine (kfree_nil _).mono ?_; rintro e w3 ⟨rfl, rfl⟩)
      | (go_at_call 12; refine (klive_nil n _).mono ?_; rintro e w3 ⟨rfl, rfl⟩)
      | (go_at_call 13; refine (knew_bad n v _ hbad).mono ?_; rintro e w3 ⟨rfl, rfl⟩))
    all_goals first
      | (exfalso; omega)
      | (go_ret; exact ⟨by first | rfl | simp, B2.out⟩)
  · obtain ⟨P, rfl⟩ : ∃ P : Nat, n = (P : Int) := ⟨n.toNat, by omega⟩
    obtain ⟨W, rfl⟩ : ∃ W : Nat, v = (W : Int) := ⟨v.toNat, by omega⟩
    have hP : 1 ≤ P ∧ P ≤ 4096 := by omega
    have hW : 1 ≤ W ∧ W ≤ 8 := by omega
    have h1 : ¬ ((P : Int) < 1) := by omega
    have h2 : ¬ ((4096 : Int) < (P : Int)) := by omega
    have h3 : ¬ ((W : Int) < 1) := by omega
    have h4 : ¬ ((8 : Int) < (W : Int)) := by omega
    have EF : Hid (freeM P 0 [] = [(0, P)]) := free_none P hP.1
    have OKC : Hid (Okc P W []) := ⟨hP.1, hP.2, hW.1, hW.2, show Fit W P 0 [] from Nat.zero_le _⟩
    clear hbad
    go_wp2_with (first
      | (go_at_call 5; refine (ktake_nil _ _ _ T1.out).mono ?_; rintro e w2 ⟨rfl, rfl⟩)
      | (go_at_call 6; refine (kgive_nil _ _ _).mono ?_; rintro e w2 ⟨rfl, rfl⟩)
      | (go_at_call 7; refine (kflush_nil _ _).mono ?_; rintro e w2 ⟨rfl, rfl⟩)
      | (go_at_call 8; refine (kscav_nil _).mono ?_; rintro e w2 ⟨rfl, b2⟩; have B2 : Hid (Below w.heap.size w w2) := (B1.out.trans (b2.mono B1.out.size)); have T2 : Hid (Tabs w2) := T1.out.keep b2; clear b2)
      | (go_at_call 9; refine (kspans_nil _).mono ?_; rintro e w3 ⟨rfl, rfl⟩)
      | (go_at_call 10; refine (kkept_nil _ _ _).mono ?_; rintro e w3 ⟨rfl, rfl⟩)
      | (go_at_call 11; refine (kfree_nil _).mono ?_; rintro e w3 ⟨rfl, rfl⟩)
      | (go_at_call 12; refine (klive_nil _ _).mono ?_; rintro e w3 ⟨rfl, rfl⟩))
    refine (knew_any P W _ T2.out hP hW).mono ?_
    rintro e w3 ⟨cb, rfl, ⟨L3, hC3, hL3⟩, b3⟩
    have C3 : Hid (Ca w3 L3 cb P W []) := hC3
    have B3 : Hid (Below w.heap.size w w3) := B2.out.trans (b3.mono B2.out.size)
    clear hC3 hL3 b3
    go_wp2_with fail
    refine (kfree_any L3 cb P W [] _ C3.out OKC.out).mono ?_
    rw [EF.out]
    rintro e w4 ⟨rfl, r4, b4⟩
    have B4 : Hid (Below w.heap.size w w4) := B3.out.trans (b4.mono B3.out.size)
    have C4 : Hid (Ca w4 L3 cb P W []) := by obtain ⟨fb, hb, a, cap, ps, sh, hC⟩ := C3.out; exact ⟨fb, hb, a, cap, ps, sh, hC.keep (Ext.refl _ _) b4⟩
    have k4 : w4.cell? ⟨w3.heap.size, 1, none⟩ = some (.int .i64 (P : Nat)) := r4.cell1 0 (by simp)
    clear r4 b4
    go_wp2_with (go_at_call 9; refine (kspans_none L3 cb P W _ C4.out).mono ?_; rintro e w5 ⟨rfl, rfl⟩)
    go_ret
    exact ⟨by first | rfl | simp, B4.out⟩
end Go.Proofs.YtgmljgogmbaioabGreatDoor
