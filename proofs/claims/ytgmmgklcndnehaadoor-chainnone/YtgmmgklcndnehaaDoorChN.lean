/- Layer 19: the walk of ChainNone. -/
import Derived.Test.YtgmmgklcndnehaaDoorChH
namespace Go.Proofs.YtgmmgklcndnehaaDoor
open Go.RowKit Go.Maps
set_option linter.unusedVariables false
set_option maxRecDepth 4000

theorem none_arg {first n : Int} (h : n < 1 ∨ 65542 < n) : rdC (newD 8) first n = ([], [], 2, -1) := if_neg (by omega)
theorem none_far {first n : Int} (h : 1 ≤ n ∧ n ≤ 65542) (hf : first < 1 ∨ 6 < first) : rdC (newD 8) first n = ([], [], 4, first) := by
  have e : secE (newD 8) [] first n.toNat = 4 := secE_bad (.inr (by show ¬ (1 ≤ first ∧ first ≤ ((8 : Nat) : Int) - 2); omega))
  unfold rdC
  rw [if_pos h, rdG_bad (by omega) (by rw [e]; decide), e]
theorem none_sum {first n : Int} (h : 1 ≤ n ∧ n ≤ 65542) (hf : 1 ≤ first ∧ first ≤ 6) : rdC (newD 8) first n = ([], [], 5, first) := by
  have hc : closedE (newD 8) first = 0 := closedE_zero.2 ⟨rfl, by omega, by show first < ((8 : Nat) : Int); omega⟩
  have rd : readL (newD 8) first = zeros := by rw [readL, if_pos hc]; rfl
  have so : sumOkC zeros = false := by decide +kernel
  have e : secE (newD 8) [] first n.toNat = 5 := by
    rw [secE_of (by simp) hf.1 (by show first ≤ ((8 : Nat) : Int) - 2; omega)]
    unfold rsE
    rw [if_neg (by decide), rd, so, if_pos rfl]
  unfold rdC
  rw [if_pos h, rdG_bad (by omega) (by rw [e]; decide), e]

set_option maxRecDepth 20000 in
set_option maxHeartbeats 4000000 in
theorem none1 (first n : Int) (w : World) (hT : ErrT w) (hf : -9223372036854775808 ≤ first ∧ first ≤ 9223372036854775807) (hn : -9223372036854775808 ≤ n ∧ n ≤ 9223372036854775807) (h1 : n < 1) :
    Calls Tryd.prog 7 #[.int .i64 first, .int .i64 n] w fun e w' => e = .returned (.bool true) ∧ Below w.heap.size w w' := by
  obtain ⟨N, hN⟩ : ∃ N, w.heap.size = N := ⟨_, rfl⟩
  have HN : Hid (w.heap.size = N) := hN
  have HT : Hid (∀ w', Below N w w' → ErrT w') := fun w' b => hT.keep (by rw [hN]; exact b)
  have RN : Hid (∀ w' : World, Calls Tryd.prog 24 #[.pointer none, .int .i64 first, .int .i64 n] w' fun e w2 => ∃ ab cb as0 cs ev, e = .returned (.tuple #[.slice ab 0 cb, .slice as0 0 cs, ev]) ∧ ErrIs w2 ev 1 (-1) ∧ Below w'.heap.size w' w2) := fun w' => by
    refine (hread_nil first n w').mono ?_
    rintro e w2 ⟨ab, cb, as0, cs, ev, rfl, _, _, q3, q4⟩
    exact ⟨ab, cb, as0, cs, ev, rfl, q3, q4⟩
  have RD : Hid (∀ w' b, IsD w' b (b + 2) 0 (newD 8) → Calls Tryd.prog 24 #[.pointer (some ⟨b + 2, 0, none⟩), .int .i64 first, .int .i64 n] w' fun e w2 => ∃ ab cb as0 cs ev, e = .returned (.tuple #[.slice ab 0 cb, .slice as0 0 cs, ev]) ∧ ErrIs w2 ev 2 (-1) ∧ Below w'.heap.size w' w2) := fun w' b hD => by
    have q := hread_any b (b + 2) 0 (newD 8) first n w' hD hf
    rw [none_arg (.inl h1)] at q
    refine q.mono ?_
    rintro e w2 ⟨ab, cb, as0, cs, ev, rfl, _, _, q3, q4⟩
    exact ⟨ab, cb, as0, cs, ev, rfl, q3, q4⟩
  have MT : ∀ w2, Below N w w2 → N ≤ w2.heap.size := fun w2 b => by rw [← hN]; exact b.size
  have HM : Hid (∀ w2, Below N w w2 → N ≤ w2.heap.size) := MT
  have CNT : Hid True := trivial
  clear hN MT hT
  go_enter Tryd.func7, Tryd.ntmps7
  go_wp2_with (first
    | (go_at_call 8; refine (alive19 _ (HT.out _ (Below.refl _ _))).mono ?_; rw [HN.out]; rintro e w1 ⟨rfl, b1⟩; have B1 : Hid (Below N w w1) := b1; clear b1)
    | (have _ := B3; go_at_call 24; refine (RD.out _ _ D4.out).mono ?_; rintro e w5 ⟨ab, cb, as0, cs, ev, rfl, er, b5⟩; have E5 : Hid (ErrIs w5 ev 2 (-1)) := er; have B5 : Hid (Below N w w5) := B4.out.trans (b5.mono (HM.out _ B4.out)); clear er b5; have B6 := B5)
    | (go_at_call 24; refine (RN.out _).mono ?_; rintro e w2 ⟨ab, cb, as0, cs, ev, rfl, er, b2⟩; have E2 : Hid (ErrIs w2 ev 1 (-1)) := er; have B2 : Hid (Below N w w2) := B1.out.trans (b2.mono (HM.out _ B1.out)); clear er b2)
    | (have _ := B5; go_at_call 12; refine (code_any ev 2 (-1) _ E5.out).mono ?_; rintro e w6 ⟨rfl, b6⟩; have E6 : Hid (ErrIs w6 ev 2 (-1)) := E5.out.keep b6; have B6 : Hid (Below N w w6) := B5.out.trans (b6.mono (HM.out _ B5.out)); clear b6)
    | (go_at_call 12; refine (code_any ev 1 (-1) _ E2.out).mono ?_; rintro e w3 ⟨rfl, b3⟩; have E3 : Hid (ErrIs w3 ev 1 (-1)) := E2.out.keep b3; have B3 : Hid (Below N w w3) := B2.out.trans (b3.mono (HM.out _ B2.out)); clear b3)
    | (have _ := E6; go_at_call 26; refine (sector_any ev 2 (-1) _ E6.out (HT.out _ B6.out)).mono ?_; rintro e w7 ⟨rfl, b7⟩; have B7 : Hid (Below N w w7) := B6.out.trans (b7.mono (HM.out _ B6.out)); clear b7)
    | (go_at_call 26; refine (sector_any ev 1 (-1) _ E3.out (HT.out _ B3.out)).mono ?_; rintro e w3b ⟨rfl, b3⟩; have B3b : Hid (Below N w w3b) := B3.out.trans (b3.mono (HM.out _ B3.out)); clear b3)
    | (go_at_call 29; refine (new_fit 8 _ (by decide) (by decide)).mono ?_; rintro e w4 ⟨rfl, rfl⟩; have D4 : Hid (IsD (newW w3b 8) w3b.heap.size (w3b.heap.size + 2) 0 (newD 8)) := newW_is w3b w3b.heap.size 8 (Nat.le_refl _) (by decide); have B4 : Hid (Below N w (newW w3b 8)) := B3b.out.trans ((newW_below w3b 8).mono (HM.out _ B3b.out)))
    | fail)
  go_ret
  exact ⟨rfl, by rw [HN.out]; exact B7.out⟩

set_option maxRecDepth 20000 in
set_option maxHeartbeats 4000000 in
theorem none2 (first n : Int) (w : World) (hT : ErrT w) (hf : -9223372036854775808 ≤ first ∧ first ≤ 9223372036854775807) (hn : -9223372036854775808 ≤ n ∧ n ≤ 9223372036854775807) (h0 : ¬ n < 1) (h1 : 65542 < n) :
    Calls Tryd.prog 7 #[.int .i64 first, .int .i64 n] w fun e w' => e = .returned (.bool true) ∧ Below w.heap.size w w' := by
  obtain ⟨N, hN⟩ : ∃ N, w.heap.size = N := ⟨_, rfl⟩
  have HN : Hid (w.heap.size = N) := hN
  have HT : Hid (∀ w', Below N w w' → ErrT w') := fun w' b => hT.keep (by rw [hN]; exact b)
  have RN : Hid (∀ w' : World, Calls Tryd.prog 24 #[.pointer none, .int .i64 first, .int .i64 n] w' fun e w2 => ∃ ab cb as0 cs ev, e = .returned (.tuple #[.slice ab 0 cb, .slice as0 0 cs, ev]) ∧ ErrIs w2 ev 1 (-1) ∧ Below w'.heap.size w' w2) := fun w' => by
    refine (hread_nil first n w').mono ?_
    rintro e w2 ⟨ab, cb, as0, cs, ev, rfl, _, _, q3, q4⟩
    exact ⟨ab, cb, as0, cs, ev, rfl, q3, q4⟩
  have RD : Hid (∀ w' b, IsD w' b (b + 2) 0 (newD 8) → Calls Tryd.prog 24 #[.pointer (some ⟨b + 2, 0, none⟩), .int .i64 first, .int .i64 n] w' fun e w2 => ∃ ab cb as0 cs ev, e = .returned (.tuple #[.slice ab 0 cb, .slice as0 0 cs, ev]) ∧ ErrIs w2 ev 2 (-1) ∧ Below w'.heap.size w' w2) := fun w' b hD => by
    have q := hread_any b (b + 2) 0 (newD 8) first n w' hD hf
    rw [none_arg (.inr h1)] at q
    refine q.mono ?_
    rintro e w2 ⟨ab, cb, as0, cs, ev, rfl, _, _, q3, q4⟩
    exact ⟨ab, cb, as0, cs, ev, rfl, q3, q4⟩
  have MT : ∀ w2, Below N w w2 → N ≤ w2.heap.size := fun w2 b => by rw [← hN]; exact b.size
  have HM : Hid (∀ w2, Below N w w2 → N ≤ w2.heap.size) := MT
  have CNT : Hid True := trivial
  clear hN MT hT
  go_enter Tryd.func7, Tryd.ntmps7
  go_wp2_with (first
    | (go_at_call 8; refine (alive19 _ (HT.out _ (Below.refl _ _))).mono ?_; rw [HN.out]; rintro e w1 ⟨rfl, b1⟩; have B1 : Hid (Below N w w1) := b1; clear b1)
    | (have _ := B3; go_at_call 24; refine (RD.out _ _ D4.out).mono ?_; rintro e w5 ⟨ab, cb, as0, cs, ev, rfl, er, b5⟩; have E5 : Hid (ErrIs w5 ev 2 (-1)) := er; have B5 : Hid (Below N w w5) := B4.out.trans (b5.mono (HM.out _ B4.out)); clear er b5; have B6 := B5)
    | (go_at_call 24; refine (RN.out _).mono ?_; rintro e w2 ⟨ab, cb, as0, cs, ev, rfl, er, b2⟩; have E2 : Hid (ErrIs w2 ev 1 (-1)) := er; have B2 : Hid (Below N w w2) := B1.out.trans (b2.mono (HM.out _ B1.out)); clear er b2)
    | (have _ := B5; go_at_call 12; refine (code_any ev 2 (-1) _ E5.out).mono ?_; rintro e w6 ⟨rfl, b6⟩; have E6 : Hid (ErrIs w6 ev 2 (-1)) := E5.out.keep b6; have B6 : Hid (Below N w w6) := B5.out.trans (b6.mono (HM.out _ B5.out)); clear b6)
    | (go_at_call 12; refine (code_any ev 1 (-1) _ E2.out).mono ?_; rintro e w3 ⟨rfl, b3⟩; have E3 : Hid (ErrIs w3 ev 1 (-1)) := E2.out.keep b3; have B3 : Hid (Below N w w3) := B2.out.trans (b3.mono (HM.out _ B2.out)); clear b3)
    | (have _ := E6; go_at_call 26; refine (sector_any ev 2 (-1) _ E6.out (HT.out _ B6.out)).mono ?_; rintro e w7 ⟨rfl, b7⟩; have B7 : Hid (Below N w w7) := B6.out.trans (b7.mono (HM.out _ B6.out)); clear b7)
    | (go_at_call 26; refine (sector_any ev 1 (-1) _ E3.out (HT.out _ B3.out)).mono ?_; rintro e w3b ⟨rfl, b3⟩; have B3b : Hid (Below N w w3b) := B3.out.trans (b3.mono (HM.out _ B3.out)); clear b3)
    | (go_at_call 29; refine (new_fit 8 _ (by decide) (by decide)).mono ?_; rintro e w4 ⟨rfl, rfl⟩; have D4 : Hid (IsD (newW w3b 8) w3b.heap.size (w3b.heap.size + 2) 0 (newD 8)) := newW_is w3b w3b.heap.size 8 (Nat.le_refl _) (by decide); have B4 : Hid (Below N w (newW w3b 8)) := B3b.out.trans ((newW_below w3b 8).mono (HM.out _ B3b.out)))
    | fail)
  go_ret
  exact ⟨rfl, by rw [HN.out]; exact B7.out⟩

set_option maxRecDepth 20000 in
set_option maxHeartbeats 4000000 in
theorem none3 (first n : Int) (w : World) (hT : ErrT w) (hf : -9223372036854775808 ≤ first ∧ first ≤ 9223372036854775807) (hn : -9223372036854775808 ≤ n ∧ n ≤ 9223372036854775807) (h0 : ¬ n < 1) (h1 : ¬ 65542 < n) (h2 : first < 1) :
    Calls Tryd.prog 7 #[.int .i64 first, .int .i64 n] w fun e w' => e = .returned (.bool true) ∧ Below w.heap.size w w' := by
  obtain ⟨N, hN⟩ : ∃ N, w.heap.size = N := ⟨_, rfl⟩
  have HN : Hid (w.heap.size = N) := hN
  have HT : Hid (∀ w', Below N w w' → ErrT w') := fun w' b => hT.keep (by rw [hN]; exact b)
  have RN : Hid (∀ w' : World, Calls Tryd.prog 24 #[.pointer none, .int .i64 first, .int .i64 n] w' fun e w2 => ∃ ab cb as0 cs ev, e = .returned (.tuple #[.slice ab 0 cb, .slice as0 0 cs, ev]) ∧ ErrIs w2 ev 1 (-1) ∧ Below w'.heap.size w' w2) := fun w' => by
    refine (hread_nil first n w').mono ?_
    rintro e w2 ⟨ab, cb, as0, cs, ev, rfl, _, _, q3, q4⟩
    exact ⟨ab, cb, as0, cs, ev, rfl, q3, q4⟩
  have RD : Hid (∀ w' b, IsD w' b (b + 2) 0 (newD 8) → Calls Tryd.prog 24 #[.pointer (some ⟨b + 2, 0, none⟩), .int .i64 first, .int .i64 n] w' fun e w2 => ∃ ab cb as0 cs ev, e = .returned (.tuple #[.slice ab 0 cb, .slice as0 0 cs, ev]) ∧ ErrIs w2 ev 4 (first) ∧ Below w'.heap.size w' w2) := fun w' b hD => by
    have q := hread_any b (b + 2) 0 (newD 8) first n w' hD hf
    rw [none_far ⟨by omega, by omega⟩ (.inl h2)] at q
    refine q.mono ?_
    rintro e w2 ⟨ab, cb, as0, cs, ev, rfl, _, _, q3, q4⟩
    exact ⟨ab, cb, as0, cs, ev, rfl, q3, q4⟩
  have MT : ∀ w2, Below N w w2 → N ≤ w2.heap.size := fun w2 b => by rw [← hN]; exact b.size
  have HM : Hid (∀ w2, Below N w w2 → N ≤ w2.heap.size) := MT
  have CNT : Hid True := trivial
  clear hN MT hT
  go_enter Tryd.func7, Tryd.ntmps7
  go_wp2_with (first
    | (go_at_call 8; refine (alive19 _ (HT.out _ (Below.refl _ _))).mono ?_; rw [HN.out]; rintro e w1 ⟨rfl, b1⟩; have B1 : Hid (Below N w w1) := b1; clear b1)
    | (have _ := B3; go_at_call 24; refine (RD.out _ _ D4.out).mono ?_; rintro e w5 ⟨ab, cb, as0, cs, ev, rfl, er, b5⟩; have E5 : Hid (ErrIs w5 ev 4 (first)) := er; have B5 : Hid (Below N w w5) := B4.out.trans (b5.mono (HM.out _ B4.out)); clear er b5; have B6 := B5)
    | (go_at_call 24; refine (RN.out _).mono ?_; rintro e w2 ⟨ab, cb, as0, cs, ev, rfl, er, b2⟩; have E2 : Hid (ErrIs w2 ev 1 (-1)) := er; have B2 : Hid (Below N w w2) := B1.out.trans (b2.mono (HM.out _ B1.out)); clear er b2)
    | (have _ := B5; go_at_call 12; refine (code_any ev 4 (first) _ E5.out).mono ?_; rintro e w6 ⟨rfl, b6⟩; have E6 : Hid (ErrIs w6 ev 4 (first)) := E5.out.keep b6; have B6 : Hid (Below N w w6) := B5.out.trans (b6.mono (HM.out _ B5.out)); clear b6)
    | (go_at_call 12; refine (code_any ev 1 (-1) _ E2.out).mono ?_; rintro e w3 ⟨rfl, b3⟩; have E3 : Hid (ErrIs w3 ev 1 (-1)) := E2.out.keep b3; have B3 : Hid (Below N w w3) := B2.out.trans (b3.mono (HM.out _ B2.out)); clear b3)
    | (have _ := E6; go_at_call 26; refine (sector_any ev 4 (first) _ E6.out (HT.out _ B6.out)).mono ?_; rintro e w7 ⟨rfl, b7⟩; have B7 : Hid (Below N w w7) := B6.out.trans (b7.mono (HM.out _ B6.out)); clear b7)
    | (go_at_call 26; refine (sector_any ev 1 (-1) _ E3.out (HT.out _ B3.out)).mono ?_; rintro e w3b ⟨rfl, b3⟩; have B3b : Hid (Below N w w3b) := B3.out.trans (b3.mono (HM.out _ B3.out)); clear b3)
    | (go_at_call 29; refine (new_fit 8 _ (by decide) (by decide)).mono ?_; rintro e w4 ⟨rfl, rfl⟩; have D4 : Hid (IsD (newW w3b 8) w3b.heap.size (w3b.heap.size + 2) 0 (newD 8)) := newW_is w3b w3b.heap.size 8 (Nat.le_refl _) (by decide); have B4 : Hid (Below N w (newW w3b 8)) := B3b.out.trans ((newW_below w3b 8).mono (HM.out _ B3b.out)))
    | fail)
  go_ret
  exact ⟨rfl, by rw [HN.out]; exact B7.out⟩

set_option maxRecDepth 20000 in
set_option maxHeartbeats 4000000 in
theorem none4 (first n : Int) (w : World) (hT : ErrT w) (hf : -9223372036854775808 ≤ first ∧ first ≤ 9223372036854775807) (hn : -9223372036854775808 ≤ n ∧ n ≤ 9223372036854775807) (h0 : ¬ n < 1) (h1 : ¬ 65542 < n) (h2 : ¬ first < 1) (h3 : 6 < first) :
    Calls Tryd.prog 7 #[.int .i64 first, .int .i64 n] w fun e w' => e = .returned (.bool true) ∧ Below w.heap.size w w' := by
  obtain ⟨N, hN⟩ : ∃ N, w.heap.size = N := ⟨_, rfl⟩
  have HN : Hid (w.heap.size = N) := hN
  have HT : Hid (∀ w', Below N w w' → ErrT w') := fun w' b => hT.keep (by rw [hN]; exact b)
  have RN : Hid (∀ w' : World, Calls Tryd.prog 24 #[.pointer none, .int .i64 first, .int .i64 n] w' fun e w2 => ∃ ab cb as0 cs ev, e = .returned (.tuple #[.slice ab 0 cb, .slice as0 0 cs, ev]) ∧ ErrIs w2 ev 1 (-1) ∧ Below w'.heap.size w' w2) := fun w' => by
    refine (hread_nil first n w').mono ?_
    rintro e w2 ⟨ab, cb, as0, cs, ev, rfl, _, _, q3, q4⟩
    exact ⟨ab, cb, as0, cs, ev, rfl, q3, q4⟩
  have RD : Hid (∀ w' b, IsD w' b (b + 2) 0 (newD 8) → Calls Tryd.prog 24 #[.pointer (some ⟨b + 2, 0, none⟩), .int .i64 first, .int .i64 n] w' fun e w2 => ∃ ab cb as0 cs ev, e = .returned (.tuple #[.slice ab 0 cb, .slice as0 0 cs, ev]) ∧ ErrIs w2 ev 4 (first) ∧ Below w'.heap.size w' w2) := fun w' b hD => by
    have q := hread_any b (b + 2) 0 (newD 8) first n w' hD hf
    rw [none_far ⟨by omega, by omega⟩ (.inr h3)] at q
    refine q.mono ?_
    rintro e w2 ⟨ab, cb, as0, cs, ev, rfl, _, _, q3, q4⟩
    exact ⟨ab, cb, as0, cs, ev, rfl, q3, q4⟩
  have MT : ∀ w2, Below N w w2 → N ≤ w2.heap.size := fun w2 b => by rw [← hN]; exact b.size
  have HM : Hid (∀ w2, Below N w w2 → N ≤ w2.heap.size) := MT
  have CNT : Hid True := trivial
  clear hN MT hT
  go_enter Tryd.func7, Tryd.ntmps7
  go_wp2_with (first
    | (go_at_call 8; refine (alive19 _ (HT.out _ (Below.refl _ _))).mono ?_; rw [HN.out]; rintro e w1 ⟨rfl, b1⟩; have B1 : Hid (Below N w w1) := b1; clear b1)
    | (have _ := B3; go_at_call 24; refine (RD.out _ _ D4.out).mono ?_; rintro e w5 ⟨ab, cb, as0, cs, ev, rfl, er, b5⟩; have E5 : Hid (ErrIs w5 ev 4 (first)) := er; have B5 : Hid (Below N w w5) := B4.out.trans (b5.mono (HM.out _ B4.out)); clear er b5; have B6 := B5)
    | (go_at_call 24; refine (RN.out _).mono ?_; rintro e w2 ⟨ab, cb, as0, cs, ev, rfl, er, b2⟩; have E2 : Hid (ErrIs w2 ev 1 (-1)) := er; have B2 : Hid (Below N w w2) := B1.out.trans (b2.mono (HM.out _ B1.out)); clear er b2)
    | (have _ := B5; go_at_call 12; refine (code_any ev 4 (first) _ E5.out).mono ?_; rintro e w6 ⟨rfl, b6⟩; have E6 : Hid (ErrIs w6 ev 4 (first)) := E5.out.keep b6; have B6 : Hid (Below N w w6) := B5.out.trans (b6.mono (HM.out _ B5.out)); clear b6)
    | (go_at_call 12; refine (code_any ev 1 (-1) _ E2.out).mono ?_; rintro e w3 ⟨rfl, b3⟩; have E3 : Hid (ErrIs w3 ev 1 (-1)) := E2.out.keep b3; have B3 : Hid (Below N w w3) := B2.out.trans (b3.mono (HM.out _ B2.out)); clear b3)
    | (have _ := E6; go_at_call 26; refine (sector_any ev 4 (first) _ E6.out (HT.out _ B6.out)).mono ?_; rintro e w7 ⟨rfl, b7⟩; have B7 : Hid (Below N w w7) := B6.out.trans (b7.mono (HM.out _ B6.out)); clear b7)
    | (go_at_call 26; refine (sector_any ev 1 (-1) _ E3.out (HT.out _ B3.out)).mono ?_; rintro e w3b ⟨rfl, b3⟩; have B3b : Hid (Below N w w3b) := B3.out.trans (b3.mono (HM.out _ B3.out)); clear b3)
    | (go_at_call 29; refine (new_fit 8 _ (by decide) (by decide)).mono ?_; rintro e w4 ⟨rfl, rfl⟩; have D4 : Hid (IsD (newW w3b 8) w3b.heap.size (w3b.heap.size + 2) 0 (newD 8)) := newW_is w3b w3b.heap.size 8 (Nat.le_refl _) (by decide); have B4 : Hid (Below N w (newW w3b 8)) := B3b.out.trans ((newW_below w3b 8).mono (HM.out _ B3b.out)))
    | fail)
  go_ret
  exact ⟨rfl, by rw [HN.out]; exact B7.out⟩

set_option maxRecDepth 20000 in
set_option maxHeartbeats 4000000 in
theorem none5 (first n : Int) (w : World) (hT : ErrT w) (hf : -9223372036854775808 ≤ first ∧ first ≤ 9223372036854775807) (hn : -9223372036854775808 ≤ n ∧ n ≤ 9223372036854775807) (h0 : ¬ n < 1) (h1 : ¬ 65542 < n) (h2 : ¬ first < 1) (h3 : ¬ 6 < first) :
    Calls Tryd.prog 7 #[.int .i64 first, .int .i64 n] w fun e w' => e = .returned (.bool true) ∧ Below w.heap.size w w' := by
  obtain ⟨N, hN⟩ : ∃ N, w.heap.size = N := ⟨_, rfl⟩
  have HN : Hid (w.heap.size = N) := hN
  have HT : Hid (∀ w', Below N w w' → ErrT w') := fun w' b => hT.keep (by rw [hN]; exact b)
  have RN : Hid (∀ w' : World, Calls Tryd.prog 24 #[.pointer none, .int .i64 first, .int .i64 n] w' fun e w2 => ∃ ab cb as0 cs ev, e = .returned (.tuple #[.slice ab 0 cb, .slice as0 0 cs, ev]) ∧ ErrIs w2 ev 1 (-1) ∧ Below w'.heap.size w' w2) := fun w' => by
    refine (hread_nil first n w').mono ?_
    rintro e w2 ⟨ab, cb, as0, cs, ev, rfl, _, _, q3, q4⟩
    exact ⟨ab, cb, as0, cs, ev, rfl, q3, q4⟩
  have RD : Hid (∀ w' b, IsD w' b (b + 2) 0 (newD 8) → Calls Tryd.prog 24 #[.pointer (some ⟨b + 2, 0, none⟩), .int .i64 first, .int .i64 n] w' fun e w2 => ∃ ab cb as0 cs ev, e = .returned (.tuple #[.slice ab 0 cb, .slice as0 0 cs, ev]) ∧ ErrIs w2 ev 5 (first) ∧ Below w'.heap.size w' w2) := fun w' b hD => by
    have q := hread_any b (b + 2) 0 (newD 8) first n w' hD hf
    rw [none_sum ⟨by omega, by omega⟩ ⟨by omega, by omega⟩] at q
    refine q.mono ?_
    rintro e w2 ⟨ab, cb, as0, cs, ev, rfl, _, _, q3, q4⟩
    exact ⟨ab, cb, as0, cs, ev, rfl, q3, q4⟩
  have MT : ∀ w2, Below N w w2 → N ≤ w2.heap.size := fun w2 b => by rw [← hN]; exact b.size
  have HM : Hid (∀ w2, Below N w w2 → N ≤ w2.heap.size) := MT
  obtain ⟨k, rfl⟩ : ∃ k : Nat, n = k := ⟨n.toNat, by omega⟩
  have CNT : Hid (∀ w' : World, Calls Tryd.prog 14 #[.int .i64 (k : Nat)] w' fun e w2 => e = .returned (.int .i64 (cntC k : Nat)) ∧ w' = w2) := fun w' => hcount_any k w' (by omega)
  have c1 : (1 : Int) ≤ (cntC k : Nat) := by unfold cntC; omega
  obtain ⟨C, hC⟩ : ∃ C : Int, ((cntC k : Nat) : Int) = C := ⟨_, rfl⟩
  rw [hC] at CNT c1
  clear hC
  clear hN MT hT
  go_enter Tryd.func7, Tryd.ntmps7
  go_wp2_with (first
    | (go_at_call 8; refine (alive19 _ (HT.out _ (Below.refl _ _))).mono ?_; rw [HN.out]; rintro e w1 ⟨rfl, b1⟩; have B1 : Hid (Below N w w1) := b1; clear b1)
    | (have _ := B3; go_at_call 24; refine (RD.out _ _ D4.out).mono ?_; rintro e w5 ⟨ab, cb, as0, cs, ev, rfl, er, b5⟩; have E5 : Hid (ErrIs w5 ev 5 (first)) := er; have B5 : Hid (Below N w w5) := B4.out.trans (b5.mono (HM.out _ B4.out)); clear er b5; have B6 := B5)
    | (go_at_call 24; refine (RN.out _).mono ?_; rintro e w2 ⟨ab, cb, as0, cs, ev, rfl, er, b2⟩; have E2 : Hid (ErrIs w2 ev 1 (-1)) := er; have B2 : Hid (Below N w w2) := B1.out.trans (b2.mono (HM.out _ B1.out)); clear er b2)
    | (have _ := B5; go_at_call 12; refine (code_any ev 5 (first) _ E5.out).mono ?_; rintro e w6 ⟨rfl, b6⟩; have E6 : Hid (ErrIs w6 ev 5 (first)) := E5.out.keep b6; have B6 : Hid (Below N w w6) := B5.out.trans (b6.mono (HM.out _ B5.out)); clear b6)
    | (go_at_call 12; refine (code_any ev 1 (-1) _ E2.out).mono ?_; rintro e w3 ⟨rfl, b3⟩; have E3 : Hid (ErrIs w3 ev 1 (-1)) := E2.out.keep b3; have B3 : Hid (Below N w w3) := B2.out.trans (b3.mono (HM.out _ B2.out)); clear b3)
    | (have _ := E6; go_at_call 26; refine (sector_any ev 5 (first) _ E6.out (HT.out _ B6.out)).mono ?_; rintro e w7 ⟨rfl, b7⟩; have B7 : Hid (Below N w w7) := B6.out.trans (b7.mono (HM.out _ B6.out)); clear b7)
    | (go_at_call 26; refine (sector_any ev 1 (-1) _ E3.out (HT.out _ B3.out)).mono ?_; rintro e w3b ⟨rfl, b3⟩; have B3b : Hid (Below N w w3b) := B3.out.trans (b3.mono (HM.out _ B3.out)); clear b3)
    | (go_at_call 29; refine (new_fit 8 _ (by decide) (by decide)).mono ?_; rintro e w4 ⟨rfl, rfl⟩; have D4 : Hid (IsD (newW w3b 8) w3b.heap.size (w3b.heap.size + 2) 0 (newD 8)) := newW_is w3b w3b.heap.size 8 (Nat.le_refl _) (by decide); have B4 : Hid (Below N w (newW w3b 8)) := B3b.out.trans ((newW_below w3b 8).mono (HM.out _ B3b.out)))
    | (go_at_call 14; refine (CNT.out _).mono ?_; rintro e w' ⟨rfl, rfl⟩))
  go_ret
  exact ⟨rfl, by rw [HN.out]; exact B7.out⟩

/-- ChainNone. -/
theorem chainNone_any (first n : Int) (w : World) (hT : ErrT w) (hf : -9223372036854775808 ≤ first ∧ first ≤ 9223372036854775807) (hn : -9223372036854775808 ≤ n ∧ n ≤ 9223372036854775807) :
    Calls Tryd.prog 7 #[.int .i64 first, .int .i64 n] w fun e w' => e = .returned (.bool true) ∧ Below w.heap.size w w' := by
  by_cases h0 : n < 1
  · exact none1 first n w hT hf hn h0
  · by_cases h1 : 65542 < n
    · exact none2 first n w hT hf hn h0 h1
    · by_cases h2 : first < 1
      · exact none3 first n w hT hf hn h0 h1 h2
      · by_cases h3 : 6 < first
        · exact none4 first n w hT hf hn h0 h1 h2 h3
        · exact none5 first n w hT hf hn h0 h1 h2 h3
end Go.Proofs.YtgmmgklcndnehaaDoor
