/- What the law HandlePlays goes through. -/
import Derived.Test.YtjdgildeilcfiaaHgJ
namespace Go.Proofs.Ytjdgildeilcfiaa
open Go.RowKit
set_option linter.unusedVariables false

set_option maxRecDepth 4000 in
set_option maxHeartbeats 2000000 in
theorem handlePlays_any (most : Nat) (a1 : Option Addr) (cap1 : Nat) (l1 : List Cl) (w : World) (hm : most < 256) (h1 : IsC w a1 l1) (hl1 : l1.length ≤ maxLen) :
    Calls Try.prog 3 #[.int .u8 (most : Nat), .slice a1 l1.length cap1] w fun e w' => e = .returned (.bool true) ∧ Below w.heap.size w w' := by
  have H1 : Hid (IsC w a1 l1) := h1
  unfold maxLen at hl1
  obtain ⟨n, hn⟩ : ∃ n, 1 + most % 100 = n := ⟨_, rfl⟩
  have hnI : 1 + (most : Int) % 100 = (n : Nat) := by omega
  have hn1 : 1 ≤ n := by omega
  have hn2 : n ≤ 100 := by omega
  clear h1 hn
  go_enter Try.func3, Try.ntmps3
  go_wp2_with fail
  refine (alive_any _).mono ?_
  rintro e w1 ⟨rfl, b1⟩
  have B1 : Hid (Below w.heap.size w w1) := b1
  have z1 := b1.size
  clear b1
  go_wp2_with fail
  refine (new_ok n _ hn1 (by omega)).mono ?_
  rintro e w2 ⟨b, a, c, rfl, k2, b2⟩
  have K2 : Hid (Ct w2 w1.heap.size b a c n []) := k2
  have B2 : Hid (Below w.heap.size w w2) := B1.out.trans (b2.mono z1)
  clear k2 b2 hnI
  go_wp2_with fail
  refine (rnew_any n _ hn1 (by omega)).mono ?_
  rintro e w3 ⟨b3, rfl, r3⟩
  obtain ⟨w4, hw4⟩ : ∃ w4, w3.alloc (.cells #[.slice none 0 0] 31) = w4 := ⟨_, rfl⟩
  obtain ⟨pb, hpb⟩ : ∃ pb, w3.heap.size = pb := ⟨_, rfl⟩
  obtain ⟨mb, hmb⟩ : ∃ mb, w2.heap.size + 1 = mb := ⟨_, rfl⟩
  obtain ⟨mg, hmg⟩ : ∃ mg, w2.heap.size = mg := ⟨_, rfl⟩
  have T4 : Hid (Tw w w4 b a c mb mg n [] [] pb none 0 []) := by
    have b4 : Below w3.heap.size w3 w4 := by rw [← hw4]; exact (Below.refl _ w3).alloc (Nat.le_refl _) _
    have q4 : w4.heap[w3.heap.size]? = some (.cells #[.slice none 0 0] 31 (0, 0)) := by rw [← hw4]; exact Go.heap_alloc_new w3 _
    have z2 := B2.out.size
    have z3 := b3.size
    have k4 := (K2.out.keep b3).keep b4
    refine ⟨⟨k4.box, k4.row.mono z1, k4.gd, Nat.le_trans z1 k4.bb⟩, ?_, ?_, Oh.nil _ _, fun x hx => (by cases hx), fun e => ?_, by omega, by omega, B2.out.trans ((b3.mono z2).trans (b4.mono (by omega)))⟩
    · have q := r3.keep b4
      rw [hmb, hmg] at q
      exact q
    · rw [← hpb]; exact q4
    · have q := (K2.out.row.ge _ e).2
      omega
  rw [hmb]
  have HW4 : Hid (w3.alloc (.cells #[.slice none 0 0] 31) = w4) := hw4
  have HPB : Hid (w3.heap.size = pb) := hpb
  clear hw4 hmb hmg b3 r3 K2
  go_wp2
  (try rw [HW4.out])
  (try rw [HPB.out])
  clear HW4 HPB hpb
  go_loopw [11] (fun iv wr => ∃ (i : Nat) (a : Option Addr) (c : Nat) (L : List Rw) (ah : Option Addr) (ch : Nat) (M : List Nat), i ≤ l1.length ∧ i ≤ 200 ∧ iv = .int .i64 (i : Nat) ∧ M.length ≤ i ∧ Tw w wr b a c mb mg n L L pb ah ch M) (fun iv _ => 200 - (intOf iv).toNat)
  case atStart => exact ⟨0, a, c, [], none, 0, [], Nat.zero_le _, Nat.zero_le _, rfl, Nat.zero_le _, T4.out⟩
  case round =>
    clear T4
    obtain ⟨i, a, c, L, ah, ch, M, hi, hi2, rfl, hMi, hT⟩ := hrel
    rename World => wr
    have HT : Hid (Tw w wr b a c mb mg n L L pb ah ch M) := hT
    clear hT
    by_cases hgo : i < l1.length ∧ i < 200
    · obtain ⟨hlt3, hlt4⟩ := hgo
      have e3 : (i : Int) < (l1.length : Int) := by omega
      have e4 : (i : Int) < 200 := by omega
      obtain ⟨sb, so, q, ea2, hq, hsb, hat, hok⟩ := H1.out.call i hlt3
      obtain ⟨s0, s1, s2, s3, s4⟩ := hat.keep hsb HT.out.bel
      have r1 := hok.h
      obtain ⟨qk, qn, qh, q2, qp⟩ := q
      simp only at s0 s1 s2 s3 s4 r1
      subst ea2
      clear hq hat hok
      go_wp2_with (go_at_call 12; refine (do_any w wr b a c mb mg n L pb ah ch M qk qn qh q2 qp HT.out r1 (by omega)).mono ?_; rintro e w5 ⟨rfl, a5, c5, L5, ah5, ch5, M5, t5, hM5⟩; have T5 : Hid (Tw w w5 b a5 c5 mb mg n L5 L5 pb ah5 ch5 M5) := t5; clear t5)
      go_roundw
      case rel => exact ⟨i + 1, a5, c5, L5, ah5, ch5, M5, by omega, by omega, by go_num, by omega, T5.out⟩
      case measure => simp [intOf]; omega
    · have hgo3 : (i = l1.length) ∨ (i < l1.length ∧ i = 200) := by omega
      rcases hgo3 with rfl | ⟨hlt3, rfl⟩
      · go_wp2_with (go_at_call 13; refine (same_tw w wr b a c mb mg n L pb ah ch M HT.out).mono ?_; rintro e w9 ⟨rfl, b9⟩; have B9 : Hid (Below w.heap.size w w9) := HT.out.bel.trans (b9.mono HT.out.bel.size); clear b9)
        go_ret
        exact ⟨rfl, B9.out⟩
      · have e3 : ((200 : Nat) : Int) < (l1.length : Int) := by omega
        go_wp2_with (go_at_call 13; refine (same_tw w wr b a c mb mg n L pb ah ch M HT.out).mono ?_; rintro e w9 ⟨rfl, b9⟩; have B9 : Hid (Below w.heap.size w w9) := HT.out.bel.trans (b9.mono HT.out.bel.size); clear b9)
        go_ret
        exact ⟨rfl, B9.out⟩
end Go.Proofs.Ytjdgildeilcfiaa
