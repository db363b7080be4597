/- Layer 20: a number is read, of the document. -/
import Derived.Test.YtgpkiajakokjmaaRtJ
namespace Go.Proofs.Ytgpkiajakokjmaa
open Go.RowKit
set_option linter.unusedVariables false
set_option maxRecDepth 4000

theorem rf_allB {w : World} {lo M : Nat} {l : List Int} {e : Int} (h : RfAt w lo M l e) : AllB l := by obtain ⟨_, _, _, _, _, h3, _⟩ := h; exact h3
theorem rf_lt {w : World} {lo M : Nat} {l : List Int} {e : Int} (h : RfAt w lo M l e) : M < w.heap.size := by obtain ⟨_, _, hh, _⟩ := h; exact lt_of_block hh
/-- Below noughts there is no number: both ways to say so. -/
theorem num_none {lo hi : Int} {l : List Int} {e0 : Int} (hb : AllB l) (h : hi < 0) : ∃ v r ea, upS l e0 18446744073709551615 = (v, r, ea) ∧ failV ea 4 ≠ 0 ∧ (numR lo hi l e0).1 = 0 ∧ (numR lo hi l e0).2.2 = failV ea 4 := by
  have hm : mxz hi = 0 := if_pos h
  by_cases h0 : e0 = 0
  · subst h0
    rcases up_two l 0 hb (by omega) (by omega) with ⟨e, he, u1, u2⟩ | ⟨n, r, n0, n1, _, u1, u2⟩ | ⟨n, r, n1, _, u1, u2⟩
    · have f : failV e 4 = e := if_neg (by omega)
      refine ⟨0, l, e, u1, by rw [f]; omega, ?_, ?_⟩
      · unfold numR; rw [hm, u2]
      · unfold numR; rw [hm, u2]; simp only; rw [if_neg (by omega)]
    · refine ⟨n, r, 0, u1, by decide, ?_, ?_⟩
      · unfold numR; rw [hm, u2]; simp only; omega
      · unfold numR; rw [hm, u2]; simp only; rw [if_neg (by omega)]
    · refine ⟨n, r, 0, u1, by decide, ?_, ?_⟩
      · unfold numR; rw [hm, u2]
      · unfold numR; rw [hm, u2]; simp only; rw [if_neg (by omega)]; rfl
  · have u : ∀ m, upS l e0 m = (0, l, e0) := fun m => by rw [upS, if_neg h0]
    have f : failV e0 4 = e0 := if_neg h0
    refine ⟨0, l, e0, u _, by rw [f]; exact h0, ?_, ?_⟩
    · rw [num_stay h0]
    · rw [num_stay h0, f]
set_option maxRecDepth 20000 in
set_option maxHeartbeats 4000000 in
theorem from_any (lo hi : Int) (L M : Nat) (l : List Int) (e0 n : Int) (r : List Int) (e1 : Int) (w : World) (h : RfAt w L M l e0) (hh : hi ≤ 9223372036854775807) (hn : numR lo hi l e0 = (n, r, e1)) :
    Calls Try.prog 39 #[.pointer (some ⟨M, 0, none⟩), .int .i64 lo, .int .i64 hi] w fun e w' => e = .returned (.int .i64 n) ∧ (∃ r', RfAt w' L M r' e1 ∧ (e1 = 0 → r' = r)) ∧ Tg M w w' := by
  have HR : Hid (RfAt w L M l e0) := h
  have AB := rf_allB h
  by_cases hi0 : hi < 0
  · obtain ⟨v, r1, ea, hu, hne, h1, h2⟩ := num_none (lo := lo) (e0 := e0) AB hi0
    rw [hn] at h1 h2
    simp only at h1 h2
    subst h1
    have HU : Hid (upS l e0 18446744073709551615 = (v, r1, ea)) := hu
    have E1 : Hid (failV ea 4 = e1) := h2.symm
    have n1 : e1 ≠ 0 := by rw [h2]; exact hne
    have U2 : Hid (∀ m, upS r1 e1 m = (0, r1, e1)) := fun m => by rw [upS, if_neg n1]
    have F2 : Hid (failV e1 4 = e1) := if_neg n1
    have N1 : Hid (e1 ≠ 0) := n1
    have w0 : IntKind.u64.wrap 0 = 0 := rfl
    clear h hu hne h2 n1 hn
    by_cases hl : 0 < lo
    · go_enter Try.func39, Try.ntmps39
      go_wp2_with fail
      refine (rupto_any L M l e0 18446744073709551615 _ HR.out).mono ?_
      rw [HU.out]
      rintro q w1 ⟨rfl, r1', g1⟩
      have R1 : Hid (RfAt w1 L M r1 ea) := r1'
      have T1 : Hid (Tg M w w1) := Tg.ofGrown g1
      clear r1' g1
      go_wp2_with fail
      refine (rfail_any L M r1 ea 4 _ R1.out).mono ?_
      rw [E1.out]
      rintro q w2 ⟨rfl, r2', g2⟩
      have R2 : Hid (RfAt w2 L M r1 e1) := r2'
      have T2 : Hid (Tg M w w2) := T1.out.trans (Tg.ofGrown g2)
      clear r2' g2
      go_wp2_with fail
      refine (rupto_any L M r1 e1 0 _ R2.out).mono ?_
      rw [U2.out]
      rintro q w3 ⟨rfl, r3', g3⟩
      have R3 : Hid (RfAt w3 L M r1 e1) := r3'
      have T3 : Hid (Tg M w w3) := T2.out.trans (Tg.ofGrown g3)
      clear r3' g3
      go_wp2_with fail
      refine (rfail_any L M r1 e1 4 _ R3.out).mono ?_
      rw [F2.out]
      rintro q w4 ⟨rfl, r4', g4⟩
      have R4 : Hid (RfAt w4 L M r1 e1) := r4'
      have T4 : Hid (Tg M w w4) := T3.out.trans (Tg.ofGrown g4)
      clear r4' g4
      go_wp2
      go_ret
      exact ⟨rfl, ⟨r1, R4.out, fun q => absurd q N1.out⟩, T4.out⟩
    · have hl2 : lo ≤ 0 := by omega
      go_enter Try.func39, Try.ntmps39
      go_wp2_with fail
      refine (rupto_any L M l e0 18446744073709551615 _ HR.out).mono ?_
      rw [HU.out]
      rintro q w1 ⟨rfl, r1', g1⟩
      have R1 : Hid (RfAt w1 L M r1 ea) := r1'
      have T1 : Hid (Tg M w w1) := Tg.ofGrown g1
      clear r1' g1
      go_wp2_with fail
      refine (rfail_any L M r1 ea 4 _ R1.out).mono ?_
      rw [E1.out]
      rintro q w2 ⟨rfl, r2', g2⟩
      have R2 : Hid (RfAt w2 L M r1 e1) := r2'
      have T2 : Hid (Tg M w w2) := T1.out.trans (Tg.ofGrown g2)
      clear r2' g2
      go_wp2_with fail
      refine (rupto_any L M r1 e1 0 _ R2.out).mono ?_
      rw [U2.out]
      rintro q w3 ⟨rfl, r3', g3⟩
      have R3 : Hid (RfAt w3 L M r1 e1) := r3'
      have T3 : Hid (Tg M w w3) := T2.out.trans (Tg.ofGrown g3)
      clear r3' g3
      go_wp2
      go_ret
      exact ⟨rfl, ⟨r1, R3.out, fun q => absurd q N1.out⟩, T3.out⟩
  · have hi1 : 0 ≤ hi := by omega
    obtain ⟨v, r', e', hu, v0, v1⟩ := up_in (e0 := e0) AB hi1
    have hm : mxz hi = hi := if_neg hi0
    unfold numR at hn
    rw [hm, hu] at hn
    simp only [Prod.mk.injEq] at hn
    obtain ⟨rfl, rfl, he⟩ := hn
    have HU : Hid (upS l e0 hi = (v, r', e')) := hu
    have wm : IntKind.u64.wrap hi = hi := by rw [IntKind.wrap_u64]; omega
    have wv : IntKind.i64.wrap v = v := by rw [IntKind.wrap_i64]; omega
    by_cases hl : v < lo
    · have E1 : Hid (failV e' 4 = e1) := by show _ = _; rw [← he, if_neg (by omega)]
      clear h hu he
      go_enter Try.func39, Try.ntmps39
      go_wp2_with fail
      refine (rupto_any L M l e0 hi _ HR.out).mono ?_
      rw [HU.out]
      rintro q w1 ⟨rfl, r1', g1⟩
      have R1 : Hid (RfAt w1 L M r' e') := r1'
      have T1 : Hid (Tg M w w1) := Tg.ofGrown g1
      clear r1' g1
      go_wp2_with fail
      refine (rfail_any L M r' e' 4 _ R1.out).mono ?_
      rw [E1.out]
      rintro q w2 ⟨rfl, r2', g2⟩
      have R2 : Hid (RfAt w2 L M r' e1) := r2'
      have T2 : Hid (Tg M w w2) := T1.out.trans (Tg.ofGrown g2)
      clear r2' g2
      go_wp2
      go_ret
      exact ⟨rfl, ⟨r', R2.out, fun _ => rfl⟩, T2.out⟩
    · obtain rfl : e' = e1 := by rw [← he, if_pos (by omega)]
      have hl2 : lo ≤ v := by omega
      clear h hu he
      go_enter Try.func39, Try.ntmps39
      go_wp2_with fail
      refine (rupto_any L M l e0 hi _ HR.out).mono ?_
      rw [HU.out]
      rintro q w1 ⟨rfl, r1', g1⟩
      have R1 : Hid (RfAt w1 L M r' e') := r1'
      have T1 : Hid (Tg M w w1) := Tg.ofGrown g1
      clear r1' g1
      go_wp2
      go_ret
      exact ⟨rfl, ⟨r', R1.out, fun _ => rfl⟩, T1.out⟩
end Go.Proofs.Ytgpkiajakokjmaa
