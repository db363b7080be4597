/- What the law RunsFits goes through. -/
import Derived.Test.YtdpkmlkckhhcgaaRzA
namespace Go.Proofs.Ytdpkmlkckhhcgaa
open Go.RowKit
set_option linter.unusedVariables false

set_option maxHeartbeats 4000000 in
theorem runsFits_any (nn : Nat) (a : Option Addr) (cap L : Nat) (kd xx kk : Nat → Int) (k : Int) (w : World) (hn : nn < 65536) (hC : IsC w a L kd xx kk) (hl : L ≤ maxLen) (hk : -9223372036854775808 ≤ k ∧ k ≤ 9223372036854775807) :
    Calls Try.prog 5 #[.int .u16 (nn : Nat), .slice a L cap, .int .i64 k] w fun e w' => e = .returned (.bool true) ∧ Below w.heap.size w w' := by
  have HC : Hid (IsC w a L kd xx kk) := hC
  clear hC
  go_enter Try.func5, Try.ntmps5
  go_wp2_with fail
  refine (alive_any _).mono ?_
  rintro e w1 ⟨rfl, b1⟩
  have B1 : Hid (Below w.heap.size w w1) := b1
  clear b1
  go_wp2_with fail
  refine (plays_any nn a cap L kd xx kk w1 hn (HC.out.keep B1.out) hl).mono ?_
  rintro e w2 ⟨b, mb, mg, f, rfl, hP⟩
  obtain ⟨N, hN⟩ : ∃ N, nn % 600 = N := ⟨_, rfl⟩
  have hN6 : N ≤ 65536 := by omega
  obtain ⟨S, hSe⟩ : ∃ S, Mine w1.heap.size mb mg = S := ⟨_, rfl⟩
  have hO := hP.on B1.out
  rw [hSe, hN] at hO
  have O2 : Hid (On w w2 S b N f) := hO
  obtain ⟨M, hM⟩ : ∃ M, maxL (freeL f N) = M := ⟨_, rfl⟩
  obtain ⟨Z, hZ⟩ : ∃ Z, sumL (freeL f N) = Z := ⟨_, rfl⟩
  have EM : Hid (maxL (freeL f N) = M) := hM
  have EZ : Hid (sumL (freeL f N) = Z) := hZ
  have hMN : M ≤ N := by rw [← hM]; exact maxL_le (freeL_FL f N)
  have hZN : Z ≤ N := by rw [← hZ]; exact (freeL_FL f N).sum_le
  clear hP hO hN hSe hM hZ HC B1 hl
  go_wp2_with fail
  refine (most_any S b N f _ O2.out.isR hN6).mono ?_
  rw [EM.out]
  rintro e w3 ⟨rfl, b3⟩
  have O3 : Hid (On w w3 S b N f) := O2.out.keep b3
  clear b3
  go_wp2_with fail
  refine (left_any S b N f _ O3.out.isR hN6).mono ?_
  rw [EZ.out]
  rintro e w4 ⟨rfl, b4⟩
  have O4 : Hid (On w w4 S b N f) := O3.out.keep b4
  clear b4
  go_wp2_with fail
  refine (take_any S b N f k _ O4.out.isR O4.out.hS hN6 hk).mono ?_
  rintro e w5 ⟨x, r, f5, rfl, t5, i5, u5⟩
  have O5 : Hid (On w w5 S b N f5) := O4.out.next i5 u5
  clear i5 u5
  rcases t5 with ⟨h1, rfl, rfl, rfl⟩ | ⟨h1, h2, rfl, rfl, rfl⟩ | ⟨h1, p, h2, rfl, rfl, rfl⟩
  · go_wp2_with (go_at_call 17; refine (left_any S b N f5 _ O5.out.isR hN6).mono ?_; rw [EZ.out]; rintro e w6 ⟨rfl, b6⟩; have B6 : Hid (Below w.heap.size w w6) := (O5.out.keep b6).low; clear b6)
    go_ret
    exact ⟨rfl, B6.out⟩
  · have hkM : (M : Int) < k := by
      rcases Decidable.em ((M : Int) < k) with h | h
      · exact h
      · exfalso
        rcases maxL_in (freeL f5 N) with e | ⟨q, hq, e⟩
        · rw [EM.out] at e; omega
        · rw [EM.out] at e
          have hp := (freeL_FL f5 N).pos q hq
          exact h2 q.1 (by omega) (fun j h3 h4 => ((freeL_FL f5 N).cov j (by omega)).2 ⟨q, hq, h3, by omega⟩)
    have hk1 : ¬ (k < 1) := by omega
    clear h2
    go_wp2_with (go_at_call 17; refine (left_any S b N f5 _ O5.out.isR hN6).mono ?_; rw [EZ.out]; rintro e w6 ⟨rfl, b6⟩; have B6 : Hid (Below w.heap.size w w6) := (O5.out.keep b6).low; clear b6)
    go_ret
    exact ⟨rfl, B6.out⟩
  · obtain ⟨K, rfl⟩ : ∃ K : Nat, k = K := ⟨k.toNat, by omega⟩
    rw [Int.toNat_natCast] at h2 O5
    have hK1 : 1 ≤ K := by omega
    have hkM : ¬ ((M : Int) < (K : Int)) := by
      obtain ⟨q, hq, h3, h4⟩ := (freeL_FL f N).run_of K hK1 h2.1 h2.2.1
      have := maxL_ge hq
      rw [EM.out] at this
      omega
    have hk1 : ¬ ((K : Int) < 1) := by omega
    have AF : Hid (AllF f p K false) := h2.2.1
    have hpK := h2.1
    have hsum := sum_turn hK1 h2.1 h2.2.1
    rw [EZ.out] at hsum
    obtain ⟨Y, hY⟩ : ∃ Y, sumL (freeL (turn f p K true) N) = Y := ⟨_, rfl⟩
    have EY : Hid (sumL (freeL (turn f p K true) N) = Y) := hY
    rw [hY] at hsum
    have hZY : (Z : Int) - (K : Int) = (Y : Int) := by omega
    have HF : Hid (hasF N (turn f p K true) (p : Nat) = true) := by
      show _ = _
      unfold hasF
      rw [decide_eq_true (by omega), decide_eq_true (p := ((p : Nat) : Int) < (N : Int)) (by omega), Int.toNat_natCast, turn_in (Nat.le_refl _) (by omega)]
      rfl
    have UQ : Hid (∀ r f', TurnR N (turn f p K true) (p : Nat) (K : Nat) false r f' → r = 0 ∧ f' = f) := fun r f' ht => by
      have t2 : TurnR N (turn f p K true) (p : Nat) (K : Nat) false 0 f := .inr (.inr ⟨by omega, by omega, by omega, fun i h3 h4 => by
        simp only [Int.toNat_natCast] at h3 h4
        exact turn_in h3 h4, rfl, by simp only [Int.toNat_natCast]; exact (turn_back AF.out).symm⟩)
      exact ht.one t2
    clear h2 hY hsum
    go_wp2_with fail
    refine (left_any S b N (turn f p K true) _ O5.out.isR hN6).mono ?_
    rw [EY.out]
    rintro e w6 ⟨rfl, b6⟩
    have O6 : Hid (On w w6 S b N (turn f p K true)) := O5.out.keep b6
    clear b6
    go_wp2_with fail
    refine (has_any S b N (turn f p K true) (p : Nat) _ O6.out.isR hN6 (by omega)).mono ?_
    rw [HF.out]
    rintro e w7 ⟨rfl, b7⟩
    have O7 : Hid (On w w7 S b N (turn f p K true)) := O6.out.keep b7
    clear b7
    go_wp2_with fail
    refine (give_any S b N (turn f p K true) (p : Nat) (K : Nat) _ O7.out.isR O7.out.hS hN6 (by omega) (by omega)).mono ?_
    rintro e w8 ⟨r8, f8, rfl, t8, i8, u8⟩
    obtain ⟨rfl, rfl⟩ := UQ.out r8 f8 t8
    have O8 : Hid (On w w8 S b N f8) := O7.out.next i8 u8
    clear t8 i8 u8
    go_wp2_with fail
    refine (left_any S b N f8 _ O8.out.isR hN6).mono ?_
    rw [EZ.out]
    rintro e w9 ⟨rfl, b9⟩
    have B9 : Hid (Below w.heap.size w w9) := (O8.out.keep b9).low
    clear b9
    go_wp2
    go_ret
    exact ⟨rfl, B9.out⟩
end Go.Proofs.Ytdpkmlkckhhcgaa
