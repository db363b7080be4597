/- What the law RunsPlays goes through. -/
import Derived.Test.YtdpkmlkckhhcgaaRzA
namespace Go.Proofs.Ytdpkmlkckhhcgaa
open Go.RowKit
set_option linter.unusedVariables false

theorem Two.drewN {w : World} {S : Nat → Prop} {b mb mg n : Nat} {f : Nat → Bool} (h : Two w S b mb mg n f) (m : Nat) : Two (w.drewN m) S b mb mg n f := ⟨h.isR.drewN m, h.ref.drewN m, h.n1, h.n2, h.hS⟩
theorem Played.drewN {w wr : World} {b mb mg n : Nat} {f : Nat → Bool} (h : Played w wr b mb mg n f) (m : Nat) : Played w (wr.drewN m) b mb mg n f := ⟨h.two.drewN m, ⟨h.low.os, h.low.tape, h.low.output, h.low.size, h.low.block⟩, h.ge1, h.ge2⟩
theorem Row.isL0 {w : World} {g : Nat} {xs : List (Nat × Nat)} (h : Row w g xs) : IsL w (some ⟨g, 0, none⟩) xs := by
  have := h.isL (l := xs) 0 (by simp)
  rwa [Nat.zero_mul] at this

set_option maxHeartbeats 4000000 in
theorem runsPlays_any (nn : Nat) (a : Option Addr) (cap L : Nat) (kd xx kk : Nat → Int) (w : World) (hn : nn < 65536) (hC : IsC w a L kd xx kk) (hl : L ≤ maxLen) :
    Calls Try.prog 3 #[.int .u16 (nn : Nat), .slice a L cap] w fun e w' => e = .returned (.bool true) ∧ Below w.heap.size w w' := by
  have HC : Hid (IsC w a L kd xx kk) := hC
  clear hC
  unfold maxLen at hl
  go_enter Try.func3, Try.ntmps3
  go_wp2_with fail
  refine (alive_any _).mono ?_
  rintro e w1 ⟨rfl, b1⟩
  have B1 : Hid (Below w.heap.size w w1) := b1
  have z1 := b1.size
  clear b1
  go_wp2_with fail
  refine (plays_any nn none 0 0 _ _ _ w1 hn (IsC.nil _ _) (Nat.zero_le _)).mono ?_
  rintro e w2 ⟨b, mb, mg, f, rfl, hP⟩
  obtain ⟨N, hN⟩ : ∃ N, nn % 600 = N := ⟨_, rfl⟩
  have hN6 : N ≤ 65536 := by omega
  rw [hN] at hP
  have P2 : Hid (Played w1 w2 b mb mg N f) := hP
  clear hP hN
  go_wp2
  go_loopw [7, 8] (fun ov iv wr => ∃ (i : Nat) (f : Nat → Bool), i ≤ L ∧ i ≤ 200 ∧ ov = .bool true ∧ iv = .int .i64 (i : Nat) ∧ Played w1 wr b mb mg N f) (fun _ iv _ => 200 - (intOf iv).toNat)
  case atStart => exact ⟨0, _, Nat.zero_le _, Nat.zero_le _, rfl, rfl, P2.out⟩
  case round =>
    clear P2
    obtain ⟨i, f, hi, hi2, rfl, rfl, hP⟩ := hrel
    rename World => wr
    have HP : Hid (Played w1 wr b mb mg N f) := hP
    clear hP
    by_cases hlt : i < L
    · by_cases hlt2 : i < 200
      · obtain ⟨hrg, h0 | ⟨ba, off, rfl, hba, hc⟩⟩ := HC.out
        · omega
        · obtain ⟨c0, c1, c2⟩ := hc i hlt
          obtain ⟨r1, r2⟩ := hrg i hlt
          obtain ⟨v0, hv0⟩ : ∃ v, kd i = v := ⟨_, rfl⟩
          obtain ⟨v1, hv1⟩ : ∃ v, xx i = v := ⟨_, rfl⟩
          obtain ⟨v2, hv2⟩ : ∃ v, kk i = v := ⟨_, rfl⟩
          rw [hv0] at c0
          rw [hv1] at c1 r1
          rw [hv2] at c2 r2
          have BW := B1.out.trans (HP.out.low.mono B1.out.size)
          have d0 := bcellL BW hba c0
          have d1 := bcellL BW hba c1
          have d2 := bcellL BW hba c2
          have hlt' : (i : Int) < (L : Int) := by omega
          have hltb : (i : Int) < 200 := by omega
          clear hc hrg hv0 hv1 hv2 c0 c1 c2 BW
          go_wp2_with fail
          refine (do_any (Mine w1.heap.size mb mg) b mb mg N f v0 v1 v2 _ HP.out.two hN6 r1 r2).mono ?_
          rintro e w3 ⟨rfl, f3, t3, u3⟩
          have P3 : Hid (Played w1 w3 b mb mg N f3) := HP.out.next t3 u3
          obtain ⟨l, hlE⟩ : ∃ l, (freeL f3 N).length = l := ⟨_, rfl⟩
          have EL : Hid ((freeL f3 N).length = l) := hlE
          have hll : l ≤ N := by rw [← hlE]; exact freeL_len f3 N
          clear t3 u3 hlE
          go_wp2_with fail
          refine (free_any (Mine w1.heap.size mb mg) b N f3 _ P3.out.two.isR hN6).mono ?_
          rw [EL.out]
          rintro e w4 ⟨rfl, r4, b4⟩
          have P4 : Hid (Played w1 w4 b mb mg N f3) := P3.out.keep b4
          have R4 : Hid (Row w4 w3.heap.size (freeL f3 N)) := r4
          clear r4 b4
          go_wp2_with fail
          refine (rfree_any mb mg N f3 _ P4.out.two.ref hN6).mono ?_
          rw [EL.out]
          rintro e w5 ⟨a5, c5, rfl, l5, _, b5⟩
          have P5 : Hid (Played w1 w5 b mb mg N f3) := P4.out.keep b5
          have R5 : Hid (IsL w5 (some ⟨w3.heap.size, 0, none⟩) (freeL f3 N)) := R4.out.isL0.keep b5
          have L5 : Hid (IsL w5 a5 (freeL f3 N)) := l5
          have SM : Hid (Calls Try.prog 12 #[.slice (some ⟨w3.heap.size, 0, none⟩) l l, .slice a5 l c5] w5 fun e w' => e = .returned (.bool true) ∧ ∃ m, w' = w5.drewN m) := by
            have q := same_any (some ⟨w3.heap.size, 0, none⟩) a5 l c5 (freeL f3 N) w5 R5.out L5.out (by rw [EL.out]; omega)
            rw [EL.out] at q
            exact q
          clear l5 b5
          go_wp2_with fail
          refine SM.out.mono ?_
          rintro e w6 ⟨rfl, m6, rfl⟩
          have P6 : Hid (Played w1 (w5.drewN m6) b mb mg N f3) := P5.out.drewN m6
          go_wp2
          go_roundw
          case rel => exact ⟨i + 1, f3, by omega, by omega, rfl, by go_num, P6.out⟩
          case measure => simp [intOf]; omega
      · obtain rfl : i = 200 := by omega
        have hlt' : (200 : Int) < (L : Int) := by omega
        have cB := HP.out.two.ref.cellB
        have BF : Hid (Below w.heap.size w wr) := B1.out.trans (HP.out.low.mono B1.out.size)
        go_wp2_with fail
        go_quiet ((go_at_call 15; exact Calls.quiet_of_same (len_q (Mine w1.heap.size mb mg) b N f _ (HP.out.two.isR.drewN _))))
        all_goals go_wp2
        all_goals go_ret
        all_goals exact ⟨rfl, ⟨BF.out.os, BF.out.tape, BF.out.output, BF.out.size, BF.out.block⟩⟩
    · obtain rfl : i = L := by omega
      have cB := HP.out.two.ref.cellB
      have BF : Hid (Below w.heap.size w wr) := B1.out.trans (HP.out.low.mono B1.out.size)
      go_wp2_with fail
      go_quiet ((go_at_call 15; exact Calls.quiet_of_same (len_q (Mine w1.heap.size mb mg) b N f _ (HP.out.two.isR.drewN _))))
      all_goals go_wp2
      all_goals go_ret
      all_goals exact ⟨rfl, ⟨BF.out.os, BF.out.tape, BF.out.output, BF.out.size, BF.out.block⟩⟩
end Go.Proofs.Ytdpkmlkckhhcgaa
