/- What the law RunsBack goes through. -/
import Derived.Test.YtdpkmlkckhhcgaaRzA
namespace Go.Proofs.Ytdpkmlkckhhcgaa
open Go.RowKit
set_option linter.unusedVariables false

set_option maxHeartbeats 4000000 in
theorem runsBack_any (nn : Nat) (a : Option Addr) (cap L : Nat) (kd xx kk : Nat → Int) (w : World) (hn : nn < 65536) (hC : IsC w a L kd xx kk) (hl : L ≤ maxLen) :
    Calls Try.prog 6 #[.int .u16 (nn : Nat), .slice a L cap] w fun e w' => e = .returned (.bool true) ∧ Below w.heap.size w w' := by
  have HC : Hid (IsC w a L kd xx kk) := hC
  clear hC
  go_enter Try.func6, Try.ntmps6
  go_wp2_with fail
  refine (alive_any _).mono ?_
  rintro e w1 ⟨rfl, b1⟩
  have B1 : Hid (Below w.heap.size w w1) := b1
  clear b1
  go_wp2_with fail
  refine (plays_any nn a cap L kd xx kk w1 hn (HC.out.keep B1.out) hl).mono ?_
  rintro e w2 ⟨b, mb, mg, f, rfl, hP⟩
  obtain ⟨N, hN⟩ : ∃ N, nn % 600 = N := ⟨_, rfl⟩
  have hN6 : N ≤ 65536 := by omega
  obtain ⟨S, hSe⟩ : ∃ S, Mine w1.heap.size mb mg = S := ⟨_, rfl⟩
  have hO := hP.on B1.out
  rw [hSe, hN] at hO
  have O2 : Hid (On w w2 S b N f) := hO
  clear hP hO hN hSe HC B1 hl
  go_wp2
  go_loopw [8] (fun iv wr => ∃ (i : Nat) (g : Nat → Bool), i ≤ N ∧ iv = .int .i64 (i : Nat) ∧ On w wr S b N g ∧ ∀ j, j < i → g j = false) (fun iv _ => N - (intOf iv).toNat)
  case atStart => exact ⟨0, f, Nat.zero_le _, rfl, O2.out, fun j hj => by omega⟩
  case round =>
    clear O2
    obtain ⟨i, g, hi, rfl, hO, hG⟩ := hrel
    rename World => wr
    have HO : Hid (On w wr S b N g) := hO
    have HG : Hid (∀ j, j < i → g j = false) := hG
    clear hO hG
    by_cases hlt : i < N
    · have hlt' : (i : Int) < (N : Int) := by omega
      have HH : Hid (hasF N g (i : Nat) = g i) := by
        show _ = _
        unfold hasF
        rw [decide_eq_true (by omega), decide_eq_true (p := ((i : Nat) : Int) < (N : Int)) (by omega), Int.toNat_natCast]; rfl
      cases hg : g i
      · have HF : Hid (hasF N g (i : Nat) = false) := HH.out.trans hg
        have NG : Hid (∀ j, j < i + 1 → g j = false) := fun j hj => by
          by_cases e : j = i
          · rw [e]; exact hg
          · exact HG.out j (by omega)
        clear hg HH
        go_wp2_with (first
          | (go_at_call 16; refine (has_any S b N g (i : Nat) _ HO.out.isR hN6 (by omega)).mono ?_; rw [HF.out]; rintro e w3 ⟨rfl, b3⟩; have O3 : Hid (On w w3 S b N g) := HO.out.keep b3; clear b3)
          | (go_at_call 15; refine (len_any S b N g _ HO.out.isR).mono ?_; rintro e w' ⟨rfl, rfl⟩))
        go_roundw
        case rel => exact ⟨i + 1, g, by omega, by go_num, O3.out, NG.out⟩
        case measure => simp [intOf]; omega
      · have HF : Hid (hasF N g (i : Nat) = true) := HH.out.trans hg
        have UQ : Hid (∀ r f', TurnR N g (i : Nat) 1 false r f' → r = 0 ∧ f' = turn g i 1 false) := fun r f' ht => by
          have t2 : TurnR N g (i : Nat) 1 false 0 (turn g i 1 false) := .inr (.inr ⟨by omega, by omega, by omega, fun j h3 h4 => by
            simp only [Int.toNat_natCast, show (1 : Int).toNat = 1 from rfl] at h3 h4
            obtain rfl : j = i := by omega
            exact hg, rfl, by simp only [Int.toNat_natCast, show (1 : Int).toNat = 1 from rfl]⟩)
          exact ht.one t2
        have NG : Hid (∀ j, j < i + 1 → turn g i 1 false j = false) := fun j hj => by
          by_cases e : j = i
          · rw [e, turn_in (Nat.le_refl _) (by omega)]
          · rw [turn_out (by omega)]; exact HG.out j (by omega)
        clear hg HH
        go_wp2_with (first
          | (go_at_call 20; refine (give_any S b N g (i : Nat) 1 _ O3.out.isR O3.out.hS hN6 (by omega) (by omega)).mono ?_; rintro e w4 ⟨r4, f4, rfl, t4, i4, u4⟩; obtain ⟨rfl, rfl⟩ := UQ.out r4 f4 t4; have O4 : Hid (On w w4 S b N (turn g i 1 false)) := O3.out.next i4 u4; clear t4 i4 u4)
          | (go_at_call 16; refine (has_any S b N g (i : Nat) _ HO.out.isR hN6 (by omega)).mono ?_; rw [HF.out]; rintro e w3 ⟨rfl, b3⟩; have O3 : Hid (On w w3 S b N g) := HO.out.keep b3; clear b3)
          | (go_at_call 15; refine (len_any S b N g _ HO.out.isR).mono ?_; rintro e w' ⟨rfl, rfl⟩))
        go_roundw
        case rel => exact ⟨i + 1, turn g i 1 false, by omega, by go_num, O4.out, NG.out⟩
        case measure => simp [intOf]; omega
    · obtain rfl : i = N := by omega
      have FA := free_all HG.out
      by_cases h0 : i = 0
      · subst h0
        have FE : Hid (freeL g 0 = []) := rfl
        clear FA HG
        go_wp2_with (first
          | (go_at_call 13; refine (free_any S b 0 g _ HO.out.isR hN6).mono ?_; rw [FE.out]; rintro e w5 ⟨rfl, r5, b5⟩; have O5 : Hid (On w w5 S b 0 g) := HO.out.keep b5; clear r5 b5)
          | (go_at_call 15; refine (len_any S b 0 g _ O5.out.isR).mono ?_; rintro e w' ⟨rfl, rfl⟩)
          | (go_at_call 15; refine (len_any S b 0 g _ HO.out.isR).mono ?_; rintro e w' ⟨rfl, rfl⟩))
        go_ret
        exact ⟨rfl, O5.out.low⟩
      · rw [if_neg h0] at FA
        have FE : Hid (freeL g i = [(0, i)]) := FA
        have SE : Hid (sumL (freeL g i) = i) := by show _ = _; rw [FA]; simp [sumL]
        have hi0 : ¬ ((i : Int) = 0) := by omega
        have hib : ((i : Int) == 0) = false := beq_eq_false_iff_ne.2 hi0
        clear FA HG
        go_wp2_with (first
          | (go_at_call 13; refine (free_any S b i g _ HO.out.isR hN6).mono ?_; rw [FE.out]; rintro e w5 ⟨rfl, r5, b5⟩; have O5 : Hid (On w w5 S b i g) := HO.out.keep b5; have R5 : Hid (Row w5 wr.heap.size [(0, i)]) := r5; clear r5 b5)
          | (go_at_call 15; refine (len_any S b i g _ O5.out.isR).mono ?_; rintro e w' ⟨rfl, rfl⟩)
          | (go_at_call 15; refine (len_any S b i g _ HO.out.isR).mono ?_; rintro e w' ⟨rfl, rfl⟩))
        have y0 : w5.cell? ⟨wr.heap.size, 0, none⟩ = some (.int .i64 0) := R5.out.cell0 0 (by simp)
        have y1 : w5.cell? ⟨wr.heap.size, 1, none⟩ = some (.int .i64 (i : Nat)) := R5.out.cell1 0 (by simp)
        go_region_held3 (fun w' => w'.cell? ⟨wr.heap.size, 0, none⟩ = some (.int .i64 0) ∧ w'.cell? ⟨wr.heap.size, 1, none⟩ = some (.int .i64 (i : Nat))) (first | assumption | exact ⟨by assumption, by assumption⟩ | go_keep)
          (first
            | (go_at_call 15; refine (len_any S b i g _ O6.out.isR).mono ?_; rintro e w' ⟨rfl, rfl⟩)
            | (go_at_call 17; refine (left_any S b i g _ O5.out.drew.isR hN6).mono ?_; rw [SE.out]; rintro e w6 ⟨rfl, b6⟩; have O6 : Hid (On w w6 S b i g) := O5.out.drew.keep b6; have y06 : w6.cell? ⟨wr.heap.size, 0, none⟩ = some (.int .i64 0) := bcellK b6 y0; have y16 : w6.cell? ⟨wr.heap.size, 1, none⟩ = some (.int .i64 (i : Nat)) := bcellK b6 y1; clear b6)
            | (go_at_call 15; refine (len_any S b i g _ O5.out.drew.isR).mono ?_; rintro e w' ⟨rfl, rfl⟩))
        go_wp2
        go_ret
        exact ⟨rfl, O6.out.low⟩
end Go.Proofs.Ytdpkmlkckhhcgaa
