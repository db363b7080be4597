/- The document's Check and Plain, and where a pointer field begins. -/
import Derived.Test.YtjalagjnhjaaoaaKdF
namespace Go.Proofs.Ytjalagjnhjaaoaa
open Go.RowKit
set_option linter.unusedVariables false
set_option maxRecDepth 4000

theorem from_zero (ps : List Int) : fromK ps 0 = 0 := rfl
theorem from_succ (ps : List Int) (j : Nat) : fromK ps (j + 1) = ps.getD j 0 + 8 := by unfold fromK; simp

set_option maxHeartbeats 4000000 in
theorem rcheck_any (s : Int) (a : Option Addr) (c : Nat) (ps : List Int) (w : World) (hI : IsI w a ps) (hm : ps.length ≤ maxLen) :
    Calls Try.prog 39 #[.agg #[.int .i64 s, .slice a ps.length c]] w fun e w' => e = .returned (.int .i64 (checkK s ps)) ∧ Below w.heap.size w w' := by
  have HB : Hid (Below w.heap.size w (w.alloc (.cells #[.int .i64 s, .slice a ps.length c] 54))) := box_below w s a _ c
  have I1 : Hid (IsI (w.alloc (.cells #[.int .i64 s, .slice a ps.length c] 54)) a ps) := hI.keep HB.out
  clear hI
  unfold maxLen at hm
  by_cases h1 : s < 1 ∨ 4096 < s
  · have E : Hid (checkK s ps = 2) := check_two h1
    go_enter Try.func39, Try.ntmps39
    go_wp2
    all_goals (go_ret; exact ⟨ret_int E.out.symm, HB.out⟩)
  · by_cases h2 : 16 < ps.length
    · have E : Hid (checkK s ps = 6) := check_six h1 h2
      have g1 : ¬ s < 1 := by omega
      have g2 : ¬ 4096 < s := by omega
      clear h1
      go_enter Try.func39, Try.ntmps39
      go_wp2
      all_goals (go_ret; exact ⟨ret_int E.out.symm, HB.out⟩)
    · have g1 : 1 ≤ s := by omega
      have g2 : s ≤ 4096 := by omega
      have g3 : ps.length ≤ 16 := by omega
      have EK : Hid (placedB s 0 ps = true → checkK s ps = 0) := fun h => check_ok h1 h2 h
      have EL : Hid (placedB s 0 ps = false → checkK s ps = 11) := fun h => check_el h1 h2 h
      clear h1 h2
      go_enter Try.func39, Try.ntmps39
      go_wp2
      go_loop [20] (fun iv => ∃ k : Nat, k ≤ ps.length ∧ iv = .int .i64 k ∧ placedB s 0 ps = placedB s (fromK ps k) (ps.drop k) ∧ ∀ j, k = j + 1 → 0 ≤ ps.getD j 0 ∧ ps.getD j 0 ≤ s - 8 ∧ ps.getD j 0 % 8 = 0) (fun iv => ps.length - (intOf iv).toNat)
      case atStart => exact ⟨0, Nat.zero_le _, rfl, rfl, fun j h => by omega⟩
      case round =>
        obtain ⟨k, hk, rfl, hp, hj⟩ := hrel
        have HP : Hid (placedB s 0 ps = placedB s (fromK ps k) (ps.drop k)) := hp
        have HJ : Hid (∀ j, k = j + 1 → 0 ≤ ps.getD j 0 ∧ ps.getD j 0 ≤ s - 8 ∧ ps.getD j 0 % 8 = 0) := hj
        clear hp hj
        by_cases hlt : k < ps.length
        · obtain ⟨hin, h0 | ⟨b, off, rfl, hsz, hc⟩⟩ := I1.out
          · rw [h0] at hlt; simp at hlt
          have hcell := hc k hlt
          have hpb := AllI.at (show AllI ps from hin) k
          have EP : Hid (placedB s (fromK ps k) (ps.drop k) = (decide (fromK ps k ≤ ps.getD k 0 ∧ ps.getD k 0 ≤ s - 8 ∧ ps.getD k 0 % 8 = 0) && placedB s (ps.getD k 0 + 8) (ps.drop (k + 1)))) := placed_step s _ ps k hlt
          obtain ⟨p, hp⟩ : ∃ p, ps.getD k 0 = p := ⟨_, rfl⟩
          rw [hp] at hcell hpb EP
          have EPK : Hid (ps.getD k 0 = p) := hp
          have GO : Hid ((fromK ps k ≤ p ∧ p ≤ s - 8 ∧ p % 8 = 0) → placedB s 0 ps = placedB s (fromK ps (k + 1)) (ps.drop (k + 1))) := fun h => by rw [HP.out, EP.out, decide_eq_true h, Bool.true_and, from_succ, EPK.out]
          have NO : Hid (¬ (fromK ps k ≤ p ∧ p ≤ s - 8 ∧ p % 8 = 0) → checkK s ps = 11) := fun h => EL.out (by rw [HP.out, EP.out, decide_eq_false h, Bool.false_and])
          have NJ : Hid ((fromK ps k ≤ p ∧ p ≤ s - 8 ∧ p % 8 = 0) → 0 ≤ fromK ps k → ∀ j, k + 1 = j + 1 → 0 ≤ ps.getD j 0 ∧ ps.getD j 0 ≤ s - 8 ∧ ps.getD j 0 % 8 = 0) := fun h h' j e => by
            obtain rfl : k = j := by omega
            rw [EPK.out]; omega
          clear hp EP EPK HP
          rcases k with _ | j
          · rw [from_zero] at GO NO NJ
            rw [Nat.add_zero] at hcell
            by_cases hok : 0 ≤ p ∧ p ≤ s - 8 ∧ p % 8 = 0
            · have NX : Hid _ := GO.out hok
              have NY : Hid _ := NJ.out hok (by omega)
              obtain ⟨k1, k2, k3⟩ := hok
              clear hc hin hsz GO NO NJ
              go_wp2
              go_round
              case rel => exact ⟨0 + 1, by omega, by go_num, NX.out, NY.out⟩
              case measure => simp [intOf]; omega
            · have E : Hid (checkK s ps = 11) := NO.out hok
              have hcs : p < 0 ∨ (0 ≤ p ∧ (p % 8 != 0) = true) ∨ (0 ≤ p ∧ p % 8 = 0 ∧ s - 8 < p) := by
                rcases Int.lt_or_le p 0 with h | h
                · exact .inl h
                · by_cases h8 : p % 8 = 0
                  · exact .inr (.inr ⟨h, h8, by omega⟩)
                  · exact .inr (.inl ⟨h, by rw [bne_iff_ne]; exact h8⟩)
              clear hc hin hsz GO NO NJ hok
              rcases hcs with h | ⟨h, h'⟩ | ⟨h, h', h8⟩
              all_goals (go_wp2; go_ret; exact ⟨ret_int E.out.symm, HB.out⟩)
          · have hcell' := hc j (by omega)
            obtain ⟨r0, r1, r8⟩ := HJ.out j rfl
            rw [from_succ] at GO NO NJ
            obtain ⟨r, hr⟩ : ∃ r, ps.getD j 0 = r := ⟨_, rfl⟩
            rw [hr] at hcell' r0 r1 r8
            have ER : Hid (ps.getD j 0 = r) := hr
            rw [hr] at GO NO
            have NJ' : Hid ((r + 8 ≤ p ∧ p ≤ s - 8 ∧ p % 8 = 0) → 0 ≤ r + 8 → ∀ i, j + 1 + 1 = i + 1 → 0 ≤ ps.getD i 0 ∧ ps.getD i 0 ≤ s - 8 ∧ ps.getD i 0 % 8 = 0) := by rw [← hr]; exact NJ.out
            clear hr
            by_cases hok : r + 8 ≤ p ∧ p ≤ s - 8 ∧ p % 8 = 0
            · have NX : Hid _ := GO.out hok
              have NY : Hid _ := NJ'.out hok (by omega)
              obtain ⟨k1, k2, k3⟩ := hok
              clear hc hin hsz GO NO NJ NJ'
              go_wp2
              go_round
              case rel => exact ⟨j + 1 + 1, by omega, by go_num, NX.out, NY.out⟩
              case measure => simp [intOf]; omega
            · have E : Hid (checkK s ps = 11) := NO.out hok
              have hcs : p < 0 ∨ (0 ≤ p ∧ (p % 8 != 0) = true) ∨ (0 ≤ p ∧ p % 8 = 0 ∧ s - 8 < p) ∨ (0 ≤ p ∧ p % 8 = 0 ∧ p ≤ s - 8 ∧ p ≤ r) := by
                rcases Int.lt_or_le p 0 with h | h
                · exact .inl h
                · by_cases h8 : p % 8 = 0
                  · by_cases h9 : s - 8 < p
                    · exact .inr (.inr (.inl ⟨h, h8, h9⟩))
                    · exact .inr (.inr (.inr ⟨h, h8, by omega, by omega⟩))
                  · exact .inr (.inl ⟨h, by rw [bne_iff_ne]; exact h8⟩)
              clear hc hin hsz GO NO NJ NJ' hok
              rcases hcs with h | ⟨h, h'⟩ | ⟨h, h', h8⟩ | ⟨h, h', h8, h9⟩
              all_goals (go_wp2; go_ret; exact ⟨ret_int E.out.symm, HB.out⟩)
        · have E : Hid (checkK s ps = 0) := EK.out (by rw [HP.out]; exact placed_end s _ ps k (by omega))
          clear HP
          go_wp2
          go_ret
          exact ⟨ret_int E.out.symm, HB.out⟩
theorem rcheck_is (s : Int) (a : Option Addr) (c n : Nat) (ps : List Int) (r : Int) (w : World) (hn : n = ps.length) (hr : checkK s ps = r) (hI : IsI w a ps) (hm : ps.length ≤ maxLen) :
    Calls Try.prog 39 #[.agg #[.int .i64 s, .slice a n c]] w fun e w' => e = .returned (.int .i64 r) ∧ Below w.heap.size w w' := by
  subst hn hr; exact rcheck_any s a c ps w hI hm

/-- Where a pointer field begins. -/
def fieldV (s : Int) (ps : List Int) (i : Int) : Int × Bool := if checkK s ps = 0 ∧ 0 ≤ i ∧ i < ps.length then (ps.getD i.toNat 0, true) else (0, false)

end Go.Proofs.Ytjalagjnhjaaoaa
