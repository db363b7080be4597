/- What digits returns: the number that the digits at the head come to. -/
import Derived.Test.YtdhamfhicdcdgaaNumRd
namespace Go.Proofs.Ytdhamfhicdcdgaa
open Go.RowKit
set_option linter.unusedVariables false

theorem ret3 {k1 k2 k3 : IntKind} {a b c a' b' c' : Int} (h : a = a') (h' : b = b') (h'' : c = c') : Ending.returned (.tuple #[.int k1 a, .int k2 b, .int k3 c]) = .returned (.tuple #[.int k1 a', .int k2 b', .int k3 c']) := by rw [h, h', h'']

set_option maxHeartbeats 2000000 in
theorem digits_any (a : Option Addr) (cap : Nat) (l : List Int) (w : World) (h : IsB w a l) (hm : l.length ≤ maxLen) :
    Calls Try.prog 40 #[.slice a l.length cap] w fun e w' => e = .returned (.tuple #[.int .u64 (rdL l).1, .int .i64 (rdL l).2.1, .int .i64 (rdL l).2.2]) ∧ w = w' := by
  obtain ⟨hb, rfl | ⟨b, off, rfl, hsz, hc⟩⟩ := h
  · go_enter Try.func40, Try.ntmps40
    go_wp2
    refine wp_loop_rounds 1 ?_
    rw [rounds_succ]
    go_wp2
    go_ret3
    exact ⟨rfl, rfl⟩
  · unfold maxLen at hm
    go_enter Try.func40, Try.ntmps40
    go_wp2
    go_loop [2, 9] (fun n i => ∃ (k : Nat) (acc : Int), k ≤ l.length ∧ k ≤ 9 ∧ i = .int .i64 k ∧ n = .int .u64 acc ∧ 0 ≤ acc ∧ acc < 2 ^ (7 * k) ∧ rdL l = rdF k acc (l.drop k)) (fun _ i => l.length - (intOf i).toNat)
    case atStart => exact ⟨0, 0, Nat.zero_le _, Nat.zero_le _, rfl, rfl, by decide, by decide, rfl⟩
    case round =>
      obtain ⟨k, acc, hkl, hk9, rfl, rfl, ha0, ha1, hr⟩ := hrel
      have HR : Hid (rdL l = rdF k acc (l.drop k)) := hr
      clear hr
      by_cases hl : k < l.length
      · have hcell := hc k hl
        have hx := hb l[k] (List.getElem_mem hl)
        go_wp2
        all_goals first
          | (go_round
             case rel =>
               have h9 : ¬ (k : Int) = 9 := by assumption
               have hge : 128 ≤ l[k] := by assumption
               have D := dig_or k acc (l[k] % 128) ha0 ha1 (by omega) (.inl ⟨by omega, by omega⟩)
               exact ⟨k + 1, acc + l[k] % 128 * 2 ^ (7 * k), by omega, by omega, by go_num, by rw [D.1], D.2.1, dig_bd k acc _ ha1 (by omega), by rw [HR.out]; exact rd_go l k acc hl (by omega) (by omega) hge⟩
             case measure => simp [intOf]; omega)
          | (have h1 : 1 < l[k] := by assumption
             have E : rdL l = (0, 0, 4) := by rw [HR.out]; exact rd_bad l k acc hl (.inl ⟨by omega, h1⟩)
             go_ret3
             rw [E]
             exact ⟨rfl, rfl⟩)
          | (have h1 : (l[k] == 0) = true := by assumption
             have E : rdL l = (0, 0, 4) := by rw [HR.out]; exact rd_bad l k acc hl (.inr ⟨by omega, by simpa using h1⟩)
             go_ret3
             rw [E]
             exact ⟨rfl, rfl⟩)
          | (have h1 : l[k] < 128 := by assumption
             have h2 : ¬ (k = 9 ∧ 1 < l[k]) := by omega
             have h3 : ¬ (0 < k ∧ l[k] = 0) := by
               first
                 | (have h4 : (l[k] == 0) = false := by assumption
                    intro h5
                    simp [h5.2] at h4)
                 | omega
             have E : rdL l = (acc + l[k] % 128 * 2 ^ (7 * k), k + 1, 0) := by rw [HR.out]; exact rd_stop l k acc hl h2 h3 h1
             have D := dig_or k acc (l[k] % 128) ha0 ha1 (by omega) (by omega)
             go_ret3
             rw [E]
             first
               | exact ⟨ret3 D.1 (by first | (dsimp only; omega) | omega | simp) rfl, rfl⟩
               | (have hk : k = 9 := by omega
                  have D9 := dig_or9 k acc (l[k] % 128) hk ha0 ha1 (by omega) (by omega)
                  exact ⟨ret3 D9 (by first | (dsimp only; omega) | omega | simp) rfl, rfl⟩))
      · have E : rdL l = (0, 0, 3) := by rw [HR.out]; exact rd_end l k acc (by omega)
        have HE : Hid (rdL l = (0, 0, 3)) := E
        clear E
        go_wp2
        go_ret3
        rw [HE.out]
        exact ⟨rfl, rfl⟩
end Go.Proofs.Ytdhamfhicdcdgaa
