/- Layer 17: RoC again -/
import Derived.Test.YtbajchidpffbpaaDoorAuB
import Derived.Test.YtbajchidpffbpaaDoorMhA
import Derived.Test.YtbajchidpffbpaaDoorJrRoP
namespace Go.Proofs.YtbajchidpffbpaaDoor
open Go.RowKit
set_option linter.unusedVariables false
set_option maxRecDepth 4000
theorem placed_ok {s f p : Int} {l : List Int} {k : Nat} (h : k < l.length) (hp : l.getD k 0 = p) (h1 : f ≤ p) (h2 : p ≤ s - 8) (h3 : p % 8 = 0) : placedB s f (l.drop k) = placedB s (p + 8) (l.drop (k + 1)) := by
  rw [placed_step s f l k h, hp, decide_eq_true ⟨h1, h2, h3⟩, Bool.true_and]
theorem placed_no {s f p : Int} {l : List Int} {k : Nat} (h : k < l.length) (hp : l.getD k 0 = p) (h1 : ¬ (f ≤ p ∧ p ≤ s - 8 ∧ p % 8 = 0)) : placedB s f (l.drop k) = false := by
  rw [placed_step s f l k h, hp, decide_eq_false h1, Bool.false_and]
/-- The three ways in which a place can be wrong. -/
theorem wrong_ways {s f p : Int} (hok : ¬ (f ≤ p ∧ p ≤ s - 8 ∧ p % 8 = 0)) : p < f ∨ (f ≤ p ∧ s - 8 < p) ∨ (f ≤ p ∧ p ≤ s - 8 ∧ (p % 8 != 0) = true) := by
  rcases Int.lt_or_le p f with h | h
  · exact .inl h
  · rcases Int.lt_or_le (s - 8) p with h' | h'
    · exact .inr (.inl ⟨h, h'⟩)
    · exact .inr (.inr ⟨h, h', by rw [bne_iff_ne]; intro h8; exact hok ⟨h, h', h8⟩⟩)

set_option maxHeartbeats 4000000 in
/-- What the code's Right answers. -/
theorem oright_any (a : Option Addr) (c : Nat) (l : List Int) (n : Int) (w : World) (hI : IsI w a l) (hm : l.length ≤ maxLen) (hn : -9223372036854775808 ≤ n ∧ n ≤ 9223372036854775807) :
    Calls Tryd.prog 34 #[.slice a l.length c, .int .i64 n] w fun e w' => e = .returned (.bool (rrightT n l)) ∧ w = w' := by
  have I1 : Hid (IsI w a l) := hI
  unfold maxLen at hm
  clear hI
  by_cases hbig : 8192 < l.length
  · rw [right_many hbig]
    go_enter Tryd.func34, Tryd.ntmps34
    go_wp2
    go_ret
    exact ⟨rfl, rfl⟩
  · have hfew : l.length ≤ 8192 := by omega
    rw [right_few hfew]
    have hcn : (n < 0 ∧ max 0 n = 0) ∨ (n = 0 ∧ max 0 n = 0) ∨ (0 < n ∧ max 0 n = n) := by omega
    clear hbig
    rcases hcn with ⟨q1, q2⟩ | ⟨q1, q2⟩ | ⟨q1, q2⟩
    · rw [q2]
      clear q2
      go_enter Tryd.func34, Tryd.ntmps34
      go_wp2
      go_loop [5, 15] (fun fv iv => ∃ (k : Nat) (f : Int), k ≤ l.length ∧ iv = .int .i64 k ∧ fv = .int .i64 f ∧ 0 ≤ f ∧ f ≤ 9223372036854775807 ∧ placedB 0 0 l = placedB 0 f (l.drop k)) (fun _ iv => l.length - (intOf iv).toNat)
      case atStart => exact ⟨0, 0, Nat.zero_le _, rfl, rfl, by omega, by omega, rfl⟩
      case round =>
        obtain ⟨k, f, hk, rfl, rfl, f0, f1, hp⟩ := hrel
        have HP : Hid (placedB 0 0 l = placedB 0 f (l.drop k)) := hp
        clear hp
        by_cases hlt : k < l.length
        · obtain ⟨hin, h0 | ⟨b, off, rfl, hsz, hc⟩⟩ := I1.out
          · rw [h0] at hlt; simp at hlt
          have hcell := hc k hlt
          have hpb := AllI.at (show AllI l from hin) k
          obtain ⟨p, hp⟩ : ∃ p, l.getD k 0 = p := ⟨_, rfl⟩
          rw [hp] at hcell hpb
          have HPP : Hid (l.getD k 0 = p) := hp
          clear hp hc hin hsz
          by_cases hok : f ≤ p ∧ p ≤ 0 - 8 ∧ p % 8 = 0
          · obtain ⟨k1, k2, k3⟩ := hok
            exfalso; omega
          · have EQ : Hid (placedB 0 0 l = false) := by show _ = _; rw [HP.out, placed_no hlt HPP.out hok]
            clear HP
            rcases wrong_ways hok with h | ⟨h, h'⟩ | ⟨h, h', h8⟩
            case inr.inr => exfalso; omega
            all_goals
              clear hok
              go_wp2
              go_ret
              exact ⟨ret_bool EQ.out.symm, rfl⟩
        · have EQ : Hid (placedB 0 0 l = true) := by show _ = _; rw [HP.out, placed_end 0 f l k (by omega)]
          clear HP
          go_wp2
          go_ret
          exact ⟨ret_bool EQ.out.symm, rfl⟩
    · rw [q2]
      clear q2
      subst q1
      go_enter Tryd.func34, Tryd.ntmps34
      go_wp2
      go_loop [5, 15] (fun fv iv => ∃ (k : Nat) (f : Int), k ≤ l.length ∧ iv = .int .i64 k ∧ fv = .int .i64 f ∧ 0 ≤ f ∧ f ≤ 9223372036854775807 ∧ placedB 0 0 l = placedB 0 f (l.drop k)) (fun _ iv => l.length - (intOf iv).toNat)
      case atStart => exact ⟨0, 0, Nat.zero_le _, rfl, rfl, by omega, by omega, rfl⟩
      case round =>
        obtain ⟨k, f, hk, rfl, rfl, f0, f1, hp⟩ := hrel
        have HP : Hid (placedB 0 0 l = placedB 0 f (l.drop k)) := hp
        clear hp
        by_cases hlt : k < l.length
        · obtain ⟨hin, h0 | ⟨b, off, rfl, hsz, hc⟩⟩ := I1.out
          · rw [h0] at hlt; simp at hlt
          have hcell := hc k hlt
          have hpb := AllI.at (show AllI l from hin) k
          obtain ⟨p, hp⟩ : ∃ p, l.getD k 0 = p := ⟨_, rfl⟩
          rw [hp] at hcell hpb
          have HPP : Hid (l.getD k 0 = p) := hp
          clear hp hc hin hsz
          by_cases hok : f ≤ p ∧ p ≤ 0 - 8 ∧ p % 8 = 0
          · obtain ⟨k1, k2, k3⟩ := hok
            exfalso; omega
          · have EQ : Hid (placedB 0 0 l = false) := by show _ = _; rw [HP.out, placed_no hlt HPP.out hok]
            clear HP
            rcases wrong_ways hok with h | ⟨h, h'⟩ | ⟨h, h', h8⟩
            case inr.inr => exfalso; omega
            all_goals
              clear hok
              go_wp2
              go_ret
              exact ⟨ret_bool EQ.out.symm, rfl⟩
        · have EQ : Hid (placedB 0 0 l = true) := by show _ = _; rw [HP.out, placed_end 0 f l k (by omega)]
          clear HP
          go_wp2
          go_ret
          exact ⟨ret_bool EQ.out.symm, rfl⟩
    · rw [q2]
      clear q2
      go_enter Tryd.func34, Tryd.ntmps34
      go_wp2
      go_loop [5, 15] (fun fv iv => ∃ (k : Nat) (f : Int), k ≤ l.length ∧ iv = .int .i64 k ∧ fv = .int .i64 f ∧ 0 ≤ f ∧ f ≤ 9223372036854775807 ∧ placedB n 0 l = placedB n f (l.drop k)) (fun _ iv => l.length - (intOf iv).toNat)
      case atStart => exact ⟨0, 0, Nat.zero_le _, rfl, rfl, by omega, by omega, rfl⟩
      case round =>
        obtain ⟨k, f, hk, rfl, rfl, f0, f1, hp⟩ := hrel
        have HP : Hid (placedB n 0 l = placedB n f (l.drop k)) := hp
        clear hp
        by_cases hlt : k < l.length
        · obtain ⟨hin, h0 | ⟨b, off, rfl, hsz, hc⟩⟩ := I1.out
          · rw [h0] at hlt; simp at hlt
          have hcell := hc k hlt
          have hpb := AllI.at (show AllI l from hin) k
          obtain ⟨p, hp⟩ : ∃ p, l.getD k 0 = p := ⟨_, rfl⟩
          rw [hp] at hcell hpb
          have HPP : Hid (l.getD k 0 = p) := hp
          clear hp hc hin hsz
          by_cases hok : f ≤ p ∧ p ≤ n - 8 ∧ p % 8 = 0
          · obtain ⟨k1, k2, k3⟩ := hok
            have EQ : Hid (placedB n 0 l = placedB n (p + 8) (l.drop (k + 1))) := by show _ = _; rw [HP.out, placed_ok hlt HPP.out k1 k2 k3]
            clear HP
            go_wp2
            go_round
            case rel => exact ⟨k + 1, p + 8, by omega, by go_num, rfl, by omega, by omega, EQ.out⟩
            case measure => simp [intOf]; omega
          · have EQ : Hid (placedB n 0 l = false) := by show _ = _; rw [HP.out, placed_no hlt HPP.out hok]
            clear HP
            rcases wrong_ways hok with h | ⟨h, h'⟩ | ⟨h, h', h8⟩
            all_goals
              clear hok
              go_wp2
              go_ret
              exact ⟨ret_bool EQ.out.symm, rfl⟩
        · have EQ : Hid (placedB n 0 l = true) := by show _ = _; rw [HP.out, placed_end n f l k (by omega)]
          clear HP
          go_wp2
          go_ret
          exact ⟨ret_bool EQ.out.symm, rfl⟩

/-- Right, told apart. -/
theorem oright_is (a : Option Addr) (c m : Nat) (l : List Int) (n : Int) (v : Bool) (w : World) (hm' : m = l.length) (hv : rrightT n l = v) (hI : IsI w a l) (hm : l.length ≤ maxLen) (hn : -9223372036854775808 ≤ n ∧ n ≤ 9223372036854775807) :
    Calls Tryd.prog 34 #[.slice a m c, .int .i64 n] w fun e w' => e = .returned (.bool v) ∧ w = w' := by
  subst hm' hv; exact oright_any a c l n w hI hm hn
end Go.Proofs.YtbajchidpffbpaaDoor
