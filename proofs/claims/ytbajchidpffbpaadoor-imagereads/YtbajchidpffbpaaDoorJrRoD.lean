/- Layer 17: RoD again -/
import Derived.Test.YtbajchidpffbpaaDoorAuB
import Derived.Test.YtbajchidpffbpaaDoorMhA
import Derived.Test.YtbajchidpffbpaaDoorJrRoC
namespace Go.Proofs.YtbajchidpffbpaaDoor
open Go.RowKit
set_option linter.unusedVariables false
set_option maxRecDepth 4000
theorem placed_none {l : List Int} (h : 0 < l.length) : placedB 0 0 l = false := by
  rcases l with _ | ⟨p, l⟩
  · simp at h
  · rw [placedB, decide_eq_false (by omega), Bool.false_and]

set_option maxHeartbeats 4000000 in
theorem roright_any (a : Option Addr) (c : Nat) (l : List Int) (n : Int) (w : World) (hI : IsI w a l) (hm : l.length ≤ maxLen) (hn : -9223372036854775808 ≤ n ∧ n ≤ 9223372036854775807) :
    Calls Tryd.prog 37 #[.slice a l.length c, .int .i64 n] w fun e w' => e = .returned (.bool (rrightT n l)) ∧ w = w' := by
  have I1 : Hid (IsI w a l) := hI
  unfold maxLen at hm
  clear hI
  by_cases hbig : 8192 < l.length
  · rw [right_many hbig]
    go_enter Tryd.func37, Tryd.ntmps37
    go_wp2
    go_ret
    exact ⟨rfl, rfl⟩
  · have hfew : l.length ≤ 8192 := by omega
    rw [right_few hfew]
    have hcn : (n < 0 ∧ max 0 n = 0) ∨ (n = 0 ∧ max 0 n = 0) ∨ (0 < n ∧ max 0 n = n) := by omega
    clear hbig
    rcases hcn with ⟨q1, q2⟩ | ⟨q1, q2⟩ | ⟨q1, q2⟩
    · rw [q2]
      clear q2
      by_cases hlt : 0 < l.length
      · have EQ : Hid (placedB 0 0 l = false) := placed_none hlt
        obtain ⟨hin, h0 | ⟨b, off, rfl, hsz, hc⟩⟩ := I1.out
        · rw [h0] at hlt; simp at hlt
        have hcell := hc 0 hlt
        rw [Nat.add_zero] at hcell
        have hpb := AllI.at (show AllI l from hin) 0
        obtain ⟨p, hp⟩ : ∃ p, l.getD 0 0 = p := ⟨_, rfl⟩
        rw [hp] at hcell hpb
        clear hp hc hin hsz
        have hcs : p < 0 ∨ (0 ≤ p ∧ (p % 8 != 0) = true) ∨ (0 ≤ p ∧ p % 8 = 0) := by
          rcases Int.lt_or_le p 0 with h | h
          · exact .inl h
          · by_cases h8 : p % 8 = 0
            · exact .inr (.inr ⟨h, h8⟩)
            · exact .inr (.inl ⟨h, by rw [bne_iff_ne]; exact h8⟩)
        rcases hcs with h | ⟨h, h'⟩ | ⟨h, h'⟩
        all_goals
          go_enter Tryd.func37, Tryd.ntmps37
          go_wp2
          refine wp_loop_rounds 1 ?_
          rw [rounds_succ]
          go_wp2
          go_ret
          exact ⟨ret_bool EQ.out.symm, rfl⟩
      · have EQ : Hid (placedB 0 0 l = true) := by
          have : l = [] := List.length_eq_zero_iff.1 (by omega)
          subst this; rfl
        go_enter Tryd.func37, Tryd.ntmps37
        go_wp2
        refine wp_loop_rounds 1 ?_
        rw [rounds_succ]
        go_wp2
        go_ret
        exact ⟨ret_bool EQ.out.symm, rfl⟩
    · rw [q2]
      clear q2
      subst q1
      by_cases hlt : 0 < l.length
      · have EQ : Hid (placedB 0 0 l = false) := placed_none hlt
        obtain ⟨hin, h0 | ⟨b, off, rfl, hsz, hc⟩⟩ := I1.out
        · rw [h0] at hlt; simp at hlt
        have hcell := hc 0 hlt
        rw [Nat.add_zero] at hcell
        have hpb := AllI.at (show AllI l from hin) 0
        obtain ⟨p, hp⟩ : ∃ p, l.getD 0 0 = p := ⟨_, rfl⟩
        rw [hp] at hcell hpb
        clear hp hc hin hsz
        have hcs : p < 0 ∨ (0 ≤ p ∧ (p % 8 != 0) = true) ∨ (0 ≤ p ∧ p % 8 = 0) := by
          rcases Int.lt_or_le p 0 with h | h
          · exact .inl h
          · by_cases h8 : p % 8 = 0
            · exact .inr (.inr ⟨h, h8⟩)
            · exact .inr (.inl ⟨h, by rw [bne_iff_ne]; exact h8⟩)
        rcases hcs with h | ⟨h, h'⟩ | ⟨h, h'⟩
        all_goals
          go_enter Tryd.func37, Tryd.ntmps37
          go_wp2
          refine wp_loop_rounds 1 ?_
          rw [rounds_succ]
          go_wp2
          go_ret
          exact ⟨ret_bool EQ.out.symm, rfl⟩
      · have EQ : Hid (placedB 0 0 l = true) := by
          have : l = [] := List.length_eq_zero_iff.1 (by omega)
          subst this; rfl
        go_enter Tryd.func37, Tryd.ntmps37
        go_wp2
        refine wp_loop_rounds 1 ?_
        rw [rounds_succ]
        go_wp2
        go_ret
        exact ⟨ret_bool EQ.out.symm, rfl⟩
    · rw [q2]
      clear q2
      go_enter Tryd.func37, Tryd.ntmps37
      go_wp2
      go_loop [12] (fun iv => ∃ k : Nat, k ≤ l.length ∧ iv = .int .i64 k ∧ placedB n 0 l = placedB n (fromK l k) (l.drop k) ∧ ∀ j, k = j + 1 → 0 ≤ l.getD j 0 ∧ l.getD j 0 ≤ n - 8 ∧ l.getD j 0 % 8 = 0) (fun iv => l.length - (intOf iv).toNat)
      case atStart => exact ⟨0, Nat.zero_le _, rfl, rfl, fun j h => by omega⟩
      case round =>
        obtain ⟨k, hk, rfl, hp, hj⟩ := hrel
        have HP : Hid (placedB n 0 l = placedB n (fromK l k) (l.drop k)) := hp
        have HJ : Hid (∀ j, k = j + 1 → 0 ≤ l.getD j 0 ∧ l.getD j 0 ≤ n - 8 ∧ l.getD j 0 % 8 = 0) := hj
        clear hp hj
        by_cases hlt : k < l.length
        · obtain ⟨hin, h0 | ⟨b, off, rfl, hsz, hc⟩⟩ := I1.out
          · rw [h0] at hlt; simp at hlt
          have hcell := hc k hlt
          have hpb := AllI.at (show AllI l from hin) k
          have EP : Hid (placedB n (fromK l k) (l.drop k) = (decide (fromK l k ≤ l.getD k 0 ∧ l.getD k 0 ≤ n - 8 ∧ l.getD k 0 % 8 = 0) && placedB n (l.getD k 0 + 8) (l.drop (k + 1)))) := placed_step n _ l k hlt
          obtain ⟨p, hp⟩ : ∃ p, l.getD k 0 = p := ⟨_, rfl⟩
          rw [hp] at hcell hpb EP
          have EPK : Hid (l.getD k 0 = p) := hp
          have GO : Hid ((fromK l k ≤ p ∧ p ≤ n - 8 ∧ p % 8 = 0) → placedB n 0 l = placedB n (fromK l (k + 1)) (l.drop (k + 1))) := fun h => by rw [HP.out, EP.out, decide_eq_true h, Bool.true_and, from_succ, EPK.out]
          have NO : Hid (¬ (fromK l k ≤ p ∧ p ≤ n - 8 ∧ p % 8 = 0) → placedB n 0 l = false) := fun h => (by rw [HP.out, EP.out, decide_eq_false h, Bool.false_and])
          have NJ : Hid ((fromK l k ≤ p ∧ p ≤ n - 8 ∧ p % 8 = 0) → 0 ≤ fromK l k → ∀ j, k + 1 = j + 1 → 0 ≤ l.getD j 0 ∧ l.getD j 0 ≤ n - 8 ∧ l.getD j 0 % 8 = 0) := fun h h' j e => by
            obtain rfl : k = j := by omega
            rw [EPK.out]; omega
          clear hp EP EPK HP
          rcases k with _ | j
          · rw [from_zero] at GO NO NJ
            rw [Nat.add_zero] at hcell
            by_cases hok : 0 ≤ p ∧ p ≤ n - 8 ∧ p % 8 = 0
            · have NX : Hid _ := GO.out hok
              have NY : Hid _ := NJ.out hok (by omega)
              obtain ⟨k1, k2, k3⟩ := hok
              clear hc hin hsz GO NO NJ
              go_wp2
              go_round
              case rel => exact ⟨0 + 1, by omega, by go_num, NX.out, NY.out⟩
              case measure => simp [intOf]; omega
            · have E : Hid (placedB n 0 l = false) := NO.out hok
              have hcs : p < 0 ∨ (0 ≤ p ∧ (p % 8 != 0) = true) ∨ (0 ≤ p ∧ p % 8 = 0 ∧ n - 8 < p) := by
                rcases Int.lt_or_le p 0 with h | h
                · exact .inl h
                · by_cases h8 : p % 8 = 0
                  · exact .inr (.inr ⟨h, h8, by omega⟩)
                  · exact .inr (.inl ⟨h, by rw [bne_iff_ne]; exact h8⟩)
              clear hc hin hsz GO NO NJ hok
              rcases hcs with h | ⟨h, h'⟩ | ⟨h, h', h8⟩
              all_goals (go_wp2; go_ret; exact ⟨ret_bool E.out.symm, rfl⟩)
          · have hcell' := hc j (by omega)
            obtain ⟨r0, r1, r8⟩ := HJ.out j rfl
            rw [from_succ] at GO NO NJ
            obtain ⟨r, hr⟩ : ∃ r, l.getD j 0 = r := ⟨_, rfl⟩
            rw [hr] at hcell' r0 r1 r8
            have ER : Hid (l.getD j 0 = r) := hr
            rw [hr] at GO NO
            have NJ' : Hid ((r + 8 ≤ p ∧ p ≤ n - 8 ∧ p % 8 = 0) → 0 ≤ r + 8 → ∀ i, j + 1 + 1 = i + 1 → 0 ≤ l.getD i 0 ∧ l.getD i 0 ≤ n - 8 ∧ l.getD i 0 % 8 = 0) := by rw [← hr]; exact NJ.out
            clear hr
            by_cases hok : r + 8 ≤ p ∧ p ≤ n - 8 ∧ p % 8 = 0
            · have NX : Hid _ := GO.out hok
              have NY : Hid _ := NJ'.out hok (by omega)
              obtain ⟨k1, k2, k3⟩ := hok
              clear hc hin hsz GO NO NJ NJ'
              go_wp2
              go_round
              case rel => exact ⟨j + 1 + 1, by omega, by go_num, NX.out, NY.out⟩
              case measure => simp [intOf]; omega
            · have E : Hid (placedB n 0 l = false) := NO.out hok
              have hcs : p < 0 ∨ (0 ≤ p ∧ (p % 8 != 0) = true) ∨ (0 ≤ p ∧ p % 8 = 0 ∧ n - 8 < p) ∨ (0 ≤ p ∧ p % 8 = 0 ∧ p ≤ n - 8 ∧ p ≤ r) := by
                rcases Int.lt_or_le p 0 with h | h
                · exact .inl h
                · by_cases h8 : p % 8 = 0
                  · by_cases h9 : n - 8 < p
                    · exact .inr (.inr (.inl ⟨h, h8, h9⟩))
                    · exact .inr (.inr (.inr ⟨h, h8, by omega, by omega⟩))
                  · exact .inr (.inl ⟨h, by rw [bne_iff_ne]; exact h8⟩)
              clear hc hin hsz GO NO NJ NJ' hok
              rcases hcs with h | ⟨h, h'⟩ | ⟨h, h', h8⟩ | ⟨h, h', h8, h9⟩
              all_goals (go_wp2; go_ret; exact ⟨ret_bool E.out.symm, rfl⟩)
        · have E : Hid (placedB n 0 l = true) := by show _ = _; rw [HP.out]; exact placed_end n _ l k (by omega)
          clear HP
          go_wp2
          go_ret
          exact ⟨ret_bool E.out.symm, rfl⟩

theorem roright_is (a : Option Addr) (c m : Nat) (l : List Int) (n : Int) (v : Bool) (w : World) (hm' : m = l.length) (hv : rrightT n l = v) (hI : IsI w a l) (hm : l.length ≤ maxLen) (hn : -9223372036854775808 ≤ n ∧ n ≤ 9223372036854775807) :
    Calls Tryd.prog 37 #[.slice a m c, .int .i64 n] w fun e w' => e = .returned (.bool v) ∧ w = w' := by
  subst hm' hv; exact roright_any a c l n w hI hm hn
end Go.Proofs.YtbajchidpffbpaaDoor
