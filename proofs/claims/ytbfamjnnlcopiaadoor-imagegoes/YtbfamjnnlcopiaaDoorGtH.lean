/- Layer 17: RoC again -/
import Derived.Test.YtbfamjnnlcopiaaDoorAuB
import Derived.Test.YtbfamjnnlcopiaaDoorMhA
import Derived.Test.YtbfamjnnlcopiaaDoorJrRoP
namespace Go.Proofs.YtbfamjnnlcopiaaDoor
open Go.RowKit
set_option linter.unusedVariables false
set_option maxRecDepth 4000
theorem placed_ok {s f p : Int} {l : List Int} {k : Nat} (h : k < l.length) (hp : l.getD k 0 = p) (h1 : f ≤ p) (h2 : p ≤ s - 8) (h3 : p % 8 = 0) : placedB s f (l.drop k) = placedB s (p + 8) (l.drop (k + 1)) := by
  rw [placed_step s f l k h, hp, decide_eq_true ⟨h1, h2, h3⟩, Bool.true_and]
theorem placed_no {s f p : Int} {l : List Int} {k : Nat} (h : k < l.length) (hp : l.getD k 0 = p) (h1 : ¬ (f ≤ p ∧ p ≤ s - 8 ∧ p % 8 = 0)) : placedB s f (l.drop k) = false := by
  rw [placed_step s f l k h, hp, decide_eq_false h1, Bool.false_and]
/-- The three ways in which a place can be wrong. -/
theorem wrong_ways {s f p : Int} (hok : ¬ (f ≤ p ∧ p ≤ s - 8 ∧ p % 8 = 0)) : p < f ∨ (f ≤ p ∧ s - 8 < p) ∨ (f ≤ p ∧ p ≤ s - 8 ∧ (p % 8 != 0) = true) := by
  rcases Int.lt_or_le p f with h | h
  · exact .inl h
  · rcases Int.lt_or_le (s - 8) p with h' | h'
    · exact .inr (.inl ⟨h, h'⟩)
    · exact .inr (.inr ⟨h, h', by rw [bne_iff_ne]; intro h8; exact hok ⟨h, h', h8⟩⟩)

set_option maxHeartbeats 4000000 in
/-- What the code's Right answers. -/
theorem oright_any (a : Option Addr) (c : Nat) (l : List Int) (n : Int) (w : World) (hI : IsI w a l) (hm : l.length ≤ maxLen) (hn : -9223372036854775808 ≤ n ∧ n ≤ 9223372036854775807) :
    Calls Tryd.prog 41 #[.slice a l.length c, .int .i64 n] w fun e w' => e = .returned (.bool (rrightT n l)) ∧ w = w' := by
  have I1 : Hid (IsI w a l) := hI
  unfold maxLen at hm
  clear hI
  by_cases hbig : 8192 < l.length
  · rw [right_many hbig]
    go_enter Tryd.func41, Tryd.ntmps41
    go_wp2
    go_ret
    exact ⟨rfl, rfl⟩
  · have hfew : l.length ≤ 8192 := by omega
    rw [right_few hfew]
    have hcn : (n < 0 ∧ max 0 n = 0) ∨ (n = 0 ∧ max 0 n = 0) ∨ (0 < n ∧ max 0 n = n) := by omega
    clear hbig
    rcases hcn with ⟨q1, q2⟩ | ⟨q1, q2⟩ | ⟨q1, q2⟩
    · rw [q2]
      clear q2
      go_enter Tryd.func41, Tryd.ntmps41
      go_wp2
      go_loop [5, 15] (fun fv iv => ∃ (k : Nat) (f : Int), k ≤ l.length ∧ iv = .int .i64 k ∧ fv = .int .i64 f ∧ 0 ≤ f ∧ f ≤ 9223372036854775807 ∧ placedB 0 0 l = placedB 0 f (l.drop k)) (fun _ iv => l.length - (intOf iv).toNat)
      case atStart => exact ⟨0, 0, Nat.zero_le _, rfl, rfl, by omega, by omega, rfl⟩
      case round =>
        obtain ⟨k, f, hk, rfl, rfl, f0, f1, hp⟩ := hrel
        have HP : Hid (placedB 0 0 l = placedB 0 f (l.drop k)) := hp
        clear hp
        by_cases hlt : k < l.length
        · obtain ⟨hin, h0 | ⟨b, off, rfl, hsz, hc⟩⟩ := I1.out
          · rw [h0] at hlt; simp at hlt
          have hcell := hc k hlt
          have hpb := AllI.at (show AllI l from hin) k
          obtain ⟨p, hp⟩ : ∃ p, l.getD k 0 = p := ⟨_, rfl⟩
          rw [hp] at hcell hpb
          have HPP : Hid (l.getD k 0 = p) := hp
          clear hp hc hin hsz
          by_cases hok : f ≤ p ∧ p ≤ 0 - 8 ∧ p % 8 = 0
          · obtain ⟨k1, k2, k3⟩ := hok
            exfalso; omega
          · have EQ : Hid (placedB 0 0 l = false) := by show _ = _; rw [HP.out, placed_no hlt HPP.out hok]
            clear HP
            rcases wrong_ways hok with h | ⟨h, h'⟩ | ⟨h, h', h8⟩
            case inr.inr => exfalso; omega
            all_goals
              clear hok
              go_wp2
              go_ret
              exact ⟨ret_bool EQ.out.symm, rfl⟩
        · have EQ : Hid (placedB 0 0 l = true) := by show _ = _; rw [HP.out, placed_end 0 f l k (by omega)]
          clear HP
          go_wp2
          go_ret
          exact ⟨ret_bool EQ.out.symm, rfl⟩
    · rw [q2]
      clear q2
      subst q1
      go_enter Tryd.func41, Tryd.ntmps41
      go_wp2
      go_loop [5, 15] (fun fv iv => ∃ (k : Nat) (f : Int), k ≤ l.length ∧ iv = .int .i64 k ∧ fv = .int .i64 f ∧ 0 ≤ f ∧ f ≤ 9223372036854775807 ∧ placedB 0 0 l = placedB 0 f (l.drop k)) (fun _ iv => l.length - (intOf iv).toNat)
      case atStart => exact ⟨0, 0, Nat.zero_le _, rfl, rfl, by omega, by omega, rfl⟩
      case round =>
        obtain ⟨k, f, hk, rfl, rfl, f0, f1, hp⟩ := hrel
        have HP : Hid (placedB 0 0 l = placedB 0 f (l.drop k)) := hp
        clear hp
        by_cases hlt : k < l.length
        · obtain ⟨hin, h0 | ⟨b, off, rfl, hsz, hc⟩⟩ := I1.out
          · rw [h0] at hlt; simp at hlt
          have hcell := hc k hlt
          have hpb := AllI.at (show AllI l from hin) k
          obtain ⟨p, hp⟩ : ∃ p, l.getD k 0 = p := ⟨_, rfl⟩
          rw [hp] at hcell hpb
          have HPP : Hid (l.getD k 0 = p) := hp
          clear hp hc hin hsz
          by_cases hok : f ≤ p ∧ p ≤ 0 - 8 ∧ p % 8 = 0
          · obtain ⟨k1, k2, k3⟩ := hok
            exfalso; omega
          · have EQ : Hid (placedB 0 0 l = false) := by show _ = _; rw [HP.out, placed_no hlt HPP.out hok]
            clear HP
            rcases wrong_ways hok with h | ⟨h, h'⟩ | ⟨h, h', h8⟩
            case inr.inr => exfalso; omega
            all_goals
              clear hok
              go_wp2
              go_ret
              exact ⟨ret_bool EQ.out.symm, rfl⟩
        · have EQ : Hid (placedB 0 0 l = true) := by show _ = _; rw [HP.out, placed_end 0 f l k (by omega)]
          clear HP
          go_wp2
          go_ret
          exact ⟨ret_bool EQ.out.symm, rfl⟩
    · rw [q2]
      clear q2
      go_enter Tryd.func41, Tryd.ntmps41
      go_wp2
      go_loop [5, 15] (fun fv iv => ∃ (k : Nat) (f : Int), k ≤ l.length ∧ iv = .int .i64 k ∧ fv = .int .i64 f ∧ 0 ≤ f ∧ f ≤ 9223372036854775807 ∧ placedB n 0 l = placedB n f (l.drop k)) (fun _ iv => l.length - (intOf iv).toNat)
      case atStart => exact ⟨0, 0, Nat.zero_le _, rfl, rfl, by omega, by omega, rfl⟩
      case round =>
        obtain ⟨k, f, hk, rfl, rfl, f0, f1, hp⟩ := hrel
        have HP : Hid (placedB n 0 l = placedB n f (l.drop k)) := hp
        clear hp
        by_cases hlt : k < l.length
        · obtain ⟨hin, h0 | ⟨b, off, rfl, hsz, hc⟩⟩ := I1.out
          · rw [h0] at hlt; simp at hlt
          have hcell := hc k hlt
          have hpb := AllI.at (show AllI l from hin) k
          obtain ⟨p, hp⟩ : ∃ p, l.getD k 0 = p := ⟨_, rfl⟩
          rw [hp] at hcell hpb
          have HPP : Hid (l.getD k 0 = p) := hp
          clear hp hc hin hsz
          by_cases hok : f ≤ p ∧ p ≤ n - 8 ∧ p % 8 = 0
          · obtain ⟨k1, k2, k3⟩ := hok
            have EQ : Hid (placedB n 0 l = placedB n (p + 8) (l.drop (k + 1))) := by show _ = _; rw [HP.out, placed_ok hlt HPP.out k1 k2 k3]
            clear HP
            go_wp2
            go_round
            case rel => exact ⟨k + 1, p + 8, by omega, by go_num, rfl, by omega, by omega, EQ.out⟩
            case measure => simp [intOf]; omega
          · have EQ : Hid (placedB n 0 l = false) := by show _ = _; rw [HP.out, placed_no hlt HPP.out hok]
            clear HP
            rcases wrong_ways hok with h | ⟨h, h'⟩ | ⟨h, h', h8⟩
            all_goals
              clear hok
              go_wp2
              go_ret
              exact ⟨ret_bool EQ.out.symm, rfl⟩
        · have EQ : Hid (placedB n 0 l = true) := by show _ = _; rw [HP.out, placed_end n f l k (by omega)]
          clear HP
          go_wp2
          go_ret
          exact ⟨ret_bool EQ.out.symm, rfl⟩

/-- Right, told apart. -/
theorem oright_is (a : Option Addr) (c m : Nat) (l : List Int) (n : Int) (v : Bool) (w : World) (hm' : m = l.length) (hv : rrightT n l = v) (hI : IsI w a l) (hm : l.length ≤ maxLen) (hn : -9223372036854775808 ≤ n ∧ n ≤ 9223372036854775807) :
    Calls Tryd.prog 41 #[.slice a m c, .int .i64 n] w fun e w' => e = .returned (.bool v) ∧ w = w' := by
  subst hm' hv; exact oright_any a c l n w hI hm hn
end Go.Proofs.YtbfamjnnlcopiaaDoor

/- Layer 17: RoD again -/
namespace Go.Proofs.YtbfamjnnlcopiaaDoor
open Go.RowKit
set_option linter.unusedVariables false
set_option maxRecDepth 4000
theorem placed_none {l : List Int} (h : 0 < l.length) : placedB 0 0 l = false := by
  rcases l with _ | ⟨p, l⟩
  · simp at h
  · rw [placedB, decide_eq_false (by omega), Bool.false_and]

set_option maxHeartbeats 4000000 in
theorem roright_any (a : Option Addr) (c : Nat) (l : List Int) (n : Int) (w : World) (hI : IsI w a l) (hm : l.length ≤ maxLen) (hn : -9223372036854775808 ≤ n ∧ n ≤ 9223372036854775807) :
    Calls Tryd.prog 47 #[.slice a l.length c, .int .i64 n] w fun e w' => e = .returned (.bool (rrightT n l)) ∧ w = w' := by
  have I1 : Hid (IsI w a l) := hI
  unfold maxLen at hm
  clear hI
  by_cases hbig : 8192 < l.length
  · rw [right_many hbig]
    go_enter Tryd.func47, Tryd.ntmps47
    go_wp2
    go_ret
    exact ⟨rfl, rfl⟩
  · have hfew : l.length ≤ 8192 := by omega
    rw [right_few hfew]
    have hcn : (n < 0 ∧ max 0 n = 0) ∨ (n = 0 ∧ max 0 n = 0) ∨ (0 < n ∧ max 0 n = n) := by omega
    clear hbig
    rcases hcn with ⟨q1, q2⟩ | ⟨q1, q2⟩ | ⟨q1, q2⟩
    · rw [q2]
      clear q2
      by_cases hlt : 0 < l.length
      · have EQ : Hid (placedB 0 0 l = false) := placed_none hlt
        obtain ⟨hin, h0 | ⟨b, off, rfl, hsz, hc⟩⟩ := I1.out
        · rw [h0] at hlt; simp at hlt
        have hcell := hc 0 hlt
        rw [Nat.add_zero] at hcell
        have hpb := AllI.at (show AllI l from hin) 0
        obtain ⟨p, hp⟩ : ∃ p, l.getD 0 0 = p := ⟨_, rfl⟩
        rw [hp] at hcell hpb
        clear hp hc hin hsz
        have hcs : p < 0 ∨ (0 ≤ p ∧ (p % 8 != 0) = true) ∨ (0 ≤ p ∧ p % 8 = 0) := by
          rcases Int.lt_or_le p 0 with h | h
          · exact .inl h
          · by_cases h8 : p % 8 = 0
            · exact .inr (.inr ⟨h, h8⟩)
            · exact .inr (.inl ⟨h, by rw [bne_iff_ne]; exact h8⟩)
        rcases hcs with h | ⟨h, h'⟩ | ⟨h, h'⟩
        all_goals
          go_enter Tryd.func47, Tryd.ntmps47
          go_wp2
          refine wp_loop_rounds 1 ?_
          rw [rounds_succ]
          go_wp2
          go_ret
          exact ⟨ret_bool EQ.out.symm, rfl⟩
      · have EQ : Hid (placedB 0 0 l = true) := by
          have : l = [] := List.length_eq_zero_iff.1 (by omega)
          subst this; rfl
        go_enter Tryd.func47, Tryd.ntmps47
        go_wp2
        refine wp_loop_rounds 1 ?_
        rw [rounds_succ]
        go_wp2
        go_ret
        exact ⟨ret_bool EQ.out.symm, rfl⟩
    · rw [q2]
      clear q2
      subst q1
      by_cases hlt : 0 < l.length
      · have EQ : Hid (placedB 0 0 l = false) := placed_none hlt
        obtain ⟨hin, h0 | ⟨b, off, rfl, hsz, hc⟩⟩ := I1.out
        · rw [h0] at hlt; simp at hlt
        have hcell := hc 0 hlt
        rw [Nat.add_zero] at hcell
        have hpb := AllI.at (show AllI l from hin) 0
        obtain ⟨p, hp⟩ : ∃ p, l.getD 0 0 = p := ⟨_, rfl⟩
        rw [hp] at hcell hpb
        clear hp hc hin hsz
        have hcs : p < 0 ∨ (0 ≤ p ∧ (p % 8 != 0) = true) ∨ (0 ≤ p ∧ p % 8 = 0) := by
          rcases Int.lt_or_le p 0 with h | h
          · exact .inl h
          · by_cases h8 : p % 8 = 0
            · exact .inr (.inr ⟨h, h8⟩)
            · exact .inr (.inl ⟨h, by rw [bne_iff_ne]; exact h8⟩)
        rcases hcs with h | ⟨h, h'⟩ | ⟨h, h'⟩
        all_goals
          go_enter Tryd.func47, Tryd.ntmps47
          go_wp2
          refine wp_loop_rounds 1 ?_
          rw [rounds_succ]
          go_wp2
          go_ret
          exact ⟨ret_bool EQ.out.symm, rfl⟩
      · have EQ : Hid (placedB 0 0 l = true) := by
          have : l = [] := List.length_eq_zero_iff.1 (by omega)
          subst this; rfl
        go_enter Tryd.func47, Tryd.ntmps47
        go_wp2
        refine wp_loop_rounds 1 ?_
        rw [rounds_succ]
        go_wp2
        go_ret
        exact ⟨ret_bool EQ.out.symm, rfl⟩
    · rw [q2]
      clear q2
      go_enter Tryd.func47, Tryd.ntmps47
      go_wp2
      go_loop [12] (fun iv => ∃ k : Nat, k ≤ l.length ∧ iv = .int .i64 k ∧ placedB n 0 l = placedB n (fromK l k) (l.drop k) ∧ ∀ j, k = j + 1 → 0 ≤ l.getD j 0 ∧ l.getD j 0 ≤ n - 8 ∧ l.getD j 0 % 8 = 0) (fun iv => l.length - (intOf iv).toNat)
      case atStart => exact ⟨0, Nat.zero_le _, rfl, rfl, fun j h => by omega⟩
      case round =>
        obtain ⟨k, hk, rfl, hp, hj⟩ := hrel
        have HP : Hid (placedB n 0 l = placedB n (fromK l k) (l.drop k)) := hp
        have HJ : Hid (∀ j, k = j + 1 → 0 ≤ l.getD j 0 ∧ l.getD j 0 ≤ n - 8 ∧ l.getD j 0 % 8 = 0) := hj
        clear hp hj
        by_cases hlt : k < l.length
        · obtain ⟨hin, h0 | ⟨b, off, rfl, hsz, hc⟩⟩ := I1.out
          · rw [h0] at hlt; simp at hlt
          have hcell := hc k hlt
          have hpb := AllI.at (show AllI l from hin) k
          have EP : Hid (placedB n (fromK l k) (l.drop k) = (decide (fromK l k ≤ l.getD k 0 ∧ l.getD k 0 ≤ n - 8 ∧ l.getD k 0 % 8 = 0) && placedB n (l.getD k 0 + 8) (l.drop (k + 1)))) := placed_step n _ l k hlt
          obtain ⟨p, hp⟩ : ∃ p, l.getD k 0 = p := ⟨_, rfl⟩
          rw [hp] at hcell hpb EP
          have EPK : Hid (l.getD k 0 = p) := hp
          have GO : Hid ((fromK l k ≤ p ∧ p ≤ n - 8 ∧ p % 8 = 0) → placedB n 0 l = placedB n (fromK l (k + 1)) (l.drop (k + 1))) := fun h => by rw [HP.out, EP.out, decide_eq_true h, Bool.true_and, from_succ, EPK.out]
          have NO : Hid (¬ (fromK l k ≤ p ∧ p ≤ n - 8 ∧ p % 8 = 0) → placedB n 0 l = false) := fun h => (by rw [HP.out, EP.out, decide_eq_false h, Bool.false_and])
          have NJ : Hid ((fromK l k ≤ p ∧ p ≤ n - 8 ∧ p % 8 = 0) → 0 ≤ fromK l k → ∀ j, k + 1 = j + 1 → 0 ≤ l.getD j 0 ∧ l.getD j 0 ≤ n - 8 ∧ l.getD j 0 % 8 = 0) := fun h h' j e => by
            obtain rfl : k = j := by omega
            rw [EPK.out]; omega
          clear hp EP EPK HP
          rcases k with _ | j
          · rw [from_zero] at GO NO NJ
            rw [Nat.add_zero] at hcell
            by_cases hok : 0 ≤ p ∧ p ≤ n - 8 ∧ p % 8 = 0
            · have NX : Hid _ := GO.out hok
              have NY : Hid _ := NJ.out hok (by omega)
              obtain ⟨k1, k2, k3⟩ := hok
              clear hc hin hsz GO NO NJ
              go_wp2
              go_round
              case rel => exact ⟨0 + 1, by omega, by go_num, NX.out, NY.out⟩
              case measure => simp [intOf]; omega
            · have E : Hid (placedB n 0 l = false) := NO.out hok
              have hcs : p < 0 ∨ (0 ≤ p ∧ (p % 8 != 0) = true) ∨ (0 ≤ p ∧ p % 8 = 0 ∧ n - 8 < p) := by
                rcases Int.lt_or_le p 0 with h | h
                · exact .inl h
                · by_cases h8 : p % 8 = 0
                  · exact .inr (.inr ⟨h, h8, by omega⟩)
                  · exact .inr (.inl ⟨h, by rw [bne_iff_ne]; exact h8⟩)
              clear hc hin hsz GO NO NJ hok
              rcases hcs with h | ⟨h, h'⟩ | ⟨h, h', h8⟩
              all_goals (go_wp2; go_ret; exact ⟨ret_bool E.out.symm, rfl⟩)
          · have hcell' := hc j (by omega)
            obtain ⟨r0, r1, r8⟩ := HJ.out j rfl
            rw [from_succ] at GO NO NJ
            obtain ⟨r, hr⟩ : ∃ r, l.getD j 0 = r := ⟨_, rfl⟩
            rw [hr] at hcell' r0 r1 r8
            have ER : Hid (l.getD j 0 = r) := hr
            rw [hr] at GO NO
            have NJ' : Hid ((r + 8 ≤ p ∧ p ≤ n - 8 ∧ p % 8 = 0) → 0 ≤ r + 8 → ∀ i, j + 1 + 1 = i + 1 → 0 ≤ l.getD i 0 ∧ l.getD i 0 ≤ n - 8 ∧ l.getD i 0 % 8 = 0) := by rw [← hr]; exact NJ.out
            clear hr
            by_cases hok : r + 8 ≤ p ∧ p ≤ n - 8 ∧ p % 8 = 0
            · have NX : Hid _ := GO.out hok
              have NY : Hid _ := NJ'.out hok (by omega)
              obtain ⟨k1, k2, k3⟩ := hok
              clear hc hin hsz GO NO NJ NJ'
              go_wp2
              go_round
              case rel => exact ⟨j + 1 + 1, by omega, by go_num, NX.out, NY.out⟩
              case measure => simp [intOf]; omega
            · have E : Hid (placedB n 0 l = false) := NO.out hok
              have hcs : p < 0 ∨ (0 ≤ p ∧ (p % 8 != 0) = true) ∨ (0 ≤ p ∧ p % 8 = 0 ∧ n - 8 < p) ∨ (0 ≤ p ∧ p % 8 = 0 ∧ p ≤ n - 8 ∧ p ≤ r) := by
                rcases Int.lt_or_le p 0 with h | h
                · exact .inl h
                · by_cases h8 : p % 8 = 0
                  · by_cases h9 : n - 8 < p
                    · exact .inr (.inr (.inl ⟨h, h8, h9⟩))
                    · exact .inr (.inr (.inr ⟨h, h8, by omega, by omega⟩))
                  · exact .inr (.inl ⟨h, by rw [bne_iff_ne]; exact h8⟩)
              clear hc hin hsz GO NO NJ NJ' hok
              rcases hcs with h | ⟨h, h'⟩ | ⟨h, h', h8⟩ | ⟨h, h', h8, h9⟩
              all_goals (go_wp2; go_ret; exact ⟨ret_bool E.out.symm, rfl⟩)
        · have E : Hid (placedB n 0 l = true) := by show _ = _; rw [HP.out]; exact placed_end n _ l k (by omega)
          clear HP
          go_wp2
          go_ret
          exact ⟨ret_bool E.out.symm, rfl⟩

theorem roright_is (a : Option Addr) (c m : Nat) (l : List Int) (n : Int) (v : Bool) (w : World) (hm' : m = l.length) (hv : rrightT n l = v) (hI : IsI w a l) (hm : l.length ≤ maxLen) (hn : -9223372036854775808 ≤ n ∧ n ≤ 9223372036854775807) :
    Calls Tryd.prog 47 #[.slice a m c, .int .i64 n] w fun e w' => e = .returned (.bool v) ∧ w = w' := by
  subst hm' hv; exact roright_any a c l n w hI hm hn
end Go.Proofs.YtbfamjnnlcopiaaDoor

/- Layer 17: RoB again -/
namespace Go.Proofs.YtbfamjnnlcopiaaDoor
open Go.RowKit
set_option linter.unusedVariables false
set_option maxRecDepth 4000
theorem Tg.ofGrown {g : Nat} {w w' : World} (h : w.grownBy w' (some g)) : Tg g w w' := ⟨h.os, h.tape, h.output, h.size, fun i hi hn => h.block i hi (fun e => hn (Option.some.inj e))⟩
theorem OwnsI.tg {g : Nat} {w w' : World} {base cap : Nat} {a : Option Addr} {l : List Int} (h : OwnsI w base a l cap) (t : Tg g w w') (hg : g < base) : OwnsI w' base a l cap := by
  obtain ⟨h0, h1 | ⟨g', c', cur, h1, hb, h2, h3⟩⟩ := h
  · exact ⟨h0, .inl h1⟩
  · exact ⟨h0, .inr ⟨g', c', cur, h1, hb, by rw [t.block g' (Array.getElem?_eq_some_iff.1 h2).1 (by omega)]; exact h2, h3⟩⟩
theorem RdAt.below {w w' : World} {B base : Nat} {l : List Int} {e : Int} (h : RdAt w B l e) (t : Below base w w') (hg : B < base) : RdAt w' B l e := by
  obtain ⟨a, cap, hh, h1, h2, h3, h4⟩ := h
  refine ⟨a, cap, (t.block B hg).trans hh, h1, h2, h3, ?_⟩
  rcases h4 with h4 | ⟨b, off, e1, e2, e3⟩
  · exact .inl h4
  · exact .inr ⟨b, off, e1, e2, fun i hi => by rw [t.cell (p := ⟨b, off + i, none⟩) (by show b < _; omega)]; exact e3 i hi⟩
theorem RdAt.allB {w : World} {B : Nat} {l : List Int} {e : Int} (h : RdAt w B l e) : AllB l := by
  obtain ⟨_, _, _, _, _, h3, _⟩ := h
  exact h3
theorem RdAt.lt {w : World} {B : Nat} {l : List Int} {e : Int} (h : RdAt w B l e) : B < w.heap.size := by
  obtain ⟨_, _, hh, _⟩ := h
  exact lt_of_block hh
theorem Tg.below2 {g base : Nat} {w w' w2 : World} (t : Tg g w w') (b : Below base w' w2) (hb : w.heap.size ≤ base) : Tg g w w2 := by
  refine ⟨b.os.trans t.os, b.tape.trans t.tape, b.output.trans t.output, by have := t.size; have := b.size; omega, fun i hi hn => ?_⟩
  rw [b.block i (by omega)]; exact t.block i hi hn

/-- A number is read without a fault ahead, and is small enough. -/
theorem readPlace_go (B : Nat) (l r : List Int) (f v : Int) (w : World) (h : RdAt w B l 0) (f0 : 0 ≤ f) (f1 : f ≤ 65535) (v0 : 0 ≤ v) (hu : upS l 0 18446744073709551615 = (v, r, 0)) (hv : v < (65535 - f) / 8) :
    Calls Tryd.prog 63 #[.pointer (some ⟨B, 0, none⟩), .int .i64 f] w fun e w' => e = .returned (.int .i64 (f + 8 * v)) ∧ RdAt w' B r 0 ∧ Tg B w w' := by
  have HR : Hid (RdAt w B l 0) := h
  have HU : Hid (upS l 0 18446744073709551615 = (v, r, 0)) := hu
  clear h hu
  go_enter Tryd.func63, Tryd.ntmps63
  go_wp2_with (go_at_call 81; refine (rvar_any B l 0 _ HR.out).mono ?_; rw [HU.out]; rintro e w1 ⟨rfl, r1, g1⟩)
  go_ret
  exact ⟨ret_int (by omega), r1, Tg.ofGrown g1⟩
/-- A number is read without a fault ahead, and is too great. -/
theorem readPlace_far (B : Nat) (l r : List Int) (f v : Int) (w : World) (h : RdAt w B l 0) (f0 : 0 ≤ f) (f1 : f ≤ 65535) (hu : upS l 0 18446744073709551615 = (v, r, 0)) (hv : (65535 - f) / 8 ≤ v) :
    Calls Tryd.prog 63 #[.pointer (some ⟨B, 0, none⟩), .int .i64 f] w fun e w' => e = .returned (.int .i64 0) ∧ RdAt w' B r 4 ∧ Tg B w w' := by
  have HR : Hid (RdAt w B l 0) := h
  have HU : Hid (upS l 0 18446744073709551615 = (v, r, 0)) := hu
  clear h hu
  go_enter Tryd.func63, Tryd.ntmps63
  go_wp2_with (first
    | (go_at_call 81; refine (rvar_any B l 0 _ HR.out).mono ?_; rw [HU.out]; rintro e w1 ⟨rfl, r1, g1⟩; have R1 : Hid (RdAt w1 B r 0) := r1; have G1 : Hid (Tg B w w1) := Tg.ofGrown g1; clear r1 g1)
    | (go_at_call 57; refine (fail_any B r 0 4 _ R1.out).mono ?_; rintro e w2 ⟨rfl, r2, g2⟩; have R2 : Hid (RdAt w2 B r 4) := r2; have G2 : Hid (Tg B w1 w2) := Tg.ofGrown g2; clear r2 g2))
  go_ret
  exact ⟨rfl, R2.out, G1.out.trans G2.out⟩
/-- There is a fault: nothing is told. -/
theorem readPlace_bad (B : Nat) (l : List Int) (f er : Int) (w : World) (h : RdAt w B l 0) (f0 : 0 ≤ f) (f1 : f ≤ 65535) (hu : upS l 0 18446744073709551615 = (0, l, er)) (he : er ≠ 0) :
    Calls Tryd.prog 63 #[.pointer (some ⟨B, 0, none⟩), .int .i64 f] w fun r w' => ∃ p, r = .returned (.int .i64 p) ∧ 0 ≤ p ∧ p ≤ 65535 ∧ RdAt w' B l er ∧ Tg B w w' := by
  have HR : Hid (RdAt w B l 0) := h
  have HU : Hid (upS l 0 18446744073709551615 = (0, l, er)) := hu
  have HF : Hid (failV er 4 = er) := if_neg he
  clear h hu
  by_cases h1 : 8 ≤ 65535 - f
  · have hd : 0 < (65535 - f) / 8 := by omega
    go_enter Tryd.func63, Tryd.ntmps63
    go_wp2_with (go_at_call 81; refine (rvar_any B l 0 _ HR.out).mono ?_; rw [HU.out]; rintro r w1 ⟨rfl, r1, g1⟩)
    go_ret
    exact ⟨f, rfl, f0, by omega, r1, Tg.ofGrown g1⟩
  · have hd : (65535 - f) / 8 = 0 := by omega
    go_enter Tryd.func63, Tryd.ntmps63
    go_wp2_with (first
      | (go_at_call 81; refine (rvar_any B l 0 _ HR.out).mono ?_; rw [HU.out]; rintro r w1 ⟨rfl, r1, g1⟩; have R1 : Hid (RdAt w1 B l er) := r1; have G1 : Hid (Tg B w w1) := Tg.ofGrown g1; clear r1 g1)
      | (go_at_call 57; refine (fail_any B l er 4 _ R1.out).mono ?_; rw [HF.out]; rintro r w2 ⟨rfl, r2, g2⟩; have R2 : Hid (RdAt w2 B l er) := r2; have G2 : Hid (Tg B w1 w2) := Tg.ofGrown g2; clear r2 g2))
    go_ret
    exact ⟨0, rfl, by omega, by omega, R2.out, G1.out.trans G2.out⟩

/-- Under way: so many places have been read. -/
structure RdS (w wr : World) (B N : Nat) (l2 : List Int) (k : Nat) (f : Int) (qs : List Int) (al : Option Addr) (cl : Nat) (lr : List Int) : Prop where
  rd : RdAt wr B lr 0
  own : OwnsI wr w.heap.size al qs cl
  tg : Tg B w wr
  all : AllI qs
  len : qs.length = k
  ph : fieldsK 65535 N 0 l2 [] = fieldsK 65535 (N - k) f lr qs
  f0 : 0 ≤ f
  f1 : f ≤ 65535
  ltB : B < w.heap.size
/-- A place more. -/
theorem RdS.next {w wr w2 w4 : World} {B N : Nat} {l2 : List Int} {k : Nat} {f : Int} {qs : List Int} {al : Option Addr} {cl : Nat} {lr : List Int} (h : RdS w wr B N l2 k f qs al cl lr)
    {p : Int} {lr' : List Int} (hr : RdAt w2 B lr' 0) (ht : Tg B wr w2) {a4 : Option Addr} {c4 : Nat} (o4 : OwnsI w4 w.heap.size a4 (qs ++ [p]) c4) (b4 : Below w.heap.size (w2.alloc (.cells #[.int .i64 p] 3)) w4) (p0 : 0 ≤ p) (p1 : p + 8 ≤ 65535)
    (hph : fieldsK 65535 N 0 l2 [] = fieldsK 65535 (N - (k + 1)) (p + 8) lr' (qs ++ [p])) :
    RdS w w4 B N l2 (k + 1) (p + 8) (qs ++ [p]) a4 c4 lr' := by
  have hltB := h.ltB
  have hs1 := h.tg.size
  have hs2 := ht.size
  have ba : Below w2.heap.size w2 (w2.alloc (.cells #[.int .i64 p] 3)) := (Below.refl _ _).alloc (Nat.le_refl _) _
  have b24 : Below w.heap.size w2 w4 := (ba.mono (by omega)).trans b4
  refine ⟨hr.below b24 hltB, o4, (h.tg.trans ht).below2 b24 (Nat.le_refl _), ?_, by simp [h.len], hph, by omega, p1, hltB⟩
  intro x hx
  rcases List.mem_append.1 hx with hx | hx
  · exact h.all x hx
  · simp at hx; subst hx; omega

/-- What Read leaves behind. -/
def ReadP (w : World) (B : Nat) (ps rest : List Int) (er : Int) (e : Ending) (w' : World) : Prop :=
  ∃ a' c' l', e = .returned (.slice a' ps.length c') ∧ IsI w' a' ps ∧ (a' = none → ps = [] ∧ c' = 0) ∧ RdAt w' B l' er ∧ (er = 0 → l' = rest) ∧ Tg B w w' ∧ (∀ ad, a' = some ad → w.heap.size ≤ ad.block) ∧ ps.length ≤ 8192

set_option maxHeartbeats 2000000 in
theorem oread_none (B : Nat) (l : List Int) (er : Int) (w : World) (h : RdAt w B l 0) (hu : upS l 0 8192 = (0, l, er)) (hne : er ≠ 0) :
    Calls Tryd.prog 35 #[.pointer (some ⟨B, 0, none⟩)] w (ReadP w B [] [] er) := by
  have HR : Hid (RdAt w B l 0) := h
  have HU : Hid (upS l 0 8192 = (0, l, er)) := hu
  clear h hu
  go_enter Tryd.func35, Tryd.ntmps35
  go_wp2_with fail
  refine (upto_any B l 0 8192 _ HR.out).mono ?_
  rw [HU.out]
  rintro r w1 ⟨rfl, r1, g1⟩
  have R1 : Hid (RdAt w1 B l er) := r1
  have T1 : Hid (Tg B w w1) := Tg.ofGrown g1
  clear r1 g1
  go_wp2
  refine wp_loop_rounds 1 ?_
  rw [rounds_succ]
  go_wp2
  go_ret
  exact ⟨none, 0, l, rfl, IsI.nil _ _, fun _ => ⟨rfl, rfl⟩, R1.out, fun h => absurd h hne, T1.out, (fun ad h => by cases h), by simp⟩

set_option maxHeartbeats 4000000 in
theorem oread_fields (B : Nat) (l l2 : List Int) (N : Nat) (qs rest : List Int) (er : Int) (w : World) (h : RdAt w B l 0) (hv : upS l 0 8192 = (((N : Nat) : Int), l2, 0)) (hN : N ≤ 8192) (hf : fieldsK 65535 N 0 l2 [] = (qs, rest, er)) :
    Calls Tryd.prog 35 #[.pointer (some ⟨B, 0, none⟩)] w (ReadP w B qs rest er) := by
  have HR : Hid (RdAt w B l 0) := h
  have HF : Hid (fieldsK 65535 N 0 l2 [] = (qs, rest, er)) := hf
  have HV : Hid (upS l 0 8192 = (((N : Nat) : Int), l2, 0)) := hv
  have hB := h.lt
  clear h hv hf
  go_enter Tryd.func35, Tryd.ntmps35
  go_wp2_with fail
  refine (upto_any B l 0 8192 _ HR.out).mono ?_
  rw [HV.out]
  rintro r w1 ⟨rfl, r1, g1⟩
  have S0 : Hid (RdS w w1 B N l2 0 0 [] none 0 l2) := ⟨r1, ownsI_none _ _, Tg.ofGrown g1, fun x hx => by (cases hx), rfl, rfl, by omega, by omega, hB⟩
  clear r1 g1
  go_wp2
  go_loopw [3, 4, 8] (fun ov fv iv wr => ∃ (k : Nat) (f : Int) (qs : List Int) (al : Option Addr) (cl : Nat) (lr : List Int), k ≤ N ∧ iv = .int .u64 k ∧ fv = .int .i64 f ∧ ov = .slice al qs.length cl ∧ RdS w wr B N l2 k f qs al cl lr) (fun _ _ iv _ => N - (intOf iv).toNat)
  case atStart => exact ⟨0, 0, [], none, 0, l2, Nat.zero_le _, rfl, rfl, rfl, S0.out⟩
  case round =>
    obtain ⟨k, f, ts, al, cl, lr, hk, rfl, rfl, rfl, hS⟩ := hrel
    have HS : Hid (RdS w wr B N l2 k f ts al cl lr) := hS
    have HPH : Hid (fieldsK 65535 N 0 l2 [] = fieldsK 65535 (N - k) f lr ts) := hS.ph
    have HLEN : Hid (ts.length = k) := hS.len
    have f0 := hS.f0
    have f1 := hS.f1
    have hbb := hS.rd.allB
    clear hS
    by_cases hlt : k < N
    · have hlen' : ts.length ≤ 100000 := by have := HLEN.out; omega
      obtain ⟨n, hn⟩ : ∃ n, N - k = n + 1 := ⟨N - k - 1, by omega⟩
      have hn' : N - (k + 1) = n := by omega
      rcases up_cases lr 18446744073709551615 hbb with ⟨v, r, hu, v0, v1, hl⟩ | ⟨e', hu, he'⟩
      · by_cases hvv : v < (65535 - f) / 8
        · have STEP : Hid (Calls Tryd.prog 63 #[.pointer (some ⟨B, 0, none⟩), .int .i64 f] wr fun e w' => e = .returned (.int .i64 (f + 8 * v)) ∧ RdAt w' B r 0 ∧ Tg B wr w') := readPlace_go B lr r f v wr HS.out.rd f0 f1 v0 hu hvv
          obtain ⟨p, hp⟩ : ∃ p, f + 8 * v = p := ⟨_, rfl⟩
          have p0 : 0 ≤ p := by omega
          have p1 : p + 8 ≤ 65535 := by omega
          have NP : Hid (fieldsK 65535 N 0 l2 [] = fieldsK 65535 (N - (k + 1)) (p + 8) r (ts ++ [p])) := by show _ = _; rw [HPH.out, hn, hn', fields_go hu hvv, hp]
          rw [hp] at STEP
          clear hp hl hvv hbb hu hn hn'
          go_wp2_with fail
          refine STEP.out.mono ?_
          rintro e w2 ⟨rfl, r2, t2⟩
          have R2 : Hid (RdAt w2 B r 0) := r2
          have T2 : Hid (Tg B wr w2) := t2
          have ltB := HS.out.ltB
          have hz2 : w.heap.size ≤ w2.heap.size := Nat.le_trans HS.out.tg.size T2.out.size
          have O2 : Hid (OwnsI (w2.alloc (.cells #[.int .i64 p] 3)) w.heap.size al ts cl) := (HS.out.own.tg t2 ltB).alloc _
          clear r2 t2
          go_wp2_with fail
          refine (err_any B r 0 _ R2.out).mono ?_
          rintro e w2' ⟨rfl, rfl⟩
          go_wp2_with (at_builtin; refine wpList_appi rfl _ _ rfl w.heap.size ?x1 al ts cl rfl O2.out (some ⟨w2.heap.size, 0, none⟩) [p] 1 rfl ?x2 ?x3 ?x4 ?x5 ?x6)
          case x1 => simp; omega
          case x2 => exact (one_isI w2 p (by omega))
          case x3 => exact (fun h => by cases h)
          case x4 => exact hlen'
          case x5 => simp
          intro a4 c4 w4 o4 b4
          have NX : Hid _ := HS.out.next R2.out T2.out o4 b4 p0 p1 NP.out
          clear o4 b4
          go_wp2
          go_roundw
          case rel => exact ⟨k + 1, p + 8, ts ++ [p], a4, c4, r, by omega, by go_num, rfl, by rw [List.length_append]; rfl, NX.out⟩
          case measure => simp [intOf]; omega
        · have hE : (([] : List Int), ([] : List Int), (4 : Int)) = (qs, rest, er) := by rw [← HF.out, HPH.out, hn, fields_far hu (by omega)]
          simp only [Prod.mk.injEq] at hE
          obtain ⟨rfl, rfl, rfl⟩ := hE
          have STEP : Hid (Calls Tryd.prog 63 #[.pointer (some ⟨B, 0, none⟩), .int .i64 f] wr fun e w' => e = .returned (.int .i64 0) ∧ RdAt w' B r 4 ∧ Tg B wr w') := readPlace_far B lr r f v wr HS.out.rd f0 f1 hu (by omega)
          clear hl hvv hbb hu hn hn'
          go_wp2_with fail
          refine STEP.out.mono ?_
          rintro e w2 ⟨rfl, r2, t2⟩
          have R2 : Hid (RdAt w2 B r 4) := r2
          have T2 : Hid (Tg B wr w2) := t2
          clear r2 t2
          go_wp2_with (go_at_call 60; refine (err_any B r 4 _ R2.out).mono ?_; rintro e w2' ⟨rfl, rfl⟩)
          go_ret
          exact ⟨none, 0, r, rfl, IsI.nil _ _, fun _ => ⟨rfl, rfl⟩, R2.out, fun h => absurd h (by omega), HS.out.tg.trans T2.out, (fun ad h => by cases h), by simp⟩
      · have hne : e' ≠ 0 := by omega
        have hq : (e' != 0) = true := by rw [bne_iff_ne]; exact hne
        have hE : (([] : List Int), ([] : List Int), e') = (qs, rest, er) := by rw [← HF.out, HPH.out, hn, fields_bad hu hne]
        simp only [Prod.mk.injEq] at hE
        obtain ⟨rfl, rfl, rfl⟩ := hE
        have STEP : Hid (Calls Tryd.prog 63 #[.pointer (some ⟨B, 0, none⟩), .int .i64 f] wr fun e w' => ∃ p, e = .returned (.int .i64 p) ∧ 0 ≤ p ∧ p ≤ 65535 ∧ RdAt w' B lr e' ∧ Tg B wr w') := readPlace_bad B lr f e' wr HS.out.rd f0 f1 hu hne
        clear hbb hu hn hn' he'
        go_wp2_with fail
        refine STEP.out.mono ?_
        rintro e w2 ⟨p, rfl, p0, p1, r2, t2⟩
        have R2 : Hid (RdAt w2 B lr e') := r2
        have T2 : Hid (Tg B wr w2) := t2
        clear r2 t2
        go_wp2_with (go_at_call 60; refine (err_any B lr e' _ R2.out).mono ?_; rintro e w2' ⟨rfl, rfl⟩)
        go_ret
        exact ⟨none, 0, lr, rfl, IsI.nil _ _, fun _ => ⟨rfl, rfl⟩, R2.out, fun h => absurd h hne, HS.out.tg.trans T2.out, (fun ad h => by cases h), by simp⟩
    · obtain rfl : k = N := by omega
      have hE : (ts, lr, (0 : Int)) = (qs, rest, er) := by rw [← HF.out, HPH.out, Nat.sub_self]; rfl
      simp only [Prod.mk.injEq] at hE
      obtain ⟨rfl, rfl, rfl⟩ := hE
      clear hbb
      go_wp2
      go_ret
      exact ⟨al, cl, lr, rfl, ownsI_isI HS.out.all HS.out.own, HS.out.own.parts.2.2.1, HS.out.rd, fun _ => rfl, HS.out.tg, fun ad h => (HS.out.own.parts.2.2.2 ad h).1, by rw [HLEN.out]; exact hN⟩

/-- What Read answers. -/
theorem oread_any (B : Nat) (l : List Int) (ps rest : List Int) (er : Int) (w : World) (h : RdAt w B l 0) (hk : readT l = (ps, rest, er)) :
    Calls Tryd.prog 35 #[.pointer (some ⟨B, 0, none⟩)] w (ReadP w B ps rest er) := by
  rcases up_cases l 8192 h.allB with ⟨v, r, hu, v0, v1, hl⟩ | ⟨e', hu, he⟩
  · rw [readT_go hu] at hk
    exact oread_fields B l r v.toNat ps rest er w h (by rw [hu, Int.toNat_of_nonneg v0]) (by omega) hk
  · rw [readT_bad hu (by omega)] at hk
    simp only [Prod.mk.injEq] at hk
    obtain ⟨rfl, rfl, rfl⟩ := hk
    exact oread_none B l e' w h hu (by omega)
end Go.Proofs.YtbfamjnnlcopiaaDoor
