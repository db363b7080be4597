/- The document's Check and Plain, and where a pointer field begins. -/
import Derived.Test.YtkcnanpojnbepaaKdF
namespace Go.Proofs.Ytkcnanpojnbepaa
open Go.RowKit
set_option linter.unusedVariables false

theorem from_zero (ps : List Int) : fromK ps 0 = 0 := rfl
theorem from_succ (ps : List Int) (j : Nat) : fromK ps (j + 1) = ps.getD j 0 + 8 := by unfold fromK; simp

set_option maxHeartbeats 4000000 in
theorem rcheck_any (s : Int) (a : Option Addr) (c : Nat) (ps : List Int) (w : World) (hI : IsI w a ps) (hm : ps.length ≤ maxLen) :
    Calls Try.prog 12 #[.agg #[.int .i64 s, .slice a ps.length c]] w fun e w' => e = .returned (.int .i64 (checkK s ps)) ∧ Below w.heap.size w w' := by
  have HB : Hid (Below w.heap.size w (w.alloc (.cells #[.int .i64 s, .slice a ps.length c] 24))) := box_below w s a _ c
  have I1 : Hid (IsI (w.alloc (.cells #[.int .i64 s, .slice a ps.length c] 24)) a ps) := hI.keep HB.out
  clear hI
  unfold maxLen at hm
  by_cases h1 : s < 1 ∨ 4096 < s
  · have E : Hid (checkK s ps = 2) := check_two h1
    go_enter Try.func12, Try.ntmps12
    go_wp2
    all_goals (go_ret; exact ⟨ret_int E.out.symm, HB.out⟩)
  · by_cases h2 : 16 < ps.length
    · have E : Hid (checkK s ps = 6) := check_six h1 h2
      have g1 : ¬ s < 1 := by omega
      have g2 : ¬ 4096 < s := by omega
      clear h1
      go_enter Try.func12, Try.ntmps12
      go_wp2
      all_goals (go_ret; exact ⟨ret_int E.out.symm, HB.out⟩)
    · have g1 : 1 ≤ s := by omega
      have g2 : s ≤ 4096 := by omega
      have g3 : ps.length ≤ 16 := by omega
      have EK : Hid (placedB s 0 ps = true → checkK s ps = 0) := fun h => check_ok h1 h2 h
      have EL : Hid (placedB s 0 ps = false → checkK s ps = 11) := fun h => check_el h1 h2 h
      clear h1 h2
      go_enter Try.func12, Try.ntmps12
      go_wp2
      go_loop [20] (fun iv => ∃ k : Nat, k ≤ ps.length ∧ iv = .int .i64 k ∧ placedB s 0 ps = placedB s (fromK ps k) (ps.drop k) ∧ ∀ j, k = j + 1 → 0 ≤ ps.getD j 0 ∧ ps.getD j 0 ≤ s - 8 ∧ ps.getD j 0 % 8 = 0) (fun iv => ps.length - (intOf iv).toNat)
      case atStart => exact ⟨0, Nat.zero_le _, rfl, rfl, fun j h => by omega⟩
      case round =>
        obtain ⟨k, hk, rfl, hp, hj⟩ := hrel
        have HP : Hid (placedB s 0 ps = placedB s (fromK ps k) (ps.drop k)) := hp
        have HJ : Hid (∀ j, k = j + 1 → 0 ≤ ps.getD j 0 ∧ ps.getD j 0 ≤ s - 8 ∧ ps.getD j 0 % 8 = 0) := hj
        clear hp hj
        by_cases hlt : k < ps.length
        · obtain ⟨hin, h0 | ⟨b, off, rfl, hsz, hc⟩⟩ := I1.out
          · rw [h0] at hlt; simp at hlt
          have hcell := hc k hlt
          have hpb := AllI.at (show AllI ps from hin) k
          have EP : Hid (placedB s (fromK ps k) (ps.drop k) = (decide (fromK ps k ≤ ps.getD k 0 ∧ ps.getD k 0 ≤ s - 8 ∧ ps.getD k 0 % 8 = 0) && placedB s (ps.getD k 0 + 8) (ps.drop (k + 1)))) := placed_step s _ ps k hlt
          obtain ⟨p, hp⟩ : ∃ p, ps.getD k 0 = p := ⟨_, rfl⟩
          rw [hp] at hcell hpb EP
          have EPK : Hid (ps.getD k 0 = p) := hp
          have GO : Hid ((fromK ps k ≤ p ∧ p ≤ s - 8 ∧ p % 8 = 0) → placedB s 0 ps = placedB s (fromK ps (k + 1)) (ps.drop (k + 1))) := fun h => by rw [HP.out, EP.out, decide_eq_true h, Bool.true_and, from_succ, EPK.out]
          have NO : Hid (¬ (fromK ps k ≤ p ∧ p ≤ s - 8 ∧ p % 8 = 0) → checkK s ps = 11) := fun h => EL.out (by rw [HP.out, EP.out, decide_eq_false h, Bool.false_and])
          have NJ : Hid ((fromK ps k ≤ p ∧ p ≤ s - 8 ∧ p % 8 = 0) → 0 ≤ fromK ps k → ∀ j, k + 1 = j + 1 → 0 ≤ ps.getD j 0 ∧ ps.getD j 0 ≤ s - 8 ∧ ps.getD j 0 % 8 = 0) := fun h h' j e => by
            obtain rfl : k = j := by omega
            rw [EPK.out]; omega
          clear hp EP EPK HP
          rcases k with _ | j
          · rw [from_zero] at GO NO NJ
            rw [Nat.add_zero] at hcell
            by_cases hok : 0 ≤ p ∧ p ≤ s - 8 ∧ p % 8 = 0
            · have NX : Hid _ := GO.out hok
              have NY : Hid _ := NJ.out hok (by omega)
              obtain ⟨k1, k2, k3⟩ := hok
              clear hc hin hsz GO NO NJ
              go_wp2
              go_round
              case rel => exact ⟨0 + 1, by omega, by go_num, NX.out, NY.out⟩
              case measure => simp [intOf]; omega
            · have E : Hid (checkK s ps = 11) := NO.out hok
              have hcs : p < 0 ∨ (0 ≤ p ∧ (p % 8 != 0) = true) ∨ (0 ≤ p ∧ p % 8 = 0 ∧ s - 8 < p) := by
                rcases Int.lt_or_le p 0 with h | h
                · exact .inl h
                · by_cases h8 : p % 8 = 0
                  · exact .inr (.inr ⟨h, h8, by omega⟩)
                  · exact .inr (.inl ⟨h, by rw [bne_iff_ne]; exact h8⟩)
              clear hc hin hsz GO NO NJ hok
              rcases hcs with h | ⟨h, h'⟩ | ⟨h, h', h8⟩
              all_goals (go_wp2; go_ret; exact ⟨ret_int E.out.symm, HB.out⟩)
          · have hcell' := hc j (by omega)
            obtain ⟨r0, r1, r8⟩ := HJ.out j rfl
            rw [from_succ] at GO NO NJ
            obtain ⟨r, hr⟩ : ∃ r, ps.getD j 0 = r := ⟨_, rfl⟩
            rw [hr] at hcell' r0 r1 r8
            have ER : Hid (ps.getD j 0 = r) := hr
            rw [hr] at GO NO
            have NJ' : Hid ((r + 8 ≤ p ∧ p ≤ s - 8 ∧ p % 8 = 0) → 0 ≤ r + 8 → ∀ i, j + 1 + 1 = i + 1 → 0 ≤ ps.getD i 0 ∧ ps.getD i 0 ≤ s - 8 ∧ ps.getD i 0 % 8 = 0) := by rw [← hr]; exact NJ.out
            clear hr
            by_cases hok : r + 8 ≤ p ∧ p ≤ s - 8 ∧ p % 8 = 0
            · have NX : Hid _ := GO.out hok
              have NY : Hid _ := NJ'.out hok (by omega)
              obtain ⟨k1, k2, k3⟩ := hok
              clear hc hin hsz GO NO NJ NJ'
              go_wp2
              go_round
              case rel => exact ⟨j + 1 + 1, by omega, by go_num, NX.out, NY.out⟩
              case measure => simp [intOf]; omega
            · have E : Hid (checkK s ps = 11) := NO.out hok
              have hcs : p < 0 ∨ (0 ≤ p ∧ (p % 8 != 0) = true) ∨ (0 ≤ p ∧ p % 8 = 0 ∧ s - 8 < p) ∨ (0 ≤ p ∧ p % 8 = 0 ∧ p ≤ s - 8 ∧ p ≤ r) := by
                rcases Int.lt_or_le p 0 with h | h
                · exact .inl h
                · by_cases h8 : p % 8 = 0
                  · by_cases h9 : s - 8 < p
                    · exact .inr (.inr (.inl ⟨h, h8, h9⟩))
                    · exact .inr (.inr (.inr ⟨h, h8, by omega, by omega⟩))
                  · exact .inr (.inl ⟨h, by rw [bne_iff_ne]; exact h8⟩)
              clear hc hin hsz GO NO NJ NJ' hok
              rcases hcs with h | ⟨h, h'⟩ | ⟨h, h', h8⟩ | ⟨h, h', h8, h9⟩
              all_goals (go_wp2; go_ret; exact ⟨ret_int E.out.symm, HB.out⟩)
        · have E : Hid (checkK s ps = 0) := EK.out (by rw [HP.out]; exact placed_end s _ ps k (by omega))
          clear HP
          go_wp2
          go_ret
          exact ⟨ret_int E.out.symm, HB.out⟩
theorem rcheck_is (s : Int) (a : Option Addr) (c n : Nat) (ps : List Int) (r : Int) (w : World) (hn : n = ps.length) (hr : checkK s ps = r) (hI : IsI w a ps) (hm : ps.length ≤ maxLen) :
    Calls Try.prog 12 #[.agg #[.int .i64 s, .slice a n c]] w fun e w' => e = .returned (.int .i64 r) ∧ Below w.heap.size w w' := by
  subst hn hr; exact rcheck_any s a c ps w hI hm

set_option maxHeartbeats 4000000 in
theorem rplain_any (s : Int) (a : Option Addr) (c : Nat) (ps : List Int) (x n : Int) (w : World) (hI : IsI w a ps) (hm : ps.length ≤ maxLen) (hx : -9223372036854775808 ≤ x ∧ x ≤ 9223372036854775807) (hn : -9223372036854775808 ≤ n ∧ n ≤ 9223372036854775807) :
    Calls Try.prog 16 #[.agg #[.int .i64 s, .slice a ps.length c], .int .i64 x, .int .i64 n] w fun e w' => e = .returned (.bool (plainK s ps x n)) ∧ Below w.heap.size w w' := by
  have HB : Hid (Below w.heap.size w (w.alloc (.cells #[.int .i64 s, .slice a ps.length c] 24))) := box_below w s a _ c
  have I1 : Hid (IsI (w.alloc (.cells #[.int .i64 s, .slice a ps.length c] 24)) a ps) := hI.keep HB.out
  have HI : Hid (IsI w a ps) := hI
  obtain ⟨q0, q1⟩ := box_cells w s a ps.length c
  have Q0 : Hid _ := q0
  have Q1 : Hid _ := q1
  clear hI q0 q1
  by_cases hr : checkK s ps = 0
  · have hR := check_zero.1 hr
    have ER : Hid (checkK s ps = 0) := hr
    have HR : Hid (rightK s ps) := hR
    obtain ⟨s1, s2, l1, hpl⟩ := hR
    have HA : Hid (∀ p ∈ ps, 0 ≤ p ∧ p ≤ s - 8 ∧ p % 8 = 0) := placed_all s ps 0 (by omega) hpl
    clear hr hpl
    have hcs : x < 0 ∨ (0 ≤ x ∧ s < x) ∨ (0 ≤ x ∧ x ≤ s ∧ n < 0) ∨ (0 ≤ x ∧ x ≤ s ∧ 0 ≤ n ∧ s - x < n) ∨ (0 ≤ x ∧ x ≤ s ∧ 0 ≤ n ∧ n ≤ s - x) := by omega
    rcases hcs with h1 | ⟨h1, h2⟩ | ⟨h1, h2, h3⟩ | ⟨h1, h2, h3, h4⟩ | ⟨h1, h2, h3, h4⟩
    rotate_right
    · go_enter Try.func16, Try.ntmps16
      go_wp2_with fail
      refine (rcheck_is s a c _ ps 0 _ rfl ER.out I1.out hm).mono ?_
      rintro e w1 ⟨rfl, b1⟩
      have c0 := bcellK (b1.mono (Nat.le_refl _)) Q0.out
      have c1 := bcellK (b1.mono (Nat.le_refl _)) Q1.out
      have B1 : Hid (Below w.heap.size w w1) := HB.out.trans (b1.mono HB.out.size)
      have I2 : Hid (IsI w1 a ps) := HI.out.keep B1.out
      clear b1
      go_wp2
      go_loop [7] (fun iv => ∃ i : Int, x ≤ i ∧ i ≤ x + n ∧ iv = .int .i64 i ∧ ∀ j, x ≤ j → j < i → ∀ p ∈ ps, ¬ (p ≤ j ∧ j < p + 8)) (fun iv => (x + n - intOf iv).toNat)
      case atStart => exact ⟨x, Int.le_refl _, by omega, rfl, fun j h h' => by omega⟩
      case round =>
        obtain ⟨i, i0, i1, rfl, hcl⟩ := hrel
        have HCL : Hid (∀ j, x ≤ j → j < i → ∀ p ∈ ps, ¬ (p ≤ j ∧ j < p + 8)) := hcl
        clear hcl
        by_cases hlt : i < x + n
        · go_wp2
          go_loop [46] (fun kv => ∃ k : Nat, k ≤ ps.length ∧ kv = .int .i64 k ∧ ∀ p ∈ ps.take k, ¬ (p ≤ i ∧ i < p + 8)) (fun kv => ps.length - (intOf kv).toNat)
          case atStart => exact ⟨0, Nat.zero_le _, rfl, fun p hp => by simp at hp⟩
          case round =>
            obtain ⟨k, hk, rfl, hck⟩ := hrel
            have HCK : Hid (∀ p ∈ ps.take k, ¬ (p ≤ i ∧ i < p + 8)) := hck
            clear hck
            by_cases hkl : k < ps.length
            · obtain ⟨hin, h0 | ⟨b, off, rfl, hsz, hc⟩⟩ := I2.out
              · rw [h0] at hkl; simp at hkl
              have hcell := hc k hkl
              have hmem : ps.getD k 0 ∈ ps := by simp [List.getD, hkl]
              have ET : ps.take (k + 1) = ps.take k ++ [ps.getD k 0] := by rw [List.take_succ_eq_append_getElem hkl]; simp [List.getD, hkl]
              obtain ⟨p, hp⟩ : ∃ p, ps.getD k 0 = p := ⟨_, rfl⟩
              rw [hp] at hcell hmem ET
              have HM : Hid (p ∈ ps) := hmem
              have HT : Hid (ps.take (k + 1) = ps.take k ++ [p]) := ET
              obtain ⟨p0, p1, _⟩ := HA.out p hmem
              clear hp hc hin hsz hmem ET
              by_cases hov : p ≤ i ∧ i < p + 8
              · have EQ : Hid (plainK s ps x n = false) := plain_false (fun h => h.2.2.2.2 p HM.out (by omega))
                obtain ⟨o1, o2⟩ := hov
                go_wp2
                go_ret
                exact ⟨ret_bool EQ.out.symm, B1.out⟩
              · have NX : Hid (∀ q ∈ ps.take (k + 1), ¬ (q ≤ i ∧ i < q + 8)) := by
                  intro q hq
                  rw [HT.out] at hq
                  rcases List.mem_append.1 hq with hq | hq
                  · exact HCK.out q hq
                  · simp at hq; subst hq; exact hov
                go_wp2
                all_goals
                  go_round
                  case rel => exact ⟨k + 1, by omega, by go_num, NX.out⟩
                  case measure => simp [intOf]; omega
            · have NX : Hid (∀ j, x ≤ j → j < i + 1 → ∀ p ∈ ps, ¬ (p ≤ j ∧ j < p + 8)) := by
                intro j h h' p hp
                rcases Int.lt_or_le j i with hj | hj
                · exact HCL.out j h hj p hp
                · obtain rfl : j = i := by omega
                  have := HCK.out
                  rw [List.take_of_length_le (by omega)] at this
                  exact this p hp
              go_wp2
              go_round
              case rel => exact ⟨i + 1, by omega, by omega, rfl, NX.out⟩
              case measure => simp [intOf]; omega
        · have EQ : Hid (plainK s ps x n = true) := decide_eq_true ⟨HR.out, h1, h3, h4, fun p hp h => by
            have := HCL.out (max x p) (by omega) (by omega) p hp
            omega⟩
          go_wp2
          go_ret
          exact ⟨ret_bool EQ.out.symm, B1.out⟩
    all_goals
      have EQ : Hid (plainK s ps x n = false) := plain_false (by omega)
      go_enter Try.func16, Try.ntmps16
      go_wp2_with fail
      refine (rcheck_is s a c _ ps 0 _ rfl ER.out I1.out hm).mono ?_
      rintro e w1 ⟨rfl, b1⟩
      have c0 := bcellK (b1.mono (Nat.le_refl _)) Q0.out
      have c1 := bcellK (b1.mono (Nat.le_refl _)) Q1.out
      have B1 : Hid (Below w.heap.size w w1) := HB.out.trans (b1.mono HB.out.size)
      clear b1
      go_wp2
      go_ret
      exact ⟨ret_bool EQ.out.symm, B1.out⟩
  · obtain ⟨r, hrr⟩ : ∃ r, checkK s ps = r := ⟨_, rfl⟩
    have ER : Hid (checkK s ps = r) := hrr
    have hq : (r != 0) = true := by rw [bne_iff_ne, ← hrr]; exact hr
    have EQ : Hid (plainK s ps x n = false) := plain_false (fun h => hr (check_zero.2 h.1))
    clear hr hrr
    go_enter Try.func16, Try.ntmps16
    go_wp2_with (go_at_call 12; refine (rcheck_is s a c _ ps r _ rfl ER.out I1.out hm).mono ?_; rintro e w1 ⟨rfl, b1⟩)
    go_ret
    exact ⟨ret_bool EQ.out.symm, HB.out.trans (b1.mono HB.out.size)⟩
theorem rplain_is (s : Int) (a : Option Addr) (c k : Nat) (ps : List Int) (x n : Int) (r : Bool) (w : World) (hk : k = ps.length) (hr : plainK s ps x n = r) (hI : IsI w a ps) (hm : ps.length ≤ maxLen) (hx : -9223372036854775808 ≤ x ∧ x ≤ 9223372036854775807) (hn : -9223372036854775808 ≤ n ∧ n ≤ 9223372036854775807) :
    Calls Try.prog 16 #[.agg #[.int .i64 s, .slice a k c], .int .i64 x, .int .i64 n] w fun e w' => e = .returned (.bool r) ∧ Below w.heap.size w w' := by
  subst hk hr; exact rplain_any s a c ps x n w hI hm hx hn

/-- Where a pointer field begins. -/
def fieldV (s : Int) (ps : List Int) (i : Int) : Int × Bool := if checkK s ps = 0 ∧ 0 ≤ i ∧ i < ps.length then (ps.getD i.toNat 0, true) else (0, false)

set_option maxHeartbeats 2000000 in
theorem field_any (s : Int) (a : Option Addr) (c : Nat) (ps : List Int) (i : Int) (w : World) (hI : IsI w a ps) (hm : ps.length ≤ maxLen) (hi : -9223372036854775808 ≤ i ∧ i ≤ 9223372036854775807) :
    Calls Try.prog 14 #[.agg #[.int .i64 s, .slice a ps.length c], .int .i64 i] w fun e w' => e = .returned (.tuple #[.int .i64 (fieldV s ps i).1, .bool (fieldV s ps i).2]) ∧ Below w.heap.size w w' := by
  have HB : Hid (Below w.heap.size w (w.alloc (.cells #[.int .i64 s, .slice a ps.length c] 24))) := box_below w s a _ c
  have I1 : Hid (IsI (w.alloc (.cells #[.int .i64 s, .slice a ps.length c] 24)) a ps) := hI.keep HB.out
  have HI : Hid (IsI w a ps) := hI
  have HM : Hid (ps.length ≤ maxLen) := hm
  obtain ⟨q0, q1⟩ := box_cells w s a ps.length c
  have Q1 : Hid _ := q1
  clear hI q0 q1
  unfold maxLen at hm
  by_cases hr : checkK s ps = 0
  · have ER : Hid (decide (checkK s ps = 0) = true) := decide_eq_true hr
    have HR : Hid (checkK s ps = 0) := hr
    clear hr
    have hcs : i < 0 ∨ (0 ≤ i ∧ (ps.length : Int) ≤ i) ∨ (0 ≤ i ∧ i < (ps.length : Int)) := by omega
    rcases hcs with h1 | ⟨h1, h2⟩ | ⟨h1, h2⟩
    rotate_right
    · obtain ⟨k, rfl⟩ : ∃ k : Nat, i = k := ⟨i.toNat, by omega⟩
      have hk : k < ps.length := by omega
      have EV : Hid (fieldV s ps (k : Nat) = (ps.getD k 0, true)) := by show _ = _; unfold fieldV; rw [if_pos ⟨HR.out, h1, h2⟩, Int.toNat_natCast]
      go_enter Try.func14, Try.ntmps14
      go_wp2_with fail
      refine (right_is s a c _ ps true _ rfl ER.out I1.out HM.out).mono ?_
      rintro e w1 ⟨rfl, b1⟩
      have c1 := bcellK (b1.mono (Nat.le_refl _)) Q1.out
      have B1 : Hid (Below w.heap.size w w1) := HB.out.trans (b1.mono HB.out.size)
      obtain ⟨hin, h0 | ⟨b, off, rfl, hsz, hc⟩⟩ := HI.out.keep B1.out
      · rw [h0] at hk; simp at hk
      have hcell := hc k hk
      obtain ⟨p, hp⟩ : ∃ p, ps.getD k 0 = p := ⟨_, rfl⟩
      rw [hp] at hcell EV
      clear b1 hc hin hsz hp
      go_wp2
      go_ret2
      rw [EV.out]
      exact ⟨rfl, B1.out⟩
    all_goals
      have EV : Hid (fieldV s ps i = (0, false)) := by show _ = _; unfold fieldV; rw [if_neg (by omega)]
      go_enter Try.func14, Try.ntmps14
      go_wp2_with fail
      refine (right_is s a c _ ps true _ rfl ER.out I1.out HM.out).mono ?_
      rintro e w1 ⟨rfl, b1⟩
      have c1 := bcellK (b1.mono (Nat.le_refl _)) Q1.out
      have B1 : Hid (Below w.heap.size w w1) := HB.out.trans (b1.mono HB.out.size)
      clear b1
      go_wp2
      go_ret2
      rw [EV.out]
      exact ⟨rfl, B1.out⟩
  · have ER : Hid (decide (checkK s ps = 0) = false) := decide_eq_false hr
    have EV : Hid (fieldV s ps i = (0, false)) := by show _ = _; unfold fieldV; rw [if_neg (fun h => hr h.1)]
    clear hr
    go_enter Try.func14, Try.ntmps14
    go_wp2_with (go_at_call 35; refine (right_is s a c _ ps false _ rfl ER.out I1.out HM.out).mono ?_; rintro e w1 ⟨rfl, b1⟩)
    go_ret2
    rw [EV.out]
    exact ⟨rfl, HB.out.trans (b1.mono HB.out.size)⟩
end Go.Proofs.Ytkcnanpojnbepaa
