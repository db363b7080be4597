/- The document's own answers: Size, Of, Slots, Pages, Need; and the code's Size. -/
import Derived.Test.YtdfnhbbnadiijaaDoorClC
namespace Go.Proofs.YtdfnhbbnadiijaaDoor
open Go.RowKit
set_option linter.unusedVariables false

theorem seven (c : Nat) (h : c < 7) : c = 0 ∨ c = 1 ∨ c = 2 ∨ c = 3 ∨ c = 4 ∨ c = 5 ∨ c = 6 := by omega

theorem size_code (c : Int) (w : World) (hT : TabIn w) (h1 : -9223372036854775808 ≤ c) (h2 : c ≤ 9223372036854775807) :
    Calls Tryd.prog 12 #[.int .i64 c] w fun e w' => e = .returned (.int .i64 (sizeI c)) ∧ w = w' := by
  by_cases hs : 0 ≤ c ∧ c < 7
  · obtain ⟨k, rfl⟩ : ∃ k : Nat, c = k := ⟨c.toNat, by omega⟩
    have hk : k < 7 := by omega
    have e : sizeI (k : Int) = ((sizeN k : Nat) : Int) := by
      rcases k with _ | _ | _ | _ | _ | _ | _ | k <;> first | rfl | omega
    have hcell := hT.2 k hk
    have hd : decide (0 ≤ (k : Int) ∧ (k : Int) < 7) = true := decide_eq_true hs
    rw [e]
    clear hT e hs
    go_enter Tryd.func12, Tryd.ntmps12
    go_wp2_with (go_at_call 20; refine (isSmall_any (k : Int) _ (by omega) (by omega)).mono ?_; rw [hd]; rintro e w' ⟨rfl, rfl⟩)
    go_ret
    exact ⟨rfl, rfl⟩
  · have hd : decide (0 ≤ c ∧ c < 7) = false := decide_eq_false hs
    rw [show sizeI c = 0 by unfold sizeI; repeat' split <;> omega]
    clear hs
    go_enter Tryd.func12, Tryd.ntmps12
    go_wp2_with (go_at_call 20; refine (isSmall_any c _ h1 h2).mono ?_; rw [hd]; rintro e w' ⟨rfl, rfl⟩)
    go_ret
    exact ⟨rfl, rfl⟩

theorem rindex (c : Nat) (h : c < 7) (w : World) :
    (Instr.index 30 (.agg #[.int .i64 16, .int .i64 24, .int .i64 32, .int .i64 48, .int .i64 64, .int .i64 96, .int .i64 128]) (.int .i64 (c : Nat))).run Tryd.prog w = .ok (.int .i64 ((sizeN c : Nat) : Int)) w := index_arr sizeN c h w

theorem rsize_small (c : Nat) (w : World) (h : c < 7) :
    Calls Tryd.prog 13 #[.int .i64 (c : Nat)] w fun e w' => e = .returned (.int .i64 (sizeN c : Nat)) ∧ w = w' := by
  have hidx := rindex c h
  go_enter Tryd.func13, Tryd.ntmps13
  go_wp2
  go_ret
  exact ⟨rfl, rfl⟩

theorem rsize_any (c : Int) (w : World) :
    Calls Tryd.prog 13 #[.int .i64 c] w fun e w' => e = .returned (.int .i64 (sizeI c)) ∧ w = w' := by
  by_cases hs : 0 ≤ c ∧ c < 7
  · obtain ⟨k, rfl⟩ : ∃ k : Nat, c = k := ⟨c.toNat, by omega⟩
    have hk : k < 7 := by omega
    have e : sizeI (k : Int) = ((sizeN k : Nat) : Int) := by
      rcases k with _ | _ | _ | _ | _ | _ | _ | k <;> first | rfl | omega
    rw [e]
    exact rsize_small k w hk
  · rw [show sizeI c = 0 by unfold sizeI; repeat' split <;> omega]
    rcases (by omega : c < 0 ∨ 6 < c) with h | h
    all_goals
      clear hs
      go_enter Tryd.func13, Tryd.ntmps13
      go_wp2
      go_ret
      exact ⟨rfl, rfl⟩

theorem sizeN_le (c : Nat) : sizeN c ≤ 128 := by
  rcases c with _ | _ | _ | _ | _ | _ | _ | c <;> simp [sizeN]
theorem of_found (n : Nat) (c : Nat) (h1 : 1 ≤ n) (h2 : n ≤ 4096) (hc : c < 7) (hb : ∀ j, j < c → sizeN j < n) (hn : n ≤ sizeN c) : ofI n = c := by
  have s0 : sizeN 0 = 16 := rfl
  have s1 : sizeN 1 = 24 := rfl
  have s2 : sizeN 2 = 32 := rfl
  have s3 : sizeN 3 = 48 := rfl
  have s4 : sizeN 4 = 64 := rfl
  have s5 : sizeN 5 = 96 := rfl
  have s6 : sizeN 6 = 128 := rfl
  have := ofI_cases n
  rcases seven c hc with rfl | rfl | rfl | rfl | rfl | rfl | rfl
  · omega
  · have := hb 0 (by decide); omega
  · have := hb 1 (by decide); omega
  · have := hb 2 (by decide); omega
  · have := hb 3 (by decide); omega
  · have := hb 4 (by decide); omega
  · have := hb 5 (by decide); omega
theorem of_past (n : Nat) (h1 : 1 ≤ n) (h2 : n ≤ 4096) (hb : ∀ j, j < 7 → sizeN j < n) : ofI n = 7 := by
  have := hb 6 (by decide)
  rw [show sizeN 6 = 128 from rfl] at this
  have := ofI_cases n
  omega

theorem rof_any (n : Int) (w : World) :
    Calls Tryd.prog 11 #[.int .i64 n] w fun e w' => e = .returned (.int .i64 (ofI n)) ∧ w = w' := by
  by_cases hb : n < 1 ∨ 4096 < n
  · rw [show ofI n = -1 by have := ofI_cases n; omega]
    rcases hb with h | h
    all_goals
      go_enter Tryd.func11, Tryd.ntmps11
      go_wp2
      go_ret
      exact ⟨rfl, rfl⟩
  · obtain ⟨m, rfl⟩ : ∃ m : Nat, n = m := ⟨n.toNat, by omega⟩
    have h1 : 1 ≤ m := by omega
    have h2 : m ≤ 4096 := by omega
    obtain ⟨r, hr⟩ : ∃ r, ofI (m : Int) = r := ⟨_, rfl⟩
    have HR : Hid (ofI (m : Int) = r) := hr
    rw [hr]
    clear hb hr
    go_enter Tryd.func11, Tryd.ntmps11
    go_wp2
    go_loop [3] (fun iv => ∃ c : Nat, c ≤ 7 ∧ iv = .int .i64 (c : Nat) ∧ ∀ j, j < c → sizeN j < m) (fun iv => 7 - (intOf iv).toNat)
    case atStart => exact ⟨0, Nat.zero_le _, rfl, by simp⟩
    case round =>
      obtain ⟨c, hc, rfl, hrel⟩ := hrel
      have R : Hid (∀ j, j < c → sizeN j < m) := hrel
      have hle := sizeN_le c
      clear hrel
      by_cases h7 : c < 7
      · by_cases hf : m ≤ sizeN c
        · have E : Hid (r = (c : Int)) := by rw [← HR.out]; exact of_found m c h1 h2 h7 R.out hf
          go_wp2_with (go_at_call 13; refine (rsize_small c _ h7).mono ?_; rintro e w' ⟨rfl, rfl⟩)
          go_ret
          exact ⟨ret_int E.out.symm, rfl⟩
        · go_wp2_with (go_at_call 13; refine (rsize_small c _ h7).mono ?_; rintro e w' ⟨rfl, rfl⟩)
          go_round
          case rel =>
            refine ⟨c + 1, by omega, by go_num, fun j hj => ?_⟩
            rcases Nat.lt_or_ge j c with h | h
            · exact R.out j h
            · obtain rfl : j = c := by omega
              omega
          case measure => simp [intOf]; omega
      · obtain rfl : c = 7 := by omega
        have E : Hid (r = 7) := by rw [← HR.out]; exact of_past m h1 h2 R.out
        go_wp2
        go_ret
        exact ⟨ret_int E.out.symm, rfl⟩

theorem rslots_small (c : Nat) (w : World) (h : c < 7) :
    Calls Tryd.prog 15 #[.int .i64 (c : Nat)] w fun e w' => e = .returned (.int .i64 (slotsN c : Nat)) ∧ w = w' := by
  have e : ((256 : Int).tdiv ((sizeN c : Nat) : Int)) = ((slotsN c : Nat) : Int) := by
    rcases c with _ | _ | _ | _ | _ | _ | _ | c <;> first | rfl | omega
  have hp : 16 ≤ sizeN c ∧ sizeN c ≤ 128 := by
    rcases c with _ | _ | _ | _ | _ | _ | _ | c <;> first | decide | omega
  have hq := slotsN_pos c h
  go_enter Tryd.func15, Tryd.ntmps15
  go_wp2_with (go_at_call 13; refine (rsize_small c _ h).mono ?_; rintro e w' ⟨rfl, rfl⟩)
  go_ret
  exact ⟨rfl, rfl⟩

theorem rslots_any (c : Int) (w : World) :
    Calls Tryd.prog 15 #[.int .i64 c] w fun e w' => e = .returned (.int .i64 (slotsI c)) ∧ w = w' := by
  by_cases hs : 0 ≤ c ∧ c < 7
  · obtain ⟨k, rfl⟩ : ∃ k : Nat, c = k := ⟨c.toNat, by omega⟩
    have e : slotsI (k : Int) = ((slotsN k : Nat) : Int) := by
      have hk : k < 7 := by omega
      rcases k with _ | _ | _ | _ | _ | _ | _ | k <;> first | rfl | omega
    rw [e]
    exact rslots_small k w (by omega)
  · by_cases h7 : c = 7
    · subst h7
      rw [show slotsI 7 = 1 from rfl]
      clear hs
      go_enter Tryd.func15, Tryd.ntmps15
      go_wp2
      go_ret
      exact ⟨rfl, rfl⟩
    · rw [show slotsI c = 0 by unfold slotsI; repeat' split <;> omega]
      have hz : sizeI c = 0 := by unfold sizeI; repeat' split <;> omega
      have h7' : (c == 7) = false := by simp [h7]
      clear hs
      go_enter Tryd.func15, Tryd.ntmps15
      go_wp2_with (go_at_call 13; refine (rsize_any c _).mono ?_; rw [hz]; rintro e w' ⟨rfl, rfl⟩)
      go_ret
      exact ⟨rfl, rfl⟩

theorem rpages_any (n : Int) (w : World) :
    Calls Tryd.prog 17 #[.int .i64 n] w fun e w' => e = .returned (.int .i64 (pagesN n : Nat)) ∧ w = w' := by
  have hr := ofI_range n
  by_cases h1 : ofI n = -1
  · rw [pagesN_none h1]
    go_enter Tryd.func17, Tryd.ntmps17
    go_wp2_with (go_at_call 11; refine (rof_any n _).mono ?_; rw [h1]; rintro e w' ⟨rfl, rfl⟩)
    go_ret
    exact ⟨rfl, rfl⟩
  · by_cases h7 : ofI n = 7
    · obtain ⟨E, k1, k2⟩ := pagesN_large h7
      obtain ⟨m, rfl⟩ : ∃ m : Nat, n = m := ⟨n.toNat, by omega⟩
      have E' : Hid (pagesN (m : Int) = (m + 255) / 256) := by show _ = _; rw [E]; simp
      rw [E'.out]
      clear E
      go_enter Tryd.func17, Tryd.ntmps17
      go_wp2_with (go_at_call 11; refine (rof_any (m : Int) _).mono ?_; rw [h7]; rintro e w' ⟨rfl, rfl⟩)
      go_ret
      exact ⟨ret_int (by omega), rfl⟩
    · rw [pagesN_small (by omega) (by omega)]
      obtain ⟨c, hc⟩ : ∃ c, ofI n = c := ⟨_, rfl⟩
      rw [hc] at h1 h7 hr
      have hc0 : 0 ≤ c := by omega
      have hc7 : c < 7 := by omega
      have HC : Hid (ofI n = c) := hc
      clear hc h1 h7 hr
      go_enter Tryd.func17, Tryd.ntmps17
      go_wp2_with (go_at_call 11; refine (rof_any n _).mono ?_; rw [HC.out]; rintro e w' ⟨rfl, rfl⟩)
      go_ret
      exact ⟨rfl, rfl⟩

set_option maxHeartbeats 1000000 in
theorem rneed_any (a : Option Addr) (cap : Nat) (l : List Int) (w : World) (hI : IsI w a l) (hl : l.length ≤ 10000) :
    Calls Tryd.prog 19 #[.slice a l.length cap] w fun e w' => e = .returned (.int .i64 (needN l : Nat)) ∧ w = w' := by
  have HI : Hid (IsI w a l) := hI
  have EN : Hid (needN l = upN l 7 + largeN l) := by show needN l = _; unfold needN; omega
  have hll := large_le l
  rw [EN.out]
  clear hI
  go_enter Tryd.func19, Tryd.ntmps19
  go_wp2
  go_loop [3, 4] (fun pv iv => ∃ c : Nat, c ≤ 7 ∧ pv = .int .i64 (upN l c : Nat) ∧ iv = .int .i64 (c : Nat)) (fun _ iv => 7 - (intOf iv).toNat)
  case atStart => exact ⟨0, Nat.zero_le _, rfl, rfl⟩
  case round =>
    obtain ⟨c, hc, rfl, rfl⟩ := hrel
    have hup := up_len l c hc
    by_cases h7 : c < 7
    · have hnc := cntN_le c l
      have hsp := slotsN_pos c h7
      have hup1 := up_len l (c + 1) (by omega)
      have EU : Hid (upN l (c + 1) = upN l c + ceilN (cntN c l) (slotsN c)) := rfl
      have hce : ceilN (cntN c l) (slotsN c) ≤ 160000 := by have := EU.out; omega
      go_wp2
      go_loop [5, 14] (fun nv iv => ∃ k : Nat, k ≤ l.length ∧ nv = .int .i64 (cntN c (l.take k) : Nat) ∧ iv = .int .i64 (k : Nat)) (fun _ iv => l.length - (intOf iv).toNat)
      case atStart => exact ⟨0, Nat.zero_le _, rfl, rfl⟩
      case round =>
        obtain ⟨k, hk, rfl, rfl⟩ := hrel
        have hck : cntN c (l.take k) ≤ 10000 := by have := cntN_le c (l.take k); rw [List.length_take] at this; omega
        by_cases hlt : k < l.length
        · obtain ⟨hin, rfl | ⟨b, off, rfl, hs, hcs⟩⟩ := HI.out
          · simp at hlt
          have hcell := hcs k hlt
          have EC : Hid (cntN c (l.take (k + 1)) = cntN c (l.take k) + if ofI (l.getD k 0) = (c : Int) then 1 else 0) := cnt_take c l k hlt
          obtain ⟨x, hx⟩ : ∃ x, l.getD k 0 = x := ⟨_, rfl⟩
          rw [hx] at hcell EC
          have hr := ofI_range x
          obtain ⟨r, hrr⟩ : ∃ r, ofI x = r := ⟨_, rfl⟩
          have HR : Hid (ofI x = r) := hrr
          rw [hrr] at EC hr
          clear hcs hx hin hrr
          by_cases he : r = (c : Int)
          · subst he
            have EC' : Hid (cntN c (l.take (k + 1)) = cntN c (l.take k) + 1) := by have := EC.out; rw [if_pos rfl] at this; exact this
            clear EC
            go_wp2_with (go_at_call 11; refine (rof_any x _).mono ?_; rw [HR.out]; rintro e w' ⟨rfl, rfl⟩)
            go_round
            case rel => exact ⟨k + 1, by omega, by rw [EC'.out]; go_num, by go_num⟩
            case measure => simp [intOf]; omega
          · have he' : (r == (c : Int)) = false := by simp [he]
            have EC' : Hid (cntN c (l.take (k + 1)) = cntN c (l.take k)) := by have := EC.out; rw [if_neg he] at this; exact this
            clear EC
            go_wp2_with (go_at_call 11; refine (rof_any x _).mono ?_; rw [HR.out]; rintro e w' ⟨rfl, rfl⟩)
            go_round
            case rel => exact ⟨k + 1, by omega, by rw [EC'.out], by go_num⟩
            case measure => simp [intOf]; omega
        · obtain rfl : k = l.length := by omega
          have EL : l.take l.length = l := List.take_length
          rw [EL] at hck ⊢
          have ED : (((cntN c l : Nat) : Int) + ((slotsN c : Nat) : Int) - 1).tdiv ((slotsN c : Nat) : Int) = ((ceilN (cntN c l) (slotsN c) : Nat) : Int) := by
            rw [show (((cntN c l : Nat) : Int) + ((slotsN c : Nat) : Int) - 1) = ((cntN c l + slotsN c - 1 : Nat) : Int) by omega]; rfl
          clear hlt EL
          go_wp2_with (go_at_call 15; refine (rslots_small c _ h7).mono ?_; rintro e w' ⟨rfl, rfl⟩)
          go_round
          case rel => exact ⟨c + 1, by omega, by rw [EU.out]; go_num, by go_num⟩
          case measure => simp [intOf]; omega
    · obtain rfl : c = 7 := by omega
      go_wp2
      go_loop [3, 39] (fun pv iv => ∃ k : Nat, k ≤ l.length ∧ pv = .int .i64 (upN l 7 + largeN (l.take k) : Nat) ∧ iv = .int .i64 (k : Nat)) (fun _ iv => l.length - (intOf iv).toNat)
      case atStart => exact ⟨0, Nat.zero_le _, rfl, rfl⟩
      case round =>
        obtain ⟨k, hk, rfl, rfl⟩ := hrel
        have hlk : largeN (l.take k) ≤ 16 * 10000 := by have := large_le (l.take k); rw [List.length_take] at this; omega
        by_cases hlt : k < l.length
        · obtain ⟨hin, rfl | ⟨b, off, rfl, hs, hcs⟩⟩ := HI.out
          · simp at hlt
          have hcell := hcs k hlt
          have ET : Hid (largeN (l.take (k + 1)) = largeN (l.take k) + if ofI (l.getD k 0) = 7 then pagesN (l.getD k 0) else 0) := large_take l k hlt
          obtain ⟨x, hx⟩ : ∃ x, l.getD k 0 = x := ⟨_, rfl⟩
          rw [hx] at hcell ET
          have hpx := pagesN_le x
          have hr := ofI_range x
          obtain ⟨r, hrr⟩ : ∃ r, ofI x = r := ⟨_, rfl⟩
          have HR : Hid (ofI x = r) := hrr
          rw [hrr] at ET hr
          clear hcs hx hin hrr
          by_cases he : r = 7
          · subst he
            have ET' : Hid (largeN (l.take (k + 1)) = largeN (l.take k) + pagesN x) := by have := ET.out; rw [if_pos rfl] at this; exact this
            clear ET
            go_wp2_with (first
              | (go_at_call 11; refine (rof_any x _).mono ?_; rw [HR.out]; rintro e w' ⟨rfl, rfl⟩)
              | (go_at_call 17; refine (rpages_any x _).mono ?_; rintro e w' ⟨rfl, rfl⟩))
            go_round
            case rel => exact ⟨k + 1, by omega, by rw [ET'.out]; go_num, by go_num⟩
            case measure => simp [intOf]; omega
          · have he' : (r == 7) = false := by simp [he]
            have ET' : Hid (largeN (l.take (k + 1)) = largeN (l.take k)) := by have := ET.out; rw [if_neg he] at this; exact this
            clear ET
            go_wp2_with (go_at_call 11; refine (rof_any x _).mono ?_; rw [HR.out]; rintro e w' ⟨rfl, rfl⟩)
            go_round
            case rel => exact ⟨k + 1, by omega, by rw [ET'.out]; go_num, by go_num⟩
            case measure => simp [intOf]; omega
        · obtain rfl : k = l.length := by omega
          have EL : l.take l.length = l := List.take_length
          rw [EL] at hlk ⊢
          clear hlt EL
          go_wp2
          go_ret
          exact ⟨rfl, rfl⟩
end Go.Proofs.YtdfnhbbnadiijaaDoor
