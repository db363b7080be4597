/- What next, First and Gap of a set in memory answer. -/
import Derived.Test.YtnolbcbcboeaoaaDoorSetB
import Derived.Test.YtnolbcbcboeaoaaDoorSetC
namespace Go.Proofs.YtnolbcbcboeaoaaDoor
open Go.RowKit
set_option linter.unusedVariables false

theorem tz_of (x : Nat) (w : World) (hx : x < 18446744073709551616) (hx0 : x ≠ 0) (hT : TabIn w) :
    Calls Tryd.prog 36 #[.int .u64 x] w fun e w' => ∃ c : Nat, e = .returned (.int .i64 c) ∧ c < 64 ∧ Hid (c = Lib.ctz 64 x) ∧ w = w' := by
  refine (tz_any x w hx hx0 hT).mono ?_
  rintro e w' ⟨rfl, rfl⟩
  exact ⟨_, rfl, (ctz_bits x hx0 hx).2.2, rfl, rfl⟩

set_option maxHeartbeats 1000000 in
theorem next_any (b g n : Nat) (f q : Nat → Bool) (fr : Int) (T : Nat) (hT64 : T < 18446744073709551616) (hh : ∀ j k, k < 64 → (wd f j ^^^ T).testBit k = q (64 * j + k)) (w : World) (hS : SetAt w b g n f) (hT : TabIn w) (hfr : fr ≤ 9223372036854775807) :
    Calls Tryd.prog 34 #[.pointer (some ⟨b, 0, none⟩), .int .i64 fr, .int .u64 T] w fun e w' => e = .returned (.int .i64 (nextL q n fr.toNat)) ∧ w = w' := by
  have hl := hS.len
  have hs := hS.words
  have few := hS.few
  have HW : Hid (∀ j, j < (n + 63) / 64 → w.cell? ⟨g, j, none⟩ = some (.int .u64 (wd f j : Nat))) := hS.word
  have HT : Hid (TabIn w) := hT
  have HH : Hid (∀ j k, k < 64 → (wd f j ^^^ T).testBit k = q (64 * j + k)) := hh
  obtain ⟨i0, e0⟩ : ∃ i0 : Nat, fr.toNat = i0 := ⟨_, rfl⟩
  rw [e0]
  have hb0 : i0 ≤ 9223372036854775807 := by omega
  have hcase : (0 < i0 ∧ fr = (i0 : Int)) ∨ (¬ 0 < fr ∧ i0 = 0) := by omega
  clear hS hT hh e0
  rcases hcase with ⟨hpos, rfl⟩ | ⟨hpos, rfl⟩
  all_goals
    go_enter Tryd.func34, Tryd.ntmps34
    go_wp2
    go_loop [7] (fun i => ∃ k : Nat, i = .int .i64 k ∧ k ≤ 9223372036854775807 ∧ Hid (nextL q n _ = nextL q n k)) (fun i => n - (intOf i).toNat)
    case atStart => exact ⟨_, rfl, hb0, rfl⟩
    case round =>
      obtain ⟨k, rfl, hk, HK⟩ := hrel
      by_cases hlt : k < n
      · have hcell := HW.out (k / 64) (by omega)
        obtain ⟨X, hX⟩ : ∃ X : Nat, wd f (k / 64) ^^^ T = X := ⟨_, rfl⟩
        have hXb : ∀ t, t < 64 → X.testBit t = q (64 * (k / 64) + t) := fun t ht => by rw [← hX]; exact HH.out _ t ht
        have hX64 : X < 18446744073709551616 := by rw [← hX]; exact Nat.xor_lt_two_pow (n := 64) (wd_lt f _) hT64
        have hx := u64_xor_nat (wd f (k / 64)) T (wd_lt f _) hT64
        rw [hX] at hx
        obtain ⟨r, hr⟩ : ∃ r : Nat, X / 2 ^ (k % 64) = r := ⟨_, rfl⟩
        have hri : ((X : Int) / 2 ^ (k % 64)) = (r : Int) := by rw [← hr]; simp
        have hr64 : r < 18446744073709551616 := by rw [← hr]; exact Nat.lt_of_le_of_lt (Nat.div_le_self _ _) hX64
        have XB : Hid (∀ t, t < 64 → X.testBit t = q (64 * (k / 64) + t)) := hXb
        have HR : Hid (X / 2 ^ (k % 64) = r) := hr
        clear hX hXb hr
        by_cases hr0 : r = 0
        · have SK : Hid (nextL q n _ = nextL q n (k + (64 - k % 64))) := HK.out.trans (nextL_skip q n k _ (fun m h1 h2 _ => rest_zero q X k XB.out (by rw [HR.out, hr0]) m h1 h2))
          subst hr0
          go_wp2_with (go_at_call 12; refine (len_any b n _ hl).mono ?_; rintro e w' ⟨rfl, rfl⟩)
          go_round
          case rel => exact ⟨k + (64 - k % 64), by go_num, by omega, SK⟩
          case measure => simp [intOf]; omega
        · have hd : ((r : Int) == 0) = false := by simp; omega
          go_wp2_with (first | (go_at_call 12; refine (len_any b n _ hl).mono ?_; rintro e w' ⟨rfl, rfl⟩) | (go_at_call 36; refine (tz_of r _ hr64 hr0 HT.out).mono ?_; rintro e w' ⟨c, rfl, hc, HC, rfl⟩))
          obtain ⟨c1, c2, c3⟩ := rest_some q X k r c hX64 XB.out HR.out hr0 HC.out
          have C2 : Hid (q (k + c) = true) := c2
          have SK : Hid (nextL q n _ = nextL q n (k + c)) := HK.out.trans (nextL_skip q n k c (fun m h1 h2 _ => c3 m h1 h2))
          clear c2 c3
          refine (isPlace_any b n _ _ hl).mono ?_
          rintro e w' ⟨rfl, rfl⟩
          by_cases hin : k + c < n
          · have hp : isP n ((k : Int) + (c : Int)) = true := isP_true.2 ⟨by omega, by omega⟩
            rw [hp]
            go_wp2
            go_ret
            exact ⟨ret_int (by rw [SK.out, nextL_at q hin C2.out]; omega), rfl⟩
          · have hp : isP n ((k : Int) + (c : Int)) = false := isP_false.2 (by omega)
            have S2 : Hid (nextL q n _ = nextL q n (k + (64 - k % 64))) := SK.out.trans ((nextL_stop q (by omega)).trans (nextL_stop q (by omega)).symm)
            rw [hp]
            go_wp2
            go_round
            case rel => exact ⟨k + (64 - k % 64), by go_num, by omega, S2⟩
            case measure => simp [intOf]; omega
      · have EE : Hid (nextL q n _ = -1) := HK.out.trans (nextL_stop q (by omega))
        go_wp2_with (go_at_call 12; refine (len_any b n _ hl).mono ?_; rintro e w' ⟨rfl, rfl⟩)
        go_ret
        exact ⟨ret_int EE.out.symm, rfl⟩

theorem first_any (b g n : Nat) (f : Nat → Bool) (fr : Int) (w : World) (hS : SetAt w b g n f) (hT : TabIn w) (hfr : fr ≤ 9223372036854775807) :
    Calls Tryd.prog 22 #[.pointer (some ⟨b, 0, none⟩), .int .i64 fr] w fun e w' => e = .returned (.int .i64 (nextL f n fr.toNat)) ∧ w = w' := by
  have HS : Hid (SetAt w b g n f) := hS
  have HT : Hid (TabIn w) := hT
  clear hS hT
  go_enter Tryd.func22, Tryd.ntmps22
  go_wp2_with (go_at_call 34; refine (next_any b g n f f fr 0 (by decide) (same_bits f) _ HS.out HT.out hfr).mono ?_; rintro e w' ⟨rfl, rfl⟩)
  go_ret
  exact ⟨rfl, rfl⟩

def outB (f : Nat → Bool) : Nat → Bool := fun i => !f i

theorem gap_any (b g n : Nat) (f : Nat → Bool) (fr : Int) (w : World) (hS : SetAt w b g n f) (hT : TabIn w) (hfr : fr ≤ 9223372036854775807) :
    Calls Tryd.prog 23 #[.pointer (some ⟨b, 0, none⟩), .int .i64 fr] w fun e w' => e = .returned (.int .i64 (nextL (outB f) n fr.toNat)) ∧ w = w' := by
  have HS : Hid (SetAt w b g n f) := hS
  have HT : Hid (TabIn w) := hT
  clear hS hT
  go_enter Tryd.func23, Tryd.ntmps23
  go_wp2_with (go_at_call 34; refine (next_any b g n f (outB f) fr 18446744073709551615 (by decide) (turned_bits f) _ HS.out HT.out hfr).mono ?_; rintro e w' ⟨rfl, rfl⟩)
  go_ret
  exact ⟨rfl, rfl⟩
end Go.Proofs.YtnolbcbcboeaoaaDoor
