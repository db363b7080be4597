/- CnC: out of FrC. -/
import Derived.Test.YtofmicbhheebiaaDoorCnB
set_option linter.unusedVariables false
set_option maxRecDepth 4000
set_option maxRecDepth 4000
namespace Go.Proofs.YtofmicbhheebiaaDoor
open Go.RowKit

theorem step_bits (y : Nat) (h : y < 4294967296) : bits BinOp.xor IntKind.u32 ((y : Int) / 2) ((y : Int) % 2 * 2197175160) = (step y : Nat) := by
  have e := u32_xor_nat (y / 2) (y % 2 * 2197175160) (by omega) (by omega)
  rw [step, ← e]
  congr 1
  all_goals omega

theorem eight_any (x : Int) (m : Nat) (e : x = m) (h : m < 4294967296) (w : World) :
    Calls Tryd.prog 70 #[.int .u32 x] w fun e w' => e = .returned (.int .u32 (steps 8 m : Nat)) ∧ w = w' := by
  subst e
  go_enter Tryd.func70, Tryd.ntmps70
  go_wp2
  go_loop [0, 4] (fun n i => ∃ k : Nat, k ≤ 8 ∧ i = .int .i64 k ∧ n = .int .u32 (steps k m : Nat)) (fun _ i => 8 - (intOf i).toNat)
  case atStart => exact ⟨0, Nat.zero_le _, rfl, rfl⟩
  case round =>
    obtain ⟨k, hk, rfl, rfl⟩ := hrel
    have hlt := steps_lt k m h
    by_cases h8 : k < 8
    · go_wp2
      go_round
      case rel => exact ⟨k + 1, by omega, by go_num, by rw [step_bits _ hlt, steps_one]⟩
      case measure => simp [intOf]; omega
    · obtain rfl : k = 8 := by omega
      go_wp2
      go_ret
      exact ⟨rfl, rfl⟩

theorem rstep_any (x : Int) (m : Nat) (e : x = m) (h : m < 4294967296) (w : World) :
    Calls Tryd.prog 74 #[.int .u32 x] w fun e w' => e = .returned (.int .u32 (step m : Nat)) ∧ w = w' := by
  subst e
  have hb := step_bits m h
  have H : Hid (bits BinOp.xor IntKind.u32 ((m : Int) / 2) ((m : Int) % 2 * 2197175160) = (step m : Nat)) := hb
  clear hb
  rcases Nat.mod_two_eq_zero_or_one m with ho | ho
  · go_enter Tryd.func74, Tryd.ntmps74
    go_wp2
    go_ret
    refine ⟨ret_int ?_, rfl⟩
    unfold step
    rw [ho]
    simp
  · go_enter Tryd.func74, Tryd.ntmps74
    go_wp2
    go_ret
    refine ⟨ret_int ?_, rfl⟩
    have := H.out
    rw [show (m : Int) % 2 * 2197175160 = 2197175160 from by omega] at this
    rw [← this]

theorem not_bits (y : Nat) (h : y < 4294967296) : bits BinOp.xor IntKind.u32 IntKind.u32.max (y : Int) = (y ^^^ 4294967295 : Nat) := by
  have e := u32_xor_nat 4294967295 y (by decide) h
  rw [Nat.xor_comm, ← e]
  rfl

theorem byte_bits (y : Nat) (c : Int) (h : y < 4294967296) (h0 : 0 ≤ c) (h1 : c ≤ 255) : bits BinOp.xor IntKind.u32 (y : Int) c = (y ^^^ c.toNat : Nat) := by
  have e := u32_xor y c (by omega) (by omega) h0 (by omega)
  simpa using e

theorem ones_bits (y : Nat) (h : y < 4294967296) : bits BinOp.xor IntKind.u32 (y : Int) 4294967295 = (y ^^^ 4294967295 : Nat) :=
  u32_xor_nat y 4294967295 h (by decide)

theorem moreF_snoc (l : List Int) (x k : Nat) (h : k < l.length) : moreF x (l.take (k + 1)) = steps 8 (moreF x (l.take k) ^^^ l[k].toNat) := by
  rw [List.take_succ_eq_append_getElem h, moreF_append]
  rfl

theorem more_any (s : Int) (m : Nat) (a : Option Addr) (cap : Nat) (l : List Int) (w : World) (es : s = m) (hs : m < 4294967296) (h : IsB w a l) (hm : l.length ≤ maxLen) :
    Calls Tryd.prog 58 #[.int .u32 s, .slice a l.length cap] w fun e w' => e = .returned (.int .u32 (moreL m l : Nat)) ∧ w = w' := by
  subst es
  obtain ⟨hb, hl⟩ := h
  have hx : m ^^^ 4294967295 < 4294967296 := xor_lt hs (by decide)
  have hfin := fun k => moreF_lt (l.take k) _ (fun c hc => hb c (List.mem_of_mem_take hc)) hx
  unfold maxLen at hm
  go_enter Tryd.func58, Tryd.ntmps58
  go_wp2
  go_loop [5, 12] (fun n i => ∃ k : Nat, k ≤ l.length ∧ i = .int .i64 k ∧ n = .int .u32 (moreF (m ^^^ 4294967295) (l.take k) : Nat)) (fun _ i => l.length - (intOf i).toNat)
  case atStart => exact ⟨0, Nat.zero_le _, rfl, by rw [not_bits m hs]; rfl⟩
  case round =>
    obtain ⟨k, hk, rfl, rfl⟩ := hrel
    have hlt := hfin k
    by_cases hkl : k < l.length
    · obtain rfl | ⟨b, off, rfl, hsz, hc⟩ := hl
      · exact absurd hkl (by simp)
      have hcell := hc k hkl
      have hbk := hb l[k] (List.getElem_mem hkl)
      go_wp2_with fail
      refine (eight_any _ (moreF (m ^^^ 4294967295) (l.take k) ^^^ l[k].toNat) ?_ (xor_lt hlt (by omega)) _).mono ?_
      · exact byte_bits _ _ hlt hbk.1 hbk.2
      · rintro e w1 ⟨rfl, rfl⟩
        go_wp2
        go_round
        case rel => exact ⟨k + 1, by omega, by go_num, by rw [moreF_snoc l _ k hkl]⟩
        case measure => simp [intOf]; omega
    · obtain rfl : k = l.length := by omega
      go_wp2
      go_ret
      refine ⟨ret_int ?_, rfl⟩
      rw [List.take_length] at hlt
      rw [not_bits _ hlt]
      rfl

theorem sum_any (a : Option Addr) (cap : Nat) (l : List Int) (w : World) (h : IsB w a l) (hm : l.length ≤ maxLen) :
    Calls Tryd.prog 40 #[.slice a l.length cap] w fun e w' => e = .returned (.int .u32 (moreL 0 l : Nat)) ∧ w = w' := by
  go_enter Tryd.func40, Tryd.ntmps40
  go_wp2_with (go_at_call 58; refine (more_any 0 0 a cap l _ rfl (by decide) h hm).mono ?_; rintro e w' ⟨rfl, rfl⟩)
  go_ret
  exact ⟨rfl, rfl⟩

theorem rmore_any (s : Int) (m : Nat) (a : Option Addr) (cap : Nat) (l : List Int) (w : World) (es : s = m) (hs : m < 4294967296) (h : IsB w a l) (hm : l.length ≤ maxLen) :
    Calls Tryd.prog 65 #[.int .u32 s, .slice a l.length cap] w fun e w' => e = .returned (.int .u32 (moreL m l : Nat)) ∧ w = w' := by
  subst es
  obtain ⟨hb, hl⟩ := h
  have hx : m ^^^ 4294967295 < 4294967296 := xor_lt hs (by decide)
  have hfin := fun k => moreF_lt (l.take k) _ (fun c hc => hb c (List.mem_of_mem_take hc)) hx
  unfold maxLen at hm
  go_enter Tryd.func65, Tryd.ntmps65
  go_wp2
  go_loop [5, 12] (fun n i => ∃ k : Nat, k ≤ l.length ∧ i = .int .i64 k ∧ n = .int .u32 (moreF (m ^^^ 4294967295) (l.take k) : Nat)) (fun _ i => l.length - (intOf i).toNat)
  case atStart => exact ⟨0, Nat.zero_le _, rfl, by rw [ones_bits m hs]; rfl⟩
  case round =>
    obtain ⟨k, hk, rfl, rfl⟩ := hrel
    have hlt := hfin k
    by_cases hkl : k < l.length
    · obtain rfl | ⟨b, off, rfl, hsz, hc⟩ := hl
      · exact absurd hkl (by simp)
      have hcell := hc k hkl
      have hbk := hb l[k] (List.getElem_mem hkl)
      have hz : moreF (m ^^^ 4294967295) (l.take k) ^^^ l[k].toNat < 4294967296 := xor_lt hlt (by omega)
      go_wp2
      go_loop [5, 7] (fun n i => ∃ j : Nat, j ≤ 8 ∧ i = .int .i64 j ∧ n = .int .u32 (steps j (moreF (m ^^^ 4294967295) (l.take k) ^^^ l[k].toNat) : Nat)) (fun _ i => 8 - (intOf i).toNat)
      case atStart => exact ⟨0, Nat.zero_le _, rfl, by rw [byte_bits _ _ hlt hbk.1 hbk.2]; rfl⟩
      case round =>
        obtain ⟨j, hj, rfl, rfl⟩ := hrel
        have hjl := steps_lt j _ hz
        by_cases hj8 : j < 8
        · go_wp2_with fail
          refine (rstep_any _ _ rfl hjl _).mono ?_
          rintro e w1 ⟨rfl, rfl⟩
          go_wp2
          go_round
          case rel => exact ⟨j + 1, by omega, by go_num, by rw [steps_one]⟩
          case measure => simp [intOf]; omega
        · obtain rfl : j = 8 := by omega
          go_wp2
          go_round
          case rel => exact ⟨k + 1, by omega, by go_num, by rw [moreF_snoc l _ k hkl]⟩
          case measure => simp [intOf]; omega
    · obtain rfl : k = l.length := by omega
      go_wp2
      go_ret
      refine ⟨ret_int ?_, rfl⟩
      rw [List.take_length] at hlt
      rw [ones_bits _ hlt]
      rfl

theorem rsum_any (a : Option Addr) (cap : Nat) (l : List Int) (w : World) (h : IsB w a l) (hm : l.length ≤ maxLen) :
    Calls Tryd.prog 48 #[.slice a l.length cap] w fun e w' => e = .returned (.int .u32 (moreL 0 l : Nat)) ∧ w = w' := by
  go_enter Tryd.func48, Tryd.ntmps48
  go_wp2_with (go_at_call 65; refine (rmore_any 0 0 a cap l _ rfl (by decide) h hm).mono ?_; rintro e w' ⟨rfl, rfl⟩)
  go_ret
  exact ⟨rfl, rfl⟩

/-- Sum, its length and what it answers told apart. -/
theorem sum_of (a : Option Addr) (cap n : Nat) (l : List Int) (w : World) (hn : n = l.length) (h : IsB w a l) (hm : l.length ≤ maxLen) :
    Calls Tryd.prog 40 #[.slice a n cap] w fun e w' => e = .returned (.int .u32 (sumI l)) ∧ w = w' := by
  subst hn; exact sum_any a cap l w h hm

theorem rsum_of (a : Option Addr) (cap n : Nat) (l : List Int) (w : World) (hn : n = l.length) (h : IsB w a l) (hm : l.length ≤ maxLen) :
    Calls Tryd.prog 48 #[.slice a n cap] w fun e w' => e = .returned (.int .u32 (sumI l)) ∧ w = w' := by
  subst hn; exact rsum_any a cap l w h hm
end Go.Proofs.YtofmicbhheebiaaDoor
