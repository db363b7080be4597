/- Layer 17: SetV again -/
import Derived.Test.YtbfamjnnlcopiaaGreatDoorGzAJ
import Derived.Test.YtbfamjnnlcopiaaGreatDoorAuB
import Derived.Test.YtbfamjnnlcopiaaGreatDoorMhA
namespace Go.Proofs.YtbfamjnnlcopiaaGreatDoor
open Go.RowKit
set_option linter.unusedVariables false
set_option maxRecDepth 4000
/-- Refused: no set, and the error's number. -/
def refV (c : Int) : Value := .tuple #[.pointer none, .int .i64 c]

theorem read_length (n : Nat) (a : Option Addr) (cap : Nat) (len : Nat) (w : World) (hn : n ≤ 65536) (hl : len ≤ maxLen) :
    (len < (n + 7) / 8 → Calls Tryz.prog 83 #[.int .i64 n, .slice a len cap] w fun e w' => e = .returned (refV 3) ∧ w = w') ∧
    ((n + 7) / 8 < len → Calls Tryz.prog 83 #[.int .i64 n, .slice a len cap] w fun e w' => e = .returned (refV 6) ∧ w = w') := by
  unfold maxLen at hl
  obtain ⟨z, hz⟩ : ∃ z, (n + 7) / 8 = z := ⟨_, rfl⟩
  have HZ : Hid ((n + 7) / 8 = z) := hz
  rw [hz]
  have hz8 : z ≤ 8192 := by omega
  clear hz
  constructor
  · intro hlt
    go_enter Tryz.func83, Tryz.ntmps83
    go_wp2_with (go_at_call 104; refine (parts8 _ n _ rfl hn).mono ?_; rintro e w' ⟨c, rfl, hc, HC, rfl⟩; obtain rfl : z = c := HZ.out.symm.trans HC.out.symm)
    go_ret2
    exact ⟨rfl, rfl⟩
  · intro hlt
    have hge : ¬ len < z := by omega
    go_enter Tryz.func83, Tryz.ntmps83
    go_wp2_with (go_at_call 104; refine (parts8 _ n _ rfl hn).mono ?_; rintro e w' ⟨c, rfl, hc, HC, rfl⟩; obtain rfl : z = c := HZ.out.symm.trans HC.out.symm)
    go_ret2
    exact ⟨rfl, rfl⟩

theorem read_int (l : List Int) (h : ∀ x ∈ l, 0 ≤ x ∧ x ≤ 255) (k : Nat) : bits BinOp.or IntKind.u64 ((wd (cutP l (8 * k)) (k / 8) : Nat) : Int) (IntKind.u64.wrap (l.getD k 0 * 2 ^ (k % 8 * 8))) = (wd (cutP l (8 * (k + 1))) (k / 8) : Nat) := by
  have hb := byte_lt l h k
  have h1 : (l.getD k 0).toNat < 2 ^ 8 := by omega
  have h2 : (l.getD k 0).toNat * 2 ^ (k % 8 * 8) < 2 ^ 64 := by
    have : (l.getD k 0).toNat * 2 ^ (k % 8 * 8) < 2 ^ 8 * 2 ^ (k % 8 * 8) := Nat.mul_lt_mul_of_pos_right h1 (Nat.two_pow_pos _)
    rw [← Nat.pow_add] at this
    exact Nat.lt_of_lt_of_le this (Nat.pow_le_pow_right (by decide) (by omega))
  have e : IntKind.u64.wrap (l.getD k 0 * 2 ^ (k % 8 * 8)) = (((l.getD k 0).toNat * 2 ^ (k % 8 * 8) : Nat) : Int) := by
    rw [IntKind.wrap_u64]
    have e2 : l.getD k 0 * 2 ^ (k % 8 * 8) = (((l.getD k 0).toNat * 2 ^ (k % 8 * 8) : Nat) : Int) := by
      rw [Int.natCast_mul, Int.toNat_of_nonneg hb.1]; simp
    rw [e2]
    generalize (l.getD k 0).toNat * 2 ^ (k % 8 * 8) = q at *
    omega
  rw [e, bits_or_u64_nat _ _ (wd_lt _ _) (by omega), read_word l h k]

set_option maxRecDepth 20000 in
set_option maxHeartbeats 4000000 in
theorem read_any (n : Nat) (a : Option Addr) (cap : Nat) (l : List Int) (w : World) (hn : n ≤ 65536) (hb : ∀ x ∈ l, 0 ≤ x ∧ x ≤ 255) (hL : IsL w .u8 a l) (hl : l.length = (n + 7) / 8) :
    Calls Tryz.prog 83 #[.int .i64 n, .slice a l.length cap] w fun e w' =>
      (e = .returned (refV 4) ∧ w = w' ∧ ∃ i, fB l i = true ∧ n ≤ i) ∨
      (e = .returned (.tuple #[.pointer (some ⟨w.heap.size + 1, 0, none⟩), .int .i64 0]) ∧ SetAt w' (w.heap.size + 1) w.heap.size n (fB l) ∧ Below w.heap.size w w') := by
  obtain ⟨z, hz⟩ : ∃ z, (n + 7) / 8 = z := ⟨_, rfl⟩
  have HZ : Hid ((n + 7) / 8 = z) := hz
  have HB : Hid (∀ x ∈ l, 0 ≤ x ∧ x ≤ 255) := hb
  have HL : Hid (IsL w .u8 a l) := hL
  have HLZ : Hid (l.length = z) := hl.trans hz
  rw [HLZ.out]
  have hz8 : z ≤ 8192 := by omega
  have hzz : ¬ z < z := by omega
  have hnn : ¬ 65536 < (n : Int) := by omega
  clear hb hL hl
  have hcl : clampN n = n := by rw [clampN, if_neg (by omega), if_neg hnn]; omega
  have hd0 : decide ((n : Int) < 0) = false := by simp
  by_cases hm : n % 8 = 0
  · have HW : Hid (∀ i, fB l i = true → i < n) := left_whole l n (HLZ.out.trans HZ.out.symm) hm
    have hmi : decide (0 < ((n : Int) % 8)) = false := by simp; omega
    clear hz
    go_enter Tryz.func83, Tryz.ntmps83
    go_wp2_with (first | (go_at_call 104; refine (parts8 _ n _ rfl hn).mono ?_; rintro e w' ⟨c, rfl, hc, HC, rfl⟩; obtain rfl : z = c := HZ.out.symm.trans HC.out.symm) | (go_at_call 77; refine (snew_any _ _).mono ?_; rintro e w1 ⟨rfl, hw1⟩))
    have S1 : Hid (SetAt w1 (w.heap.size + 1) w.heap.size n (cutP l (8 * 0))) := by
      have := newW_at w n hn
      rw [hcl] at hw1
      rw [hw1] at this
      exact this.congr (cutP_zero l)
    have B1 : Hid (Below w.heap.size w w1) := by rw [← hw1]; exact newW_below w _
    clear hw1
    go_loopw [44] (fun iv wr => ∃ k : Nat, k ≤ z ∧ iv = .int .i64 k ∧ SetAt wr (w.heap.size + 1) w.heap.size n (cutP l (8 * k)) ∧ Below w.heap.size w wr) (fun iv _ => z - (intOf iv).toNat)
    case atStart => exact ⟨0, Nat.zero_le _, rfl, S1.out, B1.out⟩
    case round =>
      obtain ⟨k, hk, rfl, hS, hBe⟩ := hrel
      have HS : Hid (SetAt _ (w.heap.size + 1) w.heap.size n (cutP l (8 * k))) := hS
      have HBe : Hid (Below w.heap.size w _) := hBe
      by_cases hlt : k < z
      · have hzn := HZ.out
        have hj : k / 8 < (n + 63) / 64 := by omega
        have hs := hS.words
        have hw := hS.word (k / 8) hj
        have hth := hS.thawed (k / 8)
        have hwl := wd_lt (cutP l (8 * k)) (k / 8)
        have hby := byte_lt l HB.out k
        obtain h0 | ⟨bl, off, rfl, hbs, hc⟩ := HL.out
        · have := HLZ.out; rw [h0] at this; simp at this; omega
        have hcell := (hBe.cell (p := ⟨bl, off + k, none⟩) hbs).trans (hc k (by rw [HLZ.out]; exact hlt))
        have HI : Hid (bits BinOp.or IntKind.u64 ((wd (cutP l (8 * k)) (k / 8) : Nat) : Int) (IntKind.u64.wrap (l.getD k 0 * 2 ^ (k % 8 * 8))) = (wd (cutP l (8 * (k + 1))) (k / 8) : Nat)) := read_int l HB.out k
        have HE : Hid (SetAt (World.setCell _ ⟨w.heap.size, k / 8, none⟩ (.int .u64 (wd (cutP l (8 * (k + 1))) (k / 8) : Nat))) (w.heap.size + 1) w.heap.size n (cutP l (8 * (k + 1)))) :=
          hS.stored hj (fun m hm => read_else l k m hm) (fun i hi => HW.out i (by rw [cutP] at hi; simp at hi; exact hi.2))
        obtain ⟨y, hy⟩ : ∃ y, l.getD k 0 = y := ⟨_, rfl⟩
        rw [hy] at hcell hby HI
        clear hS hBe hc hbs hzn hy
        go_wp2_with fail
        go_region
        all_goals go_wp2
        all_goals go_roundw
        case rel => exact ⟨k + 1, by omega, by go_num, by rw [HI.out]; exact HE.out.drew, (HBe.out.setCell (Nat.le_refl _) _).drew⟩
        case measure => simp [intOf]; omega
      · obtain rfl : k = z := by omega
        rw [← HLZ.out] at hS
        have HE : Hid (SetAt _ (w.heap.size + 1) w.heap.size n (fB l)) := hS.congr (cutP_all l)
        clear hS hBe
        go_wp2
        go_ret2
        exact .inr ⟨rfl, HE.out, HBe.out⟩
  · have hm0 : 0 < n % 8 := by omega
    have hmi : decide (0 < ((n : Int) % 8)) = true := by simp; omega
    obtain ⟨t, rfl⟩ : ∃ t, z = t + 1 := ⟨z - 1, by omega⟩
    have hby := byte_lt l HB.out t
    obtain ⟨y, hy⟩ : ∃ y : Nat, (l.getD t 0).toNat = y := ⟨_, rfl⟩
    have hyi : l.getD t 0 = (y : Int) := by omega
    have hy8 : y ≤ 255 := by omega
    obtain ⟨q, hq⟩ : ∃ q : Nat, y / 2 ^ (n % 8) = q := ⟨_, rfl⟩
    have hqi : ((y : Int) / 2 ^ (n % 8)) = (q : Int) := by rw [← hq]; simp
    have hq8 : q ≤ 255 := by rw [← hq]; exact Nat.le_trans (Nat.div_le_self _ _) hy8
    obtain h0 | ⟨bl0, off0, ha, hbs0, hc0⟩ := HL.out
    · have := HLZ.out; rw [h0] at this; simp at this
    have hcl0 := hc0 t (by rw [HLZ.out]; omega)
    rw [hyi] at hcl0
    subst ha
    have HT1 : Hid ((n + 7) / 8 - 1 = t) := by show _ = _; omega
    have HQ : Hid ((l.getD t 0).toNat / 2 ^ (n % 8) = q) := by show _ = _; rw [hy]; exact hq
    clear hz hc0 hbs0 hby hq hy hyi
    by_cases hq0 : q = 0
    · have HW : Hid (∀ i, fB l i = true → i < n) := left_over l HB.out n (HLZ.out.trans HZ.out.symm) hm0 (by rw [HT1.out, HQ.out]; exact hq0)
      have hqd : ((q : Int) != 0) = false := by simp; exact hq0
      clear hq0
      go_enter Tryz.func83, Tryz.ntmps83
      go_wp2_with (first | (go_at_call 104; refine (parts8 _ n _ rfl hn).mono ?_; rintro e w' ⟨c, rfl, hc, HC, rfl⟩; obtain rfl : t + 1 = c := HZ.out.symm.trans HC.out.symm) | (go_at_call 77; refine (snew_any _ _).mono ?_; rintro e w1 ⟨rfl, hw1⟩))
      have S1 : Hid (SetAt w1 (w.heap.size + 1) w.heap.size n (cutP l (8 * 0))) := by
        have := newW_at w n hn
        rw [hcl] at hw1
        rw [hw1] at this
        exact this.congr (cutP_zero l)
      have B1 : Hid (Below w.heap.size w w1) := by rw [← hw1]; exact newW_below w _
      clear hw1
      go_loopw [44] (fun iv wr => ∃ k : Nat, k ≤ t + 1 ∧ iv = .int .i64 k ∧ SetAt wr (w.heap.size + 1) w.heap.size n (cutP l (8 * k)) ∧ Below w.heap.size w wr) (fun iv _ => t + 1 - (intOf iv).toNat)
      case atStart => exact ⟨0, Nat.zero_le _, rfl, S1.out, B1.out⟩
      case round =>
        obtain ⟨k, hk, rfl, hS, hBe⟩ := hrel
        have HS : Hid (SetAt _ (w.heap.size + 1) w.heap.size n (cutP l (8 * k))) := hS
        have HBe : Hid (Below w.heap.size w _) := hBe
        by_cases hlt : k < t + 1
        · have hzn := HZ.out
          have hj : k / 8 < (n + 63) / 64 := by omega
          have hs := hS.words
          have hw := hS.word (k / 8) hj
          have hth := hS.thawed (k / 8)
          have hwl := wd_lt (cutP l (8 * k)) (k / 8)
          have hby := byte_lt l HB.out k
          obtain h0 | ⟨bl, off, hbo, hbs, hc⟩ := HL.out
          · have := HLZ.out; rw [h0] at this; simp at this
          cases hbo
          have hcell := (hBe.cell (p := ⟨bl0, off0 + k, none⟩) hbs).trans (hc k (by rw [HLZ.out]; exact hlt))
          have HI : Hid (bits BinOp.or IntKind.u64 ((wd (cutP l (8 * k)) (k / 8) : Nat) : Int) (IntKind.u64.wrap (l.getD k 0 * 2 ^ (k % 8 * 8))) = (wd (cutP l (8 * (k + 1))) (k / 8) : Nat)) := read_int l HB.out k
          have HE : Hid (SetAt (World.setCell _ ⟨w.heap.size, k / 8, none⟩ (.int .u64 (wd (cutP l (8 * (k + 1))) (k / 8) : Nat))) (w.heap.size + 1) w.heap.size n (cutP l (8 * (k + 1)))) :=
            hS.stored hj (fun m hm => read_else l k m hm) (fun i hi => HW.out i (by rw [cutP] at hi; simp at hi; exact hi.2))
          obtain ⟨y, hy⟩ : ∃ y, l.getD k 0 = y := ⟨_, rfl⟩
          rw [hy] at hcell hby HI
          clear hS hBe hc hbs hzn hy
          go_wp2_with fail
          go_region
          all_goals go_wp2
          all_goals go_roundw
          case rel => exact ⟨k + 1, by omega, by go_num, by rw [HI.out]; exact HE.out.drew, (HBe.out.setCell (Nat.le_refl _) _).drew⟩
          case measure => simp [intOf]; omega
        · obtain rfl : k = t + 1 := by omega
          rw [← HLZ.out] at hS
          have HE : Hid (SetAt _ (w.heap.size + 1) w.heap.size n (fB l)) := hS.congr (cutP_all l)
          clear hS hBe
          go_wp2
          go_ret2
          exact .inr ⟨rfl, HE.out, HBe.out⟩

    · have hqd : ((q : Int) != 0) = true := by simp; omega
      have HX : Hid (∃ i, fB l i = true ∧ n ≤ i) := left_some l HB.out n (HLZ.out.trans HZ.out.symm) hm0 (by rw [HT1.out, HQ.out]; exact hq0)
      go_enter Tryz.func83, Tryz.ntmps83
      go_wp2_with (go_at_call 104; refine (parts8 _ n _ rfl hn).mono ?_; rintro e w' ⟨c, rfl, hc, HC, rfl⟩; obtain rfl : t + 1 = c := HZ.out.symm.trans HC.out.symm)
      go_ret2
      exact .inl ⟨rfl, rfl, HX.out⟩
end Go.Proofs.YtbfamjnnlcopiaaGreatDoor

/- Layer 17: SetN again -/
namespace Go.Proofs.YtbfamjnnlcopiaaGreatDoor
open Go.RowKit
set_option linter.unusedVariables false
set_option maxRecDepth 4000
theorem count_nil (w : World) :
    Calls Tryz.prog 95 #[.pointer none] w fun e w' => e = .returned (.int .i64 0) ∧ w = w' := by
  go_enter Tryz.func95, Tryz.ntmps95
  go_wp2
  go_ret
  exact ⟨rfl, rfl⟩

theorem next_nil (fr : Int) (T : Nat) (w : World) :
    Calls Tryz.prog 127 #[.pointer none, .int .i64 fr, .int .u64 T] w fun e w' => e = .returned (.int .i64 (-1)) ∧ w = w' := by
  by_cases h0 : 0 < fr
  all_goals
    go_enter Tryz.func127, Tryz.ntmps127
    go_wp2
    refine wp_loop_rounds 1 ?_
    rw [rounds_succ]
    go_wp2_with (go_at_call 108; refine (slen_nil _).mono ?_; rintro e w' ⟨rfl, rfl⟩)
    go_ret
    exact ⟨rfl, rfl⟩

theorem first_nil (fr : Int) (w : World) :
    Calls Tryz.prog 111 #[.pointer none, .int .i64 fr] w fun e w' => e = .returned (.int .i64 (-1)) ∧ w = w' := by
  go_enter Tryz.func111, Tryz.ntmps111
  go_wp2_with (go_at_call 127; refine (next_nil fr 0 _).mono ?_; rintro e w' ⟨rfl, rfl⟩)
  go_ret
  exact ⟨rfl, rfl⟩

theorem list_nil (w : World) :
    Calls Tryz.prog 84 #[.pointer none] w fun e w' => ∃ a cap, e = .returned (.slice a 0 cap) ∧ Below w.heap.size w w' := by
  have hmk : ∀ w : World, (Instr.makeSlice 31 (.int .i64 0) (.int .i64 0)).run Tryz.prog w = .ok (.slice (some ⟨w.heap.size, 0, none⟩) 0 0) (w.alloc (.cells (madeCells #[.int .i64 0] 0) 3)) := make_ints 0 (by decide)
  go_enter Tryz.func84, Tryz.ntmps84
  go_wp2_with (first | (go_at_call 95; refine (count_nil _).mono ?_; rintro e w' ⟨rfl, rfl⟩) | (go_at_call 111; refine (first_nil _ _).mono ?_; rintro e w' ⟨rfl, rfl⟩))
  refine wp_loop_rounds 1 ?_
  rw [rounds_succ]
  go_wp2
  go_ret
  exact ⟨_, _, rfl, (Below.refl _ w).alloc (Nat.le_refl _) _⟩

end Go.Proofs.YtbfamjnnlcopiaaGreatDoor
