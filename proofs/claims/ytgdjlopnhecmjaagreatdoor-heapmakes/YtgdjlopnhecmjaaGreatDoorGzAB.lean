/- The leaves of layer 6: the class of a size, slots, pages, as the code works them out of its table. -/
import Derived.Test.YtgdjlopnhecmjaaGreatDoorGzAA
import Derived.Test.YtgdjlopnhecmjaaGreatDoorRows
import Derived.WalkKit
import Derived.WalkLawsBesides
import Derived.Below
import Derived.ProofKit
import Derived.OpenShut
import Derived.ChangeOld
import Derived.SizedLaws
import Derived.OwnWalk
import Derived.WalkSmall
import Derived.Laws.Bits64b
import Derived.Laws.BitsAllLaws
import Derived.Laws.AppendOwnNone
import Derived.Laws.IdiomStrings
import Derived.Laws.IdiomCopy
import Derived.Laws.CopyRow
import Derived.Laws.MakeOwn
import Derived.Deep.MidRow
import Derived.Deep.WholeRow
import Derived.Deep.OwnRows
import Derived.Deep.RegionHeld3
import Derived.RegionTactic
import Derived.ChangeAlike
import Derived.BigQuiet
namespace Go.Proofs.YtgdjlopnhecmjaaGreatDoor
open Go.RowKit
set_option linter.unusedVariables false
set_option maxRecDepth 4000


theorem ret_int {k : IntKind} {a b : Int} (h : a = b) : Ending.returned (.int k a) = .returned (.int k b) := by rw [h]
theorem ret_bool {a b : Bool} (h : a = b) : Ending.returned (.bool a) = .returned (.bool b) := by rw [h]
/-- The table in its variable. -/
def TabC (w : World) : Prop := 0 < w.heap.size ∧ ∀ j, j < 7 → w.cell? ⟨0, j, none⟩ = some (.int .i64 (sizeN j : Nat))
theorem TabC.keep {w w' : World} (h : TabC w) (hb : Below w.heap.size w w') : TabC w' :=
  ⟨by have := hb.size; have := h.1; omega, fun j hj => by rw [hb.cell (p := ⟨0, j, none⟩) h.1]; exact h.2 j hj⟩
theorem isSmall_any (c : Int) (w : World) (h1 : -9223372036854775808 ≤ c) (h2 : c ≤ 9223372036854775807) :
    Calls Tryz.prog 255 #[.int .i64 c] w fun e w' => e = .returned (.bool (decide (0 ≤ c ∧ c < 7))) ∧ w = w' := by
  rcases Int.lt_or_le c 0 with h | h
  · rw [decide_eq_false (by omega)]
    go_enter Tryz.func255, Tryz.ntmps255
    go_wp2
    go_ret
    exact ⟨rfl, rfl⟩
  · rcases Int.lt_or_le c 7 with h' | h'
    · rw [decide_eq_true (by omega)]
      go_enter Tryz.func255, Tryz.ntmps255
      go_wp2
      go_ret
      exact ⟨rfl, rfl⟩
    · rw [decide_eq_false (by omega)]
      go_enter Tryz.func255, Tryz.ntmps255
      go_wp2
      go_ret
      exact ⟨ret_bool (decide_eq_false (by omega)), rfl⟩
theorem cparts_any (x y : Int) (n s : Nat) (w : World) (hx : x = n) (hy : y = s) (hn : n ≤ 1000000000) (hs : 0 < s) (hs' : s ≤ 1000000) :
    Calls Tryz.prog 234 #[.int .i64 x, .int .i64 y] w fun e w' => e = .returned (.int .i64 (ceilN n s : Nat)) ∧ w = w' := by
  subst hx hy
  have e : (((n : Int) + (s : Int) - 1).tdiv (s : Int)) = ((ceilN n s : Nat) : Int) := by
    rw [show ((n : Int) + (s : Int) - 1) = ((n + s - 1 : Nat) : Int) by omega]; rfl
  have hc : ceilN n s ≤ 1001000000 := Nat.le_trans (Nat.div_le_self _ _) (by omega)
  go_enter Tryz.func234, Tryz.ntmps234
  go_wp2
  go_ret
  exact ⟨rfl, rfl⟩
theorem cof_any (n : Int) (w : World) (hT : TabC w) :
    Calls Tryz.prog 131 #[.int .i64 n] w fun e w' => e = .returned (.int .i64 (ofI n)) ∧ w = w' := by
  have c0 : w.cell? ⟨0, 0, none⟩ = some (.int .i64 16) := hT.2 0 (by decide)
  have c1 : w.cell? ⟨0, 1, none⟩ = some (.int .i64 24) := hT.2 1 (by decide)
  have c2 : w.cell? ⟨0, 2, none⟩ = some (.int .i64 32) := hT.2 2 (by decide)
  have c3 : w.cell? ⟨0, 3, none⟩ = some (.int .i64 48) := hT.2 3 (by decide)
  have c4 : w.cell? ⟨0, 4, none⟩ = some (.int .i64 64) := hT.2 4 (by decide)
  have c5 : w.cell? ⟨0, 5, none⟩ = some (.int .i64 96) := hT.2 5 (by decide)
  have c6 : w.cell? ⟨0, 6, none⟩ = some (.int .i64 128) := hT.2 6 (by decide)
  clear hT
  rcases ofI_cases n with ⟨h1 | h1, h⟩ | ⟨h1, h2, h⟩ | ⟨h1, h2, h⟩ | ⟨h1, h2, h⟩ | ⟨h1, h2, h⟩ | ⟨h1, h2, h⟩ | ⟨h1, h2, h⟩ | ⟨h1, h2, h⟩ | ⟨h1, h2, h⟩
  all_goals
    rw [h]
    clear h
    go_enter Tryz.func131, Tryz.ntmps131
    go_wp2
    go_ret
    exact ⟨rfl, rfl⟩
theorem cslots_small (c : Nat) (w : World) (hT : TabC w) (hc : c < 7) :
    Calls Tryz.prog 221 #[.int .i64 (c : Nat)] w fun e w' => e = .returned (.int .i64 (slotsN c : Nat)) ∧ w = w' := by
  have hcell := hT.2 c hc
  have e : ((256 : Int).tdiv ((sizeN c : Nat) : Int)) = ((slotsN c : Nat) : Int) := by
    rcases c with _ | _ | _ | _ | _ | _ | _ | c <;> first | rfl | omega
  have hp : 16 ≤ sizeN c ∧ sizeN c ≤ 128 := by
    rcases c with _ | _ | _ | _ | _ | _ | _ | c <;> first | decide | omega
  have hq := slotsN_pos c hc
  have hd : decide (0 ≤ (c : Int) ∧ (c : Int) < 7) = true := decide_eq_true (by omega)
  clear hT
  go_enter Tryz.func221, Tryz.ntmps221
  go_wp2_with (go_at_call 255; refine (isSmall_any (c : Int) _ (by omega) (by omega)).mono ?_; rw [hd]; rintro e w' ⟨rfl, rfl⟩)
  go_ret
  exact ⟨rfl, rfl⟩
theorem cslots_any (c : Int) (w : World) (hT : TabC w) (h1 : -9223372036854775808 ≤ c) (h2 : c ≤ 9223372036854775807) :
    Calls Tryz.prog 221 #[.int .i64 c] w fun e w' => e = .returned (.int .i64 (slotsI c)) ∧ w = w' := by
  by_cases hs : 0 ≤ c ∧ c < 7
  · obtain ⟨k, rfl⟩ : ∃ k : Nat, c = k := ⟨c.toNat, by omega⟩
    have e : slotsI (k : Int) = ((slotsN k : Nat) : Int) := by
      have hk : k < 7 := by omega
      rcases k with _ | _ | _ | _ | _ | _ | _ | k <;> first | rfl | omega
    rw [e]
    exact cslots_small k w hT (by omega)
  · have hd : decide (0 ≤ c ∧ c < 7) = false := decide_eq_false hs
    by_cases h7 : c = 7
    · subst h7
      rw [show slotsI 7 = 1 from rfl]
      clear hs
      go_enter Tryz.func221, Tryz.ntmps221
      go_wp2_with (go_at_call 255; refine (isSmall_any 7 _ (by omega) (by omega)).mono ?_; rw [hd]; rintro e w' ⟨rfl, rfl⟩)
      go_ret
      exact ⟨rfl, rfl⟩
    · rw [show slotsI c = 0 by unfold slotsI; repeat' split <;> omega]
      have h7' : (c == 7) = false := by simp [h7]
      clear hs
      go_enter Tryz.func221, Tryz.ntmps221
      go_wp2_with (go_at_call 255; refine (isSmall_any c _ h1 h2).mono ?_; rw [hd]; rintro e w' ⟨rfl, rfl⟩)
      go_ret
      exact ⟨rfl, rfl⟩
theorem cpages_any (n : Int) (w : World) (hT : TabC w) :
    Calls Tryz.prog 194 #[.int .i64 n] w fun e w' => e = .returned (.int .i64 (pagesN n : Nat)) ∧ w = w' := by
  have HT : Hid (TabC w) := hT
  clear hT
  have hr := ofI_range n
  by_cases h1 : ofI n = -1
  · rw [pagesN_none h1]
    go_enter Tryz.func194, Tryz.ntmps194
    go_wp2_with (go_at_call 131; refine (cof_any n _ HT.out).mono ?_; rw [h1]; rintro e w' ⟨rfl, rfl⟩)
    go_ret
    exact ⟨rfl, rfl⟩
  · by_cases h7 : ofI n = 7
    · obtain ⟨E, k1, k2⟩ := pagesN_large h7
      obtain ⟨m, rfl⟩ : ∃ m : Nat, n = m := ⟨n.toNat, by omega⟩
      have E' : Hid (pagesN (m : Int) = ceilN m 256) := by show _ = _; rw [E]; simp [ceilN]
      rw [E'.out]
      clear E
      go_enter Tryz.func194, Tryz.ntmps194
      go_wp2_with (first
        | (go_at_call 131; refine (cof_any (m : Int) _ HT.out).mono ?_; rw [h7]; rintro e w' ⟨rfl, rfl⟩)
        | (go_at_call 234; refine (cparts_any _ _ m 256 _ rfl rfl (by omega) (by decide) (by decide)).mono ?_; rintro e w' ⟨rfl, rfl⟩))
      go_ret
      exact ⟨rfl, rfl⟩
    · rw [pagesN_small (by omega) (by omega)]
      obtain ⟨c, hc⟩ : ∃ c, ofI n = c := ⟨_, rfl⟩
      rw [hc] at h1 h7 hr
      have e1 : (c == -1) = false := by simp [h1]
      have e7 : (c == 7) = false := by simp [h7]
      have HC : Hid (ofI n = c) := hc
      clear hc h1 h7
      go_enter Tryz.func194, Tryz.ntmps194
      go_wp2_with (go_at_call 131; refine (cof_any n _ HT.out).mono ?_; rw [HC.out]; rintro e w' ⟨rfl, rfl⟩)
      go_ret
      exact ⟨rfl, rfl⟩

theorem csize_any (c : Int) (w : World) (hT : TabC w) (h1 : -9223372036854775808 ≤ c) (h2 : c ≤ 9223372036854775807) :
    Calls Tryz.prog 223 #[.int .i64 c] w fun e w' => e = .returned (.int .i64 (sizeI c)) ∧ w = w' := by
  by_cases hs : 0 ≤ c ∧ c < 7
  · obtain ⟨k, rfl⟩ : ∃ k : Nat, c = k := ⟨c.toNat, by omega⟩
    have hk : k < 7 := by omega
    have e : sizeI (k : Int) = ((sizeN k : Nat) : Int) := by
      rcases k with _ | _ | _ | _ | _ | _ | _ | k <;> first | rfl | omega
    have hcell := hT.2 k hk
    have hd : decide (0 ≤ (k : Int) ∧ (k : Int) < 7) = true := decide_eq_true hs
    rw [e]
    clear hT e hs
    go_enter Tryz.func223, Tryz.ntmps223
    go_wp2_with (go_at_call 255; refine (isSmall_any (k : Int) _ (by omega) (by omega)).mono ?_; rw [hd]; rintro e w' ⟨rfl, rfl⟩)
    go_ret
    exact ⟨rfl, rfl⟩
  · have hd : decide (0 ≤ c ∧ c < 7) = false := decide_eq_false hs
    rw [show sizeI c = 0 by unfold sizeI; repeat' split <;> omega]
    clear hs
    go_enter Tryz.func223, Tryz.ntmps223
    go_wp2_with (go_at_call 255; refine (isSmall_any c _ h1 h2).mono ?_; rw [hd]; rintro e w' ⟨rfl, rfl⟩)
    go_ret
    exact ⟨rfl, rfl⟩
end Go.Proofs.YtgdjlopnhecmjaaGreatDoor

/- The leaves of layer 3: counting bits and finding the least one; a set in memory. -/
namespace Go.Proofs.YtgdjlopnhecmjaaGreatDoor
open Go.RowKit
set_option linter.unusedVariables false
set_option maxRecDepth 4000

theorem T1_le (x : Nat) : T1 8 x ≤ 12297829382473034410 := by
  have h1 : x / 2 &&& m5 8 ≤ m5 8 := Nat.and_le_right
  have h2 : x &&& m5 8 ≤ m5 8 := Nat.and_le_right
  rw [m5_8] at h1 h2
  rw [T1, m5_8]
  omega
theorem T2_le (x : Nat) : T2 8 x ≤ 7378697629483820646 := by
  have h1 : x / 4 &&& m3 8 ≤ m3 8 := Nat.and_le_right
  have h2 : x &&& m3 8 ≤ m3 8 := Nat.and_le_right
  rw [m3_8] at h1 h2
  rw [T2, m3_8]
  omega
theorem w_T1 (x : Nat) (h : x < 18446744073709551616) : IntKind.u64.wrap (bits BinOp.and IntKind.u64 ((x : Int) / 2) 6148914691236517205 + bits BinOp.and IntKind.u64 (x : Int) 6148914691236517205) = (T1 8 x : Nat) := by
  have a := u64_and_nat (x / 2) 6148914691236517205 (by omega) (by decide)
  have b := u64_and_nat x 6148914691236517205 h (by decide)
  have c := T1_le x
  rw [T1, m5_8] at c
  rw [show ((x : Int) / 2) = ((x / 2 : Nat) : Int) from by omega, show (6148914691236517205 : Int) = ((6148914691236517205 : Nat) : Int) from rfl, a, b, IntKind.wrap_u64, T1, m5_8]
  omega
theorem w_T2 (x : Nat) (h : x < 18446744073709551616) : IntKind.u64.wrap (bits BinOp.and IntKind.u64 ((x : Int) / 4) 3689348814741910323 + bits BinOp.and IntKind.u64 (x : Int) 3689348814741910323) = (T2 8 x : Nat) := by
  have a := u64_and_nat (x / 4) 3689348814741910323 (by omega) (by decide)
  have b := u64_and_nat x 3689348814741910323 h (by decide)
  have c := T2_le x
  rw [T2, m3_8] at c
  rw [show ((x : Int) / 4) = ((x / 4 : Nat) : Int) from by omega, show (3689348814741910323 : Int) = ((3689348814741910323 : Nat) : Int) from rfl, a, b, IntKind.wrap_u64, T2, m3_8]
  omega
theorem w_T3 (x : Nat) (h : x ≤ 7378697629483820646) : bits BinOp.and IntKind.u64 (IntKind.u64.wrap ((x : Int) / 16 + (x : Int))) 1085102592571150095 = (T3 8 x : Nat) := by
  have e : IntKind.u64.wrap ((x : Int) / 16 + (x : Int)) = ((x / 16 + x : Nat) : Int) := by rw [IntKind.wrap_u64]; omega
  rw [e, show (1085102592571150095 : Int) = ((1085102592571150095 : Nat) : Int) from rfl, u64_and_nat _ _ (by omega) (by decide), T3, mf_8]
theorem w_add (x s : Nat) (hs : 0 < s) (h : x + x / s < 18446744073709551616) : IntKind.u64.wrap ((x : Int) + (x : Int) / (s : Int)) = ((x + x / s : Nat) : Int) := by
  rw [IntKind.wrap_u64]
  have : ((x : Int) / (s : Int)) = ((x / s : Nat) : Int) := by simp
  rw [this]
  generalize x / s = q at *
  omega
theorem w_end (y : Nat) (h : y < 9223372036854775808) : bits BinOp.and IntKind.i64 (wrap64 (y : Int)) 127 = (y % 128 : Nat) := by
  have e : wrap64 (y : Int) = (y : Int) := by rw [wrap64]; omega
  rw [e]
  have h1 : (BitVec.ofInt 64 (y : Int)).toNat = y := by
    rw [BitVec.ofInt_natCast, BitVec.toNat_ofNat]; exact Nat.mod_eq_of_lt (by omega)
  show IntKind.i64.wrap ((BitVec.ofInt 64 (y : Int) &&& BitVec.ofInt 64 127).toNat : Int) = _
  rw [BitVec.toNat_and, h1]
  have e2 : (BitVec.ofInt 64 127).toNat = 127 := by decide
  rw [e2, show (127 : Nat) = 2 ^ 7 - 1 from rfl, Nat.and_two_pow_sub_one_eq_mod, IntKind.wrap_i64]
  omega
theorem ones_any (x : Nat) (w : World) (h : x < 18446744073709551616) :
    Calls Tryz.prog 236 #[.int .u64 x] w fun e w' => e = .returned (.int .i64 (Lib.popAux 64 x : Nat)) ∧ w = w' := by
  go_enter Tryz.func236, Tryz.ntmps236
  go_wp2
  go_ret
  refine ⟨ret_int ?_, rfl⟩
  have l1 := T1_le x
  have l2 := T2_le (T1 8 x)
  have p := T_pops 8 x (by omega)
  have q := pops_eight x
  have s := pops_sum x
  obtain ⟨b0, b1, b2, b3, b4⟩ := fold8 _ _ _ _ _ _ _ _ (popAux_le 8 x) (popAux_le 8 (x / 256)) (popAux_le 8 (x / 65536)) (popAux_le 8 (x / 16777216)) (popAux_le 8 (x / 4294967296)) (popAux_le 8 (x / 1099511627776)) (popAux_le 8 (x / 281474976710656)) (popAux_le 8 (x / 72057594037927936)) (pops 8 x) _ _ _ q rfl rfl rfl
  rw [← s] at b4
  rw [w_T1 x h, w_T2 _ (by omega), w_T3 _ l2, p]
  have k1 := w_add (pops 8 x) 256 (by decide) b1
  rw [show ((256 : Nat) : Int) = 256 from rfl] at k1
  rw [k1]
  have k2 := w_add _ 65536 (by decide) b2
  rw [show ((65536 : Nat) : Int) = 65536 from rfl] at k2
  rw [k2]
  have k3 := w_add _ 4294967296 (by decide) (by omega : pops 8 x + pops 8 x / 256 + (pops 8 x + pops 8 x / 256) / 65536 + (pops 8 x + pops 8 x / 256 + (pops 8 x + pops 8 x / 256) / 65536) / 4294967296 < 18446744073709551616)
  rw [show ((4294967296 : Nat) : Int) = 4294967296 from rfl] at k3
  rw [k3, w_end _ b3, b4]
theorem sparts_any (n e : Nat) (w : World) (hn : n ≤ 65536) (he : e = 8 ∨ e = 64) :
    Calls Tryz.prog 276 #[.int .i64 n, .int .i64 e] w fun r w' => r = .returned (.int .i64 ((n + (e - 1)) / e : Nat)) ∧ w = w' := by
  rcases he with rfl | rfl
  all_goals
    go_enter Tryz.func276, Tryz.ntmps276
    go_wp2
    go_ret
    refine ⟨ret_int ?_, rfl⟩
    omega
/-- The table in its variable. -/
def TabB (w : World) : Prop := 1 < w.heap.size ∧ ∀ j, j < 64 → w.cell? ⟨1, j, none⟩ = some (.int .u8 (Lib.deBruijn64tab.getD j 0 : Nat))
theorem tz_key (x a : Nat) (hx : x < 18446744073709551616) (hx0 : x ≠ 0) (hlow : x &&& (18446744073709551616 - x) = a) :
    IntKind.u64.wrap (bits BinOp.and IntKind.u64 (x : Int) (IntKind.u64.wrap (-(x : Int))) * 285870213051353865) / 288230376151711744 = ((a * 285870213051353865 % 18446744073709551616 / 288230376151711744 : Nat) : Int) := by
  have e1 : IntKind.u64.wrap (-(x : Int)) = ((18446744073709551616 - x : Nat) : Int) := by rw [IntKind.wrap_u64]; omega
  rw [e1, bits_and_u64_nat x _ hx (by omega), hlow, IntKind.wrap_u64]
  omega
theorem tz_core (x k idx : Nat) (w : World) (hx0 : ((x : Int) == 0) = false)
    (key : IntKind.u64.wrap (bits BinOp.and IntKind.u64 (x : Int) (IntKind.u64.wrap (-(x : Int))) * 285870213051353865) / 288230376151711744 = (idx : Int))
    (hi : idx < 64) (hk : k < 64) (hcell : w.cell? ⟨1, idx, none⟩ = some (.int .u8 k)) :
    Calls Tryz.prog 275 #[.int .u64 x] w fun e w' => e = .returned (.int .i64 k) ∧ w = w' := by
  go_enter Tryz.func275, Tryz.ntmps275
  go_wp2_with (simp only [key])
  go_ret
  exact ⟨rfl, rfl⟩
theorem tz_any (x : Nat) (w : World) (hx : x < 18446744073709551616) (hx0 : x ≠ 0) (hT : TabB w) :
    Calls Tryz.prog 275 #[.int .u64 x] w fun e w' => e = .returned (.int .i64 (Lib.ctz 64 x : Nat)) ∧ w = w' := by
  obtain ⟨hlow, hk⟩ := Lib.lowest_bit 64 x hx0 hx
  obtain ⟨hi, htab⟩ := Lib.deBruijn64_at _ hk
  have hcell := hT.2 _ hi
  rw [htab] at hcell
  exact tz_core x _ _ w (by simp; omega) (tz_key x _ hx hx0 hlow) hi hk hcell


/-- A set of n places in the block b, its words in the block g; f says which are in. -/
structure SetAt (w : World) (b g n : Nat) (f : Nat → Bool) : Prop where
  len : w.cell? ⟨b, 0, none⟩ = some (.int .i64 n)
  words : w.cell? ⟨b, 1, none⟩ = some (.slice (some ⟨g, 0, none⟩) ((n + 63) / 64) ((n + 63) / 64))
  word : ∀ j, j < (n + 63) / 64 → w.cell? ⟨g, j, none⟩ = some (.int .u64 (wd f j : Nat))
  thawed : ∀ j, w.frozen? ⟨g, j, none⟩ = false
  few : n ≤ 65536
  within : ∀ i, f i = true → i < n
  hb : b < w.heap.size
  hg : g < w.heap.size
  apart : b ≠ g
theorem slen_any (b n : Nat) (w : World) (h : w.cell? ⟨b, 0, none⟩ = some (.int .i64 n)) :
    Calls Tryz.prog 272 #[.pointer (some ⟨b, 0, none⟩)] w fun e w' => e = .returned (.int .i64 n) ∧ w = w' := by
  go_enter Tryz.func272, Tryz.ntmps272
  go_wp2
  go_ret
  exact ⟨rfl, rfl⟩
/-- Is there such a place? -/
def isP (n : Nat) (i : Int) : Bool := decide (0 ≤ i ∧ i < n)
theorem isP_true {n : Nat} {i : Int} : isP n i = true ↔ 0 ≤ i ∧ i < n := by simp [isP]
theorem isP_false {n : Nat} {i : Int} : isP n i = false ↔ ¬ (0 ≤ i ∧ i < n) := by simp [isP]
theorem isPlace_any (b n : Nat) (i : Int) (w : World) (h : w.cell? ⟨b, 0, none⟩ = some (.int .i64 n)) :
    Calls Tryz.prog 261 #[.pointer (some ⟨b, 0, none⟩), .int .i64 i] w fun e w' => e = .returned (.bool (isP n i)) ∧ w = w' := by
  by_cases h0 : 0 ≤ i
  · go_enter Tryz.func261, Tryz.ntmps261
    go_wp2_with (go_at_call 272; refine (slen_any b n _ h).mono ?_; rintro e w' ⟨rfl, rfl⟩)
    go_ret
    exact ⟨ret_bool (by simp [isP, h0]), rfl⟩
  · have h1 : i < 0 := by omega
    go_enter Tryz.func261, Tryz.ntmps261
    go_wp2_with (go_at_call 272; refine (slen_any b n _ h).mono ?_; rintro e w' ⟨rfl, rfl⟩)
    go_ret
    exact ⟨ret_bool (by simp [isP]; omega), rfl⟩
/-- Is a place in? -/
def hasB (n : Nat) (f : Nat → Bool) (i : Int) : Bool := isP n i && f i.toNat
theorem has_int (f : Nat → Bool) (i : Nat) : (((wd f (i / 64) : Nat) : Int) / 2 ^ (i % 64) % 2 == 1) = f i := by
  have h := has_word f i
  have e : ((wd f (i / 64) : Nat) : Int) / 2 ^ (i % 64) % 2 = ((wd f (i / 64) / 2 ^ (i % 64) % 2 : Nat) : Int) := by simp
  rw [e, h]
  cases f i <;> rfl
theorem shas_any (b g n : Nat) (f : Nat → Bool) (i : Int) (w : World) (h : SetAt w b g n f) :
    Calls Tryz.prog 238 #[.pointer (some ⟨b, 0, none⟩), .int .i64 i] w fun e w' => e = .returned (.bool (hasB n f i)) ∧ w = w' := by
  have hl := h.len
  have hs := h.words
  have few := h.few
  cases hp : isP n i
  · have HP : Hid (isP n i = false) := hp
    go_enter Tryz.func238, Tryz.ntmps238
    go_wp2_with (go_at_call 261; refine (isPlace_any b n i _ hl).mono ?_; rintro e w' ⟨rfl, rfl⟩; rw [HP.out])
    go_ret
    exact ⟨ret_bool (by rw [hasB, HP.out]; rfl), rfl⟩
  · have HP : Hid (isP n i = true) := hp
    obtain ⟨h0, h1⟩ := isP_true.1 hp
    obtain ⟨k, rfl⟩ : ∃ k : Nat, i = k := ⟨i.toNat, by omega⟩
    have hj : k / 64 < (n + 63) / 64 := by omega
    have hw := h.word (k / 64) hj
    have hlt := wd_lt f (k / 64)
    have HH : Hid ((((wd f (k / 64) : Nat) : Int) / 2 ^ (k % 64) % 2 == 1) = f k) := has_int f k
    clear hp h
    go_enter Tryz.func238, Tryz.ntmps238
    go_wp2_with (go_at_call 261; refine (isPlace_any b n k _ hl).mono ?_; rintro e w' ⟨rfl, rfl⟩; rw [HP.out])
    go_ret
    refine ⟨ret_bool ?_, rfl⟩
    rw [hasB, HP.out]
    exact HH.out
theorem ones_of (x : Nat) (w : World) (h : x < 18446744073709551616) :
    Calls Tryz.prog 236 #[.int .u64 x] w fun e w' => ∃ c : Nat, e = .returned (.int .i64 c) ∧ c ≤ 64 ∧ Hid (Lib.popAux 64 x = c) ∧ w = w' := by
  refine (ones_any x w h).mono ?_
  rintro e w' ⟨rfl, rfl⟩
  exact ⟨_, rfl, popAux_le 64 x, rfl, rfl⟩
theorem count_any (b g n : Nat) (f : Nat → Bool) (w : World) (h : SetAt w b g n f) :
    Calls Tryz.prog 200 #[.pointer (some ⟨b, 0, none⟩)] w fun e w' => e = .returned (.int .i64 (cnt f n : Nat)) ∧ w = w' := by
  have hs := h.words
  have few := h.few
  have hw := h.word
  have E : Hid (cnt f (64 * ((n + 63) / 64)) = cnt f n) := by
    have := cnt_beyond f n h.within (64 * ((n + 63) / 64) - n)
    rw [show n + (64 * ((n + 63) / 64) - n) = 64 * ((n + 63) / 64) from by omega] at this
    exact this
  clear h
  go_enter Tryz.func200, Tryz.ntmps200
  go_wp2
  go_loop [3, 13] (fun c i => ∃ k : Nat, k ≤ (n + 63) / 64 ∧ i = .int .i64 k ∧ c = .int .i64 (cnt f (64 * k) : Nat)) (fun _ i => (n + 63) / 64 - (intOf i).toNat)
  case atStart => exact ⟨0, Nat.zero_le _, rfl, rfl⟩
  case round =>
    obtain ⟨k, hk, rfl, rfl⟩ := hrel
    have hc := cnt_le f (64 * k)
    by_cases hlt : k < (n + 63) / 64
    · have hcell := hw k hlt
      have hx := wd_lt f k
      go_wp2_with (go_at_call 236; refine (ones_of (wd f k) _ hx).mono ?_; rintro e w' ⟨c, rfl, hc64, HC, rfl⟩)
      go_round
      case rel => exact ⟨k + 1, by omega, by go_num, by rw [cnt_word, HC.out]; go_num⟩
      case measure => simp [intOf]; omega
    · obtain rfl : k = (n + 63) / 64 := by omega
      go_wp2
      go_ret
      exact ⟨ret_int (by rw [E.out]), rfl⟩
end Go.Proofs.YtgdjlopnhecmjaaGreatDoor
