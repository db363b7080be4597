/- The leaves of layer 3: counting bits and finding the least one; a set in memory. -/
import Derived.Test.YtbnmbkohmmiamaaDoorSpA
namespace Go.Proofs.YtbnmbkohmmiamaaDoor
open Go.RowKit
set_option linter.unusedVariables false

theorem T1_le (x : Nat) : T1 8 x ≤ 12297829382473034410 := by
  have h1 : x / 2 &&& m5 8 ≤ m5 8 := Nat.and_le_right
  have h2 : x &&& m5 8 ≤ m5 8 := Nat.and_le_right
  rw [m5_8] at h1 h2
  rw [T1, m5_8]
  omega
theorem T2_le (x : Nat) : T2 8 x ≤ 7378697629483820646 := by
  have h1 : x / 4 &&& m3 8 ≤ m3 8 := Nat.and_le_right
  have h2 : x &&& m3 8 ≤ m3 8 := Nat.and_le_right
  rw [m3_8] at h1 h2
  rw [T2, m3_8]
  omega
theorem w_T1 (x : Nat) (h : x < 18446744073709551616) : IntKind.u64.wrap (bits BinOp.and IntKind.u64 ((x : Int) / 2) 6148914691236517205 + bits BinOp.and IntKind.u64 (x : Int) 6148914691236517205) = (T1 8 x : Nat) := by
  have a := u64_and_nat (x / 2) 6148914691236517205 (by omega) (by decide)
  have b := u64_and_nat x 6148914691236517205 h (by decide)
  have c := T1_le x
  rw [T1, m5_8] at c
  rw [show ((x : Int) / 2) = ((x / 2 : Nat) : Int) from by omega, show (6148914691236517205 : Int) = ((6148914691236517205 : Nat) : Int) from rfl, a, b, IntKind.wrap_u64, T1, m5_8]
  omega
theorem w_T2 (x : Nat) (h : x < 18446744073709551616) : IntKind.u64.wrap (bits BinOp.and IntKind.u64 ((x : Int) / 4) 3689348814741910323 + bits BinOp.and IntKind.u64 (x : Int) 3689348814741910323) = (T2 8 x : Nat) := by
  have a := u64_and_nat (x / 4) 3689348814741910323 (by omega) (by decide)
  have b := u64_and_nat x 3689348814741910323 h (by decide)
  have c := T2_le x
  rw [T2, m3_8] at c
  rw [show ((x : Int) / 4) = ((x / 4 : Nat) : Int) from by omega, show (3689348814741910323 : Int) = ((3689348814741910323 : Nat) : Int) from rfl, a, b, IntKind.wrap_u64, T2, m3_8]
  omega
theorem w_T3 (x : Nat) (h : x ≤ 7378697629483820646) : bits BinOp.and IntKind.u64 (IntKind.u64.wrap ((x : Int) / 16 + (x : Int))) 1085102592571150095 = (T3 8 x : Nat) := by
  have e : IntKind.u64.wrap ((x : Int) / 16 + (x : Int)) = ((x / 16 + x : Nat) : Int) := by rw [IntKind.wrap_u64]; omega
  rw [e, show (1085102592571150095 : Int) = ((1085102592571150095 : Nat) : Int) from rfl, u64_and_nat _ _ (by omega) (by decide), T3, mf_8]
theorem w_add (x s : Nat) (hs : 0 < s) (h : x + x / s < 18446744073709551616) : IntKind.u64.wrap ((x : Int) + (x : Int) / (s : Int)) = ((x + x / s : Nat) : Int) := by
  rw [IntKind.wrap_u64]
  have : ((x : Int) / (s : Int)) = ((x / s : Nat) : Int) := by simp
  rw [this]
  generalize x / s = q at *
  omega
theorem w_end (y : Nat) (h : y < 9223372036854775808) : bits BinOp.and IntKind.i64 (wrap64 (y : Int)) 127 = (y % 128 : Nat) := by
  have e : wrap64 (y : Int) = (y : Int) := by rw [wrap64]; omega
  rw [e]
  have h1 : (BitVec.ofInt 64 (y : Int)).toNat = y := by
    rw [BitVec.ofInt_natCast, BitVec.toNat_ofNat]; exact Nat.mod_eq_of_lt (by omega)
  show IntKind.i64.wrap ((BitVec.ofInt 64 (y : Int) &&& BitVec.ofInt 64 127).toNat : Int) = _
  rw [BitVec.toNat_and, h1]
  have e2 : (BitVec.ofInt 64 127).toNat = 127 := by decide
  rw [e2, show (127 : Nat) = 2 ^ 7 - 1 from rfl, Nat.and_two_pow_sub_one_eq_mod, IntKind.wrap_i64]
  omega
theorem ones_any (x : Nat) (w : World) (h : x < 18446744073709551616) :
    Calls Tryd.prog 59 #[.int .u64 x] w fun e w' => e = .returned (.int .i64 (Lib.popAux 64 x : Nat)) ∧ w = w' := by
  go_enter Tryd.func59, Tryd.ntmps59
  go_wp2
  go_ret
  refine ⟨ret_int ?_, rfl⟩
  have l1 := T1_le x
  have l2 := T2_le (T1 8 x)
  have p := T_pops 8 x (by omega)
  have q := pops_eight x
  have s := pops_sum x
  obtain ⟨b0, b1, b2, b3, b4⟩ := fold8 _ _ _ _ _ _ _ _ (popAux_le 8 x) (popAux_le 8 (x / 256)) (popAux_le 8 (x / 65536)) (popAux_le 8 (x / 16777216)) (popAux_le 8 (x / 4294967296)) (popAux_le 8 (x / 1099511627776)) (popAux_le 8 (x / 281474976710656)) (popAux_le 8 (x / 72057594037927936)) (pops 8 x) _ _ _ q rfl rfl rfl
  rw [← s] at b4
  rw [w_T1 x h, w_T2 _ (by omega), w_T3 _ l2, p]
  have k1 := w_add (pops 8 x) 256 (by decide) b1
  rw [show ((256 : Nat) : Int) = 256 from rfl] at k1
  rw [k1]
  have k2 := w_add _ 65536 (by decide) b2
  rw [show ((65536 : Nat) : Int) = 65536 from rfl] at k2
  rw [k2]
  have k3 := w_add _ 4294967296 (by decide) (by omega : pops 8 x + pops 8 x / 256 + (pops 8 x + pops 8 x / 256) / 65536 + (pops 8 x + pops 8 x / 256 + (pops 8 x + pops 8 x / 256) / 65536) / 4294967296 < 18446744073709551616)
  rw [show ((4294967296 : Nat) : Int) = 4294967296 from rfl] at k3
  rw [k3, w_end _ b3, b4]
theorem sparts_any (n e : Nat) (w : World) (hn : n ≤ 65536) (he : e = 8 ∨ e = 64) :
    Calls Tryd.prog 72 #[.int .i64 n, .int .i64 e] w fun r w' => r = .returned (.int .i64 ((n + (e - 1)) / e : Nat)) ∧ w = w' := by
  rcases he with rfl | rfl
  all_goals
    go_enter Tryd.func72, Tryd.ntmps72
    go_wp2
    go_ret
    refine ⟨ret_int ?_, rfl⟩
    omega
/-- The table in its variable. -/
def TabB (w : World) : Prop := 1 < w.heap.size ∧ ∀ j, j < 64 → w.cell? ⟨1, j, none⟩ = some (.int .u8 (Lib.deBruijn64tab.getD j 0 : Nat))
theorem tz_key (x a : Nat) (hx : x < 18446744073709551616) (hx0 : x ≠ 0) (hlow : x &&& (18446744073709551616 - x) = a) :
    IntKind.u64.wrap (bits BinOp.and IntKind.u64 (x : Int) (IntKind.u64.wrap (-(x : Int))) * 285870213051353865) / 288230376151711744 = ((a * 285870213051353865 % 18446744073709551616 / 288230376151711744 : Nat) : Int) := by
  have e1 : IntKind.u64.wrap (-(x : Int)) = ((18446744073709551616 - x : Nat) : Int) := by rw [IntKind.wrap_u64]; omega
  rw [e1, bits_and_u64_nat x _ hx (by omega), hlow, IntKind.wrap_u64]
  omega
theorem tz_core (x k idx : Nat) (w : World) (hx0 : ((x : Int) == 0) = false)
    (key : IntKind.u64.wrap (bits BinOp.and IntKind.u64 (x : Int) (IntKind.u64.wrap (-(x : Int))) * 285870213051353865) / 288230376151711744 = (idx : Int))
    (hi : idx < 64) (hk : k < 64) (hcell : w.cell? ⟨1, idx, none⟩ = some (.int .u8 k)) :
    Calls Tryd.prog 75 #[.int .u64 x] w fun e w' => e = .returned (.int .i64 k) ∧ w = w' := by
  go_enter Tryd.func75, Tryd.ntmps75
  go_wp2_with (simp only [key])
  go_ret
  exact ⟨rfl, rfl⟩
theorem tz_any (x : Nat) (w : World) (hx : x < 18446744073709551616) (hx0 : x ≠ 0) (hT : TabB w) :
    Calls Tryd.prog 75 #[.int .u64 x] w fun e w' => e = .returned (.int .i64 (Lib.ctz 64 x : Nat)) ∧ w = w' := by
  obtain ⟨hlow, hk⟩ := Lib.lowest_bit 64 x hx0 hx
  obtain ⟨hi, htab⟩ := Lib.deBruijn64_at _ hk
  have hcell := hT.2 _ hi
  rw [htab] at hcell
  exact tz_core x _ _ w (by simp; omega) (tz_key x _ hx hx0 hlow) hi hk hcell


/-- A set of n places in the block b, its words in the block g; f says which are in. -/
structure SetAt (w : World) (b g n : Nat) (f : Nat → Bool) : Prop where
  len : w.cell? ⟨b, 0, none⟩ = some (.int .i64 n)
  words : w.cell? ⟨b, 1, none⟩ = some (.slice (some ⟨g, 0, none⟩) ((n + 63) / 64) ((n + 63) / 64))
  word : ∀ j, j < (n + 63) / 64 → w.cell? ⟨g, j, none⟩ = some (.int .u64 (wd f j : Nat))
  thawed : ∀ j, w.frozen? ⟨g, j, none⟩ = false
  few : n ≤ 65536
  within : ∀ i, f i = true → i < n
  hb : b < w.heap.size
  hg : g < w.heap.size
  apart : b ≠ g
theorem slen_any (b n : Nat) (w : World) (h : w.cell? ⟨b, 0, none⟩ = some (.int .i64 n)) :
    Calls Tryd.prog 73 #[.pointer (some ⟨b, 0, none⟩)] w fun e w' => e = .returned (.int .i64 n) ∧ w = w' := by
  go_enter Tryd.func73, Tryd.ntmps73
  go_wp2
  go_ret
  exact ⟨rfl, rfl⟩
theorem slen_nil (w : World) :
    Calls Tryd.prog 73 #[.pointer none] w fun e w' => e = .returned (.int .i64 0) ∧ w = w' := by
  go_enter Tryd.func73, Tryd.ntmps73
  go_wp2
  go_ret
  exact ⟨rfl, rfl⟩
/-- Is there such a place? -/
def isP (n : Nat) (i : Int) : Bool := decide (0 ≤ i ∧ i < n)
theorem isP_true {n : Nat} {i : Int} : isP n i = true ↔ 0 ≤ i ∧ i < n := by simp [isP]
theorem isP_false {n : Nat} {i : Int} : isP n i = false ↔ ¬ (0 ≤ i ∧ i < n) := by simp [isP]
theorem isPlace_any (b n : Nat) (i : Int) (w : World) (h : w.cell? ⟨b, 0, none⟩ = some (.int .i64 n)) :
    Calls Tryd.prog 67 #[.pointer (some ⟨b, 0, none⟩), .int .i64 i] w fun e w' => e = .returned (.bool (isP n i)) ∧ w = w' := by
  by_cases h0 : 0 ≤ i
  · go_enter Tryd.func67, Tryd.ntmps67
    go_wp2_with (go_at_call 73; refine (slen_any b n _ h).mono ?_; rintro e w' ⟨rfl, rfl⟩)
    go_ret
    exact ⟨ret_bool (by simp [isP, h0]), rfl⟩
  · have h1 : i < 0 := by omega
    go_enter Tryd.func67, Tryd.ntmps67
    go_wp2_with (go_at_call 73; refine (slen_any b n _ h).mono ?_; rintro e w' ⟨rfl, rfl⟩)
    go_ret
    exact ⟨ret_bool (by simp [isP]; omega), rfl⟩
theorem isPlace_nil (i : Int) (w : World) :
    Calls Tryd.prog 67 #[.pointer none, .int .i64 i] w fun e w' => e = .returned (.bool false) ∧ w = w' := by
  by_cases h0 : 0 ≤ i
  · go_enter Tryd.func67, Tryd.ntmps67
    go_wp2_with (go_at_call 73; refine (slen_nil _).mono ?_; rintro e w' ⟨rfl, rfl⟩)
    go_ret
    exact ⟨ret_bool (by simp; omega), rfl⟩
  · have h1 : i < 0 := by omega
    go_enter Tryd.func67, Tryd.ntmps67
    go_wp2_with (go_at_call 73; refine (slen_nil _).mono ?_; rintro e w' ⟨rfl, rfl⟩)
    go_ret
    exact ⟨ret_bool (by simp), rfl⟩
/-- Is a place in? -/
def hasB (n : Nat) (f : Nat → Bool) (i : Int) : Bool := isP n i && f i.toNat
theorem has_int (f : Nat → Bool) (i : Nat) : (((wd f (i / 64) : Nat) : Int) / 2 ^ (i % 64) % 2 == 1) = f i := by
  have h := has_word f i
  have e : ((wd f (i / 64) : Nat) : Int) / 2 ^ (i % 64) % 2 = ((wd f (i / 64) / 2 ^ (i % 64) % 2 : Nat) : Int) := by simp
  rw [e, h]
  cases f i <;> rfl
theorem shas_any (b g n : Nat) (f : Nat → Bool) (i : Int) (w : World) (h : SetAt w b g n f) :
    Calls Tryd.prog 68 #[.pointer (some ⟨b, 0, none⟩), .int .i64 i] w fun e w' => e = .returned (.bool (hasB n f i)) ∧ w = w' := by
  have hl := h.len
  have hs := h.words
  have few := h.few
  cases hp : isP n i
  · have HP : Hid (isP n i = false) := hp
    go_enter Tryd.func68, Tryd.ntmps68
    go_wp2_with (go_at_call 67; refine (isPlace_any b n i _ hl).mono ?_; rintro e w' ⟨rfl, rfl⟩; rw [HP.out])
    go_ret
    exact ⟨ret_bool (by rw [hasB, HP.out]; rfl), rfl⟩
  · have HP : Hid (isP n i = true) := hp
    obtain ⟨h0, h1⟩ := isP_true.1 hp
    obtain ⟨k, rfl⟩ : ∃ k : Nat, i = k := ⟨i.toNat, by omega⟩
    have hj : k / 64 < (n + 63) / 64 := by omega
    have hw := h.word (k / 64) hj
    have hlt := wd_lt f (k / 64)
    have HH : Hid ((((wd f (k / 64) : Nat) : Int) / 2 ^ (k % 64) % 2 == 1) = f k) := has_int f k
    clear hp h
    go_enter Tryd.func68, Tryd.ntmps68
    go_wp2_with (go_at_call 67; refine (isPlace_any b n k _ hl).mono ?_; rintro e w' ⟨rfl, rfl⟩; rw [HP.out])
    go_ret
    refine ⟨ret_bool ?_, rfl⟩
    rw [hasB, HP.out]
    exact HH.out
theorem ones_of (x : Nat) (w : World) (h : x < 18446744073709551616) :
    Calls Tryd.prog 59 #[.int .u64 x] w fun e w' => ∃ c : Nat, e = .returned (.int .i64 c) ∧ c ≤ 64 ∧ Hid (Lib.popAux 64 x = c) ∧ w = w' := by
  refine (ones_any x w h).mono ?_
  rintro e w' ⟨rfl, rfl⟩
  exact ⟨_, rfl, popAux_le 64 x, rfl, rfl⟩
theorem count_any (b g n : Nat) (f : Nat → Bool) (w : World) (h : SetAt w b g n f) :
    Calls Tryd.prog 41 #[.pointer (some ⟨b, 0, none⟩)] w fun e w' => e = .returned (.int .i64 (cnt f n : Nat)) ∧ w = w' := by
  have hs := h.words
  have few := h.few
  have hw := h.word
  have E : Hid (cnt f (64 * ((n + 63) / 64)) = cnt f n) := by
    have := cnt_beyond f n h.within (64 * ((n + 63) / 64) - n)
    rw [show n + (64 * ((n + 63) / 64) - n) = 64 * ((n + 63) / 64) from by omega] at this
    exact this
  clear h
  go_enter Tryd.func41, Tryd.ntmps41
  go_wp2
  go_loop [3, 13] (fun c i => ∃ k : Nat, k ≤ (n + 63) / 64 ∧ i = .int .i64 k ∧ c = .int .i64 (cnt f (64 * k) : Nat)) (fun _ i => (n + 63) / 64 - (intOf i).toNat)
  case atStart => exact ⟨0, Nat.zero_le _, rfl, rfl⟩
  case round =>
    obtain ⟨k, hk, rfl, rfl⟩ := hrel
    have hc := cnt_le f (64 * k)
    by_cases hlt : k < (n + 63) / 64
    · have hcell := hw k hlt
      have hx := wd_lt f k
      go_wp2_with (go_at_call 59; refine (ones_of (wd f k) _ hx).mono ?_; rintro e w' ⟨c, rfl, hc64, HC, rfl⟩)
      go_round
      case rel => exact ⟨k + 1, by omega, by go_num, by rw [cnt_word, HC.out]; go_num⟩
      case measure => simp [intOf]; omega
    · obtain rfl : k = (n + 63) / 64 := by omega
      go_wp2
      go_ret
      exact ⟨ret_int (by rw [E.out]), rfl⟩
end Go.Proofs.YtbnmbkohmmiamaaDoor
