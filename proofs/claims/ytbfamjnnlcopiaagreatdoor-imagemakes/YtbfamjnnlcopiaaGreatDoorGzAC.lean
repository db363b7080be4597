/- The leaves of layer 3: counting bits and finding the least one; a set in memory. -/
import Derived.Test.YtbfamjnnlcopiaaGreatDoorGzAB
namespace Go.Proofs.YtbfamjnnlcopiaaGreatDoor
open Go.RowKit
set_option linter.unusedVariables false
set_option maxRecDepth 4000

theorem T1_le (x : Nat) : T1 8 x ≤ 12297829382473034410 := by
  have h1 : x / 2 &&& m5 8 ≤ m5 8 := Nat.and_le_right
  have h2 : x &&& m5 8 ≤ m5 8 := Nat.and_le_right
  rw [m5_8] at h1 h2
  rw [T1, m5_8]
  omega
theorem T2_le (x : Nat) : T2 8 x ≤ 7378697629483820646 := by
  have h1 : x / 4 &&& m3 8 ≤ m3 8 := Nat.and_le_right
  have h2 : x &&& m3 8 ≤ m3 8 := Nat.and_le_right
  rw [m3_8] at h1 h2
  rw [T2, m3_8]
  omega
theorem w_T1 (x : Nat) (h : x < 18446744073709551616) : IntKind.u64.wrap (bits BinOp.and IntKind.u64 ((x : Int) / 2) 6148914691236517205 + bits BinOp.and IntKind.u64 (x : Int) 6148914691236517205) = (T1 8 x : Nat) := by
  have a := u64_and_nat (x / 2) 6148914691236517205 (by omega) (by decide)
  have b := u64_and_nat x 6148914691236517205 h (by decide)
  have c := T1_le x
  rw [T1, m5_8] at c
  rw [show ((x : Int) / 2) = ((x / 2 : Nat) : Int) from by omega, show (6148914691236517205 : Int) = ((6148914691236517205 : Nat) : Int) from rfl, a, b, IntKind.wrap_u64, T1, m5_8]
  omega
theorem w_T2 (x : Nat) (h : x < 18446744073709551616) : IntKind.u64.wrap (bits BinOp.and IntKind.u64 ((x : Int) / 4) 3689348814741910323 + bits BinOp.and IntKind.u64 (x : Int) 3689348814741910323) = (T2 8 x : Nat) := by
  have a := u64_and_nat (x / 4) 3689348814741910323 (by omega) (by decide)
  have b := u64_and_nat x 3689348814741910323 h (by decide)
  have c := T2_le x
  rw [T2, m3_8] at c
  rw [show ((x : Int) / 4) = ((x / 4 : Nat) : Int) from by omega, show (3689348814741910323 : Int) = ((3689348814741910323 : Nat) : Int) from rfl, a, b, IntKind.wrap_u64, T2, m3_8]
  omega
theorem w_T3 (x : Nat) (h : x ≤ 7378697629483820646) : bits BinOp.and IntKind.u64 (IntKind.u64.wrap ((x : Int) / 16 + (x : Int))) 1085102592571150095 = (T3 8 x : Nat) := by
  have e : IntKind.u64.wrap ((x : Int) / 16 + (x : Int)) = ((x / 16 + x : Nat) : Int) := by rw [IntKind.wrap_u64]; omega
  rw [e, show (1085102592571150095 : Int) = ((1085102592571150095 : Nat) : Int) from rfl, u64_and_nat _ _ (by omega) (by decide), T3, mf_8]
theorem w_add (x s : Nat) (hs : 0 < s) (h : x + x / s < 18446744073709551616) : IntKind.u64.wrap ((x : Int) + (x : Int) / (s : Int)) = ((x + x / s : Nat) : Int) := by
  rw [IntKind.wrap_u64]
  have : ((x : Int) / (s : Int)) = ((x / s : Nat) : Int) := by simp
  rw [this]
  generalize x / s = q at *
  omega
theorem w_end (y : Nat) (h : y < 9223372036854775808) : bits BinOp.and IntKind.i64 (wrap64 (y : Int)) 127 = (y % 128 : Nat) := by
  have e : wrap64 (y : Int) = (y : Int) := by rw [wrap64]; omega
  rw [e]
  have h1 : (BitVec.ofInt 64 (y : Int)).toNat = y := by
    rw [BitVec.ofInt_natCast, BitVec.toNat_ofNat]; exact Nat.mod_eq_of_lt (by omega)
  show IntKind.i64.wrap ((BitVec.ofInt 64 (y : Int) &&& BitVec.ofInt 64 127).toNat : Int) = _
  rw [BitVec.toNat_and, h1]
  have e2 : (BitVec.ofInt 64 127).toNat = 127 := by decide
  rw [e2, show (127 : Nat) = 2 ^ 7 - 1 from rfl, Nat.and_two_pow_sub_one_eq_mod, IntKind.wrap_i64]
  omega
theorem ones_any (x : Nat) (w : World) (h : x < 18446744073709551616) :
    Calls Tryz.prog 114 #[.int .u64 x] w fun e w' => e = .returned (.int .i64 (Lib.popAux 64 x : Nat)) ∧ w = w' := by
  go_enter Tryz.func114, Tryz.ntmps114
  go_wp2
  go_ret
  refine ⟨ret_int ?_, rfl⟩
  have l1 := T1_le x
  have l2 := T2_le (T1 8 x)
  have p := T_pops 8 x (by omega)
  have q := pops_eight x
  have s := pops_sum x
  obtain ⟨b0, b1, b2, b3, b4⟩ := fold8 _ _ _ _ _ _ _ _ (popAux_le 8 x) (popAux_le 8 (x / 256)) (popAux_le 8 (x / 65536)) (popAux_le 8 (x / 16777216)) (popAux_le 8 (x / 4294967296)) (popAux_le 8 (x / 1099511627776)) (popAux_le 8 (x / 281474976710656)) (popAux_le 8 (x / 72057594037927936)) (pops 8 x) _ _ _ q rfl rfl rfl
  rw [← s] at b4
  rw [w_T1 x h, w_T2 _ (by omega), w_T3 _ l2, p]
  have k1 := w_add (pops 8 x) 256 (by decide) b1
  rw [show ((256 : Nat) : Int) = 256 from rfl] at k1
  rw [k1]
  have k2 := w_add _ 65536 (by decide) b2
  rw [show ((65536 : Nat) : Int) = 65536 from rfl] at k2
  rw [k2]
  have k3 := w_add _ 4294967296 (by decide) (by omega : pops 8 x + pops 8 x / 256 + (pops 8 x + pops 8 x / 256) / 65536 + (pops 8 x + pops 8 x / 256 + (pops 8 x + pops 8 x / 256) / 65536) / 4294967296 < 18446744073709551616)
  rw [show ((4294967296 : Nat) : Int) = 4294967296 from rfl] at k3
  rw [k3, w_end _ b3, b4]
theorem sparts_any (n e : Nat) (w : World) (hn : n ≤ 65536) (he : e = 8 ∨ e = 64) :
    Calls Tryz.prog 104 #[.int .i64 n, .int .i64 e] w fun r w' => r = .returned (.int .i64 ((n + (e - 1)) / e : Nat)) ∧ w = w' := by
  rcases he with rfl | rfl
  all_goals
    go_enter Tryz.func104, Tryz.ntmps104
    go_wp2
    go_ret
    refine ⟨ret_int ?_, rfl⟩
    omega
/-- The table in its variable. -/
def TabB (w : World) : Prop := 1 < w.heap.size ∧ ∀ j, j < 64 → w.cell? ⟨1, j, none⟩ = some (.int .u8 (Lib.deBruijn64tab.getD j 0 : Nat))
theorem tz_key (x a : Nat) (hx : x < 18446744073709551616) (hx0 : x ≠ 0) (hlow : x &&& (18446744073709551616 - x) = a) :
    IntKind.u64.wrap (bits BinOp.and IntKind.u64 (x : Int) (IntKind.u64.wrap (-(x : Int))) * 285870213051353865) / 288230376151711744 = ((a * 285870213051353865 % 18446744073709551616 / 288230376151711744 : Nat) : Int) := by
  have e1 : IntKind.u64.wrap (-(x : Int)) = ((18446744073709551616 - x : Nat) : Int) := by rw [IntKind.wrap_u64]; omega
  rw [e1, bits_and_u64_nat x _ hx (by omega), hlow, IntKind.wrap_u64]
  omega
theorem tz_core (x k idx : Nat) (w : World) (hx0 : ((x : Int) == 0) = false)
    (key : IntKind.u64.wrap (bits BinOp.and IntKind.u64 (x : Int) (IntKind.u64.wrap (-(x : Int))) * 285870213051353865) / 288230376151711744 = (idx : Int))
    (hi : idx < 64) (hk : k < 64) (hcell : w.cell? ⟨1, idx, none⟩ = some (.int .u8 k)) :
    Calls Tryz.prog 135 #[.int .u64 x] w fun e w' => e = .returned (.int .i64 k) ∧ w = w' := by
  go_enter Tryz.func135, Tryz.ntmps135
  go_wp2_with (simp only [key])
  go_ret
  exact ⟨rfl, rfl⟩
theorem tz_any (x : Nat) (w : World) (hx : x < 18446744073709551616) (hx0 : x ≠ 0) (hT : TabB w) :
    Calls Tryz.prog 135 #[.int .u64 x] w fun e w' => e = .returned (.int .i64 (Lib.ctz 64 x : Nat)) ∧ w = w' := by
  obtain ⟨hlow, hk⟩ := Lib.lowest_bit 64 x hx0 hx
  obtain ⟨hi, htab⟩ := Lib.deBruijn64_at _ hk
  have hcell := hT.2 _ hi
  rw [htab] at hcell
  exact tz_core x _ _ w (by simp; omega) (tz_key x _ hx hx0 hlow) hi hk hcell


/-- A set of n places in the block b, its words in the block g; f says which are in. -/
structure SetAt (w : World) (b g n : Nat) (f : Nat → Bool) : Prop where
  len : w.cell? ⟨b, 0, none⟩ = some (.int .i64 n)
  words : w.cell? ⟨b, 1, none⟩ = some (.slice (some ⟨g, 0, none⟩) ((n + 63) / 64) ((n + 63) / 64))
  word : ∀ j, j < (n + 63) / 64 → w.cell? ⟨g, j, none⟩ = some (.int .u64 (wd f j : Nat))
  thawed : ∀ j, w.frozen? ⟨g, j, none⟩ = false
  few : n ≤ 65536
  within : ∀ i, f i = true → i < n
  hb : b < w.heap.size
  hg : g < w.heap.size
  apart : b ≠ g
theorem slen_any (b n : Nat) (w : World) (h : w.cell? ⟨b, 0, none⟩ = some (.int .i64 n)) :
    Calls Tryz.prog 108 #[.pointer (some ⟨b, 0, none⟩)] w fun e w' => e = .returned (.int .i64 n) ∧ w = w' := by
  go_enter Tryz.func108, Tryz.ntmps108
  go_wp2
  go_ret
  exact ⟨rfl, rfl⟩
theorem slen_nil (w : World) :
    Calls Tryz.prog 108 #[.pointer none] w fun e w' => e = .returned (.int .i64 0) ∧ w = w' := by
  go_enter Tryz.func108, Tryz.ntmps108
  go_wp2
  go_ret
  exact ⟨rfl, rfl⟩
/-- Is there such a place? -/
def isP (n : Nat) (i : Int) : Bool := decide (0 ≤ i ∧ i < n)
theorem isP_true {n : Nat} {i : Int} : isP n i = true ↔ 0 ≤ i ∧ i < n := by simp [isP]
theorem isP_false {n : Nat} {i : Int} : isP n i = false ↔ ¬ (0 ≤ i ∧ i < n) := by simp [isP]
theorem isPlace_any (b n : Nat) (i : Int) (w : World) (h : w.cell? ⟨b, 0, none⟩ = some (.int .i64 n)) :
    Calls Tryz.prog 106 #[.pointer (some ⟨b, 0, none⟩), .int .i64 i] w fun e w' => e = .returned (.bool (isP n i)) ∧ w = w' := by
  by_cases h0 : 0 ≤ i
  · go_enter Tryz.func106, Tryz.ntmps106
    go_wp2_with (go_at_call 108; refine (slen_any b n _ h).mono ?_; rintro e w' ⟨rfl, rfl⟩)
    go_ret
    exact ⟨ret_bool (by simp [isP, h0]), rfl⟩
  · have h1 : i < 0 := by omega
    go_enter Tryz.func106, Tryz.ntmps106
    go_wp2_with (go_at_call 108; refine (slen_any b n _ h).mono ?_; rintro e w' ⟨rfl, rfl⟩)
    go_ret
    exact ⟨ret_bool (by simp [isP]; omega), rfl⟩
/-- Is a place in? -/
def hasB (n : Nat) (f : Nat → Bool) (i : Int) : Bool := isP n i && f i.toNat
theorem has_int (f : Nat → Bool) (i : Nat) : (((wd f (i / 64) : Nat) : Int) / 2 ^ (i % 64) % 2 == 1) = f i := by
  have h := has_word f i
  have e : ((wd f (i / 64) : Nat) : Int) / 2 ^ (i % 64) % 2 = ((wd f (i / 64) / 2 ^ (i % 64) % 2 : Nat) : Int) := by simp
  rw [e, h]
  cases f i <;> rfl
theorem shas_any (b g n : Nat) (f : Nat → Bool) (i : Int) (w : World) (h : SetAt w b g n f) :
    Calls Tryz.prog 107 #[.pointer (some ⟨b, 0, none⟩), .int .i64 i] w fun e w' => e = .returned (.bool (hasB n f i)) ∧ w = w' := by
  have hl := h.len
  have hs := h.words
  have few := h.few
  cases hp : isP n i
  · have HP : Hid (isP n i = false) := hp
    go_enter Tryz.func107, Tryz.ntmps107
    go_wp2_with (go_at_call 106; refine (isPlace_any b n i _ hl).mono ?_; rintro e w' ⟨rfl, rfl⟩; rw [HP.out])
    go_ret
    exact ⟨ret_bool (by rw [hasB, HP.out]; rfl), rfl⟩
  · have HP : Hid (isP n i = true) := hp
    obtain ⟨h0, h1⟩ := isP_true.1 hp
    obtain ⟨k, rfl⟩ : ∃ k : Nat, i = k := ⟨i.toNat, by omega⟩
    have hj : k / 64 < (n + 63) / 64 := by omega
    have hw := h.word (k / 64) hj
    have hlt := wd_lt f (k / 64)
    have HH : Hid ((((wd f (k / 64) : Nat) : Int) / 2 ^ (k % 64) % 2 == 1) = f k) := has_int f k
    clear hp h
    go_enter Tryz.func107, Tryz.ntmps107
    go_wp2_with (go_at_call 106; refine (isPlace_any b n k _ hl).mono ?_; rintro e w' ⟨rfl, rfl⟩; rw [HP.out])
    go_ret
    refine ⟨ret_bool ?_, rfl⟩
    rw [hasB, HP.out]
    exact HH.out
theorem ones_of (x : Nat) (w : World) (h : x < 18446744073709551616) :
    Calls Tryz.prog 114 #[.int .u64 x] w fun e w' => ∃ c : Nat, e = .returned (.int .i64 c) ∧ c ≤ 64 ∧ Hid (Lib.popAux 64 x = c) ∧ w = w' := by
  refine (ones_any x w h).mono ?_
  rintro e w' ⟨rfl, rfl⟩
  exact ⟨_, rfl, popAux_le 64 x, rfl, rfl⟩
theorem count_any (b g n : Nat) (f : Nat → Bool) (w : World) (h : SetAt w b g n f) :
    Calls Tryz.prog 95 #[.pointer (some ⟨b, 0, none⟩)] w fun e w' => e = .returned (.int .i64 (cnt f n : Nat)) ∧ w = w' := by
  have hs := h.words
  have few := h.few
  have hw := h.word
  have E : Hid (cnt f (64 * ((n + 63) / 64)) = cnt f n) := by
    have := cnt_beyond f n h.within (64 * ((n + 63) / 64) - n)
    rw [show n + (64 * ((n + 63) / 64) - n) = 64 * ((n + 63) / 64) from by omega] at this
    exact this
  clear h
  go_enter Tryz.func95, Tryz.ntmps95
  go_wp2
  go_loop [3, 13] (fun c i => ∃ k : Nat, k ≤ (n + 63) / 64 ∧ i = .int .i64 k ∧ c = .int .i64 (cnt f (64 * k) : Nat)) (fun _ i => (n + 63) / 64 - (intOf i).toNat)
  case atStart => exact ⟨0, Nat.zero_le _, rfl, rfl⟩
  case round =>
    obtain ⟨k, hk, rfl, rfl⟩ := hrel
    have hc := cnt_le f (64 * k)
    by_cases hlt : k < (n + 63) / 64
    · have hcell := hw k hlt
      have hx := wd_lt f k
      go_wp2_with (go_at_call 114; refine (ones_of (wd f k) _ hx).mono ?_; rintro e w' ⟨c, rfl, hc64, HC, rfl⟩)
      go_round
      case rel => exact ⟨k + 1, by omega, by go_num, by rw [cnt_word, HC.out]; go_num⟩
      case measure => simp [intOf]; omega
    · obtain rfl : k = (n + 63) / 64 := by omega
      go_wp2
      go_ret
      exact ⟨ret_int (by rw [E.out]), rfl⟩
end Go.Proofs.YtbfamjnnlcopiaaGreatDoor

/- A set in memory: next, First, Gap, New, Add, Del. -/
namespace Go.Proofs.YtbfamjnnlcopiaaGreatDoor
open Go.RowKit
set_option linter.unusedVariables false
set_option maxRecDepth 4000


theorem tz_of (x : Nat) (w : World) (hx : x < 18446744073709551616) (hx0 : x ≠ 0) (hT : TabB w) :
    Calls Tryz.prog 135 #[.int .u64 x] w fun e w' => ∃ c : Nat, e = .returned (.int .i64 c) ∧ c < 64 ∧ Hid (c = Lib.ctz 64 x) ∧ w = w' := by
  refine (tz_any x w hx hx0 hT).mono ?_
  rintro e w' ⟨rfl, rfl⟩
  exact ⟨_, rfl, (ctz_bits x hx0 hx).2.2, rfl, rfl⟩
set_option maxHeartbeats 1000000 in
theorem next_any (b g n : Nat) (f q : Nat → Bool) (fr : Int) (T : Nat) (hT64 : T < 18446744073709551616) (hh : ∀ j k, k < 64 → (wd f j ^^^ T).testBit k = q (64 * j + k)) (w : World) (hS : SetAt w b g n f) (hT : TabB w) (hfr : fr ≤ 9223372036854775807) :
    Calls Tryz.prog 127 #[.pointer (some ⟨b, 0, none⟩), .int .i64 fr, .int .u64 T] w fun e w' => e = .returned (.int .i64 (nextL q n fr.toNat)) ∧ w = w' := by
  have hl := hS.len
  have hs := hS.words
  have few := hS.few
  have HW : Hid (∀ j, j < (n + 63) / 64 → w.cell? ⟨g, j, none⟩ = some (.int .u64 (wd f j : Nat))) := hS.word
  have HT : Hid (TabB w) := hT
  have HH : Hid (∀ j k, k < 64 → (wd f j ^^^ T).testBit k = q (64 * j + k)) := hh
  obtain ⟨i0, e0⟩ : ∃ i0 : Nat, fr.toNat = i0 := ⟨_, rfl⟩
  rw [e0]
  have hb0 : i0 ≤ 9223372036854775807 := by omega
  have hcase : (0 < i0 ∧ fr = (i0 : Int)) ∨ (¬ 0 < fr ∧ i0 = 0) := by omega
  clear hS hT hh e0
  rcases hcase with ⟨hpos, rfl⟩ | ⟨hpos, rfl⟩
  all_goals
    go_enter Tryz.func127, Tryz.ntmps127
    go_wp2
    go_loop [7] (fun i => ∃ k : Nat, i = .int .i64 k ∧ k ≤ 9223372036854775807 ∧ Hid (nextL q n _ = nextL q n k)) (fun i => n - (intOf i).toNat)
    case atStart => exact ⟨_, rfl, hb0, rfl⟩
    case round =>
      obtain ⟨k, rfl, hk, HK⟩ := hrel
      by_cases hlt : k < n
      · have hcell := HW.out (k / 64) (by omega)
        obtain ⟨X, hX⟩ : ∃ X : Nat, wd f (k / 64) ^^^ T = X := ⟨_, rfl⟩
        have hXb : ∀ t, t < 64 → X.testBit t = q (64 * (k / 64) + t) := fun t ht => by rw [← hX]; exact HH.out _ t ht
        have hX64 : X < 18446744073709551616 := by rw [← hX]; exact Nat.xor_lt_two_pow (n := 64) (wd_lt f _) hT64
        have hx := u64_xor_nat (wd f (k / 64)) T (wd_lt f _) hT64
        rw [hX] at hx
        obtain ⟨r, hr⟩ : ∃ r : Nat, X / 2 ^ (k % 64) = r := ⟨_, rfl⟩
        have hri : ((X : Int) / 2 ^ (k % 64)) = (r : Int) := by rw [← hr]; simp
        have hr64 : r < 18446744073709551616 := by rw [← hr]; exact Nat.lt_of_le_of_lt (Nat.div_le_self _ _) hX64
        have XB : Hid (∀ t, t < 64 → X.testBit t = q (64 * (k / 64) + t)) := hXb
        have HR : Hid (X / 2 ^ (k % 64) = r) := hr
        clear hX hXb hr
        by_cases hr0 : r = 0
        · have SK : Hid (nextL q n _ = nextL q n (k + (64 - k % 64))) := HK.out.trans (nextL_skip q n k _ (fun m h1 h2 _ => rest_zero q X k XB.out (by rw [HR.out, hr0]) m h1 h2))
          subst hr0
          go_wp2_with (go_at_call 108; refine (slen_any b n _ hl).mono ?_; rintro e w' ⟨rfl, rfl⟩)
          go_round
          case rel => exact ⟨k + (64 - k % 64), by go_num, by omega, SK⟩
          case measure => simp [intOf]; omega
        · have hd : ((r : Int) == 0) = false := by simp; omega
          go_wp2_with (first | (go_at_call 108; refine (slen_any b n _ hl).mono ?_; rintro e w' ⟨rfl, rfl⟩) | (go_at_call 135; refine (tz_of r _ hr64 hr0 HT.out).mono ?_; rintro e w' ⟨c, rfl, hc, HC, rfl⟩))
          obtain ⟨c1, c2, c3⟩ := rest_some q X k r c hX64 XB.out HR.out hr0 HC.out
          have C2 : Hid (q (k + c) = true) := c2
          have SK : Hid (nextL q n _ = nextL q n (k + c)) := HK.out.trans (nextL_skip q n k c (fun m h1 h2 _ => c3 m h1 h2))
          clear c2 c3
          refine (isPlace_any b n _ _ hl).mono ?_
          rintro e w' ⟨rfl, rfl⟩
          by_cases hin : k + c < n
          · have hp : isP n ((k : Int) + (c : Int)) = true := isP_true.2 ⟨by omega, by omega⟩
            rw [hp]
            go_wp2
            go_ret
            exact ⟨ret_int (by rw [SK.out, nextL_at q hin C2.out]; omega), rfl⟩
          · have hp : isP n ((k : Int) + (c : Int)) = false := isP_false.2 (by omega)
            have S2 : Hid (nextL q n _ = nextL q n (k + (64 - k % 64))) := SK.out.trans ((nextL_stop q (by omega)).trans (nextL_stop q (by omega)).symm)
            rw [hp]
            go_wp2
            go_round
            case rel => exact ⟨k + (64 - k % 64), by go_num, by omega, S2⟩
            case measure => simp [intOf]; omega
      · have EE : Hid (nextL q n _ = -1) := HK.out.trans (nextL_stop q (by omega))
        go_wp2_with (go_at_call 108; refine (slen_any b n _ hl).mono ?_; rintro e w' ⟨rfl, rfl⟩)
        go_ret
        exact ⟨ret_int EE.out.symm, rfl⟩
theorem first_any (b g n : Nat) (f : Nat → Bool) (fr : Int) (w : World) (hS : SetAt w b g n f) (hT : TabB w) (hfr : fr ≤ 9223372036854775807) :
    Calls Tryz.prog 111 #[.pointer (some ⟨b, 0, none⟩), .int .i64 fr] w fun e w' => e = .returned (.int .i64 (nextL f n fr.toNat)) ∧ w = w' := by
  have HS : Hid (SetAt w b g n f) := hS
  have HT : Hid (TabB w) := hT
  clear hS hT
  go_enter Tryz.func111, Tryz.ntmps111
  go_wp2_with (go_at_call 127; refine (next_any b g n f f fr 0 (by decide) (same_bits f) _ HS.out HT.out hfr).mono ?_; rintro e w' ⟨rfl, rfl⟩)
  go_ret
  exact ⟨rfl, rfl⟩
/-- Of the block g alone another may be. -/
structure Only (g : Nat) (w w' : World) : Prop where
  os : w'.os = w.os
  tape : w'.tape = w.tape
  output : w'.output = w.output
  size : w'.heap.size = w.heap.size
  block : ∀ k, k ≠ g → w'.heap[k]? = w.heap[k]?
theorem Only.refl (g : Nat) (w : World) : Only g w w := ⟨rfl, rfl, rfl, rfl, fun _ _ => rfl⟩
theorem Only.trans {g : Nat} {a b c : World} (h : Only g a b) (k : Only g b c) : Only g a c :=
  ⟨k.os.trans h.os, k.tape.trans h.tape, k.output.trans h.output, k.size.trans h.size, fun i hi => (k.block i hi).trans (h.block i hi)⟩
theorem Only.below {g B : Nat} {w w' : World} (h : Only g w w') (hB : B ≤ g) : Below B w w' :=
  ⟨h.os, h.tape, h.output, by rw [h.size]; exact Nat.le_refl _, fun k hk => h.block k (by omega)⟩
theorem Only.drew {g : Nat} {w w' : World} (h : Only g w w') : Only g w w'.drew := ⟨h.os, h.tape, h.output, h.size, h.block⟩
theorem Only.set (g j : Nat) (v : Value) (w : World) : Only g w (w.setCell ⟨g, j, none⟩ v) :=
  ⟨rfl, rfl, rfl, by simp, fun k hk => Below.heap_setCell _ _ _ _ hk⟩
theorem Only.cell {g : Nat} {w w' : World} (h : Only g w w') {p : Addr} (hp : p.block ≠ g) : w'.cell? p = w.cell? p := World.cell?_of_block (h.block p.block hp)
theorem Only.frozen {g : Nat} {w w' : World} (h : Only g w w') {p : Addr} (hp : p.block ≠ g) : w'.frozen? p = w.frozen? p := World.frozen?_of_block (h.block p.block hp)
theorem TabB.keep {w w' : World} {B : Nat} (h : TabB w) (hb : Below B w w') (hB : 1 < B) : TabB w' :=
  ⟨by have := hb.size; have := h.1; omega, fun j hj => by rw [hb.cell (p := ⟨1, j, none⟩) hB]; exact h.2 j hj⟩
theorem SetAt.keep {w w' : World} {b g n B : Nat} {f : Nat → Bool} (h : SetAt w b g n f) (hb : Below B w w') (h1 : b < B) (h2 : g < B) : SetAt w' b g n f where
  len := by rw [hb.cell (p := ⟨b, 0, none⟩) h1]; exact h.len
  words := by rw [hb.cell (p := ⟨b, 1, none⟩) h1]; exact h.words
  word := fun j hj => by rw [hb.cell (p := ⟨g, j, none⟩) h2]; exact h.word j hj
  thawed := fun j => by rw [hb.frozen (p := ⟨g, j, none⟩) h2]; exact h.thawed j
  few := h.few
  within := h.within
  hb := by have := hb.size; have := h.hb; omega
  hg := by have := hb.size; have := h.hg; omega
  apart := h.apart
theorem SetAt.keepAll {w w' : World} {b g n : Nat} {f : Nat → Bool} (h : SetAt w b g n f) (hb : Below w.heap.size w w') : SetAt w' b g n f := h.keep hb h.hb h.hg
theorem SetAt.beside {w w' : World} {b g n o : Nat} {f : Nat → Bool} (h : SetAt w b g n f) (ho : Only o w w') (h1 : b ≠ o) (h2 : g ≠ o) : SetAt w' b g n f where
  len := by rw [ho.cell (p := ⟨b, 0, none⟩) h1]; exact h.len
  words := by rw [ho.cell (p := ⟨b, 1, none⟩) h1]; exact h.words
  word := fun j hj => by rw [ho.cell (p := ⟨g, j, none⟩) h2]; exact h.word j hj
  thawed := fun j => by rw [ho.frozen (p := ⟨g, j, none⟩) h2]; exact h.thawed j
  few := h.few
  within := h.within
  hb := by have := ho.size; have := h.hb; omega
  hg := by have := ho.size; have := h.hg; omega
  apart := h.apart
theorem SetAt.drew {w : World} {b g n : Nat} {f : Nat → Bool} (h : SetAt w b g n f) : SetAt w.drew b g n f :=
  ⟨h.len, h.words, h.word, h.thawed, h.few, h.within, h.hb, h.hg, h.apart⟩
theorem SetAt.congr {w : World} {b g n : Nat} {f f' : Nat → Bool} (h : SetAt w b g n f) (e : ∀ i, f i = f' i) : SetAt w b g n f' := by
  have : f = f' := funext e
  exact this ▸ h
theorem cell_set {w : World} {g j : Nat} {u v : Value} (h : w.cell? ⟨g, j, none⟩ = some u) : (w.setCell ⟨g, j, none⟩ v).cell? ⟨g, j, none⟩ = some v := by
  simp only [World.cell?, World.setCell, Array.getElem?_modify] at h ⊢
  split at h
  · rename_i c t fr hh
    simp at h
    have hj : j < c.size := by
      have := h
      exact (Array.getElem?_eq_some_iff.1 this).1
    simp [hh, hj]
  · cases h
theorem cell_else {w : World} {g j k : Nat} {v : Value} (h : k ≠ j) : (w.setCell ⟨g, j, none⟩ v).cell? ⟨g, k, none⟩ = w.cell? ⟨g, k, none⟩ := by
  simp only [World.cell?, World.setCell, Array.getElem?_modify]
  rcases hh : w.heap[g]? with _ | o
  · simp
  · rcases o with ⟨c, t, fr⟩ | _ <;> simp [Ne.symm h]
theorem frozen_set {w : World} {g j k : Nat} {v : Value} : (w.setCell ⟨g, j, none⟩ v).frozen? ⟨g, k, none⟩ = w.frozen? ⟨g, k, none⟩ := by
  simp only [World.frozen?, World.setCell, Array.getElem?_modify]
  rcases hh : w.heap[g]? with _ | o
  · simp
  · rcases o with ⟨c, t, fr⟩ | _ <;> simp
/-- A word is stored: just the places of that word are others. -/
theorem SetAt.stored {w : World} {b g n j : Nat} {f f' : Nat → Bool} (h : SetAt w b g n f) (hj : j < (n + 63) / 64) (he : ∀ k, k ≠ j → wd f' k = wd f k) (hw : ∀ i, f' i = true → i < n) : SetAt (w.setCell ⟨g, j, none⟩ (.int .u64 (wd f' j : Nat))) b g n f' where
  len := by rw [(Only.set g j _ w).cell (p := ⟨b, 0, none⟩) h.apart]; exact h.len
  words := by rw [(Only.set g j _ w).cell (p := ⟨b, 1, none⟩) h.apart]; exact h.words
  word := fun k hk => by
    by_cases e : k = j
    · subst e; exact cell_set (h.word k hk)
    · rw [cell_else e, he k e]; exact h.word k hk
  thawed := fun k => by rw [frozen_set]; exact h.thawed k
  few := h.few
  within := hw
  hb := by simpa using h.hb
  hg := by simpa using h.hg
  apart := h.apart
theorem put_within {n i : Nat} {f : Nat → Bool} {c : Bool} (h : ∀ k, f k = true → k < n) (hi : i < n) : ∀ k, put f i c k = true → k < n := by
  intro k hk
  rw [put] at hk
  split at hk
  · omega
  · exact h k hk
/-- What Add and Del make of a set. -/
def turn (n : Nat) (f : Nat → Bool) (i : Int) (c : Bool) : Nat → Bool := fun x => if isP n i = true ∧ x = i.toNat then c else f x
theorem turn_same {n : Nat} {f : Nat → Bool} {i : Int} {c : Bool} (h : isP n i = true → f i.toNat = c) : ∀ x, f x = turn n f i c x := by
  intro x
  rw [turn]
  split
  · rename_i hx; rw [hx.2]; exact h hx.1
  · rfl
theorem turn_put {n : Nat} {f : Nat → Bool} {i : Int} {c : Bool} (h : isP n i = true) : ∀ x, put f i.toNat c x = turn n f i c x := by
  intro x
  rw [turn, put]
  simp [h]
theorem shl_int (k : Nat) (hk : k < 64) : IntKind.u64.wrap (2 ^ k) = ((2 ^ k : Nat) : Int) := by
  have hp : 2 ^ k < 2 ^ 64 := Nat.pow_lt_pow_right (by decide) hk
  rw [IntKind.wrap_u64]
  have : ((2 : Int) ^ k) = ((2 ^ k : Nat) : Int) := by simp
  rw [this]
  generalize 2 ^ k = p at *
  omega
theorem add_int (f : Nat → Bool) (k : Nat) : bits BinOp.or IntKind.u64 ((wd f (k / 64) : Nat) : Int) (IntKind.u64.wrap (2 ^ (k % 64))) = (wd (put f k true) (k / 64) : Nat) := by
  have hp : 2 ^ (k % 64) < 2 ^ 64 := Nat.pow_lt_pow_right (by decide) (by omega)
  rw [shl_int _ (by omega), bits_or_u64_nat _ _ (wd_lt f _) (by omega), add_word]
set_option maxHeartbeats 1000000 in
theorem sadd_any (b g n : Nat) (f : Nat → Bool) (i : Int) (w : World) (h : SetAt w b g n f) :
    Calls Tryz.prog 79 #[.pointer (some ⟨b, 0, none⟩), .int .i64 i] w fun e w' => e = .returned (.bool (isP n i && !f i.toNat)) ∧ SetAt w' b g n (turn n f i true) ∧ Only g w w' := by
  have hl := h.len
  have hs := h.words
  have few := h.few
  have HS : Hid (SetAt w b g n f) := h
  cases hp : isP n i
  · have HP : Hid (isP n i = false) := hp
    have HE : Hid (SetAt w b g n (turn n f i true)) := h.congr (turn_same (fun e => by rw [hp] at e; cases e))
    clear h hp
    go_enter Tryz.func79, Tryz.ntmps79
    go_wp2_with (go_at_call 106; refine (isPlace_any b n i _ hl).mono ?_; rintro e w' ⟨rfl, rfl⟩; rw [HP.out])
    go_ret
    exact ⟨ret_bool rfl, HE.out, Only.refl _ _⟩
  · have HP : Hid (isP n i = true) := hp
    obtain ⟨h0, h1⟩ := isP_true.1 hp
    obtain ⟨k, rfl⟩ : ∃ k : Nat, i = k := ⟨i.toNat, by omega⟩
    rw [Int.toNat_natCast]
    cases hf : f k
    · have HB : Hid (hasB n f k = false) := by show hasB n f k = false; rw [hasB, hp, Int.toNat_natCast, hf]; rfl
      have hj : k / 64 < (n + 63) / 64 := by omega
      have hw := h.word (k / 64) hj
      have hz := h.thawed (k / 64)
      have hlt := wd_lt f (k / 64)
      have HI := add_int f k
      have HA : Hid (bits BinOp.or IntKind.u64 ((wd f (k / 64) : Nat) : Int) (IntKind.u64.wrap (2 ^ (k % 64))) = (wd (put f k true) (k / 64) : Nat)) := HI
      have HE : Hid (SetAt (w.setCell ⟨g, k / 64, none⟩ (.int .u64 (wd (put f k true) (k / 64) : Nat))) b g n (turn n f k true)) :=
        (h.stored hj (fun m hm => word_else f k m true hm) (put_within h.within (by omega))).congr (turn_put hp)
      clear h hp hf HI
      go_enter Tryz.func79, Tryz.ntmps79
      go_wp2_with (first | (go_at_call 106; refine (isPlace_any b n k _ hl).mono ?_; rintro e w' ⟨rfl, rfl⟩; rw [HP.out]) | (go_at_call 107; refine (shas_any b g n f k _ HS.out).mono ?_; rintro e w' ⟨rfl, rfl⟩; rw [HB.out]))
      go_region
      all_goals go_wp2
      all_goals go_ret
      all_goals rw [HA.out]
      all_goals exact ⟨rfl, HE.out.drew, (Only.set g (k / 64) _ w).drew⟩
    · have HB : Hid (hasB n f k = true) := by show hasB n f k = true; rw [hasB, hp, Int.toNat_natCast, hf]; rfl
      have HE : Hid (SetAt w b g n (turn n f k true)) := h.congr (turn_same (fun e => by rw [Int.toNat_natCast]; exact hf))
      clear h hp hf
      go_enter Tryz.func79, Tryz.ntmps79
      go_wp2_with (first | (go_at_call 106; refine (isPlace_any b n k _ hl).mono ?_; rintro e w' ⟨rfl, rfl⟩; rw [HP.out]) | (go_at_call 107; refine (shas_any b g n f k _ HS.out).mono ?_; rintro e w' ⟨rfl, rfl⟩; rw [HB.out]))
      go_ret
      exact ⟨ret_bool rfl, HE.out, Only.refl _ _⟩
/-- How many places there are. -/
def clampN (n : Int) : Nat := if n < 0 then 0 else if 65536 < n then 65536 else n.toNat
theorem Tryz.info62 : (Tryz.prog.info? 76).map (fun i => (i.zero, i.size, i.bytes)) = some (some (.int .u64 0), 1, 8) := by kernel_rfl
theorem made_cell (z : Value) (n i : Nat) (h : i < n) : (madeCells #[z] n)[i]? = some z := by simp [madeCells, h, Nat.mod_one]
/-- What New lays into memory. -/
def newW (w : World) (n : Nat) : World := (w.alloc (.cells (madeCells #[.int .u64 0] ((n + 63) / 64)) 76)).alloc (.cells #[.int .i64 n, .slice (some ⟨w.heap.size, 0, none⟩) ((n + 63) / 64) ((n + 63) / 64)] 152)
theorem newW_at (w : World) (n : Nat) (hn : n ≤ 65536) : SetAt (newW w n) (w.heap.size + 1) w.heap.size n (fun _ => false) where
  len := by rw [newW, World.cell?_alloc_at _ _ _ _ (by simp)]; rfl
  words := by rw [newW, World.cell?_alloc_at _ _ _ _ (by simp)]; rfl
  word := fun j hj => by
    rw [wd_none, newW, World.cell?_alloc_past _ _ _ (by simp), World.cell?_alloc_at _ _ _ _ rfl, made_cell _ _ _ hj]
    rfl
  thawed := fun j => by
    rw [newW, World.frozen?_alloc_past _ _ _ (by simp), World.frozen?_alloc_at _ _ _ _ rfl]
  few := hn
  within := fun i h => by cases h
  hb := by simp [newW]
  hg := by simp [newW]; omega
  apart := by omega
theorem newW_below (w : World) (n : Nat) : Below w.heap.size w (newW w n) :=
  ((Below.refl _ w).alloc (Nat.le_refl _) _).alloc (by simp) _
theorem parts64 (x : Int) (n : Nat) (w : World) (hx : x = n) (hn : n ≤ 65536) :
    Calls Tryz.prog 104 #[.int .i64 x, .int .i64 64] w fun r w' => ∃ c : Nat, r = .returned (.int .i64 c) ∧ c ≤ 1024 ∧ Hid (c = (n + 63) / 64) ∧ w = w' := by
  subst hx
  refine (sparts_any n 64 w hn (.inr rfl)).mono ?_
  rintro r w' ⟨rfl, rfl⟩
  exact ⟨_, rfl, by omega, rfl, rfl⟩
theorem c65536 : (65536 : Int) = ((65536 : Nat) : Int) := rfl
theorem clamp_cases (n : Int) : n ≤ 0 ∧ clampN n = 0 ∨ 0 < n ∧ n < 65536 ∧ n = (clampN n : Int) ∨ 65536 ≤ n ∧ clampN n = 65536 := by
  rw [clampN]
  split <;> (try split) <;> omega
theorem clamp_le (n : Int) : clampN n ≤ 65536 := by rcases clamp_cases n with h | h | h <;> omega
theorem snew_any (n : Int) (w : World) :
    Calls Tryz.prog 77 #[.int .i64 n] w fun e w' => e = .returned (.pointer (some ⟨w.heap.size + 1, 0, none⟩)) ∧ newW w (clampN n) = w' := by
  have hmk := fun c : Nat => fun hc : c ≤ 1024 => run_make_row' (P := Tryz.prog) 150 76 (.int .u64 0) 8 Tryz.underlying150 Tryz.info62 rfl .i64 .i64 c (by omega) (by omega)
  have HM : Hid (∀ c : Nat, c ≤ 1024 → ∀ w : World, (Instr.makeSlice 150 (.int .i64 (c : Int)) (.int .i64 (c : Int))).run Tryz.prog w = .ok (.slice (some ⟨w.heap.size, 0, none⟩) c c) (w.alloc (.cells (madeCells #[.int .u64 0] c) 76))) := hmk
  clear hmk
  rcases clamp_cases n with ⟨h1, h2⟩ | ⟨h1, h2, h3⟩ | ⟨h1, h2⟩
  · rw [h2]
    clear h2
    go_enter Tryz.func77, Tryz.ntmps77
    go_wp2_with (go_at_call 104; refine (parts64 _ 0 _ rfl (by decide)).mono ?_; rintro e w' ⟨c, rfl, hc, HC, rfl⟩; have hmk := HM.out c hc)
    go_ret
    obtain rfl := HC.out
    exact ⟨rfl, rfl⟩
  · obtain ⟨m, hm⟩ : ∃ m, clampN n = m := ⟨_, rfl⟩
    have hm6 := clamp_le n
    rw [hm] at h3 hm6 ⊢
    clear hm
    subst h3
    go_enter Tryz.func77, Tryz.ntmps77
    go_wp2_with (go_at_call 104; refine (parts64 _ m _ rfl hm6).mono ?_; rintro e w' ⟨c, rfl, hc, HC, rfl⟩; have hmk := HM.out c hc)
    go_ret
    obtain rfl := HC.out
    exact ⟨rfl, rfl⟩
  · rw [h2]
    clear h2
    rcases Int.lt_or_eq_of_le h1 with h3 | rfl
    all_goals
      go_enter Tryz.func77, Tryz.ntmps77
      go_wp2_with (go_at_call 104; refine (parts64 _ 65536 _ c65536 (Nat.le_refl _)).mono ?_; rintro e w' ⟨c, rfl, hc, HC, rfl⟩; have hmk := HM.out c hc)
      go_ret
      obtain rfl := HC.out
      exact ⟨rfl, rfl⟩
end Go.Proofs.YtbfamjnnlcopiaaGreatDoor
