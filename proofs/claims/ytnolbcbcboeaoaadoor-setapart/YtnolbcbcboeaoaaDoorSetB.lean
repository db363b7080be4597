/- A set in memory: what Len, isPlace, Has and Count answer. -/
import Derived.Test.YtnolbcbcboeaoaaDoorSetA
namespace Go.Proofs.YtnolbcbcboeaoaaDoor
open Go.RowKit
set_option linter.unusedVariables false

/-- A set of n places in the block b, its words in the block g; f says which are in. -/
structure SetAt (w : World) (b g n : Nat) (f : Nat → Bool) : Prop where
  len : w.cell? ⟨b, 0, none⟩ = some (.int .i64 n)
  words : w.cell? ⟨b, 1, none⟩ = some (.slice (some ⟨g, 0, none⟩) ((n + 63) / 64) ((n + 63) / 64))
  word : ∀ j, j < (n + 63) / 64 → w.cell? ⟨g, j, none⟩ = some (.int .u64 (wd f j : Nat))
  thawed : ∀ j, w.frozen? ⟨g, j, none⟩ = false
  few : n ≤ 65536
  within : ∀ i, f i = true → i < n
  hb : b < w.heap.size
  hg : g < w.heap.size
  apart : b ≠ g

theorem len_any (b n : Nat) (w : World) (h : w.cell? ⟨b, 0, none⟩ = some (.int .i64 n)) :
    Calls Tryd.prog 12 #[.pointer (some ⟨b, 0, none⟩)] w fun e w' => e = .returned (.int .i64 n) ∧ w = w' := by
  go_enter Tryd.func12, Tryd.ntmps12
  go_wp2
  go_ret
  exact ⟨rfl, rfl⟩

theorem len_nil (w : World) :
    Calls Tryd.prog 12 #[.pointer none] w fun e w' => e = .returned (.int .i64 0) ∧ w = w' := by
  go_enter Tryd.func12, Tryd.ntmps12
  go_wp2
  go_ret
  exact ⟨rfl, rfl⟩

/-- Is there such a place? -/
def isP (n : Nat) (i : Int) : Bool := decide (0 ≤ i ∧ i < n)

theorem isP_true {n : Nat} {i : Int} : isP n i = true ↔ 0 ≤ i ∧ i < n := by simp [isP]
theorem isP_false {n : Nat} {i : Int} : isP n i = false ↔ ¬ (0 ≤ i ∧ i < n) := by simp [isP]

theorem isPlace_any (b n : Nat) (i : Int) (w : World) (h : w.cell? ⟨b, 0, none⟩ = some (.int .i64 n)) :
    Calls Tryd.prog 35 #[.pointer (some ⟨b, 0, none⟩), .int .i64 i] w fun e w' => e = .returned (.bool (isP n i)) ∧ w = w' := by
  by_cases h0 : 0 ≤ i
  · go_enter Tryd.func35, Tryd.ntmps35
    go_wp2_with (go_at_call 12; refine (len_any b n _ h).mono ?_; rintro e w' ⟨rfl, rfl⟩)
    go_ret
    exact ⟨ret_bool (by simp [isP, h0]), rfl⟩
  · have h1 : i < 0 := by omega
    go_enter Tryd.func35, Tryd.ntmps35
    go_wp2_with (go_at_call 12; refine (len_any b n _ h).mono ?_; rintro e w' ⟨rfl, rfl⟩)
    go_ret
    exact ⟨ret_bool (by simp [isP]; omega), rfl⟩

theorem isPlace_nil (i : Int) (w : World) :
    Calls Tryd.prog 35 #[.pointer none, .int .i64 i] w fun e w' => e = .returned (.bool false) ∧ w = w' := by
  by_cases h0 : 0 ≤ i
  · go_enter Tryd.func35, Tryd.ntmps35
    go_wp2_with (go_at_call 12; refine (len_nil _).mono ?_; rintro e w' ⟨rfl, rfl⟩)
    go_ret
    exact ⟨ret_bool (by simp; omega), rfl⟩
  · have h1 : i < 0 := by omega
    go_enter Tryd.func35, Tryd.ntmps35
    go_wp2_with (go_at_call 12; refine (len_nil _).mono ?_; rintro e w' ⟨rfl, rfl⟩)
    go_ret
    exact ⟨ret_bool (by simp), rfl⟩

/-- Is a place in? -/
def hasB (n : Nat) (f : Nat → Bool) (i : Int) : Bool := isP n i && f i.toNat

theorem has_int (f : Nat → Bool) (i : Nat) : (((wd f (i / 64) : Nat) : Int) / 2 ^ (i % 64) % 2 == 1) = f i := by
  have h := has_word f i
  have e : ((wd f (i / 64) : Nat) : Int) / 2 ^ (i % 64) % 2 = ((wd f (i / 64) / 2 ^ (i % 64) % 2 : Nat) : Int) := by simp
  rw [e, h]
  cases f i <;> rfl

theorem has_any (b g n : Nat) (f : Nat → Bool) (i : Int) (w : World) (h : SetAt w b g n f) :
    Calls Tryd.prog 24 #[.pointer (some ⟨b, 0, none⟩), .int .i64 i] w fun e w' => e = .returned (.bool (hasB n f i)) ∧ w = w' := by
  have hl := h.len
  have hs := h.words
  have few := h.few
  cases hp : isP n i
  · have HP : Hid (isP n i = false) := hp
    go_enter Tryd.func24, Tryd.ntmps24
    go_wp2_with (go_at_call 35; refine (isPlace_any b n i _ hl).mono ?_; rintro e w' ⟨rfl, rfl⟩; rw [HP.out])
    go_ret
    exact ⟨ret_bool (by rw [hasB, HP.out]; rfl), rfl⟩
  · have HP : Hid (isP n i = true) := hp
    obtain ⟨h0, h1⟩ := isP_true.1 hp
    obtain ⟨k, rfl⟩ : ∃ k : Nat, i = k := ⟨i.toNat, by omega⟩
    have hj : k / 64 < (n + 63) / 64 := by omega
    have hw := h.word (k / 64) hj
    have hlt := wd_lt f (k / 64)
    have HH : Hid ((((wd f (k / 64) : Nat) : Int) / 2 ^ (k % 64) % 2 == 1) = f k) := has_int f k
    clear hp h
    go_enter Tryd.func24, Tryd.ntmps24
    go_wp2_with (go_at_call 35; refine (isPlace_any b n k _ hl).mono ?_; rintro e w' ⟨rfl, rfl⟩; rw [HP.out])
    go_ret
    refine ⟨ret_bool ?_, rfl⟩
    rw [hasB, HP.out]
    exact HH.out

theorem ones_of (x : Nat) (w : World) (h : x < 18446744073709551616) :
    Calls Tryd.prog 32 #[.int .u64 x] w fun e w' => ∃ c : Nat, e = .returned (.int .i64 c) ∧ c ≤ 64 ∧ Hid (Lib.popAux 64 x = c) ∧ w = w' := by
  refine (ones_any x w h).mono ?_
  rintro e w' ⟨rfl, rfl⟩
  exact ⟨_, rfl, popAux_le 64 x, rfl, rfl⟩

theorem count_any (b g n : Nat) (f : Nat → Bool) (w : World) (h : SetAt w b g n f) :
    Calls Tryd.prog 13 #[.pointer (some ⟨b, 0, none⟩)] w fun e w' => e = .returned (.int .i64 (cnt f n : Nat)) ∧ w = w' := by
  have hs := h.words
  have few := h.few
  have hw := h.word
  have E : Hid (cnt f (64 * ((n + 63) / 64)) = cnt f n) := by
    have := cnt_beyond f n h.within (64 * ((n + 63) / 64) - n)
    rw [show n + (64 * ((n + 63) / 64) - n) = 64 * ((n + 63) / 64) from by omega] at this
    exact this
  clear h
  go_enter Tryd.func13, Tryd.ntmps13
  go_wp2
  go_loop [3, 13] (fun c i => ∃ k : Nat, k ≤ (n + 63) / 64 ∧ i = .int .i64 k ∧ c = .int .i64 (cnt f (64 * k) : Nat)) (fun _ i => (n + 63) / 64 - (intOf i).toNat)
  case atStart => exact ⟨0, Nat.zero_le _, rfl, rfl⟩
  case round =>
    obtain ⟨k, hk, rfl, rfl⟩ := hrel
    have hc := cnt_le f (64 * k)
    by_cases hlt : k < (n + 63) / 64
    · have hcell := hw k hlt
      have hx := wd_lt f k
      go_wp2_with (go_at_call 32; refine (ones_of (wd f k) _ hx).mono ?_; rintro e w' ⟨c, rfl, hc64, HC, rfl⟩)
      go_round
      case rel => exact ⟨k + 1, by omega, by go_num, by rw [cnt_word, HC.out]; go_num⟩
      case measure => simp [intOf]; omega
    · obtain rfl : k = (n + 63) / 64 := by omega
      go_wp2
      go_ret
      exact ⟨ret_int (by rw [E.out]), rfl⟩
end Go.Proofs.YtnolbcbcboeaoaaDoor
