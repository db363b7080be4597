/- Each place is told once, as in or as out: the walk of the law SetParts. -/
import Derived.Test.YtnolbcbcboeaoaaDoorSetM
namespace Go.Proofs.YtnolbcbcboeaoaaDoor
open Go.RowKit
set_option linter.unusedVariables false

theorem next_ne (q : Nat → Bool) (N k : Nat) (h : q k = false) : nextL q N k ≠ (k : Int) := by
  rcases nextL_cases q N k with ⟨h1, _⟩ | ⟨j, h1, h2, h3, h4, _⟩
  · omega
  · rw [h1]
    intro e
    have : j = k := by omega
    rw [this, h] at h4
    cases h4

set_option maxRecDepth 20000 in
set_option maxHeartbeats 4000000 in
theorem setParts_any (n : Int) (hn0 : 0 ≤ n) (hn1 : n ≤ 65535) (a : Option Addr) (ca len : Nat) (kd ii : Nat → Int) (w : World) (hT : TabIn w) (hC : IsC w a len kd ii) (hl : len ≤ maxLen) (hi : ∀ i, i < len → kd i ≤ 9223372036854775807 ∧ ii i ≤ 9223372036854775807) :
    Calls Tryd.prog 6 #[.int .u16 n, .slice a len ca] w fun e w' => e = .returned (.bool true) ∧ Below w.heap.size w w' := by
  have HT : Hid (TabIn w) := hT
  have HC : Hid (IsC w a len kd ii) := hC
  have HI : Hid (∀ i, i < len → kd i ≤ 9223372036854775807 ∧ ii i ≤ 9223372036854775807) := hi
  have HL : Hid (len ≤ maxLen) := hl
  clear hT hC hi hl
  go_enter Tryd.func6, Tryd.ntmps6
  go_wp2_with fail
  refine (alive_any w HT.out).mono ?_
  rintro e w1 ⟨rfl, b1⟩
  have B1 : Hid (Below w.heap.size w w1) := b1
  have T1 : Hid (TabIn w1) := HT.out.keep b1 HT.out.1
  clear b1
  go_wp2_with fail
  refine (plays_any _ a ca len kd ii w1 T1.out (HC.out.keep B1.out) HL.out HI.out).mono ?_
  rintro e w2 ⟨b, g, b2, g2, f, rfl, hB⟩
  generalize clampN _ = N at hB
  have S2 : Hid (SetAt w2 b g N f) := hB.s
  have T2 : Hid (TabIn w2) := T1.out.keep hB.bel T1.out.1
  have B2 : Hid (Below w.heap.size w w2) := B1.out.trans (hB.bel.mono B1.out.size)
  have few := hB.s.few
  have hlen := hB.s.len
  clear hB
  go_wp2
  go_loop [8, 9, 10] (fun cv ov iv => ∃ k c o : Nat, k ≤ N ∧ iv = .int .i64 k ∧ cv = .int .i64 c ∧ ov = .int .i64 o ∧ c ≤ k ∧ o ≤ k ∧ Hid (cnt f k = c ∧ c + o = k)) (fun _ _ iv => N - (intOf iv).toNat)
  case atStart => exact ⟨0, 0, 0, Nat.zero_le _, rfl, rfl, rfl, Nat.le_refl _, Nat.le_refl _, rfl, rfl⟩
  case round =>
    obtain ⟨k, c, o, hk, rfl, rfl, rfl, hck, hok, HH⟩ := hrel
    by_cases hlt : k < N
    · cases hf : f k
      · have hg : outB f k = true := by rw [outB, hf]; rfl
        obtain ⟨z, hz⟩ : ∃ z, nextL f N k = z := ⟨_, rfl⟩
        have hzne : z ≠ k := by rw [← hz]; exact next_ne f N k hf
        have z1 : (z == (k : Int)) = false := by simpa using hzne
        have z2 : (z != (k : Int)) = true := by simpa using hzne
        have HF : Hid (nextL f N (Int.toNat (k : Int)) = z) := by show _ = _; rw [Int.toNat_natCast]; exact hz
        have HG : Hid (nextL (outB f) N (Int.toNat (k : Int)) = k) := by show _ = _; rw [Int.toNat_natCast]; exact nextL_at _ hlt hg
        have HV : Hid (hasB N f k = false) := by show hasB N f k = false; rw [hasB, Int.toNat_natCast, hf]; simp
        have H2 : Hid (cnt f (k + 1) = c ∧ c + (o + 1) = k + 1) := ⟨by rw [cnt, hf, HH.out.1]; simp, by have := HH.out.2; omega⟩
        clear hf hg hz hzne
        go_wp2_with (first
          | (go_at_call 12; refine (len_any b N _ hlen).mono ?_; rintro e w3 ⟨rfl, rfl⟩)
          | (go_at_call 22; refine (first_any b g N f k _ S2.out T2.out (by omega)).mono ?_; rintro e w3 ⟨rfl, rfl⟩; rw [HF.out])
          | (go_at_call 23; refine (gap_any b g N f k _ S2.out T2.out (by omega)).mono ?_; rintro e w3 ⟨rfl, rfl⟩; rw [HG.out])
          | (go_at_call 24; refine (has_any b g N f k _ S2.out).mono ?_; rintro e w3 ⟨rfl, rfl⟩; rw [HV.out]))
        go_round
        case rel => exact ⟨k + 1, c, o + 1, by omega, by go_num, rfl, by go_num, by omega, by omega, H2⟩
        case measure => simp [intOf]; omega
      · have hg : outB f k = false := by rw [outB, hf]; rfl
        obtain ⟨z, hz⟩ : ∃ z, nextL (outB f) N k = z := ⟨_, rfl⟩
        have hzne : z ≠ k := by rw [← hz]; exact next_ne _ N k hg
        have z1 : (z == (k : Int)) = false := by simpa using hzne
        have z2 : (z != (k : Int)) = true := by simpa using hzne
        have HF : Hid (nextL f N (Int.toNat (k : Int)) = k) := by show _ = _; rw [Int.toNat_natCast]; exact nextL_at _ hlt hf
        have HG : Hid (nextL (outB f) N (Int.toNat (k : Int)) = z) := by show _ = _; rw [Int.toNat_natCast]; exact hz
        have HV : Hid (hasB N f k = true) := by show hasB N f k = true; rw [hasB, Int.toNat_natCast, hf, isP_true.2 ⟨by omega, by omega⟩]; rfl
        have H2 : Hid (cnt f (k + 1) = c + 1 ∧ (c + 1) + o = k + 1) := ⟨by rw [cnt, hf, HH.out.1]; simp, by have := HH.out.2; omega⟩
        clear hf hg hz hzne
        go_wp2_with (first
          | (go_at_call 12; refine (len_any b N _ hlen).mono ?_; rintro e w3 ⟨rfl, rfl⟩)
          | (go_at_call 22; refine (first_any b g N f k _ S2.out T2.out (by omega)).mono ?_; rintro e w3 ⟨rfl, rfl⟩; rw [HF.out])
          | (go_at_call 23; refine (gap_any b g N f k _ S2.out T2.out (by omega)).mono ?_; rintro e w3 ⟨rfl, rfl⟩; rw [HG.out])
          | (go_at_call 24; refine (has_any b g N f k _ S2.out).mono ?_; rintro e w3 ⟨rfl, rfl⟩; rw [HV.out]))
        go_round
        case rel => exact ⟨k + 1, c + 1, o, by omega, by go_num, by go_num, rfl, by omega, by omega, H2⟩
        case measure => simp [intOf]; omega
    · obtain rfl : k = N := by omega
      have HF : Hid (nextL f k (Int.toNat (k : Int)) = -1) := by show _ = _; rw [Int.toNat_natCast]; exact nextL_stop _ (Nat.le_refl _)
      have HG : Hid (nextL (outB f) k (Int.toNat (k : Int)) = -1) := by show _ = _; rw [Int.toNat_natCast]; exact nextL_stop _ (Nat.le_refl _)
      have hsum : (c : Int) + (o : Int) = (k : Int) := by have := HH.out.2; omega
      go_wp2_with (first
          | (go_at_call 12; refine (len_any b k _ hlen).mono ?_; rintro e w3 ⟨rfl, rfl⟩)
          | (go_at_call 13; refine (count_any b g k f _ S2.out).mono ?_; rintro e w3 ⟨rfl, rfl⟩; rw [HH.out.1])
          | (go_at_call 22; refine (first_any b g k f k _ S2.out T2.out (by omega)).mono ?_; rintro e w3 ⟨rfl, rfl⟩; rw [HF.out])
          | (go_at_call 23; refine (gap_any b g k f k _ S2.out T2.out (by omega)).mono ?_; rintro e w3 ⟨rfl, rfl⟩; rw [HG.out]))
      go_ret
      exact ⟨rfl, B2.out⟩
end Go.Proofs.YtnolbcbcboeaoaaDoor
