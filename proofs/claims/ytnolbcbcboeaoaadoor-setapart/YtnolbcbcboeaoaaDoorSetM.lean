/- A set behind calls, beside the document's: what plays answers. -/
import Derived.Test.YtnolbcbcboeaoaaDoorSetK
namespace Go.Proofs.YtnolbcbcboeaoaaDoor
open Go.RowKit
set_option linter.unusedVariables false

/-- The set and the document's, alike, in blocks of the call's own. -/
structure Both (w0 wr : World) (b1 g1 b2 g2 N : Nat) (f : Nat → Bool) : Prop where
  s : SetAt wr b1 g1 N f
  r : RefAt wr b2 g2 N f
  bel : Below w0.heap.size w0 wr
  ge1 : w0.heap.size ≤ g1
  ge2 : w0.heap.size ≤ g2
  n1 : b1 ≠ g2
  n2 : g1 ≠ g2
  n3 : b2 ≠ g1
  h1 : w0.heap.size ≤ b1

theorem both_turn {w0 wr w3 w4 : World} {b1 g1 b2 g2 N : Nat} {f : Nat → Bool} {x : Int} {c : Bool} (h : Both w0 wr b1 g1 b2 g2 N f)
    (s3 : SetAt w3 b1 g1 N (turn N f x c)) (o3 : Only g1 wr w3) (r4 : RefAt w4 b2 g2 N (turn N f x c)) (o4 : Only g2 w3 w4) : Both w0 w4 b1 g1 b2 g2 N (turn N f x c) where
  s := s3.beside o4 h.n1 h.n2
  r := r4
  bel := (h.bel.trans (o3.below h.ge1)).trans (o4.below h.ge2)
  ge1 := h.ge1
  ge2 := h.ge2
  n1 := h.n1
  n2 := h.n2
  n3 := h.n3
  h1 := h.h1

theorem eq_true (b : Bool) : (b == b) = true := by cases b <;> rfl
theorem put_add (p v : Bool) : (p && (v != true)) = (p && !v) := by cases p <;> cases v <;> rfl
theorem put_del (p v : Bool) : (p && (v != false)) = (p && v) := by cases p <;> cases v <;> rfl
theorem is_in (f : Nat → Bool) : ∀ i, (f i == true) = f i := fun i => by cases f i <;> rfl
theorem is_out (f : Nat → Bool) : ∀ i, (f i == false) = outB f i := fun i => by rw [outB]; cases f i <;> rfl

set_option maxRecDepth 20000 in
set_option maxHeartbeats 4000000 in
theorem plays_any (n : Int) (a : Option Addr) (ca len : Nat) (kd ii : Nat → Int) (w : World) (hT : TabIn w) (hC : IsC w a len kd ii) (hl : len ≤ maxLen) (hi : ∀ i, i < len → kd i ≤ 9223372036854775807 ∧ ii i ≤ 9223372036854775807) :
    Calls Tryd.prog 10 #[.int .i64 n, .slice a len ca] w fun e w' => ∃ b1 g1 b2 g2 f, e = .returned (.tuple #[.pointer (some ⟨b1, 0, none⟩), .pointer (some ⟨b2, 0, none⟩), .bool true]) ∧ Both w w' b1 g1 b2 g2 (clampN n) f := by
  have HT : Hid (TabIn w) := hT
  have HC : Hid (IsC w a len kd ii) := hC
  have HI : Hid (∀ i, i < len → kd i ≤ 9223372036854775807 ∧ ii i ≤ 9223372036854775807) := hi
  unfold maxLen at hl
  obtain ⟨N, hN⟩ : ∃ N, clampN n = N := ⟨_, rfl⟩
  have few := clamp_le n
  have HN : Hid (clampN n = N) := hN
  rw [hN] at few ⊢
  clear hT hC hi hN
  go_enter Tryd.func10, Tryd.ntmps10
  go_wp2_with fail
  refine (new_any n w).mono ?_
  rintro e w1 ⟨rfl, hw1⟩
  go_wp2_with fail
  refine (rnew_any n w1).mono ?_
  rintro e w2 ⟨rfl, hw2⟩
  rw [HN.out] at hw1 hw2
  have sz1 : w1.heap.size = w.heap.size + 2 := by rw [← hw1, newW]; simp
  have B0 : Both w w2 (w.heap.size + 1) w.heap.size (w1.heap.size + 1) w1.heap.size N (fun _ => false) := by
    have bb : Below w1.heap.size w1 w2 := by rw [← hw2]; exact rnewW_below w1 N
    refine ⟨?_, by rw [← hw2]; exact rnewW_at w1 N few, ?_, Nat.le_refl _, by omega, by omega, by omega, by omega, by omega⟩
    · have s1 : SetAt w1 (w.heap.size + 1) w.heap.size N (fun _ => false) := by rw [← hw1]; exact newW_at w N few
      exact s1.keepAll bb
    · have b1 : Below w.heap.size w w1 := by rw [← hw1]; exact newW_below w N
      exact b1.trans (bb.mono b1.size)
  obtain ⟨b1, hb1⟩ : ∃ b, w.heap.size + 1 = b := ⟨_, rfl⟩
  obtain ⟨b2, hb2⟩ : ∃ b, w1.heap.size + 1 = b := ⟨_, rfl⟩
  obtain ⟨g1, hg1⟩ : ∃ b, w.heap.size = b := ⟨_, rfl⟩
  obtain ⟨g2, hg2⟩ : ∃ b, w1.heap.size = b := ⟨_, rfl⟩
  rw [hb1, hb2, hg2] at B0
  rw [hb1, hb2]
  have HB0 : Hid (Both w w2 b1 w.heap.size b2 g2 N (fun _ => false)) := B0
  clear hb1 hb2 hg2 hw1 hw2 sz1 B0 hg1
  go_wp2
  go_loopw [9] (fun iv wr => ∃ (k : Nat) (f : Nat → Bool), k ≤ len ∧ k ≤ 300 ∧ iv = .int .i64 k ∧ Both w wr b1 w.heap.size b2 g2 N f) (fun iv _ => 300 - (intOf iv).toNat)
  case atStart => exact ⟨0, fun _ => false, Nat.zero_le _, by omega, rfl, HB0.out⟩
  case round =>
    obtain ⟨k, f, hk, hk3, rfl, hB⟩ := hrel
    have HB : Hid (Both w _ b1 w.heap.size b2 g2 N f) := hB
    clear hB
    by_cases hlt : k < len ∧ k < 300
    · obtain ⟨hk1, hk2⟩ := hlt
      have hi := HI.out k hk1
      obtain h0 | ⟨bl, off, rfl, hbs, hc⟩ := HC.out
      · omega
      have hcK := (HB.out.bel.cell (p := ⟨bl, off + k * 2, none⟩) hbs).trans (hc k hk1).1
      have hcI := (HB.out.bel.cell (p := ⟨bl, off + k * 2 + 1, none⟩) hbs).trans (hc k hk1).2
      obtain ⟨x, hx⟩ : ∃ x, ii k = x := ⟨_, rfl⟩
      obtain ⟨K, hK⟩ : ∃ K, kd k = K := ⟨_, rfl⟩
      rw [hx] at hcI hi
      rw [hK] at hcK
      have hxm : x ≤ 9223372036854775807 := hi.2
      clear hc hx hK hi
      by_cases K1 : K = 1
      · subst K1
        obtain ⟨v, hv⟩ : ∃ v, (isP N x && !f x.toNat) = v := ⟨_, rfl⟩
        have HV : Hid ((isP N x && !f x.toNat) = v) := hv
        have he := eq_true v
        clear hv
        go_wp2_with fail
        refine (add_any b1 w.heap.size N f x _ HB.out.s).mono ?_
        rintro e w3 ⟨rfl, s3, o3⟩
        rw [HV.out]
        have S3 : Hid (SetAt w3 b1 w.heap.size N (turn N f x true)) := s3
        have O3 : Hid (Only w.heap.size _ w3) := o3
        clear s3 o3
        go_wp2_with fail
        refine (put_any b2 g2 N f x true _ (HB.out.r.beside O3.out HB.out.n3 (Ne.symm HB.out.n2))).mono ?_
        rintro e w4 ⟨rfl, r4, o4⟩
        rw [put_add, HV.out]
        have HB4 : Hid (Both w w4 b1 w.heap.size b2 g2 N (turn N f x true)) := both_turn HB.out S3.out O3.out r4 o4
        clear r4 o4 S3 O3 HB
        go_wp2
        go_roundw
        case rel => exact ⟨k + 1, _, by omega, by omega, by go_num, HB4.out⟩
        case measure => simp [intOf]; omega
      by_cases K2 : K = 2
      · subst K2
        obtain ⟨v, hv⟩ : ∃ v, hasB N f x = v := ⟨_, rfl⟩
        have HV : Hid (hasB N f x = v) := hv
        have he := eq_true v
        clear hv K1
        go_wp2_with fail
        refine (del_any b1 w.heap.size N f x _ HB.out.s).mono ?_
        rintro e w3 ⟨rfl, s3, o3⟩
        rw [HV.out]
        have S3 : Hid (SetAt w3 b1 w.heap.size N (turn N f x false)) := s3
        have O3 : Hid (Only w.heap.size _ w3) := o3
        clear s3 o3
        go_wp2_with fail
        refine (put_any b2 g2 N f x false _ (HB.out.r.beside O3.out HB.out.n3 (Ne.symm HB.out.n2))).mono ?_
        rintro e w4 ⟨rfl, r4, o4⟩
        rw [put_del, ← hasB, HV.out]
        have HB4 : Hid (Both w w4 b1 w.heap.size b2 g2 N (turn N f x false)) := both_turn HB.out S3.out O3.out r4 o4
        clear r4 o4 S3 O3 HB
        go_wp2
        go_roundw
        case rel => exact ⟨k + 1, _, by omega, by omega, by go_num, HB4.out⟩
        case measure => simp [intOf]; omega
      by_cases K3 : K = 3
      · subst K3
        have hins := HB.out.r.ins
        clear K1 K2
        by_cases h0 : 0 ≤ x
        · obtain ⟨y, rfl⟩ : ∃ y : Nat, x = y := ⟨x.toNat, by omega⟩
          by_cases hyN : y < N
          · have hcell := HB.out.r.cell y hyN
            have HV : Hid (hasB N f y = f y) := by show hasB N f y = f y; rw [hasB, isP_true.2 ⟨by omega, by omega⟩, Int.toNat_natCast]; rfl
            cases hf : f y
            all_goals
              have HF : Hid (f y = _) := hf
              rw [hf] at hcell
              clear hf
              go_wp2_with (go_at_call 24; refine (has_any b1 w.heap.size N f y _ HB.out.s).mono ?_; rintro e w3 ⟨rfl, rfl⟩; rw [HV.out, HF.out])
              go_roundw
              case rel => exact ⟨k + 1, _, by omega, by omega, by go_num, HB.out⟩
              case measure => simp [intOf]; omega
          · have HV : Hid (hasB N f y = false) := by show hasB N f y = false; rw [hasB, isP_false.2 (by omega)]; rfl
            go_wp2_with (go_at_call 24; refine (has_any b1 w.heap.size N f y _ HB.out.s).mono ?_; rintro e w3 ⟨rfl, rfl⟩; rw [HV.out])
            go_roundw
            case rel => exact ⟨k + 1, _, by omega, by omega, by go_num, HB.out⟩
            case measure => simp [intOf]; omega
        · have HV : Hid (hasB N f x = false) := by show hasB N f x = false; rw [hasB, isP_false.2 (by omega)]; rfl
          go_wp2_with (go_at_call 24; refine (has_any b1 w.heap.size N f x _ HB.out.s).mono ?_; rintro e w3 ⟨rfl, rfl⟩; rw [HV.out])
          go_roundw
          case rel => exact ⟨k + 1, _, by omega, by omega, by go_num, HB.out⟩
          case measure => simp [intOf]; omega
      by_cases K4 : K = 4
      · subst K4
        have T3 : Hid (TabIn _) := HT.out.keep HB.out.bel HT.out.1
        clear K1 K2 K3
        go_wp2_with (first | (go_at_call 22; refine (first_any b1 w.heap.size N f x _ HB.out.s T3.out hxm).mono ?_; rintro e w3 ⟨rfl, rfl⟩) | (go_at_call 31; refine (rnext_any b2 g2 N f f x true (is_in f) _ HB.out.r hxm).mono ?_; rintro e w4 ⟨rfl, rfl⟩))
        go_roundw
        case rel => exact ⟨k + 1, _, by omega, by omega, by go_num, HB.out⟩
        case measure => simp [intOf]; omega
      by_cases K5 : K = 5
      · subst K5
        have T3 : Hid (TabIn _) := HT.out.keep HB.out.bel HT.out.1
        clear K1 K2 K3 K4
        go_wp2_with (first | (go_at_call 23; refine (gap_any b1 w.heap.size N f x _ HB.out.s T3.out hxm).mono ?_; rintro e w3 ⟨rfl, rfl⟩) | (go_at_call 31; refine (rnext_any b2 g2 N f (outB f) x false (is_out f) _ HB.out.r hxm).mono ?_; rintro e w4 ⟨rfl, rfl⟩))
        go_roundw
        case rel => exact ⟨k + 1, _, by omega, by omega, by go_num, HB.out⟩
        case measure => simp [intOf]; omega
      · have e1 : (K == 1) = false := by simpa using K1
        have e2 : (K == 2) = false := by simpa using K2
        have e3 : (K == 3) = false := by simpa using K3
        have e4 : (K == 4) = false := by simpa using K4
        have e5 : (K == 5) = false := by simpa using K5
        clear K1 K2 K3 K4 K5
        go_wp2
        go_roundw
        case rel => exact ⟨k + 1, _, by omega, by omega, by go_num, HB.out⟩
        case measure => simp [intOf]; omega
    · by_cases hk2 : k < len
      all_goals
        first | (have hd5 : decide ((k : Int) < 300) = false := by simp; omega) | (have hd5 : decide ((k : Int) < (len : Int)) = false := by simp; omega)
        clear hlt
        go_wp2
        exact bodyPost_ret (v := .tuple #[.pointer (some ⟨b1, 0, none⟩), .pointer (some ⟨b2, 0, none⟩), .bool true]) (by simp [results, Tryd.results10, go_sem]) rfl ⟨b1, w.heap.size, b2, g2, f, rfl, HB.out⟩
end Go.Proofs.YtnolbcbcboeaoaaDoor
