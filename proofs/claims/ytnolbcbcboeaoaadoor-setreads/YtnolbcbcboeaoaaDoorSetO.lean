/- Whatever bytes are read as a set: the walk of the law SetReads. -/
import Derived.Test.YtnolbcbcboeaoaaDoorSetV
import Derived.Test.YtnolbcbcboeaoaaDoorSetX
namespace Go.Proofs.YtnolbcbcboeaoaaDoor
open Go.RowKit
set_option linter.unusedVariables false

/-- The bytes are refused, with this number. -/
def outC (n : Int) (l : List Int) (c : Int) : Prop :=
  ((n < 0 ∨ 65536 < n) ∧ c = 2) ∨ ∃ N : Nat, n = N ∧ N ≤ 65536 ∧ ((l.length < (N + 7) / 8 ∧ c = 3) ∨ ((N + 7) / 8 < l.length ∧ c = 6) ∨ (l.length = (N + 7) / 8 ∧ (∃ i, fB l i = true ∧ N ≤ i) ∧ c = 4))

theorem outC_one {n : Int} {l : List Int} {c d : Int} (h : outC n l c) (k : outC n l d) : c = d := by
  rcases h with ⟨h1, h2⟩ | ⟨N, h1, h2, h3⟩
  · rcases k with ⟨k1, k2⟩ | ⟨M, k1, k2, k3⟩
    · omega
    · exfalso; clear k3; omega
  · rcases k with ⟨k1, k2⟩ | ⟨M, k1, k2, k3⟩
    · exfalso; clear h3; omega
    · have : N = M := by clear h3 k3; omega
      subst this
      rcases h3 with h3 | h3 | ⟨h3, _, h4⟩ <;> rcases k3 with k3 | k3 | ⟨k3, _, k4⟩ <;> omega

theorem outC_ne {n : Int} {l : List Int} {c : Int} (h : outC n l c) : c ≠ 0 := by
  rcases h with ⟨h1, h2⟩ | ⟨N, h1, h2, h3⟩
  · omega
  · rcases h3 with h3 | h3 | ⟨_, _, h3⟩ <;> omega

theorem outC_not {n : Int} {l : List Int} {c : Int} (h : outC n l c) (N : Nat) (hN : n = N) (h6 : N ≤ 65536) (hl : l.length = (N + 7) / 8) (hw : ∀ i, fB l i = true → i < N) : False := by
  rcases h with ⟨h1, h2⟩ | ⟨M, h1, h2, h3⟩
  · omega
  · have : N = M := by clear h3; omega
    subst this
    rcases h3 with h3 | h3 | ⟨_, ⟨i, hi, hi2⟩, _⟩
    · omega
    · omega
    · have := hw i hi; omega

theorem read_gen (n : Int) (a : Option Addr) (cap : Nat) (l : List Int) (w : World) (hb : ∀ x ∈ l, 0 ≤ x ∧ x ≤ 255) (hL : IsL w .u8 a l) (hl : l.length ≤ maxLen) :
    Calls Tryd.prog 20 #[.int .i64 n, .slice a l.length cap] w fun e w' =>
      (∃ c, e = .returned (.tuple #[.pointer none, .int .i64 c]) ∧ outC n l c ∧ Below w.heap.size w w') ∨
      (∃ N b g : Nat, e = .returned (.tuple #[.pointer (some ⟨b, 0, none⟩), .int .i64 0]) ∧ n = N ∧ l.length = (N + 7) / 8 ∧ SetAt w' b g N (fB l) ∧ Below w.heap.size w w') := by
  by_cases h : n < 0 ∨ 65536 < n
  · refine (read_arg n a cap l.length w h).mono ?_
    rintro e w' ⟨rfl, rfl⟩
    exact .inl ⟨2, rfl, .inl ⟨h, rfl⟩, Below.refl _ _⟩
  · obtain ⟨N, rfl⟩ : ∃ N : Nat, n = N := ⟨n.toNat, by omega⟩
    have hN : N ≤ 65536 := by omega
    rcases Nat.lt_trichotomy l.length ((N + 7) / 8) with h1 | h1 | h1
    · refine ((read_length N a cap l.length w hN hl).1 h1).mono ?_
      rintro e w' ⟨rfl, rfl⟩
      exact .inl ⟨3, rfl, .inr ⟨N, rfl, hN, .inl ⟨h1, rfl⟩⟩, Below.refl _ _⟩
    · refine (read_any N a cap l w hN hb hL h1).mono ?_
      rintro e w' (⟨rfl, rfl, hx⟩ | ⟨rfl, hS, hB⟩)
      · exact .inl ⟨4, rfl, .inr ⟨N, rfl, hN, .inr (.inr ⟨h1, hx, rfl⟩)⟩, Below.refl _ _⟩
      · exact .inr ⟨N, _, _, rfl, rfl, h1, hS, hB⟩
    · refine ((read_length N a cap l.length w hN hl).2 h1).mono ?_
      rintro e w' ⟨rfl, rfl⟩
      exact .inl ⟨6, rfl, .inr ⟨N, rfl, hN, .inr (.inl ⟨h1, rfl⟩)⟩, Below.refl _ _⟩

theorem rread_gen (n : Int) (a : Option Addr) (cap : Nat) (l : List Int) (w : World) (hb : ∀ x ∈ l, 0 ≤ x ∧ x ≤ 255) (hL : IsL w .u8 a l) (hl : l.length ≤ maxLen) :
    Calls Tryd.prog 21 #[.int .i64 n, .slice a l.length cap] w fun e w' =>
      (∃ c, e = .returned (.tuple #[.pointer none, .int .i64 c]) ∧ outC n l c ∧ Below w.heap.size w w') ∨
      (∃ N b g : Nat, e = .returned (.tuple #[.pointer (some ⟨b, 0, none⟩), .int .i64 0]) ∧ n = N ∧ l.length = (N + 7) / 8 ∧ RefAt w' b g N (fB l) ∧ Below w.heap.size w w') := by
  by_cases h : n < 0 ∨ 65536 < n
  · refine (rread_arg n a cap l.length w h).mono ?_
    rintro e w' ⟨rfl, rfl⟩
    exact .inl ⟨2, rfl, .inl ⟨h, rfl⟩, Below.refl _ _⟩
  · obtain ⟨N, rfl⟩ : ∃ N : Nat, n = N := ⟨n.toNat, by omega⟩
    have hN : N ≤ 65536 := by omega
    rcases Nat.lt_trichotomy l.length ((N + 7) / 8) with h1 | h1 | h1
    · refine ((rread_length N a cap l.length w hN hl).1 h1).mono ?_
      rintro e w' ⟨rfl, rfl⟩
      exact .inl ⟨3, rfl, .inr ⟨N, rfl, hN, .inl ⟨h1, rfl⟩⟩, Below.refl _ _⟩
    · refine (rread_any N a cap l w hN hb hL h1).mono ?_
      rintro e w' (⟨rfl, hB, hx⟩ | ⟨rfl, hS, hB⟩)
      · exact .inl ⟨4, rfl, .inr ⟨N, rfl, hN, .inr (.inr ⟨h1, hx, rfl⟩)⟩, hB⟩
      · exact .inr ⟨N, _, _, rfl, rfl, h1, hS, hB⟩
    · refine ((rread_length N a cap l.length w hN hl).2 h1).mono ?_
      rintro e w' ⟨rfl, rfl⟩
      exact .inl ⟨6, rfl, .inr ⟨N, rfl, hN, .inr (.inl ⟨h1, rfl⟩)⟩, Below.refl _ _⟩

theorem bys_fB (l : List Int) (hb : ∀ x ∈ l, 0 ≤ x ∧ x ≤ 255) : bysL (fB l) l.length = l := by
  refine List.ext_getElem (bysL_len _ _) fun j h1 h2 => ?_
  have := bysL_at (fB l) l.length j h2
  rw [byt_fB l hb] at this
  simpa [List.getD, h1, h2] using this

set_option maxRecDepth 20000 in
set_option maxHeartbeats 4000000 in
theorem setReads_any (n : Int) (a : Option Addr) (cap : Nat) (l : List Int) (w : World) (hT : TabIn w) (hb : ∀ x ∈ l, 0 ≤ x ∧ x ≤ 255) (hL : IsL w .u8 a l) (hnil : a = none → l = [] ∧ cap = 0) (hl : l.length ≤ maxLen) (hbig : l.length ≤ 140737488355328) :
    Calls Tryd.prog 4 #[.int .i64 n, .slice a l.length cap] w fun e w' => e = .returned (.bool true) ∧ Below w.heap.size w w' := by
  have HT : Hid (TabIn w) := hT
  have HL : Hid (IsL w .u8 a l) := hL
  have HB : Hid (∀ x ∈ l, 0 ≤ x ∧ x ≤ 255) := hb
  have HN : Hid (a = none → l = [] ∧ cap = 0) := hnil
  have HM : Hid (l.length ≤ maxLen) := hl
  clear hT hL hb hnil hl
  go_enter Tryd.func4, Tryd.ntmps4
  go_wp2_with fail
  refine (alive_any w HT.out).mono ?_
  rintro e w1 ⟨rfl, b1⟩
  have B1 : Hid (Below w.heap.size w w1) := b1
  have L1 : Hid (IsL w1 .u8 a l) := HL.out.keep b1
  clear b1
  go_wp2_with fail
  refine (copy01_any a cap l w1 L1.out HN.out hbig).mono ?_
  rintro e w2 ⟨a2, c2, rfl, l2, b2⟩
  have B2 : Hid (Below w.heap.size w w2) := B1.out.trans (b2.mono B1.out.size)
  have L2 : Hid (IsL w2 .u8 a l) := L1.out.keep b2
  have I2 : Hid (IsL w2 .u8 a2 l) := l2
  clear b2 l2 L1 B1
  go_wp2_with fail
  refine (read_gen n a2 c2 l w2 HB.out I2.out HM.out).mono ?_
  rintro e w3 (⟨c, rfl, hc, b3⟩ | ⟨N, b, g, rfl, hnN, hlN, hS, b3⟩)
  · have B3 : Hid (Below w.heap.size w w3) := B2.out.trans (b3.mono B2.out.size)
    have L3 : Hid (IsL w3 .u8 a l) := L2.out.keep b3
    have I3 : Hid (IsL w3 .u8 a2 l) := I2.out.keep b3
    have HC : Hid (outC n l c) := hc
    have hcn : (c != 0) = true := by have := outC_ne hc; simpa using this
    have hcc : (c != c) = false := by simp
    clear hc b3 L2 I2 B2
    go_wp2_with fail
    refine (rread_gen n a cap l w3 HB.out L3.out HM.out).mono ?_
    rintro e w4 (⟨d, rfl, hd, b4⟩ | ⟨N, b, g, rfl, hnN, hlN, hR, b4⟩)
    · obtain rfl := outC_one HC.out hd
      have B4 : Hid (Below w.heap.size w w4) := B3.out.trans (b4.mono B3.out.size)
      have L4 : Hid (IsL w4 .u8 a l) := L3.out.keep b4
      have I4 : Hid (IsL w4 .u8 a2 l) := I3.out.keep b4
      clear hd b4
      go_wp2_with (go_at_call 16; refine (same_true a2 a _ _ c2 cap l _ HB.out I4.out L4.out rfl rfl).mono ?_; rintro e wx ⟨rfl, rfl⟩)
      go_ret
      exact ⟨rfl, B4.out⟩
    · exact (outC_not HC.out N hnN hR.few hlN hR.within).elim
  · have B3 : Hid (Below w.heap.size w w3) := B2.out.trans (b3.mono B2.out.size)
    have L3 : Hid (IsL w3 .u8 a l) := L2.out.keep b3
    have I3 : Hid (IsL w3 .u8 a2 l) := I2.out.keep b3
    have S3 : Hid (SetAt w3 b g N (fB l)) := hS
    have NN : Hid (n = N) := hnN
    have LN : Hid (l.length = (N + 7) / 8) := hlN
    clear hS b3 L2 I2 B2 hnN hlN
    go_wp2_with fail
    refine (rread_gen n a cap l w3 HB.out L3.out HM.out).mono ?_
    rintro e w4 (⟨d, rfl, hd, b4⟩ | ⟨N2, b2, g2, rfl, hnN, hlN, hR, b4⟩)
    · exact (outC_not hd N NN.out S3.out.few LN.out S3.out.within).elim
    · obtain rfl : N = N2 := by have := NN.out; omega
      have B4 : Hid (Below w.heap.size w w4) := B3.out.trans (b4.mono B3.out.size)
      have L4 : Hid (IsL w4 .u8 a l) := L3.out.keep b4
      have I4 : Hid (IsL w4 .u8 a2 l) := I3.out.keep b4
      have S4 : Hid (SetAt w4 b g N (fB l)) := S3.out.keepAll b4
      have R4 : Hid (RefAt w4 b2 g2 N (fB l)) := hR
      have T4 : Hid (TabIn w4) := HT.out.keep B4.out HT.out.1
      have hlen4 := S4.out.len
      have few := S4.out.few
      have hnn : n = N := hnN
      subst hnn
      clear b4 hR L3 I3 S3 B3 hlN
      go_wp2_with (first | (go_at_call 16; refine (same_true a2 a _ _ c2 cap l _ HB.out I4.out L4.out rfl rfl).mono ?_; rintro e wx ⟨rfl, rfl⟩) | (go_at_call 12; refine (len_any b N _ hlen4).mono ?_; rintro e wx ⟨rfl, rfl⟩))
      refine (list_any b g N (fB l) w4 S4.out T4.out).mono ?_
      rintro e w5 ⟨a5, c5, rfl, o5, b5⟩
      have B5 : Hid (Below w.heap.size w w5) := B4.out.trans (b5.mono B4.out.size)
      have L5 : Hid (IsL w5 .u8 a l) := L4.out.keep b5
      have S5 : Hid (SetAt w5 b g N (fB l)) := S4.out.keepAll b5
      have R5 : Hid (RefAt w5 b2 g2 N (fB l)) := R4.out.keepAll b5
      have O5 : Hid (IsL w5 .i64 a5 (lsL (fB l) N)) := o5.isL
      clear b5 o5
      go_wp2_with fail
      refine (rlist_any b2 g2 N (fB l) w5 R5.out).mono ?_
      rintro e w6 ⟨a6, c6, rfl, o6, b6⟩
      have B6 : Hid (Below w.heap.size w w6) := B5.out.trans (b6.mono B5.out.size)
      have L6 : Hid (IsL w6 .u8 a l) := L5.out.keep b6
      have S6 : Hid (SetAt w6 b g N (fB l)) := S5.out.keepAll b6
      have P6 : Hid (IsL w6 .i64 a5 (lsL (fB l) N)) := O5.out.keep b6
      have O6 : Hid (IsL w6 .i64 a6 (lsL (fB l) N)) := o6.isL
      clear b6 o6
      go_wp2_with fail
      refine (ints_true a5 a6 _ _ c5 c6 (lsL (fB l) N) w6 P6.out O6.out rfl rfl (by rw [lsL_len]; exact Nat.le_trans (cnt_le _ N) few)).mono ?_
      rintro e w7 ⟨rfl, b7⟩
      have B7 : Hid (Below w.heap.size w w7) := B6.out.trans (b7.mono B6.out.size)
      have L7 : Hid (IsL w7 .u8 a l) := L6.out.keep b7
      have S7 : Hid (SetAt w7 b g N (fB l)) := S6.out.keepAll b7
      clear b7
      go_wp2_with fail
      refine (bytes_any b g N (fB l) w7 S7.out).mono ?_
      rintro e w8 ⟨rfl, f8, b8⟩
      have B8 : Hid (Below w.heap.size w w8) := B7.out.trans (b8.mono B7.out.size)
      have L8 : Hid (IsL w8 .u8 a l) := L7.out.keep b8
      have F8 : Hid (IsL w8 .u8 (some ⟨w7.heap.size, 0, none⟩) l) := by
        have := f8.isL
        rw [← LN.out, bys_fB l HB.out] at this
        exact this
      rw [← LN.out]
      clear b8 f8
      go_wp2_with (go_at_call 16; refine (same_true _ a _ _ _ cap l _ HB.out F8.out L8.out rfl rfl).mono ?_; rintro e wx ⟨rfl, rfl⟩)
      go_ret
      exact ⟨rfl, B8.out⟩
end Go.Proofs.YtnolbcbcboeaoaaDoor
