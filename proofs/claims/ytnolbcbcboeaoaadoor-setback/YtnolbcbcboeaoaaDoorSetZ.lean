/- What is written is read as it was: the walk of the law SetBack. -/
import Derived.Test.YtnolbcbcboeaoaaDoorSetM
import Derived.Test.YtnolbcbcboeaoaaDoorSetV
namespace Go.Proofs.YtnolbcbcboeaoaaDoor
open Go.RowKit
set_option linter.unusedVariables false

theorem bysL_bytes (f : Nat → Bool) (m : Nat) : ∀ x ∈ bysL f m, 0 ≤ x ∧ x ≤ 255 := by
  intro x hx
  simp only [bysL, List.mem_map] at hx
  obtain ⟨j, _, rfl⟩ := hx
  have := byt_lt f j
  omega

/-- The bytes of a set, read. -/
theorem read_back (N : Nat) (a : Option Addr) (cap z : Nat) (f : Nat → Bool) (w : World) (hn : N ≤ 65536) (hz : z = (N + 7) / 8) (hw : ∀ i, f i = true → i < N) (hL : IsL w .u8 a (bysL f z)) :
    Calls Tryd.prog 20 #[.int .i64 N, .slice a z cap] w fun e w' =>
      e = .returned (.tuple #[.pointer (some ⟨w.heap.size + 1, 0, none⟩), .int .i64 0]) ∧ SetAt w' (w.heap.size + 1) w.heap.size N f ∧ Below w.heap.size w w' := by
  have hl := bysL_len f z
  have hf := fB_bys f N hw (bysL f z) (hl.trans hz) (fun j hj => bysL_at f z j (by omega))
  have h := read_any N a cap (bysL f z) w hn (bysL_bytes f z) hL (hl.trans hz)
  rw [hl] at h
  refine h.mono ?_
  rintro e w' (⟨rfl, rfl, i, h1, h2⟩ | ⟨rfl, h1, h2⟩)
  · rw [hf] at h1
    have := hw i h1
    omega
  · exact ⟨rfl, h1.congr hf, h2⟩

set_option maxRecDepth 20000 in
set_option maxHeartbeats 4000000 in
theorem setBack_any (n : Int) (a : Option Addr) (ca len : Nat) (kd ii : Nat → Int) (w : World) (hT : TabIn w) (hC : IsC w a len kd ii) (hl : len ≤ maxLen) (hi : ∀ i, i < len → kd i ≤ 9223372036854775807 ∧ ii i ≤ 9223372036854775807) :
    Calls Tryd.prog 5 #[.int .i64 n, .slice a len ca] w fun e w' => e = .returned (.bool true) ∧ Below w.heap.size w w' := by
  have HT : Hid (TabIn w) := hT
  have HC : Hid (IsC w a len kd ii) := hC
  have HI : Hid (∀ i, i < len → kd i ≤ 9223372036854775807 ∧ ii i ≤ 9223372036854775807) := hi
  have HL : Hid (len ≤ maxLen) := hl
  clear hT hC hi hl
  go_enter Tryd.func5, Tryd.ntmps5
  go_wp2_with fail
  refine (alive_any w HT.out).mono ?_
  rintro e w1 ⟨rfl, b1⟩
  have B1 : Hid (Below w.heap.size w w1) := b1
  have T1 : Hid (TabIn w1) := HT.out.keep b1 HT.out.1
  clear b1
  go_wp2_with fail
  refine (plays_any _ a ca len kd ii w1 T1.out (HC.out.keep B1.out) HL.out HI.out).mono ?_
  rintro e w2 ⟨b, g, b2, g2, f, rfl, hB⟩
  generalize clampN _ = N at hB
  have S2 : Hid (SetAt w2 b g N f) := hB.s
  have T2 : Hid (TabIn w2) := T1.out.keep hB.bel T1.out.1
  have B2 : Hid (Below w.heap.size w w2) := B1.out.trans (hB.bel.mono B1.out.size)
  have few := hB.s.few
  have hlen2 := hB.s.len
  have HW : Hid (∀ i, f i = true → i < N) := hB.s.within
  clear hB
  go_wp2_with (go_at_call 12; refine (len_any b N _ hlen2).mono ?_; rintro e wx ⟨rfl, rfl⟩)
  refine (bytes_any b g N f w2 S2.out).mono ?_
  rintro e w3 ⟨rfl, f3, b3⟩
  have S3 : Hid (SetAt w3 b g N f) := S2.out.keepAll b3
  have B3 : Hid (Below w.heap.size w w3) := B2.out.trans (b3.mono B2.out.size)
  have L3 : Hid (IsL w3 .u8 (some ⟨w2.heap.size, 0, none⟩) (bysL f ((N + 7) / 8))) := f3.isL
  clear f3 b3
  go_wp2_with fail
  refine (read_back N _ _ _ f w3 few rfl HW.out L3.out).mono ?_
  rintro e w4 ⟨rfl, s4, b4⟩
  obtain ⟨b', hb'⟩ : ∃ b', w3.heap.size + 1 = b' := ⟨_, rfl⟩
  obtain ⟨g', hg'⟩ : ∃ g', w3.heap.size = g' := ⟨_, rfl⟩
  rw [hb', hg'] at s4
  rw [hb']
  have S4 : Hid (SetAt w4 b g N f) := S3.out.keepAll b4
  have Q4 : Hid (SetAt w4 b' g' N f) := s4
  have B4 : Hid (Below w.heap.size w w4) := B3.out.trans (b4.mono B3.out.size)
  have T4 : Hid (TabIn w4) := HT.out.keep B4.out HT.out.1
  clear s4 b4 hb' hg' S2 S3 T2 B2 B3 L3 hlen2
  go_wp2_with fail
  refine (list_any b' g' N f w4 Q4.out T4.out).mono ?_
  rintro e w5 ⟨a5, c5, rfl, o5, b5⟩
  have S5 : Hid (SetAt w5 b g N f) := S4.out.keepAll b5
  have Q5 : Hid (SetAt w5 b' g' N f) := Q4.out.keepAll b5
  have B5 : Hid (Below w.heap.size w w5) := B4.out.trans (b5.mono B4.out.size)
  have T5 : Hid (TabIn w5) := HT.out.keep B5.out HT.out.1
  have L5 : Hid (IsL w5 .i64 a5 (lsL f N)) := o5.isL
  clear o5 b5
  go_wp2_with fail
  refine (list_any b g N f w5 S5.out T5.out).mono ?_
  rintro e w6 ⟨a6, c6, rfl, o6, b6⟩
  have S6 : Hid (SetAt w6 b g N f) := S5.out.keepAll b6
  have Q6 : Hid (SetAt w6 b' g' N f) := Q5.out.keepAll b6
  have B6 : Hid (Below w.heap.size w w6) := B5.out.trans (b6.mono B5.out.size)
  have L6 : Hid (IsL w6 .i64 a6 (lsL f N)) := o6.isL
  have K6 : Hid (IsL w6 .i64 a5 (lsL f N)) := L5.out.keep b6
  clear o6 b6
  go_wp2_with fail
  refine (ints_true a5 a6 _ _ c5 c6 (lsL f N) w6 K6.out L6.out rfl rfl (by rw [lsL_len]; exact Nat.le_trans (cnt_le f N) few)).mono ?_
  rintro e w7 ⟨rfl, b7⟩
  have h1 := (S6.out.keepAll b7).len
  have h2 := (Q6.out.keepAll b7).len
  have B7 : Hid (Below w.heap.size w w7) := B6.out.trans (b7.mono B6.out.size)
  clear b7
  go_wp2_with (first | (go_at_call 12; refine (len_any b N _ h1).mono ?_; rintro e wx ⟨rfl, rfl⟩) | (go_at_call 12; refine (len_any b' N _ h2).mono ?_; rintro e wx ⟨rfl, rfl⟩))
  go_ret
  exact ⟨rfl, B7.out⟩
end Go.Proofs.YtnolbcbcboeaoaaDoor
