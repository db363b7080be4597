/- Whatever is put in, taken out and asked: the walk of the law SetPlays. -/
import Derived.Test.YtnolbcbcboeaoaaDoorSetM
import Derived.Deep.RegionHeld3
namespace Go.Proofs.YtnolbcbcboeaoaaDoor
open Go.RowKit
set_option linter.unusedVariables false

theorem bysL_byte (f : Nat → Bool) (m : Nat) : ∀ x ∈ bysL f m, 0 ≤ x ∧ x ≤ 255 := by
  intro x hx
  simp only [bysL, List.mem_map] at hx
  obtain ⟨j, _, rfl⟩ := hx
  have := byt_lt f j
  omega

theorem RefAt.drew {w : World} {b g n : Nat} {f : Nat → Bool} (h : RefAt w b g n f) : RefAt w.drew b g n f :=
  ⟨h.ins, h.cell, h.thawed, h.few, h.within, h.hb, h.hg, h.apart⟩
theorem TabIn.drew {w : World} (h : TabIn w) : TabIn w.drew := h
theorem IsL.drew {w : World} {k : IntKind} {a : Option Addr} {l : List Int} (h : IsL w k a l) : IsL w.drew k a l := h

set_option maxRecDepth 20000 in
set_option maxHeartbeats 8000000 in
theorem setPlays_any (n : Int) (a : Option Addr) (ca len : Nat) (kd ii : Nat → Int) (w : World) (hT : TabIn w) (hC : IsC w a len kd ii) (hl : len ≤ maxLen) (hi : ∀ i, i < len → kd i ≤ 9223372036854775807 ∧ ii i ≤ 9223372036854775807) :
    Calls Tryd.prog 3 #[.int .i64 n, .slice a len ca] w fun e w' => e = .returned (.bool true) ∧ Below w.heap.size w w' := by
  have HT : Hid (TabIn w) := hT
  have HC : Hid (IsC w a len kd ii) := hC
  have HI : Hid (∀ i, i < len → kd i ≤ 9223372036854775807 ∧ ii i ≤ 9223372036854775807) := hi
  have HL : Hid (len ≤ maxLen) := hl
  clear hT hC hi hl
  go_enter Tryd.func3, Tryd.ntmps3
  go_wp2_with fail
  refine (alive_any w HT.out).mono ?_
  rintro e w1 ⟨rfl, b1⟩
  have B1 : Hid (Below w.heap.size w w1) := b1
  have T1 : Hid (TabIn w1) := HT.out.keep b1 HT.out.1
  clear b1
  go_wp2_with fail
  refine (plays_any _ a ca len kd ii w1 T1.out (HC.out.keep B1.out) HL.out HI.out).mono ?_
  rintro e w2 ⟨b, g, b2, g2, f, rfl, hB⟩
  generalize clampN _ = N at hB
  have S2 : Hid (SetAt w2 b g N f) := hB.s
  have R2 : Hid (RefAt w2 b2 g2 N f) := hB.r
  have T2 : Hid (TabIn w2) := T1.out.keep hB.bel T1.out.1
  have B2 : Hid (Below w.heap.size w w2) := B1.out.trans (hB.bel.mono B1.out.size)
  have few := hB.s.few
  clear hB
  go_wp2_with fail
  refine (rlist_any b2 g2 N f w2 R2.out).mono ?_
  rintro e w4 ⟨al, cl, rfl, o4, b4⟩
  have S4 : Hid (SetAt w4 b g N f) := S2.out.keepAll b4
  have R4 : Hid (RefAt w4 b2 g2 N f) := R2.out.keepAll b4
  have T4 : Hid (TabIn w4) := T2.out.keep b4 T2.out.1
  have B4 : Hid (Below w.heap.size w w4) := B2.out.trans (b4.mono B2.out.size)
  have L4 : Hid (IsL w4 .i64 al (lsL f N)) := o4.isL
  have hq : (lsL f N).length = cnt f N := lsL_len f N
  have HQ : Hid ((lsL f N).length = cnt f N) := hq
  have hlen4 := S4.out.len
  have hin4 := R4.out.ins
  have hcN := cnt_le f N
  rw [hq]
  clear o4 b4 hq S2 R2 T2 B2
  go_wp2_with fail
  go_region_held3 (fun w' => w'.cell? ⟨b2, 0, none⟩ = some (.slice (some ⟨g2, 0, none⟩) N N)) (first | assumption | (simp; assumption)) (first
    | (go_at_call 12; refine (len_any b N _ ?_).mono ?_; exact hlen4; rintro e wx ⟨rfl, rfl⟩)
    | (go_at_call 13; refine (count_any b g N f _ ?_).mono ?_; exact S4.out.drew; rintro e wx ⟨rfl, rfl⟩)
    | (go_at_call 15; refine (list_any b g N f _ ?_ ?_).mono ?_; exact S4.out.drew; exact T4.out.drew; rintro e w5 ⟨a5, c5, rfl, o5, b5⟩; have hin5 : w5.cell? ⟨b2, 0, none⟩ = some (.slice (some ⟨g2, 0, none⟩) N N) := (R4.out.drew.keepAll b5).ins)
    | (go_at_call 14; refine (ints_true a5 al _ _ c5 cl (lsL f N) _ ?_ ?_ rfl HQ.out ?_).mono ?_; exact o5.isL; exact L4.out.drew.keep b5; (rw [HQ.out]; omega); rintro e w6 ⟨rfl, b6⟩; have hin6 : w6.cell? ⟨b2, 0, none⟩ = some (.slice (some ⟨g2, 0, none⟩) N N) := ((R4.out.drew.keepAll b5).keepAll b6).ins)
    | (go_at_call 17; refine (bytes_any b g N f _ ?_).mono ?_; exact (S4.out.drew.keepAll b5).keepAll b6; rintro e w7 ⟨rfl, f7, b7⟩; have hin7 : w7.cell? ⟨b2, 0, none⟩ = some (.slice (some ⟨g2, 0, none⟩) N N) := (((R4.out.drew.keepAll b5).keepAll b6).keepAll b7).ins)
    | (go_at_call 18; refine (rbytes_any b2 g2 N f _ ?_).mono ?_; exact ((R4.out.drew.keepAll b5).keepAll b6).keepAll b7; rintro e w8 ⟨a8, c8, rfl, o8, b8⟩; have hin8 : w8.cell? ⟨b2, 0, none⟩ = some (.slice (some ⟨g2, 0, none⟩) N N) := ((((R4.out.drew.keepAll b5).keepAll b6).keepAll b7).keepAll b8).ins)
    | (go_at_call 16; refine (same_true _ a8 _ _ _ c8 (bysL f ((N + 7) / 8)) _ (bysL_byte f _) ?_ ?_ (bysL_len f _) rfl).mono ?_; exact f7.isL.keep b8; exact o8.isL; rintro e wx ⟨rfl, rfl⟩))
  have B5 : Below w.heap.size w w5 := B4.out.drew.trans (b5.mono B4.out.size)
  have B6 : Below w.heap.size w w6 := B5.trans (b6.mono B5.size)
  have B7 : Below w.heap.size w w7 := B6.trans (b7.mono B6.size)
  have B8 : Hid (Below w.heap.size w w8) := B7.trans (b8.mono B7.size)
  clear b5 b6 b7 b8 B5 B6 B7 o5 o8 f7
  go_wp2
  go_ret
  exact ⟨rfl, B8.out⟩
end Go.Proofs.YtnolbcbcboeaoaaDoor
