/- Layer 17: the bytes of the set of a span's live slots, as the code makes them. -/
import Derived.Test.YtbfamjnnlcopiaaDoorIgA
import Derived.Test.YtbfamjnnlcopiaaDoorGtD
namespace Go.Proofs.YtbfamjnnlcopiaaDoor
open Go.RowKit
set_option linter.unusedVariables false
set_option maxRecDepth 4000

/-- A set in new memory. -/
structure Lv (w0 wr : World) (b g n : Nat) (f : Nat → Bool) : Prop where
  set : SetAt wr b g n f
  low : Below w0.heap.size w0 wr
  gg : w0.heap.size ≤ g
theorem isB_of_isL {w : World} {a : Option Addr} {l : List Int} (h : IsL w .u8 a l) (hb : AllB l) : IsB w a l := ⟨hb, h⟩

set_option maxRecDepth 20000 in
set_option maxHeartbeats 2000000 in
theorem ilive_any (p c s : Int) (a : Option Addr) (n k : Nat) (l : List Int) (w : World) (hn : n = l.length) (hT : Tabs w) (hI : IsI w a l) (hm : l.length ≤ maxLen) (h : spOk p c s l = true) :
    Calls Tryd.prog 31 #[.agg #[.int .i64 p, .int .i64 c, .int .i64 s, .slice a n k]] w fun e w' => ∃ g, e = .returned (.slice (some ⟨g, 0, none⟩) ((slN c + 7) / 8) ((slN c + 7) / 8)) ∧ IsB w' (some ⟨g, 0, none⟩) (bitsG c l) ∧ Below w.heap.size w w' := by
  subst hn
  obtain ⟨D, hD, zD, rD, bD⟩ := dbox w p c s a l.length k
  have HD : Hid (w.alloc (.cells #[.int .i64 p, .int .i64 c, .int .i64 s, .slice a l.length k] 24) = D) := hD
  have BD : Hid (Below w.heap.size w D) := bD
  have TD : Hid (Tabs D) := hT.keep bD
  have ID : Hid (IsI D a l) := hI.keep bD
  have HIW : Hid (IsI w a l) := hI
  have RD : Hid (D.heap[w.heap.size]? = some (.cells (dcells p c s a l.length k) 24 (0, 0))) := rD
  have c0 := dcell0 rD
  have c1 := dcell1 rD
  have c2 := dcell2 rD
  have c3 := dcell3 rD
  have HM : Hid (l.length ≤ maxLen) := hm
  obtain ⟨k1, k2⟩ := spOk_iff.1 h
  have RT : Hid (Rt p c s) := newE_rt k1
  have HF : Hid (bitsG c l = bysL (fOf l) ((slN c + 7) / 8)) := rfl
  obtain ⟨N, hN⟩ : ∃ N, slN c = N := ⟨_, rfl⟩
  have HN : Hid (slN c = N) := hN
  have n16 : N ≤ 16 := by have := RT.out.facts.2.1; omega
  rw [hN] at k2
  have OK : Hid (okL N (-1) l = true) := k2
  have HCL : Hid (clampN (N : Nat) = N) := by show _ = _; rw [clampN, if_neg (by omega), if_neg (by omega)]; omega
  have H : Hid (spOk p c s l = true) := h
  rw [hN]
  unfold maxLen at hm
  clear hD zD rD bD hT hI h k1 k2 hN
  go_enter Tryd.func31, Tryd.ntmps31
  go_upto_region 1 with (fail)
  rw [HD.out]
  go_wp2_with (first
    | (go_at_call 38; refine (iof_yes p c s a l.length k l D rfl TD.out ID.out HM.out H.out).mono ?_; rintro e w1 ⟨sb, b, g, rfl, s1⟩; have S1 : Hid (Spn D w1 sb b g p c s (fOf l)) := s1; have d3 := bcell s1.low (dcell3 RD.out); clear s1)
    | (go_at_call 53; refine (slots_rt sb p c s _ S1.out.at'.box (TD.out.keep S1.out.low).1 RT.out N HN.out).mono ?_; rintro e w' ⟨rfl, rfl⟩)
    | (go_at_call 52; refine (snew_any _ _).mono ?_; rw [HCL.out]; rintro e w2 ⟨rfl, hw2⟩; have L2 : Hid (Lv D w2 (w1.heap.size + 1) w1.heap.size N (fOf (l.take 0))) := (by show Lv _ _ _ _ _ _; rw [← hw2, List.take_zero, fOf_nil]; exact ⟨newW_at w1 N (by omega), S1.out.low.trans ((newW_below w1 N).mono S1.out.low.size), S1.out.low.size⟩); have e3 : w2.cell? ⟨w.heap.size, 3, none⟩ = some (.slice a l.length k) := (by rw [← hw2]; exact bcell (newW_below w1 N) d3); clear hw2))
  obtain ⟨B, hB⟩ : ∃ B, w1.heap.size + 1 = B := ⟨_, rfl⟩
  obtain ⟨G, hG⟩ : ∃ G, w1.heap.size = G := ⟨_, rfl⟩
  rw [hB, hG] at L2
  rw [hB]
  clear hB hG
  go_loopw [19] (fun iv wr => ∃ (k : Nat) (t : Int), k ≤ l.length ∧ iv = .int .i64 (k : Nat) ∧ (∀ i : Nat, fOf (l.take k) i = true → (i : Int) ≤ t) ∧ -1 ≤ t ∧ okL N t (l.drop k) = true ∧ Lv D wr B G N (fOf (l.take k))) (fun iv _ => l.length - (intOf iv).toNat)
  case atStart => exact ⟨0, -1, Nat.zero_le _, rfl, fun i hi => by simp [fOf] at hi, by omega, OK.out, L2.out⟩
  case round =>
    clear L2 e3
    obtain ⟨j, t, hj, rfl, hA, t0, hO, hS⟩ := hrel
    rename World => wr
    have HA : Hid (∀ i : Nat, fOf (l.take j) i = true → (i : Int) ≤ t) := hA
    have HO : Hid (okL N t (l.drop j) = true) := hO
    have HS : Hid (Lv D wr B G N (fOf (l.take j))) := hS
    clear hA hO hS
    by_cases hlt : j < l.length
    · obtain ⟨hin, h0 | ⟨ba, off, rfl, hba, hc⟩⟩ := ID.out
      · rw [h0] at hlt; simp at hlt
      have hcell := (HS.out.low.cell (p := ⟨ba, off + j, none⟩) hba).trans (hc j hlt)
      have ST := HO.out
      rw [okL_step N t l j hlt, Bool.and_eq_true, decide_eq_true_eq] at ST
      have FM : Hid (0 ≤ l.getD j 0 → (fun x => if x = (l.getD j 0).toNat then true else fOf (l.take j) x) = fOf (l.take (j + 1))) := fun h0 => fOf_more l j hlt h0
      obtain ⟨x, hx⟩ : ∃ x, l.getD j 0 = x := ⟨_, rfl⟩
      rw [hx] at hcell ST FM
      obtain ⟨⟨x0, x1⟩, hO2⟩ := ST
      obtain ⟨y, rfl⟩ : ∃ y : Nat, x = y := ⟨x.toNat, by omega⟩
      have hp : isP N (y : Int) = true := isP_true.2 (by omega)
      have T : Hid (turn N (fOf (l.take j)) (y : Int) true = fOf (l.take (j + 1))) := by
        show _ = _
        rw [← FM.out (by omega)]
        funext z; rw [← turn_put hp z]; rfl
      have NA : Hid (∀ i : Nat, fOf (l.take (j + 1)) i = true → (i : Int) ≤ (y : Int)) := fun i hi => by
        rw [← FM.out (by omega)] at hi
        by_cases e : i = y
        · omega
        · have hi : (if i = (Int.toNat (y : Int)) then true else fOf (l.take j) i) = true := hi
          rw [if_neg (by simpa using e)] at hi
          have := HA.out i hi
          omega
      have NO : Hid (okL N (y : Int) (l.drop (j + 1)) = true) := hO2
      have y1 : (y : Int) ≤ 16 := by omega
      clear hx hc hin hba hp hO2 x0 x1
      go_wp2_with (go_at_call 54; refine (sadd_any B G N (fOf (l.take j)) (y : Int) wr HS.out.set).mono ?_; rw [T.out]; rintro e w5 ⟨rfl, s5, o5⟩; have S5 : Hid (Lv D w5 B G N (fOf (l.take (j + 1)))) := ⟨s5, HS.out.low.trans (o5.below HS.out.gg), HS.out.gg⟩; clear s5 o5)
      go_roundw
      case rel => exact ⟨j + 1, (y : Int), by omega, by go_num, NA.out, by omega, NO.out, S5.out⟩
      case measure => simp [intOf]; omega
    · have F : Hid (Lv D wr B G N (fOf l)) := by have q := HS.out; rw [List.take_of_length_le (by omega)] at q; exact q
      go_wp2_with (go_at_call 55; refine (sbytes_any B G N (fOf l) _ F.out.set).mono ?_; rintro e w5 ⟨rfl, f5, b5⟩; have I5 : Hid (IsB w5 (some ⟨wr.heap.size, 0, none⟩) (bysL (fOf l) ((N + 7) / 8))) := isB_of_isL f5.isL (bys_byte _ _); have B5 : Hid (Below w.heap.size w w5) := BD.out.trans ((F.out.low.trans (b5.mono F.out.low.size)).mono BD.out.size); clear f5 b5)
      go_ret
      exact ⟨wr.heap.size, rfl, (by rw [HF.out, HN.out]; exact I5.out), B5.out⟩
end Go.Proofs.YtbfamjnnlcopiaaDoor
