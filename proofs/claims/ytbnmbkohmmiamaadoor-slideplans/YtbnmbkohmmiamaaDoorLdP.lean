/- The walk of the law SlidePlans. -/
import Derived.Test.YtbnmbkohmmiamaaDoorLdA
import Derived.Test.YtbnmbkohmmiamaaDoorLeF
import Derived.Test.YtbnmbkohmmiamaaDoorLeB
namespace Go.Proofs.YtbnmbkohmmiamaaDoor
open Go.RowKit
set_option linter.unusedVariables false

set_option maxRecDepth 20000 in
set_option maxHeartbeats 4000000 in
theorem slidePlans_any (HP : PlanC) (P : Int) (a : Option Addr) (n cap : Nat) (ts : List Td) (w : World) (hT : Tabs w) (h : RdT w a ts) (hn : ts.length = n) (hn9 : n ≤ 9223372036854775807) (hr : ∀ t ∈ ts, -9223372036854775808 ≤ t.p ∧ t.p ≤ 9223372036854775807) (hL : ∀ t ∈ ts, t.l.length ≤ 17592186044416) :
    Calls Tryd.prog 3 #[.int .i64 P, .slice a n cap] w fun e w' => e = .returned (.bool true) ∧ Below w.heap.size w w' := by
  have HPL : Hid PlanC := HP
  have HT : Hid (Tabs w) := hT
  have H : Hid (RdT w a ts) := h
  have HN : Hid (ts.length = n) := hn
  have HRG : Hid (∀ t ∈ ts, -9223372036854775808 ≤ t.p ∧ t.p ≤ 9223372036854775807) := hr
  have HL : Hid (∀ t ∈ ts, t.l.length ≤ 17592186044416) := hL
  have TWO : Hid (2 ≤ w.heap.size) := by have := hT.2.1; show 2 ≤ _; omega
  have IR : Hid (∀ t ∈ ts, ∀ x ∈ t.l, -9223372036854775808 ≤ x ∧ x ≤ 9223372036854775807) := fun t ht x hx => by
    obtain ⟨i, hi, rfl⟩ := List.getElem_of_mem ht
    obtain ⟨_, _, _, _, _, _, _, _, _, hI, _⟩ := h i hi
    exact hI.1 x hx
  clear HP hT h hn hr hL
  go_enter Tryd.func3, Tryd.ntmps3
  go_wp2_with fail
  refine (alive_any HPL.out _ HT.out).mono ?_
  rintro e w1 ⟨rfl, b1⟩
  have B1 : Hid (Below w.heap.size w w1) := b1
  clear b1
  by_cases hbig : 300 < n
  · have hb : (300 : Int) < (n : Int) := by omega
    go_wp2
    go_ret
    exact ⟨rfl, B1.out⟩
  have hb : ¬ ((300 : Int) < (n : Int)) := by omega
  have hn1 : n ≤ 300 := by omega
  go_wp2_with fail
  refine (rcopy_any a n cap ts _ (H.out.keep B1.out) HN.out (by omega) HL.out).mono ?_
  rintro e w2 ⟨ai, ci, rfl, t2, b2⟩
  have B2 : Hid (Below w.heap.size w w2) := B1.out.trans (b2.mono B1.out.size)
  have R2 : Hid (RdT w2 ai ts) := t2.rd IR.out
  clear t2 b2
  go_wp2_with fail
  refine (HPL.out P ai n ci ts _ (HT.out.keep B2.out) R2.out HN.out (by omega) HRG.out).mono ?_
  rintro e w3 hpp
  obtain ⟨r, hstd⟩ : ∃ r, stdB P ts = r := ⟨_, rfl⟩
  have HS : Hid (stdB P ts = r) := hstd
  cases r with
  | false =>
    obtain ⟨rfl, b3⟩ := hpp.no hstd
    have B3 : Hid (Below w.heap.size w w3) := B2.out.trans (b3.mono B2.out.size)
    have R3 : Hid (RdT w3 ai ts) := R2.out.keep b3
    clear hpp b3 hstd
    go_wp2_with fail
    refine (rright_any P a n cap ts _ (H.out.keep B3.out) HN.out (by omega) (Nat.le_trans TWO.out B3.out.size) false HS.out).mono ?_
    rintro e w4 ⟨rfl, b4⟩
    have B4 : Hid (Below w.heap.size w w4) := B3.out.trans (b4.mono B3.out.size)
    have R4 : Hid (RdT w4 ai ts) := R3.out.keep b4
    clear b4
    go_wp2_with fail
    refine (lright_any P ai n ci ts _ (HT.out.keep B4.out) R4.out HN.out (by omega) HRG.out false HS.out).mono ?_
    rintro e w5 ⟨rfl, b5⟩
    have B5 : Hid (Below w.heap.size w w5) := B4.out.trans (b5.mono B4.out.size)
    have R5 : Hid (RdT w5 ai ts) := R4.out.keep b5
    clear b5
    go_wp2_with fail
    refine (rall_rd ai a n ci n cap ts _ R5.out (H.out.keep B5.out) HN.out HN.out (by rw [HN.out]; omega)).mono ?_
    rintro e w6 ⟨rfl, b6⟩
    have B6 : Hid (Below w.heap.size w w6) := B5.out.trans (b6.mono B5.out.size)
    clear b6
    go_wp2
    go_ret
    exact ⟨rfl, B6.out⟩
  | true =>
    obtain ⟨a1, n1, c1, a2, n2, c2, rfl, h1, h2, ht3, hv3, b3⟩ := hpp.yes hstd
    have hP : 1 ≤ P ∧ P ≤ 4096 := by
      unfold stdB at hstd
      rw [Bool.and_eq_true] at hstd
      exact of_decide_eq_true hstd.1
    obtain ⟨P, rfl⟩ : ∃ p : Nat, P = p := ⟨P.toNat, by omega⟩
    obtain ⟨hS, hI⟩ := std_of hstd
    have hpl := plan_len hS (FT ts)
    rw [List.length_map, h2, HN.out] at hpl
    have nums := planT_num (F := FT ts) hS
    have hTl : n1 ≤ 300 := by
      rw [← h1, planT_kept, List.length_map]
      have := keepL_len (ts.map snT) (clsF (ts.map snT) (FT ts) 7) (ts.map snT).length
      rw [List.length_map] at this
      have hNN := HN.out
      unfold kept
      rw [List.length_map]
      omega
    obtain ⟨T, hTT⟩ : ∃ T, planT (ts.map snT) (FT ts) = T := ⟨_, rfl⟩
    obtain ⟨V, hVV⟩ : ∃ V, planV (ts.map snT) (FT ts) = V := ⟨_, rfl⟩
    rw [hTT] at h1 ht3 nums
    rw [hVV] at h2 hv3
    have HTT : Hid (planT (ts.map snT) (FT ts) = T) := hTT
    have HVV : Hid (planV (ts.map snT) (FT ts) = V) := hVV
    have N1 : Hid (T.length = n1) := h1
    have N2 : Hid (V.length = n2) := h2
    have NUMS : Hid (∀ t ∈ T, ∀ x ∈ t.l, -9223372036854775808 ≤ x ∧ x ≤ 9223372036854775807) := fun t ht => (nums t ht).2
    have B3 : Hid (Below w.heap.size w w3) := B2.out.trans (b3.mono B2.out.size)
    have R3 : Hid (RdT w3 ai ts) := R2.out.keep b3
    have T3 : Hid (RdT w3 a1 T) := ht3.rd NUMS.out
    have V3 : Hid (RdV w3 a2 V) := hv3.rd
    have hn2 : n2 ≤ 33900 := by omega
    clear hpp b3 hstd ht3 hv3 h1 h2 nums hS hI hpl hTT hVV hP
    go_wp2_with fail
    refine (rright_any (P : Int) a n cap ts _ (H.out.keep B3.out) HN.out (by omega) (Nat.le_trans TWO.out B3.out.size) true HS.out).mono ?_
    rintro e w4 ⟨rfl, b4⟩
    have B4 : Hid (Below w.heap.size w w4) := B3.out.trans (b4.mono B3.out.size)
    have R4 : Hid (RdT w4 ai ts) := R3.out.keep b4
    have T4 : Hid (RdT w4 a1 T) := T3.out.keep b4
    have V4 : Hid (RdV w4 a2 V) := V3.out.keep b4
    clear b4 R3 T3 V3
    go_wp2_with fail
    refine (lright_any (P : Int) ai n ci ts _ (HT.out.keep B4.out) R4.out HN.out (by omega) HRG.out true HS.out).mono ?_
    rintro e w5 ⟨rfl, b5⟩
    have B5 : Hid (Below w.heap.size w w5) := B4.out.trans (b5.mono B4.out.size)
    have R5 : Hid (RdT w5 ai ts) := R4.out.keep b5
    have T5 : Hid (RdT w5 a1 T) := T4.out.keep b5
    have V5 : Hid (RdV w5 a2 V) := V4.out.keep b5
    clear b5 R4 T4 V4
    go_wp2_with fail
    refine (rall_rd ai a n ci n cap ts _ R5.out (H.out.keep B5.out) HN.out HN.out (by rw [HN.out]; omega)).mono ?_
    rintro e w6 ⟨rfl, b6⟩
    have B6 : Hid (Below w.heap.size w w6) := B5.out.trans (b6.mono B5.out.size)
    have T6 : Hid (RdT w6 a1 T) := T5.out.keep b6
    have V6 : Hid (RdV w6 a2 V) := V5.out.keep b6
    clear b6 R5 T5 V5
    go_wp2_with fail
    refine (rplan_any P a n cap ts _ (H.out.keep B6.out) HN.out (by omega) HS.out).mono ?_
    rintro e w7 ⟨a3, n3, c3, a4, n4, c4, rfl, h3, h4, ht7, hv7, b7⟩
    rw [HTT.out] at h3 ht7
    rw [HVV.out] at h4 hv7
    obtain rfl : n1 = n3 := by rw [← h3, N1.out]
    obtain rfl : n2 = n4 := by rw [← h4, N2.out]
    have B7 : Hid (Below w.heap.size w w7) := B6.out.trans (b7.mono B6.out.size)
    have T7 : Hid (RdT w7 a1 T) := T6.out.keep b7
    have V7 : Hid (RdV w7 a2 V) := V6.out.keep b7
    have U7 : Hid (RdT w7 a3 T) := ht7.rd NUMS.out
    have X7 : Hid (RdV w7 a4 V) := hv7.rd
    clear b7 T6 V6 ht7 hv7 h3 h4
    go_wp2_with fail
    refine (rall_rd a1 a3 n1 c1 n1 c3 T _ T7.out U7.out N1.out N1.out (by rw [N1.out]; omega)).mono ?_
    rintro e w8 ⟨rfl, b8⟩
    have B8 : Hid (Below w.heap.size w w8) := B7.out.trans (b8.mono B7.out.size)
    have V8 : Hid (RdV w8 a2 V) := V7.out.keep b8
    have X8 : Hid (RdV w8 a4 V) := X7.out.keep b8
    clear b8
    go_wp2_with fail
    refine (mvsame_any a2 a4 n2 c2 n2 c4 V _ V8.out X8.out N2.out N2.out (by omega)).mono ?_
    rintro e w9 ⟨rfl, b9⟩
    have B9 : Hid (Below w.heap.size w w9) := B8.out.trans (b9.mono B8.out.size)
    clear b9
    go_wp2
    go_ret
    exact ⟨rfl, B9.out⟩
end Go.Proofs.YtbnmbkohmmiamaaDoor
