/- Layer 19: Count, isData, noughts, sectorOf of the code. -/
import Derived.Test.YtgmmgklcndnehaaDoorChP
import Derived.Test.YtgmmgklcndnehaaDoorGzAE
import Derived.Test.YtgmmgklcndnehaaDoorDkI
import Derived.Deep.RegionHeld3
namespace Go.Proofs.YtgmmgklcndnehaaDoor
open Go.RowKit
set_option linter.unusedVariables false
set_option maxRecDepth 4000

theorem isB_drew {w : World} {a : Option Addr} {l : List Int} (h : IsB w a l) : IsB w.drew a l := h
theorem ofDrewB {w w' : World} (h : Below w.drew.heap.size w.drew w') : Below w.heap.size w w' := ⟨h.os, h.tape, h.output, h.size, h.block⟩
set_option maxHeartbeats 2000000 in
/-- Count. -/
theorem hcount_any (n : Nat) (w : World) (hn : n ≤ 9223372036854775807) :
    Calls Tryd.prog 14 #[.int .i64 (n : Nat)] w fun e w' => e = .returned (.int .i64 (cntC n : Nat)) ∧ w = w' := by
  by_cases h1 : (n : Int) < 1
  · obtain rfl : n = 0 := by omega
    go_enter Tryd.func14, Tryd.ntmps14
    go_wp2
    go_ret
    exact ⟨rfl, rfl⟩
  · have hC : ((cntC n : Nat) : Int) = ((n : Int) - 1) / 56 + 1 := by unfold cntC; omega
    have eD : ((n : Int) - 1).tdiv 56 = ((n : Int) - 1) / 56 := Int.tdiv_eq_ediv_of_nonneg (by omega)
    have w0 : IntKind.i64.wrap ((n : Int) - 1) = (n : Int) - 1 := by rw [IntKind.wrap_i64]; omega
    have d0 : 0 ≤ ((n : Int) - 1).tdiv 56 := Int.tdiv_nonneg (by omega) (by omega)
    have d1 : ((n : Int) - 1).tdiv 56 ≤ 9223372036854775806 := by rw [eD]; omega
    rw [← eD] at hC
    obtain ⟨D, hD⟩ : ∃ D, ((n : Int) - 1).tdiv 56 = D := ⟨_, rfl⟩
    rw [hD] at hC d0 d1
    rw [hC]
    have wq : IntKind.i64.wrap D = D := by rw [IntKind.wrap_i64]; omega
    have wc : IntKind.i64.wrap (D + 1) = D + 1 := by rw [IntKind.wrap_i64]; omega
    clear hC eD
    go_enter Tryd.func14, Tryd.ntmps14
    go_wp2
    go_ret
    exact ⟨rfl, rfl⟩
theorem hcount_of (n : Nat) (v : Int) (w : World) (hn : n ≤ 9223372036854775807) (hv : ((cntC n : Nat) : Int) = v) :
    Calls Tryd.prog 14 #[.int .i64 (n : Nat)] w fun e w' => e = .returned (.int .i64 v) ∧ w = w' := by subst hv; exact hcount_any n w hn

/-- Is a sector a data sector? -/
theorem hisdata_of (s n : Int) (v : Bool) (w : World) (h0 : 0 ≤ n) (h1 : n ≤ 9223372036854775807) (hv : decide (1 ≤ s ∧ s ≤ n - 2) = v) :
    Calls Tryd.prog 44 #[.int .i64 s, .int .i64 n] w fun e w' => e = .returned (.bool v) ∧ w = w' := by
  have wn : IntKind.i64.wrap (n - 2) = n - 2 := by rw [IntKind.wrap_i64]; omega
  subst hv
  by_cases h2 : 1 ≤ s
  · by_cases h3 : s ≤ n - 2
    · rw [decide_eq_true ⟨h2, h3⟩]
      go_enter Tryd.func44, Tryd.ntmps44
      go_wp2
      go_ret
      exact ⟨by simp, rfl⟩
    · rw [decide_eq_false (fun q => h3 q.2)]
      go_enter Tryd.func44, Tryd.ntmps44
      go_wp2
      go_ret
      exact ⟨by simp, rfl⟩
  · rw [decide_eq_false (fun q => h2 q.1)]
    go_enter Tryd.func44, Tryd.ntmps44
    go_wp2
    go_ret
    exact ⟨rfl, rfl⟩

theorem all_take_snoc {l : List Int} {k : Nat} (h : k < l.length) : ((l.take (k + 1)).all fun c => decide (c = 0)) = (((l.take k).all fun c => decide (c = 0)) && decide (l[k] = 0)) := by
  rw [List.take_succ_eq_append_getElem h, List.all_append]
  simp
theorem all_false_at {l : List Int} {k : Nat} (h : k < l.length) (hk : ¬ l[k] = 0) : (l.all fun c => decide (c = 0)) = false := by
  rw [List.all_eq_false]
  exact ⟨l[k], List.getElem_mem h, by simpa using hk⟩
set_option maxHeartbeats 2000000 in
/-- Are bytes all 0? -/
theorem hnoughts_any (a : Option Addr) (cap n : Nat) (l : List Int) (w : World) (hn : n = l.length) (h : IsB w a l) (hm : l.length ≤ maxLen) :
    Calls Tryd.prog 59 #[.slice a n cap] w fun e w' => e = .returned (.bool (l.all fun c => decide (c = 0))) ∧ w = w' := by
  subst hn
  obtain ⟨hb, hl⟩ := h
  unfold maxLen at hm
  go_enter Tryd.func59, Tryd.ntmps59
  go_wp2
  go_loop [7] (fun i => ∃ k : Nat, k ≤ l.length ∧ i = .int .i64 k ∧ ((l.take k).all fun c => decide (c = 0)) = true) (fun i => l.length - (intOf i).toNat)
  case atStart => exact ⟨0, Nat.zero_le _, rfl, rfl⟩
  case round =>
    obtain ⟨k, hk, rfl, hz⟩ := hrel
    have HZ : Hid (((l.take k).all fun c => decide (c = 0)) = true) := hz
    clear hz
    by_cases hkl : k < l.length
    · obtain rfl | ⟨b, off, rfl, hsz, hc⟩ := hl
      · exact absurd hkl (by simp)
      have hcell := hc k hkl
      obtain ⟨x, hx⟩ : ∃ x, l[k] = x := ⟨_, rfl⟩
      have HX : Hid (l[k] = x) := hx
      have eg : l.getD k 0 = x := by rw [List.getD_eq_getElem?_getD, List.getElem?_eq_getElem hkl]; exact hx
      (try rw [eg] at hcell)
      (try rw [hx] at hcell)
      clear hx eg hc
      by_cases h0 : x = 0
      · subst h0
        go_wp2
        go_round
        case rel => exact ⟨k + 1, by omega, by go_num, by rw [all_take_snoc hkl, HZ.out, HX.out]; rfl⟩
        case measure => simp [intOf]; omega
      · have hb0 : (x != 0) = true := by simpa using h0
        have hb1 : (x == 0) = false := by simpa using h0
        go_wp2
        go_ret
        rw [all_false_at hkl (by rw [HX.out]; exact h0)]
        exact ⟨rfl, rfl⟩
    · obtain rfl : k = l.length := by omega
      go_wp2
      go_ret
      have e := HZ.out
      rw [List.take_length] at e
      rw [e]
      exact ⟨rfl, rfl⟩

theorem hput4_any (n : Int) (h0 : 0 ≤ n) (h1 : n ≤ 18446744073709551615) (w : World) :
    Calls Tryd.prog 51 #[.int .u64 n, .int .i64 4] w fun e w' => e = .returned (.slice (some ⟨w.heap.size, 0, none⟩) 4 4) ∧ RowB w' w.heap.size 5 (putL 4 n) ∧ Below w.heap.size w w' := by
  refine (put_any n 4 h0 h1 w).mono ?_
  rintro e w' ⟨rfl, rfl⟩
  exact ⟨rfl, Go.heap_alloc_new w _, (Below.refl _ w).alloc (Nat.le_refl _) _⟩
theorem zs_row (n : Nat) (w : World) : RowB (w.alloc (.cells (madeCells #[.int .u8 0] n) 5)) w.heap.size 5 (zs n) := by
  show (w.alloc _).heap[w.heap.size]? = _
  rw [made_zero]
  exact Go.heap_alloc_new w _
theorem pad_copy {p : List Int} (h : p.length ≤ 56) : (zs 64).take 0 ++ p.take (min p.length 64) ++ (zs 64).drop (0 + min p.length 64) = padC p ++ zs 8 := by
  rw [Nat.min_eq_left (by omega), List.take_zero, List.nil_append, List.take_length, Nat.zero_add, padC, zs, zs, zs, List.append_assoc, List.drop_replicate, List.replicate_append_replicate]
  congr 2; omega
theorem head_copy {p : List Int} (h : p.length ≤ 56) (nx : Int) : (padC p ++ zs 8).take 56 ++ (putL 4 nx).take 4 ++ (padC p ++ zs 8).drop (56 + 4) = headC p nx ++ zs 4 := by
  rw [List.take_left' (padC_len h), List.take_of_length_le (by rw [putL_len]; exact Nat.le_refl _), ← List.drop_drop, List.drop_left' (padC_len h), headC]
  rfl
theorem tail_copy {p : List Int} (h : p.length ≤ 56) (nx s : Int) : (headC p nx ++ zs 4).take 60 ++ (putL 4 s).take 4 ++ (headC p nx ++ zs 4).drop (60 + 4) = headC p nx ++ putL 4 s := by
  rw [List.take_left' (headC_len h nx), List.take_of_length_le (by rw [putL_len]; exact Nat.le_refl _), List.drop_of_length_le (by simp [headC_len h nx, zs_len]), List.append_nil]

set_option maxRecDepth 20000 in
set_option maxHeartbeats 8000000 in
/-- A sector's bytes. -/
theorem hsectorof_any (a : Option Addr) (cap n : Nat) (p : List Int) (nx : Int) (w : World) (hn : n = p.length) (hB : IsB w a p) (hp : p.length ≤ 56) (h0 : 0 ≤ nx) (h1 : nx < 4294967296) :
    Calls Tryd.prog 32 #[.slice a n cap, .int .i64 nx] w fun e w' => e = .returned (.slice (some ⟨w.heap.size, 0, none⟩) 64 64) ∧ RowB w' w.heap.size 5 (secC p nx) ∧ Below w.heap.size w w' := by
  subst hn
  have HB : Hid (IsB w a p) := hB
  have HP : Hid (p.length ≤ 56) := hp
  obtain ⟨N, hN⟩ : ∃ N, w.heap.size = N := ⟨_, rfl⟩
  have hmk := make_row 64 (by decide) w
  have zr := zs_row 64 w
  obtain ⟨wA, hwA⟩ : ∃ wA, w.alloc (.cells (madeCells #[.int .u8 0] 64) 5) = wA := ⟨_, rfl⟩
  have BA : Hid (Below N w wA) := by show Below _ _ _; rw [← hwA, ← hN]; exact (Below.refl _ w).alloc (Nat.le_refl _) _
  have HNN : Hid (w.heap.size = N) := hN
  rw [hwA] at hmk zr
  rw [hN] at hmk zr ⊢
  have RA : Hid (RowB wA N 5 (zs 64)) := zr
  have NA : Hid (N < wA.heap.size) := zr.lt
  have BW : Hid (∀ w2, Below N w w2 → IsB w2 a p) := fun w2 b => HB.out.keep (by rw [HNN.out]; exact b)
  have wn : IntKind.u64.wrap nx = nx := by rw [IntKind.wrap_u64]; omega
  have e64 : ((64 : Nat) : Int) = 64 := rfl
  rw [e64] at hmk
  have l4 : (4 : Nat) ≤ 4 := Nat.le_refl _
  clear hwA hB zr hN
  go_enter Tryd.func32, Tryd.ntmps32
  go_wp2_with (refine wpList_copyB rfl _ _ rfl N 0 64 64 5 (zs 64) p a p.length cap (min p.length 64) rfl rfl rfl rfl RA.out (BW.out _ BA.out) (by rw [zs_len]; have := HP.out; omega) ?_; rw [pad_copy HP.out]; intro w1 r1 o1; have R1 : Hid (RowB w1 N 5 (padC p ++ zs 8)) := r1; have B1 : Hid (Below N w w1) := BA.out.trans (o1.below (Nat.le_refl _)); have N1 : Hid (N < w1.heap.size) := r1.lt; clear r1 o1)
  have n4 : (putL 4 nx).length = 4 := putL_len 4 nx
  have N4 : Hid (AllB (putL 4 nx)) := putL_allB 4 nx
  go_region_held3 (fun w' => True) (first | trivial | go_keep)
    (first
      | (go_at_call 51; refine (hput4_any nx h0 (by omega) _).mono ?_; rintro e w2 ⟨rfl, r2, b2⟩; have Q2 : Hid (RowB w2 w1.heap.size 5 (putL 4 nx)) := r2; have B2 : Hid (Below w1.heap.size w1 w2) := ofDrewB b2; have C2 : Hid (Below N w w2) := B1.out.trans (B2.out.mono (Nat.le_of_lt N1.out)); have R2 : Hid (RowB w2 N 5 (padC p ++ zs 8)) := R1.out.keep B2.out; clear r2 b2)
      | (refine step_copyB rfl _ _ rfl N 56 4 8 5 (padC p ++ zs 8) (putL 4 nx) (some ⟨w1.heap.size, 0, none⟩) 4 4 4 rfl rfl n4.symm rfl R2.out (Q2.out.isB N4.out) (by simp [padC_len HP.out, zs_len]) ?_; rw [head_copy HP.out]; intro w3 r3 o3; have R3 : Hid (RowB w3 N 5 (headC p nx ++ zs 4)) := r3; have B3 : Hid (Below N w w3) := C2.out.trans (o3.below (Nat.le_refl _)); have N3 : Hid (N < w3.heap.size) := r3.lt; clear r3 o3))
  obtain ⟨S, hS⟩ : ∃ S, sumI (headC p nx) = S := ⟨_, rfl⟩
  have AH : AllB (headC p nx) := headC_allB HB.out.1 nx
  obtain ⟨s0, s1⟩ := sumI_bd AH
  rw [hS] at s0 s1
  have HS : Hid (sumI (headC p nx) = S) := hS
  have HL : Hid ((headC p nx).length = 60) := headC_len HP.out nx
  have IH : Hid (IsB w3 (some ⟨N, 0, none⟩) (headC p nx)) := by
    have q := (R3.out.isB (AH.append (zs_allB 4))).part 0 60 rfl
    rw [List.drop_zero, List.take_left' HL.out] at q
    exact q
  have ws : IntKind.u64.wrap S = S := by rw [IntKind.wrap_u64]; omega
  have n5 : (putL 4 S).length = 4 := putL_len 4 S
  have N5 : Hid (AllB (putL 4 S)) := putL_allB 4 S
  clear hS AH
  go_wp2
  go_region_held3 (fun w' => True) (first | trivial | go_keep)
    (first
      | (go_at_call 52; refine (sum_of _ _ 60 (headC p nx) _ HL.out.symm (isB_drew IH.out) (by rw [HL.out]; decide)).mono ?_; rw [HS.out]; rintro e w' ⟨rfl, rfl⟩)
      | (go_at_call 51; refine (hput4_any S s0 (by omega) _).mono ?_; rintro e w4 ⟨rfl, r2, b2⟩; have Q4 : Hid (RowB w4 w3.heap.size 5 (putL 4 S)) := r2; have B4 : Hid (Below w3.heap.size w3 w4) := ofDrewB b2; have C4 : Hid (Below N w w4) := B3.out.trans (B4.out.mono (Nat.le_of_lt N3.out)); have R4 : Hid (RowB w4 N 5 (headC p nx ++ zs 4)) := R3.out.keep B4.out; clear r2 b2)
      | (refine step_copyB rfl _ _ rfl N 60 4 4 5 (headC p nx ++ zs 4) (putL 4 S) (some ⟨w3.heap.size, 0, none⟩) 4 4 4 rfl rfl n5.symm rfl R4.out (Q4.out.isB N5.out) (by simp [HL.out, zs_len]) ?_; rw [tail_copy HP.out]; intro w5 r3 o3; have R5 : Hid (RowB w5 N 5 (headC p nx ++ putL 4 S)) := r3; have B5 : Hid (Below N w w5) := C4.out.trans (o3.below (Nat.le_refl _)); clear r3 o3))
  go_wp2
  go_ret
  exact ⟨rfl, by rw [secC, HS.out]; exact R5.out, B5.out⟩
end Go.Proofs.YtgmmgklcndnehaaDoor
