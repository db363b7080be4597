/- What the law HandleForged goes through. -/
import Derived.Test.YtjdgildeilcfiaaHgJ
namespace Go.Proofs.Ytjdgildeilcfiaa
open Go.RowKit
set_option linter.unusedVariables false

set_option maxRecDepth 4000 in
set_option maxHeartbeats 2000000 in
theorem handleForged_any (most : Nat) (a1 : Option Addr) (cap1 : Nat) (l1 : List Cl) (hh : Nat) (w : World) (hm : most < 256) (h1 : IsC w a1 l1) (hl1 : l1.length ≤ maxLen) (hh2 : hh < 18446744073709551616) :
    Calls Try.prog 7 #[.int .u8 (most : Nat), .slice a1 l1.length cap1, .int .u64 (hh : Nat)] w fun e w' => e = .returned (.bool true) ∧ Below w.heap.size w w' := by
  have H1 : Hid (IsC w a1 l1) := h1
  unfold maxLen at hl1
  obtain ⟨n, hn⟩ : ∃ n, 1 + most % 100 = n := ⟨_, rfl⟩
  have hnI : 1 + (most : Int) % 100 = (n : Nat) := by omega
  have hn1 : 1 ≤ n := by omega
  have hn2 : n ≤ 100 := by omega
  clear h1 hn
  go_enter Try.func7, Try.ntmps7
  go_wp2_with fail
  refine (alive_any _).mono ?_
  rintro e w1 ⟨rfl, b1⟩
  have B1 : Hid (Below w.heap.size w w1) := b1
  have z1 := b1.size
  clear b1
  go_wp2_with fail
  refine (new_ok n _ hn1 (by omega)).mono ?_
  rintro e w2 ⟨b, a, c, rfl, k2, b2⟩
  have K2 : Hid (Ct w2 w1.heap.size b a c n []) := k2
  have B2 : Hid (Below w.heap.size w w2) := B1.out.trans (b2.mono z1)
  clear k2 b2 hnI
  go_wp2_with fail
  refine (rnew_any n _ hn1 (by omega)).mono ?_
  rintro e w3 ⟨b3, rfl, r3⟩
  obtain ⟨w4, hw4⟩ : ∃ w4, w3.alloc (.cells #[.slice none 0 0] 31) = w4 := ⟨_, rfl⟩
  obtain ⟨pb, hpb⟩ : ∃ pb, w3.heap.size = pb := ⟨_, rfl⟩
  obtain ⟨mb, hmb⟩ : ∃ mb, w2.heap.size + 1 = mb := ⟨_, rfl⟩
  obtain ⟨mg, hmg⟩ : ∃ mg, w2.heap.size = mg := ⟨_, rfl⟩
  have T4 : Hid (Tw w w4 b a c mb mg n [] [] pb none 0 []) := by
    have b4 : Below w3.heap.size w3 w4 := by rw [← hw4]; exact (Below.refl _ w3).alloc (Nat.le_refl _) _
    have q4 : w4.heap[w3.heap.size]? = some (.cells #[.slice none 0 0] 31 (0, 0)) := by rw [← hw4]; exact Go.heap_alloc_new w3 _
    have z2 := B2.out.size
    have z3 := b3.size
    have k4 := (K2.out.keep b3).keep b4
    refine ⟨⟨k4.box, k4.row.mono z1, k4.gd, Nat.le_trans z1 k4.bb⟩, ?_, ?_, Oh.nil _ _, fun x hx => (by cases hx), fun e => ?_, by omega, by omega, B2.out.trans ((b3.mono z2).trans (b4.mono (by omega)))⟩
    · have q := r3.keep b4
      rw [hmb, hmg] at q
      exact q
    · rw [← hpb]; exact q4
    · have q := (K2.out.row.ge _ e).2
      omega
  rw [hmb]
  have HW4 : Hid (w3.alloc (.cells #[.slice none 0 0] 31) = w4) := hw4
  have HPB : Hid (w3.heap.size = pb) := hpb
  clear hw4 hmb hmg b3 r3 K2
  go_wp2
  (try rw [HW4.out])
  (try rw [HPB.out])
  clear HW4 HPB hpb
  go_loopw [13] (fun iv wr => ∃ (i : Nat) (a : Option Addr) (c : Nat) (L : List Rw) (ah : Option Addr) (ch : Nat) (M : List Nat), i ≤ l1.length ∧ i ≤ 100 ∧ iv = .int .i64 (i : Nat) ∧ M.length ≤ i ∧ Tw w wr b a c mb mg n L L pb ah ch M) (fun iv _ => 100 - (intOf iv).toNat)
  case atStart => exact ⟨0, a, c, [], none, 0, [], Nat.zero_le _, Nat.zero_le _, rfl, Nat.zero_le _, T4.out⟩
  case round =>
    clear T4
    obtain ⟨i, a, c, L, ah, ch, M, hi, hi2, rfl, hMi, hT⟩ := hrel
    rename World => wr
    have HT : Hid (Tw w wr b a c mb mg n L L pb ah ch M) := hT
    clear hT
    by_cases hgo : i < l1.length ∧ i < 100
    · obtain ⟨hlt3, hlt4⟩ := hgo
      have e3 : (i : Int) < (l1.length : Int) := by omega
      have e4 : (i : Int) < 100 := by omega
      obtain ⟨sb, so, q, ea2, hq, hsb, hat, hok⟩ := H1.out.call i hlt3
      obtain ⟨s0, s1, s2, s3, s4⟩ := hat.keep hsb HT.out.bel
      have r1 := hok.h
      obtain ⟨qk, qn, qh, q2, qp⟩ := q
      simp only at s0 s1 s2 s3 s4 r1
      subst ea2
      clear hq hat hok
      go_wp2_with (go_at_call 12; refine (do_any w wr b a c mb mg n L pb ah ch M qk qn qh q2 qp HT.out r1 (by omega)).mono ?_; rintro e w5 ⟨rfl, a5, c5, L5, ah5, ch5, M5, t5, hM5⟩; have T5 : Hid (Tw w w5 b a5 c5 mb mg n L5 L5 pb ah5 ch5 M5) := t5; clear t5)
      go_roundw
      case rel => exact ⟨i + 1, a5, c5, L5, ah5, ch5, M5, by omega, by omega, by go_num, by omega, T5.out⟩
      case measure => simp [intOf]; omega
    · have hgo3 : (i = l1.length) ∨ (i < l1.length ∧ i = 100) := by omega
      rcases hgo3 with rfl | ⟨hlt3, rfl⟩
      · go_wp2_with fail
        refine (live_any w.heap.size b a c n L _ HT.out.ct).mono ?_
        rintro e w6 ⟨a6, c6, rfl, o6, b6⟩
        have T6 : Hid (Tw w w6 b a c mb mg n L L pb ah ch M) := HT.out.keep b6
        have H6 : Hid (Oh w6 wr.heap.size a6 (liveF 0 L) c6) := o6
        have hM6 : (liveF 0 L).length ≤ 4096 := by have q1 := liveF_len L 0; have q2 := HT.out.ct.len; omega
        have ML : Hid (hh ∈ liveF 0 L ↔ ∃ i, LvAt L hh i) := mem_live HT.out.ct.gd hh
        obtain ⟨V, hV⟩ : ∃ V, liveF 0 L = V := ⟨_, rfl⟩
        rw [hV] at H6 hM6 ML ⊢
        obtain ⟨Vl, hVl⟩ : ∃ Vl, V.length = Vl := ⟨_, rfl⟩
        have EV : Hid (V.length = Vl) := hVl
        rw [hVl] at hM6 ⊢
        clear o6 b6 hV hVl
        go_wp2
        go_loopw [14, 59] (fun av jv wy => ∃ j : Nat, j ≤ Vl ∧ av = .bool (decide (hh ∈ V.take j)) ∧ jv = .int .i64 (j : Nat) ∧ wy = w6) (fun _ jv _ => Vl - (intOf jv).toNat)
        case atStart => exact ⟨0, Nat.zero_le _, by simp, rfl, rfl⟩
        case round =>
          obtain ⟨j, hj, rfl, rfl, rfl⟩ := hrel
          by_cases hjl : j < Vl
          · have hjV : j < V.length := by rw [EV.out]; exact hjl
            obtain ⟨gh, rfl, _, _, kc⟩ := H6.out.cells j hjV
            have TK : Hid (hh ∈ V.take (j + 1) ↔ hh ∈ V.take j ∨ hh = V[j]) := by show _ ↔ _; rw [List.take_succ_eq_append_getElem hjV, List.mem_append, List.mem_singleton]
            obtain ⟨x, hx⟩ : ∃ x, V[j]'hjV = x := ⟨_, rfl⟩
            rw [hx] at kc TK
            have e5 : (j : Int) < (Vl : Int) := by omega
            clear hx
            by_cases hin : hh ∈ V.take j
            · have ED : Hid (decide (hh ∈ V.take j) = true) := decide_eq_true hin
              have EN : Hid (decide (hh ∈ V.take (j + 1)) = true) := decide_eq_true (TK.out.2 (.inl hin))
              clear hin
              rw [ED.out]
              go_wp2
              go_roundw
              case rel => exact ⟨j + 1, by omega, by rw [EN.out], by go_num, trivial⟩
              case measure => simp [intOf]; omega
            · have ED : Hid (decide (hh ∈ V.take j) = false) := decide_eq_false hin
              by_cases hxe : x = hh
              · have EN : Hid (decide (hh ∈ V.take (j + 1)) = true) := decide_eq_true (TK.out.2 (.inr hxe.symm))
                have hxi : (x : Int) = (hh : Int) := by omega
                clear hin
                rw [ED.out]
                go_wp2
                go_roundw
                case rel => exact ⟨j + 1, by omega, by rw [EN.out], by go_num, trivial⟩
                case measure => simp [intOf]; omega
              · have EN : Hid (decide (hh ∈ V.take (j + 1)) = false) := decide_eq_false (fun e => by rcases TK.out.1 e with e | e; exact hin e; exact hxe e.symm)
                have hxi : ¬ ((x : Int) = (hh : Int)) := by omega
                clear hin
                rw [ED.out]
                go_wp2
                go_roundw
                case rel => exact ⟨j + 1, by omega, by rw [EN.out]; simp [hxi], by go_num, trivial⟩
                case measure => simp [intOf]; omega
          · obtain rfl : j = Vl := by omega
            have EA : V.take j = V := List.take_of_length_le (by rw [EV.out]; exact Nat.le_refl _)
            rw [EA]
            by_cases hv : ∃ i, LvAt L hh i
            · have ED : Hid (decide (hh ∈ V) = true) := decide_eq_true (ML.out.2 hv)
              obtain ⟨i0, hi0⟩ := hv
              have LV : Hid (LvAt L hh i0) := hi0
              clear hi0
              rw [ED.out]
              go_wp2_with (go_at_call 23; refine (get_ok w.heap.size b a c n L hh i0 _ T6.out.ct hh2 LV.out).mono ?_; rintro e w7 ⟨rfl, m7, rfl⟩)
              go_ret
              exact ⟨rfl, ⟨T6.out.bel.os, T6.out.bel.tape, T6.out.bel.output, T6.out.bel.size, T6.out.bel.block⟩⟩
            · have ED : Hid (decide (hh ∈ V) = false) := decide_eq_false (fun e => hv (ML.out.1 e))
              have NV : Hid (¬ ∃ i, LvAt L hh i) := hv
              clear hv
              rw [ED.out]
              go_wp2_with (go_at_call 23; refine (get_bad w.heap.size b a c n L hh _ T6.out.ct hh2 NV.out).mono ?_; rintro e w7 ⟨rfl, rfl⟩)
              go_ret
              exact ⟨rfl, T6.out.bel⟩
      · have e3 : ((100 : Nat) : Int) < (l1.length : Int) := by omega
        go_wp2_with fail
        refine (live_any w.heap.size b a c n L _ HT.out.ct).mono ?_
        rintro e w6 ⟨a6, c6, rfl, o6, b6⟩
        have T6 : Hid (Tw w w6 b a c mb mg n L L pb ah ch M) := HT.out.keep b6
        have H6 : Hid (Oh w6 wr.heap.size a6 (liveF 0 L) c6) := o6
        have hM6 : (liveF 0 L).length ≤ 4096 := by have q1 := liveF_len L 0; have q2 := HT.out.ct.len; omega
        have ML : Hid (hh ∈ liveF 0 L ↔ ∃ i, LvAt L hh i) := mem_live HT.out.ct.gd hh
        obtain ⟨V, hV⟩ : ∃ V, liveF 0 L = V := ⟨_, rfl⟩
        rw [hV] at H6 hM6 ML ⊢
        obtain ⟨Vl, hVl⟩ : ∃ Vl, V.length = Vl := ⟨_, rfl⟩
        have EV : Hid (V.length = Vl) := hVl
        rw [hVl] at hM6 ⊢
        clear o6 b6 hV hVl
        go_wp2
        go_loopw [14, 59] (fun av jv wy => ∃ j : Nat, j ≤ Vl ∧ av = .bool (decide (hh ∈ V.take j)) ∧ jv = .int .i64 (j : Nat) ∧ wy = w6) (fun _ jv _ => Vl - (intOf jv).toNat)
        case atStart => exact ⟨0, Nat.zero_le _, by simp, rfl, rfl⟩
        case round =>
          obtain ⟨j, hj, rfl, rfl, rfl⟩ := hrel
          by_cases hjl : j < Vl
          · have hjV : j < V.length := by rw [EV.out]; exact hjl
            obtain ⟨gh, rfl, _, _, kc⟩ := H6.out.cells j hjV
            have TK : Hid (hh ∈ V.take (j + 1) ↔ hh ∈ V.take j ∨ hh = V[j]) := by show _ ↔ _; rw [List.take_succ_eq_append_getElem hjV, List.mem_append, List.mem_singleton]
            obtain ⟨x, hx⟩ : ∃ x, V[j]'hjV = x := ⟨_, rfl⟩
            rw [hx] at kc TK
            have e5 : (j : Int) < (Vl : Int) := by omega
            clear hx
            by_cases hin : hh ∈ V.take j
            · have ED : Hid (decide (hh ∈ V.take j) = true) := decide_eq_true hin
              have EN : Hid (decide (hh ∈ V.take (j + 1)) = true) := decide_eq_true (TK.out.2 (.inl hin))
              clear hin
              rw [ED.out]
              go_wp2
              go_roundw
              case rel => exact ⟨j + 1, by omega, by rw [EN.out], by go_num, trivial⟩
              case measure => simp [intOf]; omega
            · have ED : Hid (decide (hh ∈ V.take j) = false) := decide_eq_false hin
              by_cases hxe : x = hh
              · have EN : Hid (decide (hh ∈ V.take (j + 1)) = true) := decide_eq_true (TK.out.2 (.inr hxe.symm))
                have hxi : (x : Int) = (hh : Int) := by omega
                clear hin
                rw [ED.out]
                go_wp2
                go_roundw
                case rel => exact ⟨j + 1, by omega, by rw [EN.out], by go_num, trivial⟩
                case measure => simp [intOf]; omega
              · have EN : Hid (decide (hh ∈ V.take (j + 1)) = false) := decide_eq_false (fun e => by rcases TK.out.1 e with e | e; exact hin e; exact hxe e.symm)
                have hxi : ¬ ((x : Int) = (hh : Int)) := by omega
                clear hin
                rw [ED.out]
                go_wp2
                go_roundw
                case rel => exact ⟨j + 1, by omega, by rw [EN.out]; simp [hxi], by go_num, trivial⟩
                case measure => simp [intOf]; omega
          · obtain rfl : j = Vl := by omega
            have EA : V.take j = V := List.take_of_length_le (by rw [EV.out]; exact Nat.le_refl _)
            rw [EA]
            by_cases hv : ∃ i, LvAt L hh i
            · have ED : Hid (decide (hh ∈ V) = true) := decide_eq_true (ML.out.2 hv)
              obtain ⟨i0, hi0⟩ := hv
              have LV : Hid (LvAt L hh i0) := hi0
              clear hi0
              rw [ED.out]
              go_wp2_with (go_at_call 23; refine (get_ok w.heap.size b a c n L hh i0 _ T6.out.ct hh2 LV.out).mono ?_; rintro e w7 ⟨rfl, m7, rfl⟩)
              go_ret
              exact ⟨rfl, ⟨T6.out.bel.os, T6.out.bel.tape, T6.out.bel.output, T6.out.bel.size, T6.out.bel.block⟩⟩
            · have ED : Hid (decide (hh ∈ V) = false) := decide_eq_false (fun e => hv (ML.out.1 e))
              have NV : Hid (¬ ∃ i, LvAt L hh i) := hv
              clear hv
              rw [ED.out]
              go_wp2_with (go_at_call 23; refine (get_bad w.heap.size b a c n L hh _ T6.out.ct hh2 NV.out).mono ?_; rintro e w7 ⟨rfl, rfl⟩)
              go_ret
              exact ⟨rfl, T6.out.bel⟩
end Go.Proofs.Ytjdgildeilcfiaa
