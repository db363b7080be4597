/- What the law RunsWhole goes through. -/
import Derived.Test.YtdpkmlkckhhcgaaRzA
namespace Go.Proofs.Ytdpkmlkckhhcgaa
open Go.RowKit
set_option linter.unusedVariables false

/-- Where the run ahead of the i-th one ends. -/
def atE (L : List (Nat × Nat)) (i : Nat) : Nat := if i = 0 then 0 else (L.getD (i - 1) (0, 0)).1 + (L.getD (i - 1) (0, 0)).2
theorem atE_zero (L : List (Nat × Nat)) : atE L 0 = 0 := rfl
theorem atE_succ {L : List (Nat × Nat)} {i : Nat} (h : i < L.length) : atE L (i + 1) = L[i].1 + L[i].2 := by
  rw [atE, if_neg (by omega), Nat.add_sub_cancel]
  simp [List.getD, h]
theorem atE_le {n : Nat} {f : Nat → Bool} {L : List (Nat × Nat)} (hF : FL n f L) {i : Nat} (h : i < L.length) : atE L i ≤ L[i].1 ∧ (0 < i → atE L i < L[i].1) := by
  rcases Nat.eq_zero_or_pos i with rfl | h0
  · exact ⟨by rw [atE_zero]; omega, fun h => by omega⟩
  · obtain ⟨j, rfl⟩ : ∃ j, i = j + 1 := ⟨i - 1, by omega⟩
    have := List.pairwise_iff_getElem.1 hF.ris j (j + 1) (by omega) h (by omega)
    rw [atE_succ (by omega)]
    exact ⟨by omega, fun _ => this⟩
theorem gap {n : Nat} {f : Nat → Bool} {L : List (Nat × Nat)} (hF : FL n f L) {i t : Nat} (hi : i ≤ L.length) (h1 : atE L i ≤ t) (h2 : ∀ h : i < L.length, t < L[i].1) (ht : t < n) : f t = true := by
  cases e : f t
  · exfalso
    obtain ⟨r, hr, h3, h4⟩ := (hF.cov t ht).1 e
    obtain ⟨j, hj, rfl⟩ := List.getElem_of_mem hr
    rcases Nat.lt_or_ge j i with h5 | h5
    · obtain ⟨k, rfl⟩ : ∃ k, i = k + 1 := ⟨i - 1, by omega⟩
      rw [atE_succ (by omega)] at h1
      have := hF.ends (i := j) (j := k) (by omega) (by omega)
      omega
    · have h6 := h2 (by omega)
      rcases Nat.lt_or_eq_of_le h5 with h7 | h7
      · have := List.pairwise_iff_getElem.1 hF.ris i j (by omega) hj h7
        omega
      · subst h7; omega
  · rfl
theorem hasF_at {n : Nat} {f : Nat → Bool} {t : Nat} (h : t < n) : hasF n f (t : Nat) = f t := by
  unfold hasF
  rw [decide_eq_true (by omega), decide_eq_true (p := ((t : Nat) : Int) < (n : Int)) (by omega), Int.toNat_natCast]; rfl

set_option maxRecDepth 100000 in
set_option maxHeartbeats 16000000 in
theorem runsWhole_any (nn : Nat) (a : Option Addr) (cap L : Nat) (kd xx kk : Nat → Int) (w : World) (hn : nn < 65536) (hC : IsC w a L kd xx kk) (hl : L ≤ maxLen) :
    Calls Try.prog 4 #[.int .u16 (nn : Nat), .slice a L cap] w fun e w' => e = .returned (.bool true) ∧ Below w.heap.size w w' := by
  have HC : Hid (IsC w a L kd xx kk) := hC
  clear hC
  go_enter Try.func4, Try.ntmps4
  go_wp2_with fail
  refine (alive_any _).mono ?_
  rintro e w1 ⟨rfl, b1⟩
  have B1 : Hid (Below w.heap.size w w1) := b1
  clear b1
  go_wp2_with fail
  refine (plays_any nn a cap L kd xx kk w1 hn (HC.out.keep B1.out) hl).mono ?_
  rintro e w2 ⟨b, mb, mg, f, rfl, hP⟩
  obtain ⟨N, hN⟩ : ∃ N, nn % 600 = N := ⟨_, rfl⟩
  have hN6 : N ≤ 65536 := by omega
  obtain ⟨S, hSe⟩ : ∃ S, Mine w1.heap.size mb mg = S := ⟨_, rfl⟩
  have hO := hP.on B1.out
  rw [hSe, hN] at hO
  have O2 : Hid (On w w2 S b N f) := hO
  have hFL := freeL_FL f N
  obtain ⟨LL, hLL⟩ : ∃ LL, freeL f N = LL := ⟨_, rfl⟩
  have ELL : Hid (freeL f N = LL) := hLL
  have hlen : LL.length ≤ N := by rw [← hLL]; exact freeL_len f N
  rw [hLL] at hFL
  have HF : Hid (FL N f LL) := hFL
  obtain ⟨l, hle⟩ : ∃ l, LL.length = l := ⟨_, rfl⟩
  have ELN : Hid (LL.length = l) := hle
  rw [hle] at hlen
  clear hP hO hN hSe HC B1 hl hFL hLL hle
  go_wp2_with fail
  refine (free_any S b N f _ O2.out.isR hN6).mono ?_
  rw [ELL.out, ELN.out]
  rintro e w3 ⟨rfl, r3, b3⟩
  have O3 : Hid (On w w3 S b N f) := O2.out.keep b3
  obtain ⟨G, hG⟩ : ∃ G, w2.heap.size = G := ⟨_, rfl⟩
  rw [hG] at r3 ⊢
  have R3 : Hid (Row w3 G LL) := r3
  have hGl : G < w3.heap.size := r3.lt
  have B33 : Hid (Below w3.heap.size w3 w3) := Below.refl _ _
  clear r3 b3 hG O2
  go_wp2_with fail
  go_loopw [8, 9, 10, 27] (fun sv mv tv iv wr => ∃ i s m t : Nat, i ≤ l ∧ iv = .int .i64 (i : Nat) ∧ sv = .int .i64 (s : Nat) ∧ mv = .int .i64 (m : Nat) ∧ tv = .int .i64 (t : Nat) ∧ s = sumL (LL.take i) ∧ m = maxL (LL.take i) ∧ t = atE LL i ∧ Below w3.heap.size w3 wr) (fun _ _ _ iv _ => l - (intOf iv).toNat)
  case atStart => exact ⟨0, 0, 0, 0, Nat.zero_le _, rfl, rfl, rfl, rfl, by simp [sumL], by simp [maxL], rfl, B33.out⟩
  case round =>
    obtain ⟨i, s, m, t, hi, rfl, rfl, rfl, rfl, hs, hm, ht, hb⟩ := hrel
    rename World => wr
    have BB : Hid (Below w3.heap.size w3 wr) := hb
    have HS : Hid (s = sumL (LL.take i)) := hs
    have HM : Hid (m = maxL (LL.take i)) := hm
    have HT : Hid (t = atE LL i) := ht
    have hsN : s ≤ N := by
      have h1 := sumL_append (LL.take i) (LL.drop i)
      rw [List.take_append_drop] at h1
      have h2 := HF.out.sum_le
      omega
    have hmN : m ≤ N := by
      have h1 := maxL_append (LL.take i) (LL.drop i)
      rw [List.take_append_drop] at h1
      have h2 := maxL_le HF.out
      omega
    clear hs hm
    by_cases hlt : i < l
    · have hlt2 : i < LL.length := by rw [ELN.out]; exact hlt
      have d0 := bcellL hb hGl (R3.out.cell0 i hlt2)
      have d1 := bcellL hb hGl (R3.out.cell1 i hlt2)
      have hxp := HF.out.pos LL[i] (List.getElem_mem hlt2)
      have hat := atE_le HF.out hlt2
      rw [← ht] at hat
      have GAP : Hid (∀ q, t ≤ q → q < LL[i].1 → q < N → hasF N f (q : Nat) = true) := fun q h1 h2 h3 => by
        rw [hasF_at h3]; exact gap HF.out (i := i) (by omega) (by rw [← HT.out]; exact h1) (fun _ => h2) h3
      have INR : Hid (∀ q, LL[i].1 ≤ q → q < LL[i].1 + LL[i].2 → q < N → hasF N f (q : Nat) = false) := fun q h1 h2 h3 => by
        rw [hasF_at h3]; exact (HF.out.cov q h3).2 ⟨LL[i], List.getElem_mem hlt2, h1, h2⟩
      have NS : Hid (s + LL[i].2 = sumL (LL.take (i + 1))) := by show _ = _; rw [List.take_succ_eq_append_getElem hlt2, sumL_snoc, HS.out]
      have NM : Hid (max m LL[i].2 = maxL (LL.take (i + 1))) := by show _ = _; rw [List.take_succ_eq_append_getElem hlt2, maxL_snoc, HM.out]
      have NT : Hid (LL[i].1 + LL[i].2 = atE LL (i + 1)) := (atE_succ hlt2).symm
      obtain ⟨x, hx⟩ : ∃ x, LL[i] = x := ⟨_, rfl⟩
      rw [hx] at d0 d1 hxp hat GAP INR NS NM NT
      obtain ⟨x1, x2⟩ := x
      simp only at d0 d1 hxp hat GAP INR NS NM NT
      have hlt' : (i : Int) < (l : Int) := by omega
      obtain ⟨D, hD⟩ : ∃ D, wr.alloc (.cells #[.int .i64 (x1 : Nat), .int .i64 (x2 : Nat)] 41) = D := ⟨_, rfl⟩
      have DQ : Hid (D.heap[wr.heap.size]? = some (.cells #[.int .i64 (x1 : Nat), .int .i64 (x2 : Nat)] 41 (0, 0))) := by show _ = _; rw [← hD]; exact Go.heap_alloc_new wr _
      have DB : Hid (Below w3.heap.size w3 D) := by show Below _ _ _; rw [← hD]; exact hb.alloc hb.size _
      have v0 : D.cell? ⟨wr.heap.size, 0, none⟩ = some (.int .i64 (x1 : Nat)) := cell_of_row _ _ 0 _ _ _ DQ.out
      have v1 : D.cell? ⟨wr.heap.size, 1, none⟩ = some (.int .i64 (x2 : Nat)) := cell_of_row _ _ 1 _ _ _ DQ.out
      have OD : Hid (On w D S b N f) := O3.out.keep DB.out
      clear hx ht hb
      go_upto_region 10 with (fail)
      go_cut [60] from 32 to 60 (fun v wx => v = .bool false ∧ ∃ q, wx = D.drewN q)
      case first =>
        have g1 : ¬ ((x2 : Int) < 1) := by omega
        have g2 : ¬ ((x1 : Int) < (t : Int)) := by omega
        have g3 : ¬ ((N : Int) - (x1 : Int) < (x2 : Int)) := by omega
        have k1 : decide ((x2 : Int) < 1) = false := decide_eq_false g1
        have k2 : decide ((x1 : Int) < (t : Int)) = false := decide_eq_false g2
        have k2' : decide (x1 < t) = false := decide_eq_false (by omega)
        have k1' : decide (x2 < 1) = false := decide_eq_false (by omega)
        have n1' : ¬ (x2 < 1) := by omega
        have n2' : ¬ (x1 < t) := by omega
        by_cases hi0 : i = 0
        · subst hi0
          go_quiet ((go_at_call 15; exact Calls.quiet_of_same (len_q S b N f _ (OD.out.isR.drewN _))))
          all_goals go_wp2
          all_goals go_meet
          all_goals exact ⟨rfl, nq, rfl⟩
        · have hi1 : 0 < i := by omega
          have h7 := hat.2 hi1
          have g4 : (0 : Int) < (i : Int) := by omega
          have g5 : ¬ ((x1 : Int) = (t : Int)) := by omega
          have k5 : ((x1 : Int) == (t : Int)) = false := beq_eq_false_iff_ne.2 g5
          have k4 : decide ((0 : Int) < (i : Int)) = true := decide_eq_true g4
          go_quiet ((go_at_call 15; exact Calls.quiet_of_same (len_q S b N f _ (OD.out.isR.drewN _))))
          all_goals go_wp2
          all_goals go_meet
          all_goals exact ⟨rfl, nq, rfl⟩
      case rest =>
        obtain ⟨rfl, q, hE⟩ := hcut
        have EB : Hid (Below w3.heap.size w3 wc) := by
          show Below _ _ _
          rw [hE]
          exact ⟨DB.out.os, DB.out.tape, DB.out.output, DB.out.size, DB.out.block⟩
        have y0 : wc.cell? ⟨wr.heap.size, 0, none⟩ = some (.int .i64 (x1 : Nat)) := by rw [hE]; exact v0
        have y1 : wc.cell? ⟨wr.heap.size, 1, none⟩ = some (.int .i64 (x2 : Nat)) := by rw [hE]; exact v1
        have EE : Hid (Below wc.heap.size wc wc) := Below.refl _ _
        have hxN : x1 + x2 ≤ N := hxp.2
        have htx : t ≤ x1 := hat.1
        clear hE v0 v1 d0 d1 hD DQ OD
        go_wp2_with fail
        go_loopw [10] (fun tv wx => ∃ p : Nat, t ≤ p ∧ p ≤ x1 ∧ tv = .int .i64 (p : Nat) ∧ Below wc.heap.size wc wx) (fun tv _ => x1 - (intOf tv).toNat)
        case atStart => exact ⟨t, Nat.le_refl _, htx, rfl, EE.out⟩
        case round =>
          obtain ⟨p, hp1, hp2, rfl, hbx⟩ := hrel
          rename World => wx
          have BX : Hid (Below wc.heap.size wc wx) := hbx
          have y0' := bcellK hbx y0
          have y1' := bcellK hbx y1
          have OX : Hid (On w wx S b N f) := O3.out.keep (EB.out.trans (hbx.mono EB.out.size))
          clear hbx
          by_cases hpx : p < x1
          · have HH : Hid (hasF N f (p : Nat) = true) := GAP.out p hp1 hpx (by omega)
            have hpx' : (p : Int) < (x1 : Int) := by omega
            go_wp2_with (go_at_call 16; refine (has_any S b N f (p : Nat) _ OX.out.isR hN6 (by omega)).mono ?_; rw [HH.out]; rintro e w9 ⟨rfl, b9⟩; have B9 : Hid (Below wc.heap.size wc w9) := BX.out.trans (b9.mono BX.out.size); clear b9)
            go_roundw
            case rel => exact ⟨p + 1, by omega, by omega, by go_num, B9.out⟩
            case measure => simp [intOf]; omega
          · obtain rfl : p = x1 := by omega
            have XX : Hid (Below wx.heap.size wx wx) := Below.refl _ _
            go_wp2_with fail
            go_loopw [10] (fun tv wy => ∃ q : Nat, p ≤ q ∧ q ≤ p + x2 ∧ tv = .int .i64 (q : Nat) ∧ Below wx.heap.size wx wy) (fun tv _ => p + x2 - (intOf tv).toNat)
            case atStart => exact ⟨p, Nat.le_refl _, by omega, rfl, XX.out⟩
            case round =>
              obtain ⟨q, hq1, hq2, rfl, hby⟩ := hrel
              rename World => wy
              have BY : Hid (Below wx.heap.size wx wy) := hby
              have y0'' := bcellK hby y0'
              have y1'' := bcellK hby y1'
              have OY : Hid (On w wy S b N f) := OX.out.keep hby
              clear hby
              by_cases hqx : q < p + x2
              · have HH : Hid (hasF N f (q : Nat) = false) := INR.out q hq1 hqx (by omega)
                have hqx' : (q : Int) < (p : Int) + (x2 : Int) := by omega
                go_wp2_with (go_at_call 16; refine (has_any S b N f (q : Nat) _ OY.out.isR hN6 (by omega)).mono ?_; rw [HH.out]; rintro e w9 ⟨rfl, b9⟩; have B9 : Hid (Below wx.heap.size wx w9) := BY.out.trans (b9.mono BY.out.size); clear b9)
                go_roundw
                case rel => exact ⟨q + 1, by omega, by omega, by go_num, B9.out⟩
                case measure => simp [intOf]; omega
              · obtain rfl : q = p + x2 := by omega
                have hge : ¬ (((p + x2 : Nat) : Int) < (p : Int) + (x2 : Int)) := by omega
                have BF : Hid (Below w3.heap.size w3 wy) := (EB.out.trans (BX.out.mono EB.out.size)).trans (BY.out.mono (Nat.le_trans EB.out.size BX.out.size))
                rcases Nat.lt_trichotomy m x2 with h1 | rfl | h1
                · have NE : Hid (x2 = maxL (LL.take (i + 1))) := by show _ = _; rw [← NM.out]; omega
                  have h1' : (m : Int) < (x2 : Int) := by omega
                  go_wp2
                  go_roundw
                  case rel => exact ⟨i + 1, s + x2, x2, p + x2, by omega, by go_num, by go_num, rfl, rfl, NS.out, NE.out, NT.out, BF.out⟩
                  case measure => simp [intOf]; omega
                · have NE : Hid (m = maxL (LL.take (i + 1))) := by show _ = _; rw [← NM.out]; omega
                  go_wp2
                  go_roundw
                  case rel => exact ⟨i + 1, s + m, m, p + m, by omega, by go_num, by go_num, rfl, rfl, NS.out, NE.out, NT.out, BF.out⟩
                  case measure => simp [intOf]; omega
                · have NE : Hid (m = maxL (LL.take (i + 1))) := by show _ = _; rw [← NM.out]; omega
                  have h1' : (x2 : Int) < (m : Int) := by omega
                  go_wp2
                  go_roundw
                  case rel => exact ⟨i + 1, s + x2, m, p + x2, by omega, by go_num, by go_num, rfl, rfl, NS.out, NE.out, NT.out, BF.out⟩
                  case measure => simp [intOf]; omega
    · obtain rfl : i = l := by omega
      have HSL : Hid (sumL (freeL f N) = s) := by
        show _ = _
        rw [ELL.out, HS.out, ← ELN.out, List.take_length]
      have HML : Hid (maxL (freeL f N) = m) := by
        show _ = _
        rw [ELL.out, HM.out, ← ELN.out, List.take_length]
      have htN : t ≤ N := by
        rw [ht]
        rcases Nat.eq_zero_or_pos i with h0 | h0
        · rw [h0, atE_zero]; omega
        · obtain ⟨j, rfl⟩ : ∃ j, i = j + 1 := ⟨i - 1, by omega⟩
          have hj : j < LL.length := by rw [ELN.out]; omega
          rw [atE_succ hj]
          exact (HF.out.pos _ (List.getElem_mem hj)).2
      have GAP : Hid (∀ q, t ≤ q → q < N → hasF N f (q : Nat) = true) := fun q h1 h3 => by
        rw [hasF_at h3]; exact gap HF.out (i := i) (by rw [ELN.out]; exact Nat.le_refl _) (by rw [← HT.out]; exact h1) (fun h => by rw [ELN.out] at h; omega) h3
      have EE : Hid (Below wr.heap.size wr wr) := Below.refl _ _
      have OR : Hid (On w wr S b N f) := O3.out.keep BB.out
      clear ht hb
      go_wp2_with fail
      go_loopw [10] (fun tv wx => ∃ p : Nat, t ≤ p ∧ p ≤ N ∧ tv = .int .i64 (p : Nat) ∧ Below wr.heap.size wr wx) (fun tv _ => N - (intOf tv).toNat)
      case atStart => exact ⟨t, Nat.le_refl _, htN, rfl, EE.out⟩
      case round =>
        obtain ⟨p, hp1, hp2, rfl, hbx⟩ := hrel
        rename World => wx
        have BX : Hid (Below wr.heap.size wr wx) := hbx
        have OX : Hid (On w wx S b N f) := OR.out.keep hbx
        clear hbx
        by_cases hpx : p < N
        · have HH : Hid (hasF N f (p : Nat) = true) := GAP.out p hp1 hpx
          have hpx' : (p : Int) < (N : Int) := by omega
          go_wp2_with (first
            | (go_at_call 15; refine (len_any S b N f _ OX.out.isR).mono ?_; rintro e w' ⟨rfl, rfl⟩)
            | (go_at_call 16; refine (has_any S b N f (p : Nat) _ OX.out.isR hN6 (by omega)).mono ?_; rw [HH.out]; rintro e w9 ⟨rfl, b9⟩; have B9 : Hid (Below wr.heap.size wr w9) := BX.out.trans (b9.mono BX.out.size); clear b9))
          go_roundw
          case rel => exact ⟨p + 1, by omega, by omega, by go_num, B9.out⟩
          case measure => simp [intOf]; omega
        · obtain rfl : p = N := by omega
          go_wp2_with (first
            | (go_at_call 18; refine (most_any S b p f _ O9.out.isR hN6).mono ?_; rw [HML.out]; rintro e w10 ⟨rfl, b10⟩; have B10 : Hid (Below w.heap.size w w10) := (O9.out.keep b10).low; clear b10)
            | (go_at_call 17; refine (left_any S b p f _ OX.out.isR hN6).mono ?_; rw [HSL.out]; rintro e w9 ⟨rfl, b9⟩; have O9 : Hid (On w w9 S b p f) := OX.out.keep b9; clear b9)
            | (go_at_call 15; refine (len_any S b p f _ OX.out.isR).mono ?_; rintro e w' ⟨rfl, rfl⟩))
          go_ret
          exact ⟨rfl, B10.out⟩
end Go.Proofs.Ytdpkmlkckhhcgaa
