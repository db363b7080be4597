/- The document's reader, at last: Bytes at any length, Fixed, Var and Upto. -/
import Derived.Test.YtdhamfhicdcdgaaNumRs
namespace Go.Proofs.Ytdhamfhicdcdgaa
open Go.RowKit
set_option linter.unusedVariables false

theorem rbytes_any (lo M : Nat) (l : List Int) (e N L : Int) (w : World) (h : RfAt w lo M l e) (hL : N < 0 ∧ L = 0 ∨ N = 0 ∧ L = 0 ∨ 0 < N ∧ L = N) (hbig : l.length ≤ 140737488355328) :
    Calls Try.prog 27 #[.pointer (some ⟨M, 0, none⟩), .int .i64 N] w fun r w' => ∃ a cap, r = .returned (.slice a (bsS l e L.toNat).1.length cap) ∧ IsB w' a (bsS l e L.toNat).1 ∧ RfAt w' lo M (bsS l e L.toNat).2.1 (bsS l e L.toNat).2.2 ∧ w.grownBy w' (some M) := by
  by_cases he : e = 0
  · subst he
    by_cases hN : N ≤ 0
    · refine (rbytes_none lo M l 0 N w h (.inr hN)).mono ?_
      rintro r w' ⟨rfl, rfl⟩
      have : L.toNat = 0 := by omega
      rw [this, bsS, if_pos rfl, if_pos (Nat.zero_le _)]
      exact ⟨none, 0, rfl, ⟨by simp, .inl rfl⟩, h, World.grownBy.refl _ _⟩
    · obtain ⟨K, hK⟩ : ∃ K : Nat, N = K := ⟨N.toNat, by omega⟩
      have hLK : L.toNat = K := by omega
      rw [hLK, hK]
      by_cases hl : K ≤ l.length
      · refine (rbytes_some lo M K l w h (by omega) hl hbig).mono ?_
        rintro r w' ⟨a, cap, rfl, i1, r1, g1⟩
        rw [bsS, if_pos rfl, if_pos hl]
        exact ⟨a, cap, ret_slice (by rw [List.length_take]; omega), i1, r1, g1⟩
      · refine (rbytes_short lo M l K w h (by omega) (by omega)).mono ?_
        rintro r w' ⟨rfl, r1, g1⟩
        rw [bsS, if_pos rfl, if_neg hl]
        exact ⟨none, 0, rfl, ⟨by simp, .inl rfl⟩, r1, g1⟩
  · refine (rbytes_none lo M l e N w h (.inl he)).mono ?_
    rintro r w' ⟨rfl, rfl⟩
    rw [bsS, if_neg he]
    exact ⟨none, 0, rfl, ⟨by simp, .inl rfl⟩, h, World.grownBy.refl _ _⟩

theorem fx_bs (l : List Int) (e : Int) (K : Nat) : fxS l e K = (getL (bsS l e K).1, (bsS l e K).2.1, (bsS l e K).2.2) := by
  rw [fxS, bsS]
  split
  · split
    · rfl
    · rfl
  · rfl

theorem bs_len (l : List Int) (e : Int) (K : Nat) : (bsS l e K).1.length ≤ K := by
  rw [bsS]
  split
  · split
    · rw [List.length_take]; omega
    · simp
  · simp

theorem rfixed_any (lo M : Nat) (l : List Int) (e N : Int) (K : Nat) (w : World) (h : RfAt w lo M l e) (hK : clampW N = K) (hK8 : K ≤ 8) (hbig : l.length ≤ 140737488355328) :
    Calls Try.prog 21 #[.pointer (some ⟨M, 0, none⟩), .int .i64 N] w fun r w' => r = .returned (.int .u64 (fxS l e K).1) ∧ RfAt w' lo M (fxS l e K).2.1 (fxS l e K).2.2 ∧ w.grownBy w' (some M) := by
  have HR : Hid (RfAt w lo M l e) := h
  have HK : Hid (clampW N = K) := hK
  have HF : Hid (fxS l e K = (getL (bsS l e K).1, (bsS l e K).2.1, (bsS l e K).2.2)) := fx_bs l e K
  have hb8 := bs_len l e K
  clear h hK
  go_enter Try.func21, Try.ntmps21
  go_wp2_with fail
  refine (width_any N _).mono ?_
  rintro r w' ⟨rfl, rfl⟩
  rw [HK.out]
  go_wp2_with fail
  refine (rbytes_any lo M l e K K w HR.out (by omega) hbig).mono ?_
  rw [Int.toNat_natCast]
  rintro r w1 ⟨a1, cap1, rfl, i1, r1, g1⟩
  go_wp2_with fail
  refine (rget_any a1 cap1 _ w1 i1 (by unfold maxLen; omega)).mono ?_
  rintro r w' ⟨rfl, rfl⟩
  go_wp2
  go_ret
  rw [HF.out, List.take_of_length_le (by omega)]
  exact ⟨rfl, r1, g1⟩

theorem one_step (k : Nat) (hk : k ≤ 8) : IntKind.u64.wrap (2 ^ (7 * k) * 128) = 2 ^ (7 * (k + 1)) := by
  have hm := pow7_mono (k + 1) 9 (by omega)
  have h9 : (2 : Int) ^ (7 * 9) = 9223372036854775808 := by decide
  have hp : (0 : Int) < 2 ^ (7 * (k + 1)) := Int.pow_pos (by decide)
  rw [IntKind.wrap_u64, Int.mul_comm, ← pow7_step]
  omega

theorem add_step (k : Nat) (acc c : Int) (h0 : 0 ≤ acc) (h1 : acc < 2 ^ (7 * k)) (hc : 0 ≤ c) (h9 : k ≤ 8 ∧ c ≤ 127 ∨ k = 9 ∧ c ≤ 1) :
    IntKind.u64.wrap (acc + IntKind.u64.wrap (c * 2 ^ (7 * k))) = acc + c * 2 ^ (7 * k) := by
  have D := dig_or k acc c h0 h1 hc h9
  have hp : (0 : Int) < 2 ^ (7 * k) := Int.pow_pos (by decide)
  have hbp : 0 ≤ c * 2 ^ (7 * k) := Int.mul_nonneg hc (by omega)
  rw [IntKind.wrap_u64, IntKind.wrap_u64]
  omega

set_option maxHeartbeats 2000000 in
theorem rrvar_ok (lo M : Nat) (l : List Int) (w : World) (h : RfAt w lo M l 0) :
    Calls Try.prog 23 #[.pointer (some ⟨M, 0, none⟩)] w fun r w' => r = .returned (.int .u64 (upS l 0 18446744073709551615).1) ∧ RfAt w' lo M (upS l 0 18446744073709551615).2.1 (upS l 0 18446744073709551615).2.2 ∧ w.grownBy w' (some M) := by
  have HR : Hid (RfAt w lo M l 0) := h
  obtain ⟨a, cap, c1, c2, c3, c4, hB, hcap, hm⟩ := rf_parts h
  obtain ⟨hb, hB'⟩ := hB
  have hm' := hm
  unfold maxLen at hm'
  clear h
  go_enter Try.func23, Try.ntmps23
  go_wp2
  go_loop [3, 4, 5] (fun n o i => ∃ (k : Nat) (acc : Int), k ≤ l.length ∧ k ≤ 9 ∧ i = .int .i64 k ∧ n = .int .u64 acc ∧ o = .int .u64 (2 ^ (7 * k)) ∧ 0 ≤ acc ∧ acc < 2 ^ (7 * k) ∧ rdL l = rdF k acc (l.drop k)) (fun _ _ i => l.length - (intOf i).toNat)
  case atStart => exact ⟨0, 0, Nat.zero_le _, Nat.zero_le _, rfl, rfl, rfl, by decide, by decide, rfl⟩
  case round =>
    obtain ⟨k, acc, hkl, hk9, rfl, rfl, rfl, ha0, ha1, hr⟩ := hrel
    have Hr : Hid (rdL l = rdF k acc (l.drop k)) := hr
    clear hr
    by_cases hl : k < l.length
    · rcases hB' with rfl | ⟨b, off, rfl, hsz, hc⟩
      · simp at hl
      have hcell := hc k hl
      have hx := hb l[k] (List.getElem_mem hl)
      have hU4 : rdL l = (0, 0, 4) → upS l 0 18446744073709551615 = (0, l, 4) := fun E => by rw [upS, if_pos rfl, E]; rfl
      have hUn : ∀ n sz, rdL l = (n, sz, 0) → n ≤ 18446744073709551615 → upS l 0 18446744073709551615 = (n, l.drop sz, 0) := fun n sz E hn => by rw [upS, if_pos rfl, E]; simp only [if_true]; rw [if_pos hn]
      have HU4 : Hid (rdL l = (0, 0, 4) → upS l 0 18446744073709551615 = (0, l, 4)) := hU4
      have HUn : Hid (∀ n sz, rdL l = (n, sz, 0) → n ≤ 18446744073709551615 → upS l 0 18446744073709551615 = (n, l.drop sz, 0)) := hUn
      clear hU4 hUn
      have hcut : Hid (∀ a', (l.length = k + 1 ∨ a' = some ⟨b, off + (k + 1), none⟩) → RfAt (w.setCell ⟨M, 0, none⟩ (.slice a' (l.length - (k + 1)) (cap - (k + 1)))) lo M (l.drop (k + 1)) 0) := by
        intro a' ha'
        obtain ⟨a2, cap2, hh, _, _, _, h5⟩ := HR.out
        have e2 := (cell_two hh).1
        rw [c1] at e2
        simp only [Option.some.injEq, Value.slice.injEq] at e2
        obtain ⟨rfl, _, rfl⟩ := e2
        rcases h5 with rfl | ⟨b2, off2, e5, hlo, hbM, _⟩
        · simp at hl
        · simp only [Option.some.injEq, Addr.mk.injEq] at e5
          obtain ⟨rfl, rfl, _⟩ := e5
          exact rf_cut hh hcap hm hb hlo hbM hc (by omega) ha'
      go_wp2
      all_goals first
        | (go_round
           case rel =>
             have h9 : ¬ (k : Int) = 9 := by assumption
             have hge : 128 ≤ l[k] := by assumption
             have D := dig_or k acc (l[k] % 128) ha0 ha1 (by omega) (.inl ⟨by omega, by omega⟩)
             have A := add_step k acc (l[k] % 128) ha0 ha1 (by omega) (.inl ⟨by omega, by omega⟩)
             have O := one_step k (by omega)
             exact ⟨k + 1, acc + l[k] % 128 * 2 ^ (7 * k), by omega, by omega, by go_num, by rw [A], by rw [O], D.2.1, dig_bd k acc _ ha1 (by omega), by rw [Hr.out]; exact rd_go l k acc hl (by omega) (by omega) hge⟩
           case measure => simp [intOf]; omega)
        | (have h1 : 1 < l[k] := by assumption
           have E : rdL l = (0, 0, 4) := by rw [Hr.out]; exact rd_bad l k acc hl (.inl ⟨by omega, h1⟩)
           go_ret
           rw [HU4.out E]
           exact ⟨rfl, rf_set HR.out 4, grown_set _ _ _⟩)
        | (have h1 : (l[k] == 0) = true := by assumption
           have E : rdL l = (0, 0, 4) := by rw [Hr.out]; exact rd_bad l k acc hl (.inr ⟨by omega, by simpa using h1⟩)
           go_ret
           rw [HU4.out E]
           exact ⟨rfl, rf_set HR.out 4, grown_set _ _ _⟩)
        | (have h1 : 1 < l[k] ∨ (l[k] == 0) = true := by assumption
           have E : rdL l = (0, 0, 4) := by
             rw [Hr.out]
             refine rd_bad l k acc hl ?_
             rcases h1 with h1 | h1
             · exact .inl ⟨by omega, h1⟩
             · exact .inr ⟨by omega, by simpa using h1⟩
           go_ret
           rw [HU4.out E]
           exact ⟨rfl, rf_set HR.out 4, grown_set _ _ _⟩)
        | (have h1 : l[k] < 128 := by assumption
           have h2 : ¬ (k = 9 ∧ 1 < l[k]) := by omega
           have h3 : ¬ (0 < k ∧ l[k] = 0) := by
             first
               | (have h4 : (l[k] == 0) = false := by assumption
                  intro h5
                  simp [h5.2] at h4)
               | (have h4 : l[k] ≤ 1 ∧ (l[k] == 0) = false := by assumption
                  have h6 := h4.2
                  intro h5
                  simp [h5.2] at h6)
               | omega
           have E : rdL l = (acc + l[k] % 128 * 2 ^ (7 * k), k + 1, 0) := by rw [Hr.out]; exact rd_stop l k acc hl h2 h3 h1
           have D := dig_or k acc (l[k] % 128) ha0 ha1 (by omega) (by omega)
           have A := add_step k acc (l[k] % 128) ha0 ha1 (by omega) (by omega)
           go_ret
           rw [HUn.out _ _ E (by have := D.2.2; omega)]
           refine ⟨ret_int A, ?_, grown_set _ _ _⟩
           first
             | exact hcut.out (some ⟨b, off + (k + 1), none⟩) (.inr rfl)
             | (have C := hcut.out (some ⟨b, off, none⟩) (.inl (by omega))
                rw [show cap - (k + 1) = 0 from by omega] at C
                exact C)
             | (have h10 : (10 : Nat) = k + 1 := by omega
                rw [h10]
                first
                  | exact hcut.out (some ⟨b, off + (k + 1), none⟩) (.inr rfl)
                  | (have C := hcut.out (some ⟨b, off, none⟩) (.inl (by omega))
                     rw [show cap - (k + 1) = 0 from by omega] at C
                     exact C)))
    · have E : rdL l = (0, 0, 3) := by rw [Hr.out]; exact rd_end l k acc (by omega)
      have HU3 : Hid (upS l 0 18446744073709551615 = (0, l, 3)) := by show _ = _; rw [upS, if_pos rfl, E]; rfl
      clear E
      go_wp2
      go_ret
      rw [HU3.out]
      exact ⟨rfl, rf_set HR.out 3, grown_set _ _ _⟩

theorem rrvar_any (lo M : Nat) (l : List Int) (e : Int) (w : World) (h : RfAt w lo M l e) :
    Calls Try.prog 23 #[.pointer (some ⟨M, 0, none⟩)] w fun r w' => r = .returned (.int .u64 (upS l e 18446744073709551615).1) ∧ RfAt w' lo M (upS l e 18446744073709551615).2.1 (upS l e 18446744073709551615).2.2 ∧ w.grownBy w' (some M) := by
  by_cases he : e = 0
  · subst he
    exact rrvar_ok lo M l w h
  · obtain ⟨a, cap, c1, c2, c3, c4, _, _, _⟩ := rf_parts h
    have HR : Hid (RfAt w lo M l e) := h
    have HU : Hid (upS l e 18446744073709551615 = (0, l, e)) := by show _ = _; rw [upS, if_neg he]
    have hq : (e != 0) = true := by rw [bne_iff_ne]; exact he
    clear h
    go_enter Try.func23, Try.ntmps23
    go_wp2
    go_ret
    rw [HU.out]
    exact ⟨rfl, HR.out, World.grownBy.refl _ _⟩

theorem up_most (l : List Int) (e most : Int) (hb : ∀ x ∈ l, 0 ≤ x ∧ x ≤ 255) :
    (e ≠ 0 ∧ upS l e 18446744073709551615 = (0, l, e) ∧ upS l e most = (0, l, e)) ∨
    (e = 0 ∧ ∃ er, er ≠ 0 ∧ upS l e 18446744073709551615 = (0, l, er) ∧ upS l e most = (0, l, er)) ∨
    (e = 0 ∧ ∃ n l', n ≤ most ∧ upS l e 18446744073709551615 = (n, l', 0) ∧ upS l e most = (n, l', 0)) ∨
    (e = 0 ∧ ∃ n l', most < n ∧ upS l e 18446744073709551615 = (n, l', 0) ∧ upS l e most = (0, l, 4)) := by
  by_cases he : e = 0
  · right
    have hF := rdL_facts l hb
    rcases hF with ⟨h0, h1, h2, _, _⟩ | ⟨h0, _, _⟩
    · right
      have e1 : upS l e 18446744073709551615 = ((rdL l).1, l.drop (rdL l).2.1, 0) := by rw [upS, if_pos he, if_pos h0, if_pos h2]
      by_cases hm : (rdL l).1 ≤ most
      · exact .inl ⟨he, _, _, hm, e1, by rw [upS, if_pos he, if_pos h0, if_pos hm]⟩
      · exact .inr ⟨he, _, _, by omega, e1, by rw [upS, if_pos he, if_pos h0, if_neg hm]⟩
    · left
      have hne : ¬ (rdL l).2.2 = 0 := by omega
      exact ⟨he, _, hne, by rw [upS, if_pos he, if_neg hne], by rw [upS, if_pos he, if_neg hne]⟩
  · left
    exact ⟨he, by rw [upS, if_neg he], by rw [upS, if_neg he]⟩

theorem rf_back {w w1 : World} {lo M cap : Nat} {a : Option Addr} {l l' : List Int} (h : RfAt w lo M l 0) (hc : w.cell? ⟨M, 0, none⟩ = some (.slice a l.length cap)) (h1 : RfAt w1 lo M l' 0) (hg : w.grownBy w1 (some M)) :
    RfAt ((w1.setCell ⟨M, 1, none⟩ (.int .i64 4)).setCell ⟨M, 0, none⟩ (.slice a l.length cap)) lo M l 4 := by
  obtain ⟨a2, cap2, hh, q1, q2, q3, q4⟩ := h
  have e2 := (cell_two hh).1
  rw [hc] at e2
  simp only [Option.some.injEq, Value.slice.injEq] at e2
  obtain ⟨rfl, _, rfl⟩ := e2
  obtain ⟨a3, cap3, hh3, _⟩ := h1
  refine ⟨a, cap, two_set0 (two_set1 hh3), q1, q2, q3, ?_⟩
  rcases q4 with q4 | ⟨b, off, e1, e0, e2, e3⟩
  · exact .inl q4
  · refine .inr ⟨b, off, e1, e0, e2, fun i hi => ?_⟩
    rw [cell_far _ _ _ _ _ _ (by omega), cell_far _ _ _ _ _ _ (by omega)]
    exact hg.cell (e3 i hi) (by intro q; have := Option.some.inj q; simp at this; omega)

set_option maxHeartbeats 1000000 in
theorem rupto_any (lo M : Nat) (l : List Int) (e most : Int) (w : World) (h : RfAt w lo M l e) :
    Calls Try.prog 25 #[.pointer (some ⟨M, 0, none⟩), .int .u64 most] w fun r w' => r = .returned (.int .u64 (upS l e most).1) ∧ RfAt w' lo M (upS l e most).2.1 (upS l e most).2.2 ∧ w.grownBy w' (some M) := by
  have HR : Hid (RfAt w lo M l e) := h
  obtain ⟨a, cap, c1, c2, c3, c4, hB, hcap, hm⟩ := rf_parts h
  rcases up_most l e most hB.1 with ⟨he, u1, u2⟩ | ⟨he, er, hne, u1, u2⟩ | ⟨he, n, l', hn, u1, u2⟩ | ⟨he, n, l', hn, u1, u2⟩
  all_goals
    rw [u2]
    have U1 : Hid (upS l e 18446744073709551615 = _) := u1
    clear h u1 u2 hB
  · have hq : (e == 0) = false := by rw [beq_eq_false_iff_ne]; exact he
    go_enter Try.func25, Try.ntmps25
    go_wp2_with fail
    refine (rrvar_any lo M l e w HR.out).mono ?_
    rw [U1.out]
    rintro r w1 ⟨rfl, r1, g1⟩
    obtain ⟨a1, cap1, d1, d2, d3, d4, _, _, _⟩ := rf_parts r1
    go_wp2
    go_ret
    exact ⟨rfl, r1, g1⟩
  · have hq : (er == 0) = false := by rw [beq_eq_false_iff_ne]; exact hne
    go_enter Try.func25, Try.ntmps25
    go_wp2_with fail
    refine (rrvar_any lo M l e w HR.out).mono ?_
    rw [U1.out]
    rintro r w1 ⟨rfl, r1, g1⟩
    obtain ⟨a1, cap1, d1, d2, d3, d4, _, _, _⟩ := rf_parts r1
    go_wp2
    go_ret
    exact ⟨rfl, r1, g1⟩
  · go_enter Try.func25, Try.ntmps25
    go_wp2_with fail
    refine (rrvar_any lo M l e w HR.out).mono ?_
    rw [U1.out]
    rintro r w1 ⟨rfl, r1, g1⟩
    obtain ⟨a1, cap1, d1, d2, d3, d4, _, _, _⟩ := rf_parts r1
    go_wp2
    go_ret
    exact ⟨rfl, r1, g1⟩
  · subst he
    go_enter Try.func25, Try.ntmps25
    go_wp2_with fail
    refine (rrvar_any lo M l 0 w HR.out).mono ?_
    rw [U1.out]
    rintro r w1 ⟨rfl, r1, g1⟩
    obtain ⟨a1, cap1, d1, d2, d3, d4, _, _, _⟩ := rf_parts r1
    go_wp2
    go_ret
    exact ⟨rfl, rf_back HR.out c1 r1 g1, grown_two g1 (grown_two (grown_set _ _ _) (grown_set _ _ _))⟩
end Go.Proofs.Ytdhamfhicdcdgaa
