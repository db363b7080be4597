/- What extent, wrong and unfit answer. -/
import Derived.Test.YtjmbmicollkmkaaFrC
import Derived.Deep.QuietTactic
import Derived.BigQuiet
namespace Go.Proofs.Ytjmbmicollkmkaa
open Go.RowKit
set_option linter.unusedVariables false

theorem two_get {l : List Int} (h : 3 ≤ l.length) : getL (((l.drop 1).take 2).take 8) = l.getD 1 0 + 256 * l.getD 2 0 := by
  match l, h with
  | a :: b :: c :: l, _ => simp [getL]

theorem extent_any (a : Option Addr) (cap n : Nat) (l : List Int) (w : World) (hn : n = l.length) (h : IsB w a l) (hc : l.length ≤ cap) (hm : cap ≤ maxLen) :
    Calls Try.prog 28 #[.slice a n cap] w fun e w' => (∃ E : Nat, e = .returned (.int .i64 E) ∧ 7 ≤ E ∧ E ≤ 65542 ∧ Hid (E = extL l)) ∧ w = w' := by
  subst hn
  have hb : AllB l := h.1
  have h1 := hb.at 1
  have h2 := hb.at 2
  unfold maxLen at hm
  by_cases h3 : l.length < 3
  · have HE : Hid (7 = extL l) := by show 7 = extL l; rw [extL, if_pos h3]
    clear h hb h1 h2
    go_enter Try.func28, Try.ntmps28
    go_wp2
    go_ret
    exact ⟨⟨7, rfl, by omega, by omega, HE⟩, rfl⟩
  · obtain ⟨_, rfl | ⟨b, off, rfl, hs, hcell⟩⟩ := h
    · simp at h3
    obtain ⟨v, hv⟩ : ∃ v : Nat, l.getD 1 0 + 256 * l.getD 2 0 = (v : Int) := ⟨(l.getD 1 0 + 256 * l.getD 2 0).toNat, by omega⟩
    have hv2 : v ≤ 65535 := by omega
    have HE : Hid (v + 7 = extL l) := by show v + 7 = extL l; rw [extL, if_neg h3, hv]; omega
    have HI : Hid (IsB w (some ⟨b, off + 1, none⟩) ((l.drop 1).take 2)) := IsB.part (l := l) ⟨hb, .inr ⟨b, off, rfl, hs, hcell⟩⟩ 1 2
    have HV : Hid (getL (((l.drop 1).take 2).take 8) = (v : Int)) := by show _ = _; rw [two_get (by omega), hv]
    have HL : Hid (2 = ((l.drop 1).take 2).length) := by show 2 = _; rw [List.length_take, List.length_drop]; omega
    clear hb h1 h2 hv hcell
    go_enter Try.func28, Try.ntmps28
    go_wp2_with (go_at_call 33; refine (get_of _ _ _ ((l.drop 1).take 2) v _ HL.out HV.out HI.out (by have := HL.out; unfold maxLen; omega)).mono ?_; rintro e w' ⟨rfl, rfl⟩)
    go_ret
    exact ⟨⟨v + 7, ret_int (by omega), by omega, by omega, HE⟩, rfl⟩

/-- What is wrong with a frame. -/
def unfitL (k : Int) (n : Nat) : Int := if k < 1 ∨ 255 < k then 11 else if 65535 < n then 6 else 0

theorem unfit_any (k : Int) (a : Option Addr) (n cap : Nat) (hn : n ≤ maxLen) (w : World) :
    Calls Try.prog 29 #[.agg #[.int .i64 k, .slice a n cap]] w fun e w' => e = .returned (.int .i64 (unfitL k n)) ∧ w' = w.alloc (.cells #[.int .i64 k, .slice a n cap] 29) := by
  unfold maxLen at hn
  go_enter Try.func29, Try.ntmps29
  go_wp2
  all_goals (go_ret; refine ⟨ret_int ?_, rfl⟩; unfold unfitL)
  all_goals (repeat' split) <;> omega

theorem get_q (a : Option Addr) (cap n : Nat) (l : List Int) (v : Int) (w : World) (hn : n = l.length) (hv : getL (l.take 8) = v) (h : IsB w a l) (hm : l.length ≤ maxLen) :
    Calls Try.prog 33 #[.slice a n cap] w fun e w' => e = .returned (.int .u64 v) ∧ w' = w :=
  (get_of a cap n l v w hn hv h hm).mono fun _ _ h => ⟨h.1, h.2.symm⟩

theorem sum_q (a : Option Addr) (cap n : Nat) (l : List Int) (v : Int) (w : World) (hn : n = l.length) (hv : sumI l = v) (h : IsB w a l) (hm : l.length ≤ maxLen) :
    Calls Try.prog 34 #[.slice a n cap] w fun e w' => e = .returned (.int .u32 v) ∧ w' = w := by
  subst hv
  exact (sum_of a cap n l w hn h hm).mono fun _ _ h => ⟨h.1, h.2.symm⟩

set_option maxHeartbeats 1000000 in
theorem wrong_any (a : Option Addr) (cap n : Nat) (l : List Int) (al : Bool) (w : World) (hn : n = l.length) (h : IsB w a l) (hc : l.length ≤ cap) (hm : cap ≤ maxLen) :
    Calls Try.prog 23 #[.slice a n cap, .bool al] w fun e w' => e = .returned (.int .i64 (wrongL l al)) ∧ ∃ m, w' = w.drewN m := by
  subst hn
  have HM : Hid (cap ≤ maxLen) := hm
  have hb : AllB l := h.1
  have H : Hid (IsB w a l) := h
  unfold maxLen at hm
  by_cases h1 : l.length < extL l
  · have HW : Hid (wrongL l al = 3) := by show _ = _; rw [wrongL, if_pos h1]
    have H1 : Hid (l.length < extL l) := h1
    clear h hb h1
    go_enter Try.func23, Try.ntmps23
    go_wp2_with (go_at_call 28; refine (extent_any a cap _ l _ rfl H.out hc HM.out).mono ?_; rintro e w' ⟨⟨E, rfl, hE1, hE2, HE⟩, rfl⟩; have hlt : l.length < E := by (rw [HE.out]; exact H1.out))
    go_ret
    exact ⟨ret_int HW.out.symm, 0, rfl⟩
  · by_cases h2 : al = true ∧ extL l < l.length
    · obtain ⟨rfl, h2⟩ := h2
      have HW : Hid (wrongL l true = 6) := by show _ = _; rw [wrongL, if_neg h1, if_pos ⟨rfl, h2⟩]
      have H2 : Hid (extL l < l.length) := h2
      clear h hb h1 h2
      go_enter Try.func23, Try.ntmps23
      go_wp2_with (go_at_call 28; refine (extent_any a cap _ l _ rfl H.out hc HM.out).mono ?_; rintro e w' ⟨⟨E, rfl, hE1, hE2, HE⟩, rfl⟩; have hlt : E < l.length := by (rw [HE.out]; exact H2.out))
      go_ret
      exact ⟨ret_int HW.out.symm, 0, rfl⟩
    · have hge := extL_ge l
      obtain ⟨_, rfl | ⟨b, off, rfl, hs, hcell⟩⟩ := h
      · simp at h1; omega
      obtain ⟨M, hM⟩ : ∃ M, extL l = M + 4 := ⟨extL l - 4, by omega⟩
      have hW := show wrongL l al = _ from by rw [wrongL, if_neg h1, if_neg h2]
      rw [hM, Nat.add_sub_cancel] at hW
      rw [hM] at h1 h2 hge
      obtain ⟨v, hv⟩ : ∃ v, getL ((l.take (M + 4)).drop M) = v := ⟨_, rfl⟩
      obtain ⟨s, hs'⟩ : ∃ s, sumI (l.take M) = s := ⟨_, rfl⟩
      rw [hv, hs'] at hW
      have e4 : (l.take (M + 4)).drop M = (l.drop M).take 4 := by rw [List.drop_take]; congr 1; omega
      rw [e4] at hv
      have l4 : ((l.drop M).take 4).length = 4 := by rw [List.length_take, List.length_drop]; omega
      have vb := getL_take_bd _ 8 ((hb.drop M).take 4) (by omega)
      have HV : Hid (getL (((l.drop M).take 4).take 8) = v) := by show _ = _; rw [List.take_of_length_le (i := 8) (by omega)]; exact hv
      rw [HV.out] at vb
      have sb := sumI_bd (hb.take M)
      rw [hs'] at sb
      have HS : Hid (sumI (l.take M) = s) := hs'
      have I1 : Hid (IsB w (some ⟨b, off + M, none⟩) ((l.drop M).take 4)) := IsB.part H.out M 4
      have I2 : Hid (IsB w (some ⟨b, off, none⟩) (l.take M)) := IsB.part H.out 0 M
      have L1 : Hid (4 = ((l.drop M).take 4).length) := l4.symm
      have L2 : Hid (M = (l.take M).length) := by show M = _; rw [List.length_take]; omega
      have hc0 := hcell 0 (by omega)
      obtain ⟨y, hy⟩ : ∃ y, l.getD 0 0 = y := ⟨_, rfl⟩
      rw [hy, Nat.add_zero] at hc0
      rw [hy] at hW
      have HW : Hid (wrongL l al = _) := hW
      have HM4 : Hid (extL l = M + 4) := hM
      have hyb := hb.at 0
      rw [hy] at hyb
      have hq1 : (M + 4 : Int) - 4 = M := by omega
      have h1' : ¬ (l.length : Int) < (M : Int) + 4 := by omega
      have h2' : (al && decide ((M : Int) + 4 < (l.length : Int))) = false := by
        cases al
        · rfl
        · simp at h2 ⊢; omega
      have hMl : M + 4 ≤ l.length := by omega
      have L1m : ((l.drop M).take 4).length ≤ maxLen := by rw [l4]; decide
      have L2m : (l.take M).length ≤ maxLen := by rw [List.length_take]; unfold maxLen; omega
      clear hW hM hv hs' e4 l4 hb hcell h1 hy
      have h2t : al = true → ¬ (M : Int) + 4 < (l.length : Int) := by
        intro e h; rw [e] at h2; exact h2 ⟨rfl, by omega⟩
      clear h2 h2'
      cases al
      · clear h2t
        by_cases hvs : v = s
        · subst hvs
          by_cases hy0 : y = 0
          all_goals
            go_enter Try.func23, Try.ntmps23
            go_wp2_with (go_at_call 28; refine (extent_any _ cap _ l _ rfl H.out hc HM.out).mono ?_; rintro e w' ⟨⟨E, rfl, hE1, hE2, HE⟩, rfl⟩; obtain rfl : E = M + 4 := HE.out.trans HM4.out)
            go_quiet (first | (go_at_call 33; exact Calls.quiet_of_same (get_q _ _ _ _ v _ L1.out HV.out (I1.out.drewN _) L1m)) | (go_at_call 34; exact Calls.quiet_of_same (sum_q _ _ _ _ v _ L2.out HS.out (I2.out.drewN _) L2m)))
            go_wp2
            go_ret
            refine ⟨ret_int ?_, _, rfl⟩
            rw [HW.out]
            simp [hy0]
        · go_enter Try.func23, Try.ntmps23
          go_wp2_with (go_at_call 28; refine (extent_any _ cap _ l _ rfl H.out hc HM.out).mono ?_; rintro e w' ⟨⟨E, rfl, hE1, hE2, HE⟩, rfl⟩; obtain rfl : E = M + 4 := HE.out.trans HM4.out)
          go_quiet (first | (go_at_call 33; exact Calls.quiet_of_same (get_q _ _ _ _ v _ L1.out HV.out (I1.out.drewN _) L1m)) | (go_at_call 34; exact Calls.quiet_of_same (sum_q _ _ _ _ s _ L2.out HS.out (I2.out.drewN _) L2m)))
          go_wp2
          go_ret
          refine ⟨ret_int ?_, _, rfl⟩
          rw [HW.out]
          simp [hvs]
      · replace h2t := h2t rfl
        by_cases hvs : v = s
        · subst hvs
          by_cases hy0 : y = 0
          all_goals
            go_enter Try.func23, Try.ntmps23
            go_wp2_with (go_at_call 28; refine (extent_any _ cap _ l _ rfl H.out hc HM.out).mono ?_; rintro e w' ⟨⟨E, rfl, hE1, hE2, HE⟩, rfl⟩; obtain rfl : E = M + 4 := HE.out.trans HM4.out)
            go_quiet (first | (go_at_call 33; exact Calls.quiet_of_same (get_q _ _ _ _ v _ L1.out HV.out (I1.out.drewN _) L1m)) | (go_at_call 34; exact Calls.quiet_of_same (sum_q _ _ _ _ v _ L2.out HS.out (I2.out.drewN _) L2m)))
            go_wp2
            go_ret
            refine ⟨ret_int ?_, _, rfl⟩
            rw [HW.out]
            simp [hy0]
        · go_enter Try.func23, Try.ntmps23
          go_wp2_with (go_at_call 28; refine (extent_any _ cap _ l _ rfl H.out hc HM.out).mono ?_; rintro e w' ⟨⟨E, rfl, hE1, hE2, HE⟩, rfl⟩; obtain rfl : E = M + 4 := HE.out.trans HM4.out)
          go_quiet (first | (go_at_call 33; exact Calls.quiet_of_same (get_q _ _ _ _ v _ L1.out HV.out (I1.out.drewN _) L1m)) | (go_at_call 34; exact Calls.quiet_of_same (sum_q _ _ _ _ s _ L2.out HS.out (I2.out.drewN _) L2m)))
          go_wp2
          go_ret
          refine ⟨ret_int ?_, _, rfl⟩
          rw [HW.out]
          simp [hvs]
end Go.Proofs.Ytjmbmicollkmkaa
