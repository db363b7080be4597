/- What Mark answers. -/
import Derived.Test.YtgmljgogmbaioaaGreatDoorRuLM
namespace Go.Proofs.YtgmljgogmbaioaaGreatDoor
open Go.RowKit
set_option linter.unusedVariables false
set_option maxRecDepth 4000


set_option maxHeartbeats 4000000 in
theorem mark_any (S : Nat → Prop) (b n : Nat) (f : Nat → Bool) (x k : Int) (w : World) (h : IsR w S b n f) (hS : ∀ i, w.heap.size ≤ i → S i) (hn : n ≤ 65536) (hx : -9223372036854775808 ≤ x ∧ x ≤ 9223372036854775807) (hk : -9223372036854775808 ≤ k ∧ k ≤ 9223372036854775807) :
    Calls Tryz.prog 81 #[.pointer (some ⟨b, 0, none⟩), .int .i64 x, .int .i64 k] w fun e w' => ∃ r f', e = .returned (.int .i64 r) ∧ TurnR n f x k true r f' ∧ IsR w' S b n f' ∧ Tu S w w' := by
  have H : Hid (IsR w S b n f) := h
  by_cases hb : badE n x k
  · have HB : Hid (badE n x k) := hb
    clear hb h
    go_enter Tryz.func81, Tryz.ntmps81
    go_wp2_with (go_at_call 107; refine (check_bad S b n f x k _ H.out hn hx hk HB.out).mono ?_; rintro e w' ⟨rfl, rfl⟩)
    go_ret
    exact ⟨2, f, rfl, .inl ⟨HB.out, rfl, rfl⟩, H.out, Tu.refl _ _⟩
  · unfold badE at hb
    obtain ⟨p, rfl⟩ : ∃ p : Nat, x = p := ⟨x.toNat, by omega⟩
    obtain ⟨q, rfl⟩ : ∃ q : Nat, k = q := ⟨k.toNat, by omega⟩
    have hq1 : 1 ≤ q := by omega
    have hpq : p + q ≤ n := by omega
    have FLL := freeL_FL f n
    have hll := freeL_len f n
    unfold IsR at h
    obtain ⟨L, hL⟩ : ∃ L, freeL f n = L := ⟨_, rfl⟩
    have HL : Hid (freeL f n = L) := hL
    rw [hL] at h hll FLL
    have HF : Hid (FL n f L) := FLL
    obtain ⟨wz, hwz⟩ : ∃ wz, w.alloc (.cells #[.int .i64 (p : Nat), .int .i64 (q : Nat)] 55) = wz := ⟨_, rfl⟩
    have BZ : Hid (Below w.heap.size w wz) := by show Below _ _ _; rw [← hwz]; exact (Below.refl _ w).alloc (Nat.le_refl _) _
    have QZ : Hid (wz.heap[w.heap.size]? = some (.cells #[.int .i64 (p : Nat), .int .i64 (q : Nat)] 55 (0, 0))) := by show _ = _; rw [← hwz]; exact Go.heap_alloc_new w _
    have AZ : Hid (At w S b n L) := h
    clear hb hL h FLL
    go_enter Tryz.func81, Tryz.ntmps81
    go_upto_region 6 with (first
      | (go_at_call 107; refine (check_ok S b n f p q _ H.out hn hq1 hpq).mono ?_; rintro e w' ⟨rfl, rfl⟩)
      | (go_at_call 108; refine (find_any S b n p f L _ (AZ.out.keep BZ.out) HF.out hn (by omega)).mono ?_; rintro e w1 ⟨i, hFi, rfl, b1⟩; have FI : Hid (FindOK L p i) := hFi; have hil := hFi.1; have BW : Hid (Below w.heap.size w w1) := BZ.out.trans (b1.mono BZ.out.size); have QW : Hid (w1.heap[w.heap.size]? = some (.cells #[.int .i64 (p : Nat), .int .i64 (q : Nat)] 55 (0, 0))) := (by show _ = _; rw [b1.block _ (Array.getElem?_eq_some_iff.1 QZ.out).1]; exact QZ.out); clear hFi b1))
    obtain ⟨c, hc⟩ : ∃ c : Bool, c = false ↔ (∃ h : i < L.length, L[i].1 ≤ p ∧ p + q ≤ L[i].1 + L[i].2) := by
      by_cases e : ∃ h : i < L.length, L[i].1 ≤ p ∧ p + q ≤ L[i].1 + L[i].2
      · exact ⟨false, by simp [e]⟩
      · exact ⟨true, by simp [e]⟩
    have HC : Hid (c = false ↔ (∃ h : i < L.length, L[i].1 ≤ p ∧ p + q ≤ L[i].1 + L[i].2)) := hc
    clear hc
    go_cut [54] from 23 to 54 (fun v wx => v = .bool c ∧ Below w1.heap.size w1 wx)
    case first =>
      by_cases hil2 : i = L.length
      · have hcf : c = true := by
          cases e : c
          · obtain ⟨h1, _⟩ := HC.out.1 e; omega
          · rfl
        subst hcf
        have B0 : Hid (Below w1.heap.size w1 w1.drew) := (Below.refl _ w1).drew
        obtain ⟨a, cap, hB⟩ := AZ.out.keep BW.out
        have c1 := hB.cell1
        obtain ⟨l, hll2⟩ : ∃ l, L.length = l := ⟨_, rfl⟩
        rw [hll2] at c1 hil2 hll
        subst hil2
        clear HC hll2 hB hil
        go_quiet (fail)
        all_goals go_wp2
        all_goals go_meet
        all_goals exact ⟨rfl, below_drewN' B0.out _⟩
      · have hi1 : i < L.length := by omega
        obtain ⟨a, cap, hB⟩ := AZ.out.keep BW.out
        have c1 := hB.cell1
        obtain ⟨g, rfl, _, hgl, d0, d1⟩ := hB.run hi1
        have hbd := (HF.out.pos L[i] (List.getElem_mem hi1)).2
        have HD1 : Hid (L[i].1 ≤ p → c = decide (L[i].1 + L[i].2 < p + q)) := fun hle => by
          cases e : c
          · exact (decide_eq_false (by have := (HC.out.1 e).2; omega)).symm
          · refine (decide_eq_true ?_).symm
            rcases Nat.lt_or_ge (L[i].1 + L[i].2) (p + q) with h | h
            · exact h
            · have := HC.out.2 ⟨hi1, hle, h⟩
              rw [e] at this; cases this
        have HD2 : Hid (p < L[i].1 → c = true) := fun hlt => by
          cases e : c
          · have := (HC.out.1 e).2; omega
          · rfl
        obtain ⟨x, hx⟩ : ∃ x, L[i] = x := ⟨_, rfl⟩
        rw [hx] at d0 d1 hbd HD1 HD2
        obtain ⟨x1, x2⟩ := x
        simp only at d0 d1 hbd HD1 HD2
        obtain ⟨t, ht⟩ : ∃ t, p + q = t := ⟨_, rfl⟩
        obtain ⟨s, hs⟩ : ∃ s, x1 + x2 = s := ⟨_, rfl⟩
        have ET : Hid (p + q = t) := ht
        have ES : Hid (x1 + x2 = s) := hs
        rw [ht, hs] at HD1
        rw [ht] at hpq
        rw [hs] at hbd
        have u0 : w1.cell? ⟨w.heap.size, 0, none⟩ = some (.int .i64 (p : Nat)) := cell_of_row _ _ 0 _ _ _ QW.out
        have u1 : w1.cell? ⟨w.heap.size, 1, none⟩ = some (.int .i64 (q : Nat)) := cell_of_row _ _ 1 _ _ _ QW.out
        have hj : (i : Int) < (L.length : Int) := by omega
        have hj0 : (0 : Int) ≤ (i : Int) := by omega
        have hne : ¬ ((i : Int) = (L.length : Int)) := by omega
        have hnb : ((i : Int) == (L.length : Int)) = false := beq_eq_false_iff_ne.2 hne
        have nd := World.new_ne w1 _ d0
        have nu := World.new_ne w1 _ u0
        have nb := World.new_ne w1 _ c1
        clear hx ht hs HC hil2 hB
        by_cases hpx : p < x1
        · have hct := HD2.out hpx
          subst hct
          have hpx' : (p : Int) < (x1 : Int) := by omega
          have B0 : Hid (Below w1.heap.size w1 w1.drew) := (Below.refl _ w1).drew
          clear HD1 HD2
          go_quiet (fail)
          all_goals go_wp2
          all_goals go_meet
          all_goals exact ⟨rfl, below_drewN' B0.out _⟩
        · have hct := HD1.out (by omega)
          have HCT : Hid (c = decide (s < t)) := hct
          have hpx' : ¬ ((p : Int) < (x1 : Int)) := by omega
          have hpd : decide ((p : Int) < (x1 : Int)) = false := decide_eq_false hpx'
          have hpd2 : decide (p < x1) = false := decide_eq_false hpx
          have B1 : Hid (Below w1.heap.size w1 ((w1.drew.alloc (.cells #[.int .i64 (p : Nat), .int .i64 (q : Nat)] 55)).alloc (.cells #[.int .i64 (x1 : Nat), .int .i64 (x2 : Nat)] 55))) := ((Below.refl _ w1).drew.alloc (Nat.le_refl _) _).alloc (by simp) _
          clear HD1 HD2 hct
          go_region_held3 (fun w' => w'.cell? ⟨b, 1, none⟩ = some (.slice (some ⟨g, 0, none⟩) L.length cap) ∧ w'.cell? ⟨g, i * 2, none⟩ = some (.int .i64 (x1 : Nat)) ∧ w'.cell? ⟨g, i * 2 + 1, none⟩ = some (.int .i64 (x2 : Nat)) ∧ w'.cell? ⟨w.heap.size, 0, none⟩ = some (.int .i64 (p : Nat)) ∧ w'.cell? ⟨w.heap.size, 1, none⟩ = some (.int .i64 (q : Nat))) (first | (refine ⟨?_, ?_, ?_, ?_, ?_⟩ <;> (repeat refine keepA ?_) <;> (first | exact c1 | exact d0 | exact d1 | exact u0 | exact u1)) | go_keep)
            (first
              | (go_at_call 109; refine (end_any p q _ (by have := ET.out; omega)).mono ?_; rw [ET.out]; rintro e w' ⟨rfl, rfl⟩)
              | (go_at_call 109; refine (end_any x1 x2 _ (by have := ES.out; omega)).mono ?_; rw [ES.out]; rintro e w' ⟨rfl, rfl⟩))
          all_goals go_wp2
          all_goals go_meet
          all_goals exact ⟨by rw [HCT.out], B1.out⟩
    case rest =>
      obtain ⟨rfl, bw⟩ := hcut
      have QC : Hid (wc.heap[w.heap.size]? = some (.cells #[.int .i64 (p : Nat), .int .i64 (q : Nat)] 55 (0, 0))) := by show _ = _; rw [bw.block _ (Array.getElem?_eq_some_iff.1 QW.out).1]; exact QW.out
      have BC : Hid (Below w.heap.size w wc) := BW.out.trans (bw.mono BW.out.size)
      have u0 : wc.cell? ⟨w.heap.size, 0, none⟩ = some (.int .i64 (p : Nat)) := cell_of_row _ _ 0 _ _ _ QC.out
      have u1 : wc.cell? ⟨w.heap.size, 1, none⟩ = some (.int .i64 (q : Nat)) := cell_of_row _ _ 1 _ _ _ QC.out
      have hpi : (1 : Int) ≤ (q : Int) ∧ (0 : Int) ≤ (p : Int) ∧ (p : Int) + (q : Int) ≤ (n : Int) := by omega
      have HPI : Hid ((1 : Int) ≤ (q : Int) ∧ (0 : Int) ≤ (p : Int) ∧ (p : Int) + (q : Int) ≤ (n : Int)) := hpi
      clear bw hpi
      cases c
      · obtain ⟨hi1, hle, hre⟩ := HC.out.1 rfl
        have AF : Hid (AllF f p q false) := HF.out.mark_ok hi1 hle hre
        have TR : Hid (TurnR n f p q true 0 (turnU f p q true)) := .inr (.inr ⟨HPI.out.1, HPI.out.2.1, HPI.out.2.2, by simpa using AF.out, rfl, by simp⟩)
        have FC : Hid (FL n (turnU f p q true) (L.take i ++ [(L[i].1, p - L[i].1), (p + q, L[i].1 + L[i].2 - (p + q))].filter notE ++ L.drop (i + 1))) := by
          have q1 := HF.out
          rw [list_parts L i hi1] at q1
          exact cut_FL (a := L[i].1) (l := L[i].2) q1 hle hre hq1
        have HI1 : Hid (L[i].1 ≤ p ∧ p + q ≤ L[i].1 + L[i].2) := ⟨hle, hre⟩
        clear HC hle hre
        go_wp2_with (go_at_call 110; refine (cut_any S b n i p q L _ (AZ.out.keep BC.out) (fun k hk => hS k (by have := BC.out.size; omega)) hi1 (by omega) HI1.out.1 HI1.out.2 (by have := (HF.out.pos L[i] (List.getElem_mem hi1)).2; omega)).mono ?_; rintro e w9 ⟨rfl, h9, t9⟩; have I9 : Hid (IsR w9 S b n (turnU f p q true)) := IsR.of h9 FC.out; have T9 : Hid (Tu S w w9) := (Tu.ofBelow BC.out).trans t9; clear h9 t9)
        go_ret
        exact ⟨0, turnU f p q true, rfl, TR.out, I9.out, T9.out⟩
      · have NF : Hid (¬ AllF f p q false) := fun ha => by
          have := HC.out.2 (HF.out.mark_no FI.out hq1 hpq ha)
          cases this
        have TR : Hid (TurnR n f p q true 9 f) := .inr (.inl ⟨HPI.out.1, HPI.out.2.1, HPI.out.2.2, by simpa using NF.out, rfl, rfl⟩)
        clear HC
        go_wp2
        go_ret
        exact ⟨9, f, rfl, TR.out, H.out.keep BC.out, Tu.ofBelow BC.out⟩
end Go.Proofs.YtgmljgogmbaioaaGreatDoor
