/- What is free behind join. -/
import Derived.Test.YtgmljgogmbaioaaGreatDoorRuJ
import Derived.Test.YtgmljgogmbaioaaGreatDoorRuIK
namespace Go.Proofs.YtgmljgogmbaioaaGreatDoor
open Go.RowKit
set_option linter.unusedVariables false
set_option maxRecDepth 4000


theorem Front.parts {n : Nat} {f : Nat → Bool} {L : List (Nat × Nat)} {i p k fr ua um : Nat} (hF : FL n f L) (hi : FindOK L p i) (h : Front L i p k fr ua um) :
    ∃ A X, L.take i = A ++ X ∧ L.take fr = A ∧ (X = [] ∧ ua = p ∧ um = k ∨ ∃ x1 x2, X = [(x1, x2)] ∧ x1 + x2 = p ∧ ua = x1 ∧ um = x2 + k) ∧ ∀ r ∈ A, r.1 + r.2 < ua := by
  rcases h with ⟨rfl, rfl, rfl, hne⟩ | ⟨h0, rfl, h1, h2, rfl, rfl⟩
  · refine ⟨L.take fr, [], by simp, rfl, .inl ⟨rfl, rfl, rfl⟩, fun r hr => ?_⟩
    have hle := hi.2.1 r hr
    obtain ⟨j, hj, rfl⟩ := List.getElem_of_mem hr
    have hj2 : j < fr ∧ j < L.length := by simp at hj; omega
    rw [List.getElem_take] at hle ⊢
    have h1 : fr - 1 < L.length := by have := hi.1; omega
    by_cases e : j = fr - 1
    · subst e
      have := hne h1 (by omega)
      omega
    · have h2 := List.pairwise_iff_getElem.1 hF.ris j (fr - 1) hj2.2 h1 (by omega)
      have h3 := hi.2.1 L[fr - 1] (by
        have : L[fr - 1] ∈ L.take fr := by
          rw [List.mem_take_iff_getElem]
          exact ⟨fr - 1, by omega, rfl⟩
        exact this)
      have h4 := hF.pos L[fr - 1] (List.getElem_mem h1)
      omega
  · refine ⟨L.take (i - 1), [(L[i - 1].1, L[i - 1].2)], ?_, rfl, .inr ⟨_, _, rfl, h2, rfl, rfl⟩, (hF.behind h1).1⟩
    have := List.take_succ_eq_append_getElem h1
    rw [show i - 1 + 1 = i from by omega] at this
    exact this
theorem Back.parts {n : Nat} {f : Nat → Bool} {L : List (Nat × Nat)} {i t um tt ul : Nat} (hF : FL n f L) (hb : ∀ h : i < L.length, t ≤ L[i].1) (h : Back L i t um tt ul) :
    ∃ Y B, L.drop i = Y ++ B ∧ L.drop tt = B ∧ (Y = [] ∧ ul = um ∧ (∀ r ∈ B, t < r.1) ∨ ∃ y1 y2, Y = [(y1, y2)] ∧ y1 = t ∧ ul = um + y2 ∧ y1 + y2 ≤ n ∧ ∀ r ∈ B, y1 + y2 < r.1) := by
  rcases h with ⟨rfl, rfl, hne⟩ | ⟨h1, rfl, h2, rfl⟩
  · refine ⟨[], L.drop tt, rfl, rfl, .inl ⟨rfl, rfl, fun r hr => ?_⟩⟩
    obtain ⟨j, hj, rfl⟩ := List.getElem_of_mem hr
    have hj2 : tt + j < L.length := by simp at hj; omega
    rw [List.getElem_drop]
    have h1 : tt < L.length := by omega
    have h2 := hb h1
    have h3 := hne h1
    rcases Nat.eq_zero_or_pos j with rfl | h0
    · simp only [Nat.add_zero]; omega
    · have h4 := List.pairwise_iff_getElem.1 hF.ris tt (tt + j) h1 hj2 (by omega)
      omega
  · refine ⟨[(L[i].1, L[i].2)], L.drop (i + 1), ?_, rfl, .inr ⟨_, _, rfl, h2, rfl, (hF.pos L[i] (List.getElem_mem h1)).2, (hF.behind h1).2⟩⟩
    rw [List.drop_eq_getElem_cons h1]; rfl
theorem join_is {n : Nat} {f : Nat → Bool} {L : List (Nat × Nat)} {i p k fr ua um tt ul : Nat} (hF : FL n f L) (hi : FindOK L p i) (hk : 1 ≤ k) (hn : p + k ≤ n) (hb : ∀ h : i < L.length, p + k ≤ L[i].1) (h1 : Front L i p k fr ua um) (h2 : Back L i (p + k) um tt ul) :
    FL n (turnU f p k false) (L.take fr ++ [(ua, ul)] ++ L.drop tt) := by
  have hX : ∀ r ∈ L.take i, r.1 + r.2 ≤ p := hi.2.1
  have hY : ∀ r ∈ L.drop i, p + k ≤ r.1 := by
    intro r hr
    obtain ⟨j, hj, rfl⟩ := List.getElem_of_mem hr
    have hj2 : i + j < L.length := by simp at hj; omega
    rw [List.getElem_drop]
    have h3 := hb (by omega)
    rcases Nat.eq_zero_or_pos j with rfl | h0
    · simpa using h3
    · have h4 := List.pairwise_iff_getElem.1 hF.ris i (i + j) (by omega) hj2 (by omega)
      omega
  obtain ⟨A, X, e1, e2, h3, hA⟩ := h1.parts hF hi
  obtain ⟨Y, B, e3, e4, h4⟩ := h2.parts hF hb
  rw [e2, e4]
  rw [← List.take_append_drop i L, e1, e3] at hF
  rw [e1] at hX
  rw [e3] at hY
  rcases h3 with ⟨rfl, rfl, rfl⟩ | ⟨x1, x2, rfl, h5, rfl, rfl⟩
  · rcases h4 with ⟨rfl, rfl, hB⟩ | ⟨y1, y2, rfl, h6, rfl, h7, hB⟩
    · exact join_FL hF hk hn hX hY hA hB (Nat.le_refl _) (Nat.le_refl _) (fun j => by simp) hn
    · refine join_FL hF hk hn hX hY hA (fun r hr => by have := hB r hr; omega) (Nat.le_refl _) (by omega) (fun j => ?_) (by omega)
      simp; omega
  · rcases h4 with ⟨rfl, rfl, hB⟩ | ⟨y1, y2, rfl, h6, rfl, h7, hB⟩
    · refine join_FL hF hk hn hX hY hA (fun r hr => by have := hB r hr; omega) (by omega) (by omega) (fun j => ?_) (by omega)
      simp; omega
    · refine join_FL hF hk hn hX hY hA (fun r hr => by have := hB r hr; omega) (by omega) (by omega) (fun j => ?_) (by omega)
      simp; omega
end Go.Proofs.YtgmljgogmbaioaaGreatDoor

/- What Give answers. -/
namespace Go.Proofs.YtgmljgogmbaioaaGreatDoor
open Go.RowKit
set_option linter.unusedVariables false
set_option maxRecDepth 4000


set_option maxHeartbeats 4000000 in
theorem ugive_any (S : Nat → Prop) (b n : Nat) (f : Nat → Bool) (x k : Int) (w : World) (h : IsR w S b n f) (hS : ∀ i, w.heap.size ≤ i → S i) (hn : n ≤ 65536) (hx : -9223372036854775808 ≤ x ∧ x ≤ 9223372036854775807) (hk : -9223372036854775808 ≤ k ∧ k ≤ 9223372036854775807) :
    Calls Tryz.prog 93 #[.pointer (some ⟨b, 0, none⟩), .int .i64 x, .int .i64 k] w fun e w' => ∃ r f', e = .returned (.int .i64 r) ∧ TurnR n f x k false r f' ∧ IsR w' S b n f' ∧ Tu S w w' := by
  have H : Hid (IsR w S b n f) := h
  by_cases hb : badE n x k
  · have HB : Hid (badE n x k) := hb
    clear hb h
    go_enter Tryz.func93, Tryz.ntmps93
    go_wp2_with (go_at_call 107; refine (check_bad S b n f x k _ H.out hn hx hk HB.out).mono ?_; rintro e w' ⟨rfl, rfl⟩)
    go_ret
    exact ⟨2, f, rfl, .inl ⟨HB.out, rfl, rfl⟩, H.out, Tu.refl _ _⟩
  · unfold badE at hb
    obtain ⟨p, rfl⟩ : ∃ p : Nat, x = p := ⟨x.toNat, by omega⟩
    obtain ⟨q, rfl⟩ : ∃ q : Nat, k = q := ⟨k.toNat, by omega⟩
    have hq1 : 1 ≤ q := by omega
    have hpq : p + q ≤ n := by omega
    have FLL := freeL_FL f n
    have hll := freeL_len f n
    unfold IsR at h
    obtain ⟨L, hL⟩ : ∃ L, freeL f n = L := ⟨_, rfl⟩
    have HL : Hid (freeL f n = L) := hL
    rw [hL] at h hll FLL
    have HF : Hid (FL n f L) := FLL
    obtain ⟨wz, hwz⟩ : ∃ wz, w.alloc (.cells #[.int .i64 (p : Nat), .int .i64 (q : Nat)] 55) = wz := ⟨_, rfl⟩
    have BZ : Hid (Below w.heap.size w wz) := by show Below _ _ _; rw [← hwz]; exact (Below.refl _ w).alloc (Nat.le_refl _) _
    have QZ : Hid (wz.heap[w.heap.size]? = some (.cells #[.int .i64 (p : Nat), .int .i64 (q : Nat)] 55 (0, 0))) := by show _ = _; rw [← hwz]; exact Go.heap_alloc_new w _
    have AZ : Hid (At w S b n L) := h
    clear hb hL h FLL
    go_enter Tryz.func93, Tryz.ntmps93
    go_upto_region 6 with (first
      | (go_at_call 107; refine (check_ok S b n f p q _ H.out hn hq1 hpq).mono ?_; rintro e w' ⟨rfl, rfl⟩)
      | (go_at_call 108; refine (find_any S b n p f L _ (AZ.out.keep BZ.out) HF.out hn (by omega)).mono ?_; rintro e w1 ⟨i, hFi, rfl, b1⟩; have FI : Hid (FindOK L p i) := hFi; have hil := hFi.1; have BW : Hid (Below w.heap.size w w1) := BZ.out.trans (b1.mono BZ.out.size); have QW : Hid (w1.heap[w.heap.size]? = some (.cells #[.int .i64 (p : Nat), .int .i64 (q : Nat)] 55 (0, 0))) := (by show _ = _; rw [b1.block _ (Array.getElem?_eq_some_iff.1 QZ.out).1]; exact QZ.out); clear hFi b1))
    obtain ⟨c, hc⟩ : ∃ c : Bool, c = true ↔ (∃ h : i < L.length, L[i].1 < p + q) := by
      by_cases e : ∃ h : i < L.length, L[i].1 < p + q
      · exact ⟨true, by simp [e]⟩
      · exact ⟨false, by simp [e]⟩
    have HC : Hid (c = true ↔ (∃ h : i < L.length, L[i].1 < p + q)) := hc
    clear hc
    go_cut [42] from 23 to 42 (fun v wx => v = .bool c ∧ Below w1.heap.size w1 wx)
    case first =>
      by_cases hil2 : i = L.length
      · have hcf : c = false := by
          cases e : c
          · rfl
          · obtain ⟨h1, _⟩ := HC.out.1 e; omega
        subst hcf
        have B0 : Hid (Below w1.heap.size w1 w1.drew) := (Below.refl _ w1).drew
        obtain ⟨a, cap, hB⟩ := AZ.out.keep BW.out
        have c1 := hB.cell1
        obtain ⟨l, hll2⟩ : ∃ l, L.length = l := ⟨_, rfl⟩
        rw [hll2] at c1 hil2 hll
        subst hil2
        clear HC hll2 hB hil
        go_quiet (fail)
        all_goals go_wp2
        all_goals go_meet
        all_goals exact ⟨rfl, below_drewN' B0.out _⟩
      · have hi1 : i < L.length := by omega
        obtain ⟨a, cap, hB⟩ := AZ.out.keep BW.out
        have c1 := hB.cell1
        obtain ⟨g, rfl, _, hgl, d0, d1⟩ := hB.run hi1
        have hbd := (HF.out.pos L[i] (List.getElem_mem hi1)).2
        have HD2 : Hid (c = decide (L[i].1 < p + q)) := by
          show _ = _
          cases e : c
          · refine (decide_eq_false (fun e' => ?_)).symm
            have := HC.out.2 ⟨hi1, e'⟩
            rw [e] at this; cases this
          · exact (decide_eq_true (HC.out.1 e).2).symm
        obtain ⟨x, hx⟩ : ∃ x, L[i] = x := ⟨_, rfl⟩
        rw [hx] at d0 d1 hbd HD2
        obtain ⟨x1, x2⟩ := x
        simp only at d0 d1 hbd HD2
        obtain ⟨t, ht⟩ : ∃ t, p + q = t := ⟨_, rfl⟩
        have ET : Hid (p + q = t) := ht
        rw [ht] at HD2 hpq
        have u0 : w1.cell? ⟨w.heap.size, 0, none⟩ = some (.int .i64 (p : Nat)) := cell_of_row _ _ 0 _ _ _ QW.out
        have u1 : w1.cell? ⟨w.heap.size, 1, none⟩ = some (.int .i64 (q : Nat)) := cell_of_row _ _ 1 _ _ _ QW.out
        have hj : (i : Int) < (L.length : Int) := by omega
        have hj0 : (0 : Int) ≤ (i : Int) := by omega
        have B1 : Hid (Below w1.heap.size w1 (w1.drew.alloc (.cells #[.int .i64 (p : Nat), .int .i64 (q : Nat)] 55))) := (Below.refl _ w1).drew.alloc (Nat.le_refl _) _
        have nd := World.new_ne w1 _ d0
        have nu := World.new_ne w1 _ u0
        have nb := World.new_ne w1 _ c1
        clear hx ht HC hil2 hB
        go_region_held3 (fun w' => w'.cell? ⟨b, 1, none⟩ = some (.slice (some ⟨g, 0, none⟩) L.length cap) ∧ w'.cell? ⟨g, i * 2, none⟩ = some (.int .i64 (x1 : Nat)) ∧ w'.cell? ⟨w.heap.size, 0, none⟩ = some (.int .i64 (p : Nat)) ∧ w'.cell? ⟨w.heap.size, 1, none⟩ = some (.int .i64 (q : Nat))) (go_keep)
          ((go_at_call 109; refine (end_any p q _ (by have := ET.out; omega)).mono ?_; rw [ET.out]; rintro e w' ⟨rfl, rfl⟩))
        all_goals go_wp2
        all_goals go_meet
        all_goals exact ⟨by rw [HD2.out], B1.out⟩
    case rest =>
      obtain ⟨rfl, bw⟩ := hcut
      have QC : Hid (wc.heap[w.heap.size]? = some (.cells #[.int .i64 (p : Nat), .int .i64 (q : Nat)] 55 (0, 0))) := by show _ = _; rw [bw.block _ (Array.getElem?_eq_some_iff.1 QW.out).1]; exact QW.out
      have BC : Hid (Below w.heap.size w wc) := BW.out.trans (bw.mono BW.out.size)
      have u0 : wc.cell? ⟨w.heap.size, 0, none⟩ = some (.int .i64 (p : Nat)) := cell_of_row _ _ 0 _ _ _ QC.out
      have u1 : wc.cell? ⟨w.heap.size, 1, none⟩ = some (.int .i64 (q : Nat)) := cell_of_row _ _ 1 _ _ _ QC.out
      have hpi : (1 : Int) ≤ (q : Int) ∧ (0 : Int) ≤ (p : Int) ∧ (p : Int) + (q : Int) ≤ (n : Int) := by omega
      have HPI : Hid ((1 : Int) ≤ (q : Int) ∧ (0 : Int) ≤ (p : Int) ∧ (p : Int) + (q : Int) ≤ (n : Int)) := hpi
      clear bw hpi
      cases c
      · have GO : Hid (∀ h : i < L.length, p + q ≤ L[i].1) := fun h => by
          rcases Nat.lt_or_ge L[i].1 (p + q) with h' | h'
          · have := HC.out.2 ⟨h, h'⟩; cases this
          · exact h'
        have AF : Hid (AllF f p q true) := HF.out.give_ok FI.out hpq GO.out
        have TR : Hid (TurnR n f p q false 0 (turnU f p q false)) := .inr (.inr ⟨HPI.out.1, HPI.out.2.1, HPI.out.2.2, by simpa using AF.out, rfl, by simp⟩)
        clear HC
        go_wp2_with (go_at_call 118; refine (join_any S b n i p q L _ (AZ.out.keep BC.out) (fun k hk => hS k (by have := BC.out.size; omega)) hil (by omega) (fun r hr => by have := (HF.out.pos r hr).2; omega) (by omega) hq1).mono ?_; rintro e w9 ⟨rfl, ⟨fr, ua, um, tt, ul, hf1, hf2, h9⟩, t9⟩; have I9 : Hid (IsR w9 S b n (turnU f p q false)) := IsR.of h9 (join_is HF.out FI.out hq1 hpq GO.out hf1 hf2); have T9 : Hid (Tu S w w9) := (Tu.ofBelow BC.out).trans t9; clear hf1 hf2 h9 t9)
        go_ret
        exact ⟨0, turnU f p q false, rfl, TR.out, I9.out, T9.out⟩
      · have NF : Hid (¬ AllF f p q true) := fun ha => by
          obtain ⟨h1, h2⟩ := HC.out.1 rfl
          have := HF.out.give_no FI.out hq1 ha h1
          omega
        have TR : Hid (TurnR n f p q false 9 f) := .inr (.inl ⟨HPI.out.1, HPI.out.2.1, HPI.out.2.2, by simpa using NF.out, rfl, rfl⟩)
        clear HC
        go_wp2
        go_ret
        exact ⟨9, f, rfl, TR.out, H.out.keep BC.out, Tu.ofBelow BC.out⟩
end Go.Proofs.YtgmljgogmbaioaaGreatDoor
