/- What find answers. -/
import Derived.Test.YtgmljgogmbaioabGreatDoorRuE
namespace Go.Proofs.YtgmljgogmbaioabGreatDoor
open Go.RowKit
set_option linter.unusedVariables false
set_option maxRecDepth 4000


set_option maxHeartbeats 1000000 in
theorem find1_any (q1 q2 b g i p x y len cap : Nat) (w : World) (h1 : w.cell? ⟨q1, 0, none⟩ = some (.pointer (some ⟨b, 0, none⟩))) (h2 : w.cell? ⟨q2, 0, none⟩ = some (.int .i64 (p : Nat)))
    (h3 : w.cell? ⟨b, 1, none⟩ = some (.slice (some ⟨g, 0, none⟩) len cap)) (h4 : w.cell? ⟨g, i * 2, none⟩ = some (.int .i64 (x : Nat))) (h5 : w.cell? ⟨g, i * 2 + 1, none⟩ = some (.int .i64 (y : Nat)))
    (hi : i < len) (hl : len ≤ 100000) (hxy : x + y ≤ 1000000) (hp : p ≤ 1000000) :
    Calls Tryz.prog 89 #[.int .i64 (i : Nat), .pointer (some ⟨q1, 0, none⟩), .pointer (some ⟨q2, 0, none⟩)] w fun e w' => e = .returned (.bool (decide (p < x + y))) ∧ Below w.heap.size w w' := by
  have hi' : (i : Int) < (len : Int) := by omega
  have hi0 : (0 : Int) ≤ (i : Int) := by omega
  have B : Hid (Below w.heap.size w (w.drew.alloc (.cells #[.int .i64 (x : Nat), .int .i64 (y : Nat)] 40))) := (Below.refl _ w).drew.alloc (Nat.le_refl _) _
  obtain ⟨s, hs⟩ : ∃ s, x + y = s := ⟨_, rfl⟩
  have ES : Hid (x + y = s) := hs
  rw [hs]
  clear hs
  go_enter Tryz.func89, Tryz.ntmps89
  go_wp2_with fail
  go_region_held3 (fun w' => w'.cell? ⟨q1, 0, none⟩ = some (.pointer (some ⟨b, 0, none⟩)) ∧ w'.cell? ⟨q2, 0, none⟩ = some (.int .i64 (p : Nat)) ∧ w'.cell? ⟨b, 1, none⟩ = some (.slice (some ⟨g, 0, none⟩) len cap) ∧ w'.cell? ⟨g, i * 2, none⟩ = some (.int .i64 (x : Nat)) ∧ w'.cell? ⟨g, i * 2 + 1, none⟩ = some (.int .i64 (y : Nat))) (go_keep)
    ((go_at_call 67; refine (end_any x y _ hxy).mono ?_; rw [ES.out]; rintro e w' ⟨rfl, rfl⟩))
  go_wp2
  go_ret
  exact ⟨rfl, B.out⟩
set_option maxHeartbeats 1000000 in
theorem search_any (n q1 q2 : Nat) (pr : Nat → Bool) (w : World) (hn : n ≤ 100000) (hm : ∀ i j, i ≤ j → j < n → pr i = true → pr j = true)
    (hK : ∀ (w' : World) (k : Nat), Below w.heap.size w w' → k < n → Calls Tryz.prog 89 #[.int .i64 (k : Nat), .pointer (some ⟨q1, 0, none⟩), .pointer (some ⟨q2, 0, none⟩)] w' (fun e w'' => e = .returned (.bool (pr k)) ∧ Below w'.heap.size w' w'')) :
    Calls Tryz.prog 40 #[.int .i64 (n : Nat), .func (.func 89) #[] #[.pointer (some ⟨q1, 0, none⟩), .pointer (some ⟨q2, 0, none⟩)]] w fun e w' =>
      ∃ i : Nat, i ≤ n ∧ e = .returned (.int .i64 (i : Nat)) ∧ (∀ k, k < i → pr k = false) ∧ (∀ k, i ≤ k → k < n → pr k = true) ∧ Below w.heap.size w w' := by
  have HM : Hid (∀ i j, i ≤ j → j < n → pr i = true → pr j = true) := hm
  have HK : Hid (∀ (w' : World) (k : Nat), Below w.heap.size w w' → k < n → Calls Tryz.prog 89 #[.int .i64 (k : Nat), .pointer (some ⟨q1, 0, none⟩), .pointer (some ⟨q2, 0, none⟩)] w' (fun e w'' => e = .returned (.bool (pr k)) ∧ Below w'.heap.size w' w'')) := hK
  have B0 : Hid (Below w.heap.size w w) := Below.refl _ _
  clear hm hK
  go_enter Tryz.func40, Tryz.ntmps40
  go_wp2
  go_loopw [5, 6] (fun iv jv wr => ∃ i j : Nat, i ≤ j ∧ j ≤ n ∧ iv = .int .i64 (i : Nat) ∧ jv = .int .i64 (j : Nat) ∧ (∀ k, k < i → pr k = false) ∧ (∀ k, j ≤ k → k < n → pr k = true) ∧ Below w.heap.size w wr) (fun iv jv _ => (intOf jv).toNat - (intOf iv).toNat)
  case atStart => exact ⟨0, n, Nat.zero_le _, Nat.le_refl _, rfl, rfl, fun k hk => by omega, fun k h1 h2 => by omega, B0.out⟩
  case round =>
    obtain ⟨i, j, hij, hjn, rfl, rfl, hA, hB, hb⟩ := hrel
    rename World => wr
    have HA : Hid (∀ k, k < i → pr k = false) := hA
    have HB : Hid (∀ k, j ≤ k → k < n → pr k = true) := hB
    have BB : Hid (Below w.heap.size w wr) := hb
    clear hA hB hb
    by_cases hlt : i < j
    · have hlt' : (i : Int) < (j : Int) := by omega
      obtain ⟨m, hmm⟩ : ∃ m, (i + j) / 2 = m := ⟨_, rfl⟩
      have hm1 : i ≤ m := by omega
      have hm2 : m < j := by omega
      cases hp : pr m
      · have EP : Hid (pr m = false) := hp
        clear hp
        go_wp2_with fail
        rw [show ((i : Int) + (j : Int)) / 2 = ((m : Nat) : Int) from by omega]
        refine (HK.out _ m BB.out (by omega)).mono ?_
        rw [EP.out]
        rintro e w1 ⟨rfl, b1⟩
        have B1 : Hid (Below w.heap.size w w1) := BB.out.trans (b1.mono BB.out.size)
        have NA : Hid (∀ k, k < m + 1 → pr k = false) := fun k hk => by
          cases e : pr k
          · rfl
          · have := HM.out k m (by omega) (by omega) e
            rw [EP.out] at this; cases this
        clear b1 hmm
        go_wp2
        go_roundw
        case rel => exact ⟨m + 1, j, by omega, hjn, by go_num, rfl, NA.out, HB.out, B1.out⟩
        case measure => simp [intOf]; omega
      · have EP : Hid (pr m = true) := hp
        clear hp
        go_wp2_with fail
        rw [show ((i : Int) + (j : Int)) / 2 = ((m : Nat) : Int) from by omega]
        refine (HK.out _ m BB.out (by omega)).mono ?_
        rw [EP.out]
        rintro e w1 ⟨rfl, b1⟩
        have B1 : Hid (Below w.heap.size w w1) := BB.out.trans (b1.mono BB.out.size)
        have NB : Hid (∀ k, m ≤ k → k < n → pr k = true) := fun k h1 h2 => HM.out m k h1 h2 EP.out
        clear b1 hmm
        go_wp2
        go_roundw
        case rel => exact ⟨i, m, by omega, by omega, rfl, rfl, HA.out, NB.out, B1.out⟩
        case measure => simp [intOf]; omega
    · obtain rfl : i = j := by omega
      go_wp2
      go_ret
      exact ⟨i, hjn, rfl, HA.out, HB.out, BB.out⟩
theorem FL.ends {n : Nat} {f : Nat → Bool} {L : List (Nat × Nat)} (h : FL n f L) {i j : Nat} (hij : i ≤ j) (hj : j < L.length) : (L[i]'(by omega)).1 + (L[i]'(by omega)).2 ≤ L[j].1 + L[j].2 := by
  rcases Nat.lt_or_eq_of_le hij with h1 | rfl
  · have := List.pairwise_iff_getElem.1 h.ris i j (by omega) hj h1
    omega
  · exact Nat.le_refl _
set_option maxHeartbeats 1000000 in
theorem find_any (S : Nat → Prop) (b n p : Nat) (f : Nat → Bool) (L : List (Nat × Nat)) (w : World) (h : At w S b n L) (hF : FL n f L) (hn : n ≤ 65536) (hp : p ≤ 65536) :
    Calls Tryz.prog 66 #[.pointer (some ⟨b, 0, none⟩), .int .i64 (p : Nat)] w fun e w' => ∃ i : Nat, FindOK L p i ∧ e = .returned (.int .i64 (i : Nat)) ∧ Below w.heap.size w w' := by
  have hll : L.length ≤ n := by rw [hF.eq]; exact freeL_len f n
  obtain ⟨a, cap, hB⟩ := h
  obtain ⟨wb, hwb⟩ : ∃ wb, (w.alloc (.cells #[.pointer (some ⟨b, 0, none⟩)] 48)).alloc (.cells #[.int .i64 (p : Nat)] 3) = wb := ⟨_, rfl⟩
  have hbb : Below w.heap.size w wb := by rw [← hwb]; exact ((Below.refl _ w).alloc (Nat.le_refl _) _).alloc (by simp) _
  have BB : Hid (Below w.heap.size w wb) := hbb
  have hq1 : wb.cell? ⟨w.heap.size, 0, none⟩ = some (.pointer (some ⟨b, 0, none⟩)) := by
    rw [← hwb]; exact Lib.cell?_alloc_some _ (by simp)
  have hq2 : wb.cell? ⟨w.heap.size + 1, 0, none⟩ = some (.int .i64 (p : Nat)) := by
    rw [← hwb]
    have := Go.heap_alloc_new (w.alloc (.cells #[.pointer (some ⟨b, 0, none⟩)] 48)) (.cells #[.int .i64 (p : Nat)] 3)
    rw [World.size_alloc] at this
    exact cell_of_row _ _ 0 _ _ _ this
  have hsz : wb.heap.size = w.heap.size + 2 := by rw [← hwb]; simp
  obtain ⟨pr, hpr⟩ : ∃ pr : Nat → Bool, ∀ k (hk : k < L.length), pr k = decide (p < L[k].1 + L[k].2) := ⟨fun k => decide (p < (L.getD k (0, 0)).1 + (L.getD k (0, 0)).2), fun k hk => by simp [List.getD, hk]⟩
  have HK : Hid (∀ (w' : World) (k : Nat), Below wb.heap.size wb w' → k < L.length → Calls Tryz.prog 89 #[.int .i64 (k : Nat), .pointer (some ⟨w.heap.size, 0, none⟩), .pointer (some ⟨w.heap.size + 1, 0, none⟩)] w' (fun e w'' => e = .returned (.bool (pr k)) ∧ Below w'.heap.size w' w'')) := by
    intro w' k hb hk
    have hB' := (hB.keep hbb).keep hb
    obtain ⟨_, ⟨_, e, _⟩ | ⟨g, xs, e, _, hr, hl, ht⟩⟩ := hB'.row
    · rw [e] at hk; simp at hk
    · have hkx : k < xs.length := by have := congrArg List.length ht; simp at this; omega
      have ex : xs[k] = L[k] := by
        have : L[k]? = xs[k]? := by rw [← ht, List.getElem?_take, if_pos hk]
        rw [List.getElem?_eq_getElem hk, List.getElem?_eq_getElem hkx] at this
        exact (Option.some.inj this).symm
      have c0 := hr.cell0 k hkx
      have c1 := hr.cell1 k hkx
      rw [ex] at c0 c1
      have hpk := (hF.pos L[k] (List.getElem_mem hk)).2
      have h3 := hB'.cell1
      rw [e] at h3
      rw [hpr k hk]
      exact find1_any w.heap.size (w.heap.size + 1) b g k p L[k].1 L[k].2 L.length cap w' ((hb.cell (p := ⟨w.heap.size, 0, none⟩) (by show w.heap.size < wb.heap.size; omega)).trans hq1) ((hb.cell (p := ⟨w.heap.size + 1, 0, none⟩) (by show w.heap.size + 1 < wb.heap.size; omega)).trans hq2) h3 c0 c1 hk (by omega) (by omega) (by omega)
  have HM : Hid (∀ i j, i ≤ j → j < L.length → pr i = true → pr j = true) := by
    intro i j hij hj h1
    rw [hpr i (by omega)] at h1
    rw [hpr j hj]
    have := hF.ends hij hj
    have h1 := of_decide_eq_true h1
    exact decide_eq_true (by omega)
  have FO : Hid (∀ i, i ≤ L.length → (∀ k, k < i → pr k = false) → (∀ k, i ≤ k → k < L.length → pr k = true) → FindOK L p i) := by
    intro i hi h1 h2
    refine ⟨hi, fun r hr => ?_, fun r hr => ?_⟩
    · obtain ⟨k, hk, rfl⟩ := List.getElem_of_mem hr
      simp at hk
      have := h1 k (by omega)
      rw [hpr k (by omega)] at this
      have := of_decide_eq_false this
      rw [List.getElem_take]; omega
    · obtain ⟨k, hk, rfl⟩ := List.getElem_of_mem hr
      simp at hk
      have := h2 (i + k) (by omega) (by omega)
      rw [hpr (i + k) (by omega)] at this
      have := of_decide_eq_true this
      rw [List.getElem_drop]; omega
  have c1 : wb.cell? ⟨b, 1, none⟩ = some (.slice a L.length cap) := (hB.keep hbb).cell1
  have c1' : w.cell? ⟨b, 1, none⟩ = some (.slice a L.length cap) := hB.cell1
  clear hpr hB hF hbb hq2 hsz
  go_enter Tryz.func66, Tryz.ntmps66
  go_wp2_with fail
  refine (search_any L.length w.heap.size (w.heap.size + 1) pr wb (by omega) HM.out HK.out).mono ?_
  rintro e w1 ⟨i, hi, rfl, h1, h2, b1⟩
  have FI : Hid (FindOK L p i) := FO.out i hi h1 h2
  have B1 : Hid (Below w.heap.size w w1) := BB.out.trans (b1.mono BB.out.size)
  clear h1 h2 b1
  go_wp2
  go_ret
  exact ⟨i, FI.out, rfl, B1.out⟩
end Go.Proofs.YtgmljgogmbaioabGreatDoor
