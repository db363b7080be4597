/- What endPage, find and hasWorker answer. -/
import Derived.Test.YtgmljgogmbaioaaGreatDoorKaA
import Derived.BigQuiet
namespace Go.Proofs.YtgmljgogmbaioaaGreatDoor
open Go.RowKit
set_option linter.unusedVariables false
set_option maxRecDepth 4000

theorem endp_any (p : Nat) (pg cl bts : Int) (w : World) (h : Bx w p pg cl bts) (hT : TabC w) (r : Rt pg cl bts) (E : Nat) (hE : pg + (pgsN cl bts : Int) = (E : Int)) :
    Calls Tryz.prog 80 #[.pointer (some ⟨p, 0, none⟩)] w fun e w' => e = .returned (.int .i64 (E : Nat)) ∧ w = w' := by
  have H : Hid (Bx w p pg cl bts) := h
  have HT : Hid (TabC w) := hT
  have h0 := r.p0
  have h1 := r.p1
  have c0 := r.c0
  have c7 := r.c7
  obtain ⟨k, hk⟩ : ∃ k, pgsN cl bts = k := ⟨_, rfl⟩
  have HK : Hid (pgsN cl bts = k) := hk
  rw [hk] at hE h1
  clear h hT r hk
  go_enter Tryz.func80, Tryz.ntmps80
  go_wp2_with (first
    | (go_at_call 79; refine (page_any p pg cl bts _ H.out).mono ?_; rintro e w' ⟨rfl, rfl⟩)
    | (go_at_call 82; refine (pages_q p pg cl bts k _ H.out HT.out c0 c7 HK.out).mono ?_; rintro e w' ⟨rfl, rfl⟩))
  go_ret
  exact ⟨rfl, rfl⟩
set_option maxHeartbeats 1000000 in
theorem kfind1_any (q1 q2 cb g i p : Nat) (x : Int) (pg cl bts : Int) (E : Nat) (len cap : Nat) (w : World) (h1 : w.cell? ⟨q1, 0, none⟩ = some (.int .i64 x)) (h2 : w.cell? ⟨q2, 0, none⟩ = some (.pointer (some ⟨cb, 0, none⟩)))
    (h3 : w.cell? ⟨cb, 1, none⟩ = some (.slice (some ⟨g, 0, none⟩) len cap)) (h4 : w.cell? ⟨g, i, none⟩ = some (.pointer (some ⟨p, 0, none⟩))) (hB : Bx w p pg cl bts) (hT : TabC w) (r : Rt pg cl bts) (hE : pg + (pgsN cl bts : Int) = (E : Int)) (hE1 : E ≤ 4096)
    (hi : i < len) (hl : len ≤ 100000) :
    Calls Tryz.prog 88 #[.int .i64 (i : Nat), .pointer (some ⟨q1, 0, none⟩), .pointer (some ⟨q2, 0, none⟩)] w fun e w' => e = .returned (.bool (decide (x < 256 * (E : Int)))) ∧ Below w.heap.size w w' := by
  have hi' : (i : Int) < (len : Int) := by omega
  have hi0 : (0 : Int) ≤ (i : Int) := by omega
  have H : Hid (∀ k, Bx (w.drewN k) p pg cl bts) := fun k => hB.drewN k
  have HT : Hid (TabC w) := hT
  have HR : Hid (Rt pg cl bts) := r
  have HE : Hid (pg + (pgsN cl bts : Int) = (E : Int)) := hE
  have BQ : Hid (∀ k, Below w.heap.size w (w.drewN k)) := fun k => ⟨rfl, rfl, rfl, Nat.le_refl _, fun _ _ => rfl⟩
  clear hB hT r hE
  go_enter Tryz.func88, Tryz.ntmps88
  go_wp2_with fail
  go_quiet ((go_at_call 80; exact Calls.quiet_of_same ((endp_any p pg cl bts _ (H.out _) HT.out HR.out E HE.out).mono (fun _ _ h => ⟨h.1, h.2.symm⟩))))
  go_wp2
  go_ret
  exact ⟨by congr 2; simp; omega, BQ.out _⟩
set_option maxHeartbeats 1000000 in
theorem ksearch_any (n q1 q2 : Nat) (pr : Nat → Bool) (w : World) (hn : n ≤ 100000) (hm : ∀ i j, i ≤ j → j < n → pr i = true → pr j = true)
    (hK : ∀ (w' : World) (k : Nat), Below w.heap.size w w' → k < n → Calls Tryz.prog 88 #[.int .i64 (k : Nat), .pointer (some ⟨q1, 0, none⟩), .pointer (some ⟨q2, 0, none⟩)] w' (fun e w'' => e = .returned (.bool (pr k)) ∧ Below w'.heap.size w' w'')) :
    Calls Tryz.prog 87 #[.int .i64 (n : Nat), .func (.func 88) #[] #[.pointer (some ⟨q1, 0, none⟩), .pointer (some ⟨q2, 0, none⟩)]] w fun e w' =>
      ∃ i : Nat, i ≤ n ∧ e = .returned (.int .i64 (i : Nat)) ∧ (∀ k, k < i → pr k = false) ∧ (∀ k, i ≤ k → k < n → pr k = true) ∧ Below w.heap.size w w' := by
  have HM : Hid (∀ i j, i ≤ j → j < n → pr i = true → pr j = true) := hm
  have HK : Hid (∀ (w' : World) (k : Nat), Below w.heap.size w w' → k < n → Calls Tryz.prog 88 #[.int .i64 (k : Nat), .pointer (some ⟨q1, 0, none⟩), .pointer (some ⟨q2, 0, none⟩)] w' (fun e w'' => e = .returned (.bool (pr k)) ∧ Below w'.heap.size w' w'')) := hK
  have B0 : Hid (Below w.heap.size w w) := Below.refl _ _
  clear hm hK
  go_enter Tryz.func87, Tryz.ntmps87
  go_wp2
  go_loopw [5, 6] (fun iv jv wr => ∃ i j : Nat, i ≤ j ∧ j ≤ n ∧ iv = .int .i64 (i : Nat) ∧ jv = .int .i64 (j : Nat) ∧ (∀ k, k < i → pr k = false) ∧ (∀ k, j ≤ k → k < n → pr k = true) ∧ Below w.heap.size w wr) (fun iv jv _ => (intOf jv).toNat - (intOf iv).toNat)
  case atStart => exact ⟨0, n, Nat.zero_le _, Nat.le_refl _, rfl, rfl, fun k hk => by omega, fun k h1 h2 => by omega, B0.out⟩
  case round =>
    obtain ⟨i, j, hij, hjn, rfl, rfl, hA, hB, hb⟩ := hrel
    rename World => wr
    have HA : Hid (∀ k, k < i → pr k = false) := hA
    have HB : Hid (∀ k, j ≤ k → k < n → pr k = true) := hB
    have BB : Hid (Below w.heap.size w wr) := hb
    clear hA hB hb
    by_cases hlt : i < j
    · have hlt' : (i : Int) < (j : Int) := by omega
      obtain ⟨m, hmm⟩ : ∃ m, (i + j) / 2 = m := ⟨_, rfl⟩
      have hm1 : i ≤ m := by omega
      have hm2 : m < j := by omega
      cases hp : pr m
      · have EP : Hid (pr m = false) := hp
        clear hp
        go_wp2_with fail
        rw [show ((i : Int) + (j : Int)) / 2 = ((m : Nat) : Int) from by omega]
        refine (HK.out _ m BB.out (by omega)).mono ?_
        rw [EP.out]
        rintro e w1 ⟨rfl, b1⟩
        have B1 : Hid (Below w.heap.size w w1) := BB.out.trans (b1.mono BB.out.size)
        have NA : Hid (∀ k, k < m + 1 → pr k = false) := fun k hk => by
          cases e : pr k
          · rfl
          · have := HM.out k m (by omega) (by omega) e
            rw [EP.out] at this; cases this
        clear b1 hmm
        go_wp2
        go_roundw
        case rel => exact ⟨m + 1, j, by omega, hjn, by go_num, rfl, NA.out, HB.out, B1.out⟩
        case measure => simp [intOf]; omega
      · have EP : Hid (pr m = true) := hp
        clear hp
        go_wp2_with fail
        rw [show ((i : Int) + (j : Int)) / 2 = ((m : Nat) : Int) from by omega]
        refine (HK.out _ m BB.out (by omega)).mono ?_
        rw [EP.out]
        rintro e w1 ⟨rfl, b1⟩
        have B1 : Hid (Below w.heap.size w w1) := BB.out.trans (b1.mono BB.out.size)
        have NB : Hid (∀ k, m ≤ k → k < n → pr k = true) := fun k h1 h2 => HM.out m k h1 h2 EP.out
        clear b1 hmm
        go_wp2
        go_roundw
        case rel => exact ⟨i, m, by omega, by omega, rfl, rfl, HA.out, NB.out, B1.out⟩
        case measure => simp [intOf]; omega
    · obtain rfl : i = j := by omega
      go_wp2
      go_ret
      exact ⟨i, hjn, rfl, HA.out, HB.out, BB.out⟩

theorem FindM.of {m : List Sg} {x : Int} {i : Nat} (pr : Nat → Bool) (hpr : ∀ k (hk : k < m.length), pr k = decide (x < 256 * ((m[k].pg + m[k].k : Nat) : Int))) (hi : i ≤ m.length) (h1 : ∀ k, k < i → pr k = false) (h2 : ∀ k, i ≤ k → k < m.length → pr k = true) : FindM m x i := by
  refine ⟨hi, fun s hs => ?_, fun s hs => ?_⟩
  · obtain ⟨k, hk, rfl⟩ := List.getElem_of_mem hs
    simp at hk
    have := h1 k (by omega)
    rw [hpr k (by omega)] at this
    have := of_decide_eq_false this
    rw [List.getElem_take]; omega
  · obtain ⟨k, hk, rfl⟩ := List.getElem_of_mem hs
    simp at hk
    have := h2 (i + k) (by omega) (by omega)
    rw [hpr (i + k) (by omega)] at this
    have := of_decide_eq_true this
    rw [List.getElem_drop]; omega
theorem Fit.len {W P : Nat} : ∀ {m : List Sg} {a : Nat}, Fit W P a m → a + m.length ≤ P
  | [], a, h => by have h : a ≤ P := h; simpa using h
  | s :: l, a, h => by have h1 := Fit.len h.2.2; have h2 := h.2.1.facts; have h3 := h.1; simp; omega
set_option maxHeartbeats 1000000 in
theorem kfind_any (L : Nat → Nat) (cb fb hb : Nat) (a : Option Addr) (cap : Nat) (ps : List Nat) (sh : List Value) (P W : Nat) (φ : Nat → Bool) (m : List Sg) (K : Nat → Nat → List Nat) (x : Int) (w : World) (h : Cm w L cb fb hb a cap ps sh P W φ m K) (ho : Okc P W m) :
    Calls Tryz.prog 49 #[.pointer (some ⟨cb, 0, none⟩), .int .i64 x] w fun e w' => ∃ i : Nat, FindM m x i ∧ e = .returned (.int .i64 (i : Nat)) ∧ Below w.heap.size w w' := by
  have hml := ho.fit.len
  have hP := ho.p1
  obtain ⟨wb, hwb⟩ : ∃ wb, (w.alloc (.cells #[.pointer (some ⟨cb, 0, none⟩)] 26)).alloc (.cells #[.int .i64 x] 3) = wb := ⟨_, rfl⟩
  have hbb : Below w.heap.size w wb := by rw [← hwb]; exact ((Below.refl _ w).alloc (Nat.le_refl _) _).alloc (by simp) _
  have BB : Hid (Below w.heap.size w wb) := hbb
  have hq2 : wb.cell? ⟨w.heap.size, 0, none⟩ = some (.pointer (some ⟨cb, 0, none⟩)) := by
    rw [← hwb]; exact Lib.cell?_alloc_some _ (by simp)
  have hq1 : wb.cell? ⟨w.heap.size + 1, 0, none⟩ = some (.int .i64 x) := by
    rw [← hwb]
    have := Go.heap_alloc_new (w.alloc (.cells #[.pointer (some ⟨cb, 0, none⟩)] 26)) (.cells #[.int .i64 x] 3)
    rw [World.size_alloc] at this
    exact cell_of_row _ _ 0 _ _ _ this
  have hsz : wb.heap.size = w.heap.size + 2 := by rw [← hwb]; simp
  obtain ⟨pr, hpr⟩ : ∃ pr : Nat → Bool, ∀ k (hk : k < m.length), pr k = decide (x < 256 * ((m[k].pg + m[k].k : Nat) : Int)) := ⟨fun k => if hk : k < m.length then decide (x < 256 * ((m[k].pg + m[k].k : Nat) : Int)) else false, fun k hk => by simp [hk]⟩
  have HK : Hid (∀ (w' : World) (k : Nat), Below wb.heap.size wb w' → k < m.length → Calls Tryz.prog 88 #[.int .i64 (k : Nat), .pointer (some ⟨w.heap.size + 1, 0, none⟩), .pointer (some ⟨w.heap.size, 0, none⟩)] w' (fun e w'' => e = .returned (.bool (pr k)) ∧ Below w'.heap.size w' w'')) := by
    intro w' k hb' hk
    have hC := (h.keep (Ext.refl _ _) hbb).keep (Ext.refl _ _) hb'
    obtain ⟨g, p, e1, _, _, e2, _, b, g', e3, _⟩ := hC.at k hk
    have c1 := hC.cell1
    rw [e1] at c1
    rw [hpr k hk]
    have hr := Sg.Ok.rt ho.fit ho.p1 (List.getElem_mem hk)
    have hle := (ho.fit.ok _ (List.getElem_mem hk)).2.2
    exact kfind1_any (w.heap.size + 1) w.heap.size cb g k p x _ _ _ (m[k].pg + m[k].k) m.length cap w' ((hb'.cell (p := ⟨w.heap.size + 1, 0, none⟩) (by show w.heap.size + 1 < wb.heap.size; omega)).trans hq1) ((hb'.cell (p := ⟨w.heap.size, 0, none⟩) (by show w.heap.size < wb.heap.size; omega)).trans hq2) c1 e2 e3.box hC.tab.1 hr (by have : m[k].k = pgsN (m[k].cl : Int) (m[k].bts : Int) := rfl; rw [this]; omega) (by omega) hk (by omega)
  have HM : Hid (∀ i j, i ≤ j → j < m.length → pr i = true → pr j = true) := by
    intro i j hij hj h1
    rw [hpr i (by omega)] at h1
    rw [hpr j hj]
    have h1 := of_decide_eq_true h1
    refine decide_eq_true ?_
    rcases Nat.lt_or_eq_of_le hij with e | e
    · have := (ho.fit.split hj).2 (m[i]'(by omega)) (by rw [List.mem_iff_getElem]; exact ⟨i, by simp; omega, by simp⟩)
      omega
    · subst e; exact h1
  have FO : Hid (∀ i, i ≤ m.length → (∀ k, k < i → pr k = false) → (∀ k, i ≤ k → k < m.length → pr k = true) → FindM m x i) := fun i hi h1 h2 => FindM.of pr hpr hi h1 h2
  have c1 : wb.cell? ⟨cb, 1, none⟩ = some (.slice a m.length cap) := (h.keep (Ext.refl _ _) hbb).cell1
  clear hpr h ho hbb hq1 hsz
  go_enter Tryz.func49, Tryz.ntmps49
  go_wp2_with fail
  refine (ksearch_any m.length (w.heap.size + 1) w.heap.size pr wb (by omega) HM.out HK.out).mono ?_
  rintro e w1 ⟨i, hi, rfl, h1, h2, b1⟩
  have FI : Hid (FindM m x i) := FO.out i hi h1 h2
  have B1 : Hid (Below w.heap.size w w1) := BB.out.trans (b1.mono BB.out.size)
  clear h1 h2 b1
  go_wp2
  go_ret
  exact ⟨i, FI.out, rfl, B1.out⟩
theorem khasW_any (L : Nat → Nat) (cb fb hb : Nat) (a : Option Addr) (cap : Nat) (ps : List Nat) (sh : List Value) (P W : Nat) (φ : Nat → Bool) (m : List Sg) (K : Nat → Nat → List Nat) (v : Int) (w : World) (h : Cm w L cb fb hb a cap ps sh P W φ m K) (hW : W ≤ 8) :
    Calls Tryz.prog 57 #[.pointer (some ⟨cb, 0, none⟩), .int .i64 v] w fun e w' => e = .returned (.bool (decide (0 ≤ v ∧ v < (W : Int)))) ∧ w = w' := by
  have c2 := h.cell2
  clear h
  by_cases h0 : 0 ≤ v
  · go_enter Tryz.func57, Tryz.ntmps57
    go_wp2
    go_ret
    exact ⟨by congr 2; simp [h0], rfl⟩
  · go_enter Tryz.func57, Tryz.ntmps57
    have h0' : v < 0 := by omega
    go_wp2
    go_ret
    exact ⟨by congr 2; simp; omega, rfl⟩
theorem cNaN_any (x : Int) (w : World) : Calls Tryz.prog 135 #[.int .i64 x] w fun e w' => e = .returned (.bool false) ∧ w = w' := by
  go_enter Tryz.func135, Tryz.ntmps135
  go_wp2
  go_ret
  exact ⟨by simp, rfl⟩
theorem sNaN_any (x : Int) (w : World) : Calls Tryz.prog 117 #[.int .i64 x] w fun e w' => e = .returned (.bool false) ∧ w = w' := by
  go_enter Tryz.func117, Tryz.ntmps117
  go_wp2
  go_ret
  exact ⟨by simp, rfl⟩
theorem less_any (x y : Int) (w : World) : Calls Tryz.prog 116 #[.int .i64 x, .int .i64 y] w fun e w' => e = .returned (.bool (decide (x < y))) ∧ w = w' := by
  go_enter Tryz.func116, Tryz.ntmps116
  go_wp2_with (go_at_call 135; refine (cNaN_any _ _).mono ?_; rintro e w' ⟨rfl, rfl⟩)
  go_ret
  exact ⟨rfl, rfl⟩
end Go.Proofs.YtgmljgogmbaioaaGreatDoor
