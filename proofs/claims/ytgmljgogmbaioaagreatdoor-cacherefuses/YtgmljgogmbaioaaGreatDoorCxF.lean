/- What the law CacheRefuses goes through. -/
import Derived.Test.YtgmljgogmbaioaaGreatDoorCxAB
import Derived.Test.YtgmljgogmbaioaaGreatDoorSpB
namespace Go.Proofs.YtgmljgogmbaioaaGreatDoor
open Go.RowKit
set_option linter.unusedVariables false
set_option maxRecDepth 4000

theorem freeM_len (P : Nat) : ∀ (m : List Sg) (a : Nat), (freeM P a m).length ≤ m.length + 1
  | [], a => by unfold freeM; split <;> simp
  | s :: l, a => by
    have := freeM_len P l (s.pg + s.k)
    unfold freeM
    split <;> simp <;> omega
theorem ownsRow_tu {S : Nat → Prop} {w w' : World} {B : Nat} {e : TypeId} {size : Nat} {v : Value} {n : Nat} {xs : List Value} (h : w.ownsRow B e size v n xs) (ht : Tu S w w') (hS : ∀ k, B ≤ k → ¬ S k) : w'.ownsRow B e size v n xs := by
  obtain ⟨h0, h1 | ⟨g, c', cur, h1, hg, h2, h3⟩⟩ := h
  · exact ⟨h0, .inl h1⟩
  · exact ⟨h0, .inr ⟨g, c', cur, h1, hg, ht.block g _ h2 (hS g hg), h3⟩⟩
theorem Told.tu {S : Nat → Prop} {w w' : World} {B : Nat} {v : Value} {ts : List Td} (h : Told w B v ts) (ht : Tu S w w') (hS : ∀ k, B ≤ k → ¬ S k) : Told w' B v ts := by
  obtain ⟨rs, h1, h2, h3⟩ := h
  exact ⟨rs, h1, ownsRow_tu h2 ht hS, fun r hr => ownsRow_tu (h3 r hr) ht hS⟩
def sumG (f : Sg → Nat) (m : List Sg) (j : Nat) : Nat := ((m.take j).map f).sum
theorem sumG_step {f : Sg → Nat} {m : List Sg} {j : Nat} (h : j < m.length) : sumG f m (j + 1) = sumG f m j + f m[j] := by
  unfold sumG
  rw [List.take_succ_eq_append_getElem h, List.map_append, List.sum_append]
  simp only [List.map_cons, List.map_nil, List.sum_cons, List.sum_nil, Nat.add_zero]
theorem sum_le16 (f : Sg → Nat) : ∀ (l : List Sg), (∀ s ∈ l, f s ≤ 16) → (l.map f).sum ≤ 16 * l.length
  | [], _ => by simp
  | s :: l, h => by
    have h1 := h s (by simp)
    have h2 := sum_le16 f l (fun x hx => h x (by simp [hx]))
    simp only [List.map_cons, List.sum_cons, List.length_cons]; omega
theorem sumG_le {f : Sg → Nat} {m : List Sg} {j : Nat} (h : ∀ s ∈ m, f s ≤ 16) (hj : j ≤ m.length) : sumG f m j ≤ 16 * m.length := by
  unfold sumG
  have := sum_le16 f (m.take j) (fun s hs => h s (List.mem_of_mem_take hs))
  rw [List.length_take] at this
  omega
/-- Live slots, and slots, of a span of the class k, a small one. -/
def fT (k : Nat) (s : Sg) : Nat := if s.cl = k ∧ k < 7 then s.st.countP (fun x => decide (x = 1)) else 0
def fS (k : Nat) (s : Sg) : Nat := if s.cl = k ∧ k < 7 then s.st.length else 0
theorem fT_le {W : Nat} {s : Sg} (h : s.Ok W) (k : Nat) : fT k s ≤ 16 ∧ fS k s ≤ 16 := by
  have h1 := h.facts.2.1
  have h2 := List.countP_le_length (p := fun x => decide (x = 1)) (l := s.st)
  unfold fT fS
  constructor
  · split <;> omega
  · split <;> omega
theorem slots_nat (k : Nat) (h : k < 7) : slotsI (k : Int) = ((slN (k : Int) : Nat) : Int) := by
  rcases seven k h with rfl | rfl | rfl | rfl | rfl | rfl | rfl <;> decide
theorem kept_large {W P a0 w : Nat} {m : List Sg} (h : Fit W P a0 m) : keptM w 7 m = [] := by
  apply List.eq_nil_iff_forall_not_mem.2
  intro a ha
  obtain ⟨z, hi⟩ := mem_keptM.1 ha
  have := (hi.bound h).2.2.2.1 rfl
  omega
theorem plSx_le (s : Sg) (q : Nat → Bool) : ∀ (l : List Nat) (i : Nat), (plS s q i l).length ≤ l.length
  | [], _ => by simp [plS]
  | x :: l, i => by
    have := plSx_le s q l (i + 1)
    rw [plS]
    split <;> simp <;> omega
theorem plx_le (q : Nat → Nat → Bool) : ∀ m : List Sg, (pl q m).length ≤ (m.map (fun s => s.st.length)).sum
  | [] => by simp [pl]
  | s :: l => by
    have h1 := plSx_le s (q s.cl) s.st 0
    have h2 := plx_le q l
    simp only [pl, List.length_append, List.map_cons, List.sum_cons]; omega
theorem kept_le {W P a0 : Nat} {m : List Sg} (h : Fit W P a0 m) (w c : Nat) : (keptM w c m).length ≤ 16 * m.length := by
  have h1 := sum_le16 (fun s => s.st.length) m (fun s hs => (h.ok s hs).1.facts.2.1)
  exact Nat.le_trans (plx_le _ m) h1
/-- What the first i workers keep. -/
def sumW (k : Nat) (m : List Sg) (i : Nat) : Nat := ((List.range i).map (fun w => (keptM w k m).length)).sum
theorem sumW_step (k : Nat) (m : List Sg) (i : Nat) : sumW k m (i + 1) = sumW k m i + (keptM i k m).length := by
  unfold sumW
  rw [List.range_succ, List.map_append, List.sum_append]
  simp
theorem sumW_mono (k : Nat) (m : List Sg) : ∀ (i d : Nat), sumW k m i ≤ sumW k m (i + d)
  | i, 0 => Nat.le_refl _
  | i, d + 1 => by have := sumW_mono k m i d; have := sumW_step k m (i + d); rw [← Nat.add_assoc]; omega
/-- The same, of small classes alone. -/
def sumK7 (k : Nat) (m : List Sg) (i : Nat) : Nat := if k < 7 then sumW k m i else 0
theorem sumK7_lt {k : Nat} (h : k < 7) (m : List Sg) (i : Nat) : sumK7 k m i = sumW k m i := if_pos h
theorem sumK7_ge {k : Nat} (h : ¬ k < 7) (m : List Sg) (i : Nat) : sumK7 k m i = 0 := if_neg h
theorem sumK7_zero (k : Nat) (m : List Sg) : sumK7 k m 0 = 0 := by unfold sumK7 sumW; split <;> rfl
theorem sum_fT {m : List Sg} {k : Nat} (h : k < 7) : sumG (fT k) m m.length = (m.map (fun s => if s.cl = k then s.st.countP (fun x => decide (x = 1)) else 0)).sum ∧ sumG (fS k) m m.length = (m.map (fun s => if s.cl = k then s.st.length else 0)).sum := by
  unfold sumG fT fS
  rw [List.take_length]
  simp [h]
theorem sum_f7 (m : List Sg) (j : Nat) : sumG (fT 7) m j = 0 ∧ sumG (fS 7) m j = 0 := by
  unfold sumG
  have e : ∀ l : List Sg, (l.map (fT 7)).sum = 0 ∧ (l.map (fS 7)).sum = 0 := fun l => by
    induction l with
    | nil => exact ⟨rfl, rfl⟩
    | cons s l ih =>
      have h1 : fT 7 s = 0 := if_neg (by omega)
      have h2 : fS 7 s = 0 := if_neg (by omega)
      exact ⟨by rw [List.map_cons, List.sum_cons, h1, ih.1], by rw [List.map_cons, List.sum_cons, h2, ih.2]⟩
  exact e _

set_option maxHeartbeats 4000000 in
theorem cacheRefuses_any (p q : Int) (a : Option Addr) (n cap : Nat) (kd xx kk : Nat → Int) (nn : Int) (w : World) (hT : Tabs w) (hp : 0 ≤ p ∧ p < 256) (hq : 0 ≤ q ∧ q < 256) (hS : IsC w a n kd xx kk) (hn : n ≤ 9223372036854775807) (hnn : -9223372036854775808 ≤ nn ∧ nn ≤ 9223372036854775807) :
    Calls Tryz.prog 8 #[.agg #[.int .u8 p, .int .u8 q], .slice a n cap, .int .i64 nn] w fun e w' => e = .returned (.bool true) ∧ Below w.heap.size w w' := by
  obtain ⟨P, hP⟩ : ∃ P : Nat, (P : Int) = 1 + p % 32 := ⟨(1 + p % 32).toNat, by omega⟩
  obtain ⟨W, hW⟩ : ∃ W : Nat, (W : Int) = 1 + q % 8 := ⟨(1 + q % 8).toNat, by omega⟩
  have HT : Hid (Tabs w) := hT
  have HS : Hid (IsC w a n kd xx kk) := hS
  have HPE : Hid ((P : Int) = 1 + p % 32) := hP
  have HWE : Hid ((W : Int) = 1 + q % 8) := hW
  obtain ⟨D, hD⟩ : ∃ D, w.alloc (.cells #[.int .u8 p, .int .u8 q] 23) = D := ⟨_, rfl⟩
  have BD : Hid (Below w.heap.size w D) := by show Below _ _ _; rw [← hD]; exact (Below.refl _ w).alloc (Nat.le_refl _) _
  have RD : Hid (D.heap[w.heap.size]? = some (.cells #[.int .u8 p, .int .u8 q] 23 (0, 0))) := by show _ = _; rw [← hD]; exact Go.heap_alloc_new w _
  have HD : Hid (w.alloc (.cells #[.int .u8 p, .int .u8 q] 23) = D) := hD
  clear hT hS hD
  go_enter Tryz.func8, Tryz.ntmps8
  go_wp2_with fail
  (try rw [HD.out])
  refine (kalive_any _ (HT.out.keep BD.out)).mono ?_
  rintro e w1 ⟨rfl, b1⟩
  have B1 : Hid (Below w.heap.size w w1) := BD.out.trans (b1.mono BD.out.size)
  have X1 : Hid (w1.heap[w.heap.size]? = some (.cells #[.int .u8 p, .int .u8 q] 23 (0, 0))) := bblock b1 RD.out
  have d0 : w1.cell? ⟨w.heap.size, 0, none⟩ = some (.int .u8 p) := cell_of_row _ _ 0 _ _ _ X1.out
  have d1 : w1.cell? ⟨w.heap.size, 1, none⟩ = some (.int .u8 q) := cell_of_row _ _ 1 _ _ _ X1.out
  have XC : Hid (∀ w', Below w1.heap.size w1 w' → w'.cell? ⟨w.heap.size, 0, none⟩ = some (.int .u8 p) ∧ w'.cell? ⟨w.heap.size, 1, none⟩ = some (.int .u8 q)) := fun w' hb => ⟨cell_of_row _ _ 0 _ _ _ (bblock hb X1.out), cell_of_row _ _ 1 _ _ _ (bblock hb X1.out)⟩
  clear b1
  go_wp2_with fail
  refine (made_any p q a n cap kd xx kk _ (HT.out.keep B1.out) hp hq (HS.out.keep B1.out) hn P W hP hW).mono ?_
  rintro e w2 ⟨cb, xb, L, m0, al, live, cl, rfl, m2, hl2⟩
  have M2 : Hid (Made w1 xb p q cb P W L m0 m0 al live cl w2) := m2
  have hW8 : W ≤ 8 ∧ 1 ≤ W ∧ P ≤ 4096 ∧ 1 ≤ P := ⟨m2.ok.w1, m2.ok.w0, m2.ok.p1, m2.ok.p0⟩
  obtain ⟨m, hm0⟩ : ∃ m, m0 = m := ⟨_, rfl⟩
  subst hm0
  have hof := ofI_range nn
  have HN7 : Hid (ofI nn = 7 → 0 ≤ nn) := fun e => by have := ofI_cases nn; omega
  clear m2 d0 d1 hP hW
  by_cases hneg : ofI nn < 0
  · have ET : Hid (takeM P W 0 nn m0 = (0, 2, m0)) := by show _ = _; unfold takeM; rw [if_pos (.inr (by omega))]
    go_wp2_with (first
      | (go_at_call 27; refine (qof_any nn _).mono ?_; rintro e w3 ⟨rfl, rfl⟩)
      | (go_at_call 28; refine (ktake_any L cb P W m0 0 nn _ M2.out.ca M2.out.ok hof HN7.out).mono ?_; rw [ET.out]; rintro e w3 ⟨rfl, hl3⟩; obtain ⟨L3, m3, _⟩ := M2.out.call hl3 M2.out.ok.fit; have B3 : Hid (Below w.heap.size w w3) := B1.out.trans (m3.bel.mono B1.out.size); clear hl3 m3))
    go_ret
    exact ⟨rfl, B3.out⟩
  · obtain ⟨k, hk⟩ : ∃ k : Nat, ofI nn = (k : Nat) := ⟨(ofI nn).toNat, by omega⟩
    have hk7 : k ≤ 7 := by omega
    have HK : Hid (ofI nn = (k : Nat)) := hk
    have k0 : ¬ ((k : Int) < 0) := by omega
    obtain ⟨kl, hkl⟩ : ∃ kl, keptI W 0 (k : Int) m0 = kl := ⟨_, rfl⟩
    have KL : Hid (keptI W 0 (k : Int) m0 = kl) := hkl
    have KE : Hid (0 < kl.length ↔ keptM 0 k m0 ≠ []) := by
      show _ ↔ _
      rw [← hkl]
      unfold keptI
      by_cases h7 : k < 7
      · rw [if_pos (by omega)]
        show 0 < ((keptM 0 k m0).map Int.ofNat).length ↔ _
        rw [List.length_map]
        exact List.length_pos_iff
      · obtain rfl : k = 7 := by omega
        rw [if_neg (by omega), kept_large M2.out.ok.fit]
        exact ⟨fun h => absurd h (by simp), fun h => absurd rfl h⟩
    have hkll : kl.length ≤ 100000 := by
      rw [← hkl]
      unfold keptI
      split
      · rw [List.length_map]; exact Nat.le_trans (kept_le M2.out.ok.fit _ _) (by have := M2.out.ok.fit.len; omega)
      · simp
    obtain ⟨pn, hpn⟩ : ∃ pn, pagesN nn = pn := ⟨_, rfl⟩
    have EPN : Hid (pagesN nn = pn) := hpn
    obtain ⟨F, hF⟩ : ∃ F, freeM P 0 m0 = F := ⟨_, rfl⟩
    have HF : Hid (freeM P 0 m0 = F) := hF
    have hFl : F.length ≤ 5000 := by have q1 := freeM_len P m0 0; rw [hF] at q1; have q2 := M2.out.ok.fit.len; omega
    clear hk hneg hof hkl hpn hF
    go_wp2_with fail
    refine (qof_any nn _).mono ?_
    rw [HK.out]
    rintro e w3 ⟨rfl, rfl⟩
    go_wp2_with fail
    refine (kkept_any L cb P W m0 0 (k : Int) _ M2.out.ca M2.out.ok kl KL.out).mono ?_
    rintro e w4 ⟨a4, c4, rfl, _, b4⟩
    obtain ⟨L4, hL4⟩ : ∃ L4, lab L w2.heap.size 0 = L4 := ⟨_, rfl⟩
    have M4 : Hid (Made w1 xb p q cb P W L4 m0 m0 al live cl w4) := by have q := M2.out.alloc b4; rw [hL4] at q; exact q
    clear b4 hL4
    go_wp2_with fail
    refine (kfree_any L4 cb P W m0 _ M4.out.ca M4.out.ok).mono ?_
    rw [HF.out]
    rintro e w5 ⟨rfl, r5, b5⟩
    have R5 : Hid (Row w5 w4.heap.size F) := r5
    obtain ⟨L5, hL5⟩ : ∃ L5, lab L4 w4.heap.size 0 = L5 := ⟨_, rfl⟩
    have M5 : Hid (Made w1 xb p q cb P W L5 m0 m0 al live cl w5) := by have q := M4.out.alloc b5; rw [hL5] at q; exact q
    have R0 : Hid (decide (0 < kl.length) = true ↔ keptM 0 k m0 ≠ [] ∨ ∃ r ∈ F.take 0, pn ≤ r.2) := by
      show _ ↔ _
      rw [decide_eq_true_iff, KE.out]
      exact ⟨.inl, fun h => by rcases h with h | ⟨r, hr, _⟩; exact h; simp at hr⟩
    obtain ⟨T0, hT0⟩ : ∃ T0, decide (0 < kl.length) = T0 := ⟨_, rfl⟩
    have hT0' : decide ((kl.length : Int) > 0) = T0 := by rw [← hT0]; congr 1; exact propext (by omega)
    rw [hT0] at R0
    clear r5 b5 hL5 hT0
    go_wp2
    go_loopw [13, 55] (fun rv jv wy => ∃ (j : Nat) (T : Bool), j ≤ F.length ∧ rv = .bool T ∧ (T = true ↔ keptM 0 k m0 ≠ [] ∨ ∃ r ∈ F.take j, pn ≤ r.2) ∧ jv = .int .i64 (j : Nat) ∧ Below w5.heap.size w5 wy) (fun _ jv _ => F.length - lenW jv)
    case atStart => exact ⟨0, T0, Nat.zero_le _, by first | rfl | (simp [← hT0']), R0.out, rfl, Below.refl _ _⟩
    case round =>
      obtain ⟨j, T, hj, rfl, hTT, rfl, hB⟩ := hrel
      rename World => wy
      have HB : Hid (Below w5.heap.size w5 wy) := hB
      have HTT : Hid (T = true ↔ keptM 0 k m0 ≠ [] ∨ ∃ r ∈ F.take j, pn ≤ r.2) := hTT
      have zy := hB.size
      by_cases hjl : j < F.length
      · have q0 := bcell hB (R5.out.cell0 j hjl)
        have q1 := bcell hB (R5.out.cell1 j hjl)
        have EX : Hid ((∃ r ∈ F.take (j + 1), pn ≤ r.2) ↔ (∃ r ∈ F.take j, pn ≤ r.2) ∨ pn ≤ (F[j]).2) := by
          show _ ↔ _
          rw [List.take_succ_eq_append_getElem hjl]
          constructor
          · rintro ⟨r, hr, h⟩
            rcases List.mem_append.1 hr with h' | h'
            · exact .inl ⟨r, h', h⟩
            · rw [List.mem_singleton] at h'; subst h'; exact .inr h
          · rintro (⟨r, hr, h⟩ | h)
            · exact ⟨r, List.mem_append.2 (.inl hr), h⟩
            · exact ⟨_, List.mem_append.2 (.inr (by simp)), h⟩
        obtain ⟨y1, e1⟩ : ∃ y1, (F[j]).1 = y1 := ⟨_, rfl⟩
        obtain ⟨y2, e2⟩ : ∃ y2, (F[j]).2 = y2 := ⟨_, rfl⟩
        rw [e1] at q0
        rw [e2] at q1 EX
        have k1 : (j : Int) < (F.length : Int) := by omega
        obtain ⟨E, hE⟩ : ∃ E, wy.alloc (.cells #[.int .i64 (y1 : Nat), .int .i64 (y2 : Nat)] 55) = E := ⟨_, rfl⟩
        have BE : Hid (Below w5.heap.size w5 E) := by show Below _ _ _; rw [← hE]; exact hB.alloc zy _
        have QE : E.heap[wy.heap.size]? = some (.cells #[.int .i64 (y1 : Nat), .int .i64 (y2 : Nat)] 55 (0, 0)) := by rw [← hE]; exact Go.heap_alloc_new wy _
        have u1 : E.cell? ⟨wy.heap.size, 1, none⟩ = some (.int .i64 (y2 : Nat)) := cell_of_row _ _ 1 _ _ _ QE
        clear QE
        have HE : Hid (wy.alloc (.cells #[.int .i64 (y1 : Nat), .int .i64 (y2 : Nat)] 55) = E) := hE
        clear hB hTT e1 e2 hE
        cases T with
        | true =>
          go_wp2_with fail
          (try rw [HE.out])
          go_quiet (fail)
          go_wp2
          go_roundw
          case rel =>
            refine ⟨j + 1, true, by omega, rfl, ⟨fun _ => ?_, fun _ => rfl⟩, by congr 1, ⟨BE.out.os, BE.out.tape, BE.out.output, BE.out.size, BE.out.block⟩⟩
            rcases HTT.out.1 (by trivial) with h | h
            · exact .inl h
            · exact .inr (EX.out.2 (.inl h))
          case measure => simp [lenW]; omega
        | false =>
          by_cases hy : pn ≤ y2
          · have hy' : (y2 : Int) ≥ (pn : Int) := by omega
            go_wp2_with fail
            (try rw [HE.out])
            go_region_held3 (fun w' => w'.cell? ⟨wy.heap.size, 1, none⟩ = some (.int .i64 (y2 : Nat))) (first | assumption | go_keep)
              ((go_at_call 29; refine (qpages_any nn _).mono ?_; rw [EPN.out]; rintro e w' ⟨rfl, rfl⟩))
            go_wp2
            go_roundw
            case rel => exact ⟨j + 1, true, by omega, rfl, ⟨fun _ => .inr (EX.out.2 (.inr hy)), fun _ => rfl⟩, by congr 1, ⟨BE.out.os, BE.out.tape, BE.out.output, BE.out.size, BE.out.block⟩⟩
            case measure => simp [lenW]; omega
          · have hy' : ¬ ((y2 : Int) ≥ (pn : Int)) := by omega
            go_wp2_with fail
            (try rw [HE.out])
            go_region_held3 (fun w' => w'.cell? ⟨wy.heap.size, 1, none⟩ = some (.int .i64 (y2 : Nat))) (first | assumption | go_keep)
              ((go_at_call 29; refine (qpages_any nn _).mono ?_; rw [EPN.out]; rintro e w' ⟨rfl, rfl⟩))
            go_wp2
            go_roundw
            case rel =>
              refine ⟨j + 1, false, by omega, rfl, ⟨fun h => (by cases h), fun h => ?_⟩, by congr 1, ⟨BE.out.os, BE.out.tape, BE.out.output, BE.out.size, BE.out.block⟩⟩
              refine HTT.out.2 ?_
              rcases h with h | h
              · exact .inl h
              · rcases EX.out.1 h with h | h
                · exact .inr h
                · exact absurd h hy
            case measure => simp [lenW]; omega
      · obtain rfl : j = F.length := by omega
        rw [List.take_length] at HTT
        have M6 : Hid (∃ L6, Made w1 xb p q cb P W L6 m0 m0 al live cl wy) := ⟨_, M5.out.alloc hB⟩
        clear hB hTT
        obtain ⟨L6, m6⟩ := M6.out
        have M6 : Hid (Made w1 xb p q cb P W L6 m0 m0 al live cl wy) := m6
        clear m6
        go_wp2_with fail
        refine (kspans_any L6 cb P W m0 _ M6.out.ca M6.out.ok).mono ?_
        rintro e w7 ⟨v, rfl, t7, b7⟩
        obtain ⟨ts, hts⟩ : ∃ ts, m0.map (tellT W m0) = ts := ⟨_, rfl⟩
        have HTS : Hid (m0.map (tellT W m0) = ts) := hts
        have hlen : ts.length = m0.length := by rw [← hts, List.length_map]
        have EACH : Hid (∀ j (h1 : j < ts.length) (h2 : j < m0.length), ts[j].c = (m0[j].cl : Int) ∧ ts[j].l.length = m0[j].st.countP (fun x => decide (x = 1)) ∧ m0[j].st.length = slN (m0[j].cl : Int)) := fun j h1 h2 => by
          have e : ts[j] = tellT W m0 m0[j] := by simp only [← hts, List.getElem_map]
          exact ⟨by rw [e]; rfl, by rw [e, tell_len M6.out.ok.fit j h2], (M6.out.ok.fit.ok _ (List.getElem_mem h2)).1.len⟩
        have RNG : Hid (∀ t ∈ ts, t.l.length ≤ 100000 ∧ ∀ x ∈ t.l, -9223372036854775808 ≤ x ∧ x ≤ 9223372036854775807) := fun t ht => by
          rw [← hts] at ht
          obtain ⟨sg, hsg, rfl⟩ := List.mem_map.1 ht
          obtain ⟨j, hj, rfl⟩ := List.mem_iff_getElem.1 hsg
          have fc := (M6.out.ok.fit.ok _ hsg).1.facts.2.1
          have ln := (M6.out.ok.fit.ok _ hsg).1.len
          have e : (tellT W m0 m0[j]).l = lsL (fun i => decide (m0[j].st.getD i 0 = 1)) (slN (m0[j].cl : Int)) := tell_ones M6.out.ok.fit j hj
          refine ⟨?_, fun x hx => ?_⟩
          · rw [tell_len M6.out.ok.fit j hj]; have := List.countP_le_length (p := fun x => decide (x = 1)) (l := m0[j].st); omega
          · rw [e] at hx; obtain ⟨i, rfl, hi, _⟩ := lsL_mem _ _ _ hx; omega
        have FLE : Hid (∀ s ∈ m0, fT k s ≤ 16 ∧ fS k s ≤ 16) := fun s hs => fT_le (M6.out.ok.fit.ok s hs).1 k
        have hml : m0.length ≤ 4096 := by have := M6.out.ok.fit.len; omega
        rw [hts] at t7
        obtain ⟨a7, c7, rfl⟩ := t7.form
        have T7 : Hid (Told w7 wy.heap.size (.slice a7 ts.length c7) ts) := t7
        have B7 : Hid (Below wy.heap.size wy w7) := b7
        clear t7 b7 hts
        go_wp2
        go_loopw [16, 17, 71] (fun tv sv jv wz => ∃ j : Nat, j ≤ ts.length ∧ tv = .int .i64 (sumG (fT k) m0 j : Nat) ∧ sv = .int .i64 (sumG (fS k) m0 j : Nat) ∧ jv = .int .i64 (j : Nat) ∧ Below wy.heap.size wy wz ∧ Told wz wy.heap.size (.slice a7 ts.length c7) ts) (fun _ _ jv _ => ts.length - lenW jv)
        case atStart => exact ⟨0, Nat.zero_le _, rfl, rfl, rfl, B7.out, T7.out⟩
        case round =>
          clear T7 B7
          obtain ⟨j, hj, rfl, rfl, rfl, hB, hTd⟩ := hrel
          rename World => wz
          have HZ : Hid (Below wy.heap.size wy wz) := hB
          have HTd : Hid (Told wz wy.heap.size (.slice a7 ts.length c7) ts) := hTd
          have zz := hB.size
          by_cases hjl : j < ts.length
          · have hjm : j < m0.length := by omega
            obtain ⟨g, c', la, lk, ev, hgb, hgs, q0, q1, q2, q3⟩ := hTd.at j hjl
            obtain ⟨ec, el, es⟩ := EACH.out j hjl hjm
            have st1 := sumG_step (f := fT k) hjm
            have st2 := sumG_step (f := fS k) hjm
            have b1' := sumG_le (f := fT k) (j := j) (fun s hs => (FLE.out s hs).1) (by omega)
            have b2' := sumG_le (f := fS k) (j := j) (fun s hs => (FLE.out s hs).2) (by omega)
            have f16 := FLE.out _ (List.getElem_mem hjm)
            obtain ⟨x, hx⟩ : ∃ x, ts[j] = x := ⟨_, rfl⟩
            rw [hx] at q0 q1 q2 q3 ec el
            obtain ⟨sg, hsg⟩ : ∃ sg, m0[j] = sg := ⟨_, rfl⟩
            rw [hsg] at ec el es st1 st2 f16
            obtain ⟨cc, hcc⟩ : ∃ cc, sg.cl = cc := ⟨_, rfl⟩
            obtain ⟨xl, hxl⟩ : ∃ xl, x.l.length = xl := ⟨_, rfl⟩
            rw [hcc] at ec es
            rw [ec] at q1
            rw [hxl] at q3 el
            obtain ⟨S0, hS0⟩ : ∃ S0, sumG (fT k) m0 j = S0 := ⟨_, rfl⟩
            obtain ⟨U0, hU0⟩ : ∃ U0, sumG (fS k) m0 j = U0 := ⟨_, rfl⟩
            rw [hS0] at st1 b1' ⊢
            rw [hU0] at st2 b2' ⊢
            have e1 : (j : Int) < (ts.length : Int) := by omega
            obtain ⟨rfl, rfl⟩ : a7 = some ⟨g, 0, none⟩ ∧ c7 = c' := by cases ev; exact ⟨rfl, rfl⟩
            have NXT : Hid (∀ o : Obj, Below wy.heap.size wy (wz.alloc o) ∧ Told (wz.alloc o) wy.heap.size (.slice (some ⟨g, 0, none⟩) ts.length c7) ts) := fun o => ⟨hB.alloc zz o, hTd.keep ((Below.refl _ wz).alloc (Nat.le_refl _) o)⟩
            by_cases hc : cc = k ∧ k < 7
            · obtain ⟨rfl, h7⟩ := hc
              have e7 : (cc : Int) < 7 := by omega
              have T1 : Hid (sumG (fT cc) m0 (j + 1) = S0 + xl) := by show _ = _; rw [st1]; unfold fT; rw [if_pos ⟨hcc, h7⟩, el]
              obtain ⟨sn, hsn⟩ : ∃ sn, slN (cc : Int) = sn := ⟨_, rfl⟩
              have U1 : Hid (sumG (fS cc) m0 (j + 1) = U0 + sn) := by show _ = _; rw [st2]; unfold fS; rw [if_pos ⟨hcc, h7⟩, es, hsn]
              have ESN : Hid (slotsI (cc : Int) = (sn : Nat)) := by show _ = _; rw [slots_nat cc h7, hsn]
              have hx16 : xl ≤ 16 := by have q := f16.1; unfold fT at q; rw [if_pos ⟨hcc, h7⟩] at q; omega
              have hs16 : sn ≤ 16 := by have q := f16.2; unfold fS at q; rw [if_pos ⟨hcc, h7⟩, es, hsn] at q; exact q
              have sw : IntKind.i64.wrap ((S0 : Int) + (xl : Int)) = (S0 : Int) + (xl : Int) := by rw [IntKind.wrap_i64]; omega
              have uw : IntKind.i64.wrap ((U0 : Int) + (sn : Int)) = (U0 : Int) + (sn : Int) := by rw [IntKind.wrap_i64]; omega
              clear hB hTd hx hS0 hU0 ev st1 st2 ec el es hsg hcc hxl f16 hsn
              go_wp2_with (go_at_call 30; refine (qslots_any (cc : Int) _).mono ?_; rw [ESN.out]; rintro e w' ⟨rfl, rfl⟩)
              go_roundw
              case rel => exact ⟨j + 1, by omega, by rw [T1.out]; congr 1, by rw [U1.out]; congr 1, by congr 1, (NXT.out _).1, (NXT.out _).2⟩
              case measure => simp [lenW]; omega
            · have T1 : Hid (sumG (fT k) m0 (j + 1) = S0) := by show _ = _; rw [st1]; unfold fT; rw [if_neg (by rw [hcc]; exact hc)]; omega
              have U1 : Hid (sumG (fS k) m0 (j + 1) = U0) := by show _ = _; rw [st2]; unfold fS; rw [if_neg (by rw [hcc]; exact hc)]; omega
              by_cases hck : cc = k
              · have h7 : ¬ ((k : Int) < 7) := fun h => hc ⟨hck, by omega⟩
                have hckI : (cc : Int) = (k : Int) := by omega
                clear hB hTd hx hS0 hU0 ev st1 st2 ec el es hsg hcc hxl f16 hc hck
                go_wp2
                go_roundw
                case rel => exact ⟨j + 1, by omega, by rw [T1.out], by rw [U1.out], by congr 1, (NXT.out _).1, (NXT.out _).2⟩
                case measure => simp [lenW]; omega
              · have hckI : ¬ ((cc : Int) = (k : Int)) := by omega
                clear hB hTd hx hS0 hU0 ev st1 st2 ec el es hsg hcc hxl f16 hc hck
                go_wp2
                go_roundw
                case rel => exact ⟨j + 1, by omega, by rw [T1.out], by rw [U1.out], by congr 1, (NXT.out _).1, (NXT.out _).2⟩
                case measure => simp [lenW]; omega
          · obtain rfl : j = ts.length := by omega
            have hof : -1 ≤ ofI nn ∧ ofI nn ≤ 7 := ofI_range nn
            obtain ⟨L9, hL9⟩ : ∃ L9, lab L6 wy.heap.size 0 = L9 := ⟨_, rfl⟩
            have M9 : Hid (Made w1 xb p q cb P W L9 m0 m0 al live cl wz) := by have q := M6.out.alloc hB; rw [hL9] at q; exact q
            rw [hlen]
            have htl : ts.length ≤ 100000 := by omega
            have b1' := sumG_le (f := fT k) (j := m0.length) (fun s hs => (FLE.out s hs).1) (Nat.le_refl _)
            have b2' := sumG_le (f := fS k) (j := m0.length) (fun s hs => (FLE.out s hs).2) (Nat.le_refl _)
            have TR : Hid ((( keptM 0 k m0 ≠ [] ∨ (∃ r ∈ F, pn ≤ r.2) ∨ (k < 7 ∧ freeP k m0 ≠ [])) → ∃ a m', takeM P W 0 nn m0 = (a, 0, m')) ∧ (¬ (keptM 0 k m0 ≠ [] ∨ (∃ r ∈ F, pn ≤ r.2) ∨ (k < 7 ∧ freeP k m0 ≠ [])) → takeM P W 0 nn m0 = (0, 13, m0))) := by
              have q := take_room (w := 0) (n := nn) M6.out.ok.fit (by omega) (by rw [HK.out]; omega)
              rw [HK.out, HF.out, EPN.out, Int.toNat_natCast] at q
              exact q
            have FS : Hid (k < 7 → (sumG (fT k) m0 m0.length + sumW k m0 W < sumG (fS k) m0 m0.length ↔ freeP k m0 ≠ [])) := fun h7 => by
              rw [(sum_fT h7).1, (sum_fT h7).2]
              exact free_some k M6.out.ok.fit
            have WLE : Hid (k < 7 → sumW k m0 W ≤ 16 * m0.length) := fun h7 => by
              have q := count_all (W := W) k M6.out.ok.fit
              rw [← (sum_fT h7).2] at q
              unfold sumW
              omega
            have F7 : Hid (¬ k < 7 → sumG (fT k) m0 m0.length = 0 ∧ sumG (fS k) m0 m0.length = 0) := fun h7 => by
              obtain rfl : k = 7 := by omega
              exact sum_f7 m0 m0.length
            obtain ⟨A0, hA0⟩ : ∃ A0, sumG (fT k) m0 m0.length = A0 := ⟨_, rfl⟩
            obtain ⟨U0, hU0⟩ : ∃ U0, sumG (fS k) m0 m0.length = U0 := ⟨_, rfl⟩
            rw [hA0] at FS F7 b1' ⊢
            rw [hU0] at FS F7 b2' ⊢
            clear hB hTd hL9 hA0 hU0 hlen
            go_wp2
            go_loopw [16, 20] (fun tv iv wa => ∃ (i : Nat) (L : Nat → Nat), i ≤ W ∧ tv = .int .i64 ((A0 + sumK7 k m0 i : Nat) : Int) ∧ iv = .int .i64 (i : Nat) ∧ Made w1 xb p q cb P W L m0 m0 al live cl wa) (fun _ iv _ => W - lenW iv)
            case atStart => exact ⟨0, L9, Nat.zero_le _, by rw [sumK7_zero]; rfl, rfl, M9.out⟩
            case round =>
              clear M9 HZ HTd
              obtain ⟨i, L9, hi, rfl, rfl, hM⟩ := hrel
              rename World => wa
              have M9 : Hid (Made w1 xb p q cb P W L9 m0 m0 al live cl wa) := hM
              obtain ⟨x0, x1⟩ := XC.out wa hM.bel
              obtain ⟨A1, hA1⟩ : ∃ A1, A0 + sumK7 k m0 i = A1 := ⟨_, rfl⟩
              have EA1 : Hid (A0 + sumK7 k m0 i = A1) := hA1
              rw [hA1]
              clear hM hA1
              go_wp2_with fail
              refine (sworkers_any p q _ hq).mono ?_
              rw [← HWE.out]
              rintro e w10 ⟨rfl, b10⟩
              obtain ⟨L10, hL10⟩ : ∃ L10, lab L9 wa.heap.size 0 = L10 := ⟨_, rfl⟩
              have M10 : Hid (Made w1 xb p q cb P W L10 m0 m0 al live cl w10) := by have q := M9.out.alloc b10; rw [hL10] at q; exact q
              clear b10 hL10 x0 x1
              by_cases h7 : k < 7
              · have wle := WLE.out h7
                have h7I : (k : Int) < 7 := by omega
                have ea1 := EA1.out
                rw [sumK7_lt h7] at ea1
                by_cases hiW : i < W
                · have i1 : (i : Int) < (W : Int) := by omega
                  have sstep := sumW_step k m0 i
                  have smono := sumW_mono k m0 (i + 1) (W - (i + 1))
                  rw [show i + 1 + (W - (i + 1)) = W by omega] at smono
                  obtain ⟨kx, hkx⟩ : ∃ kx, keptI W (i : Int) (k : Int) m0 = kx := ⟨_, rfl⟩
                  have KX : Hid (keptI W (i : Int) (k : Int) m0 = kx) := hkx
                  have hkxl : kx.length = (keptM i k m0).length := by
                    rw [← hkx]; unfold keptI; rw [if_pos (by omega), List.length_map, Int.toNat_natCast, Int.toNat_natCast]
                  obtain ⟨kn, hkn⟩ : ∃ kn, kx.length = kn := ⟨_, rfl⟩
                  have EKN : Hid (kx.length = kn) := hkn
                  rw [← hkxl, hkn] at sstep
                  have ST : Hid (A0 + sumK7 k m0 (i + 1) = A1 + kn) := by show _ = _; rw [sumK7_lt h7]; omega
                  have sw : IntKind.i64.wrap ((A1 : Int) + (kn : Int)) = (A1 : Int) + (kn : Int) := by rw [IntKind.wrap_i64]; omega
                  clear hkx hkxl hkn sstep smono ea1
                  go_wp2_with (go_at_call 25; refine (kkept_any L10 cb P W m0 (i : Int) (k : Int) _ M10.out.ca M10.out.ok kx KX.out).mono ?_; rw [EKN.out]; rintro e w12 ⟨a12, c12, rfl, _, b12⟩; have M12 : Hid (∃ L12, Made w1 xb p q cb P W L12 m0 m0 al live cl w12) := ⟨_, M10.out.alloc b12⟩; clear b12)
                  go_roundw
                  case rel =>
                    obtain ⟨L12, h12⟩ := M12.out
                    exact ⟨i + 1, L12, by omega, by rw [ST.out]; congr 1, by congr 1, h12⟩
                  case measure => simp [lenW]; omega
                · obtain rfl : W = i := by omega
                  have CC : Hid (T = true ∨ A1 < U0 ↔ (keptM 0 k m0 ≠ [] ∨ (∃ r ∈ F, pn ≤ r.2) ∨ (k < 7 ∧ freeP k m0 ≠ []))) := by
                    show _ ↔ _
                    rw [← ea1, FS.out h7, HTT.out]
                    constructor
                    · rintro ((h | h) | h)
                      · exact .inl h
                      · exact .inr (.inl h)
                      · exact .inr (.inr ⟨h7, h⟩)
                    · rintro (h | h | h)
                      · exact .inl (.inl h)
                      · exact .inl (.inr h)
                      · exact .inr h.2
                  clear ea1
                  go_wp2_with fail
                  refine (kspans_any L10 cb P W m0 _ M10.out.ca M10.out.ok).mono ?_
                  rw [HTS.out]
                  rintro e w11 ⟨v, rfl, t11, b11⟩
                  obtain ⟨a11, c11, rfl⟩ := t11.form
                  have T11 : Hid (Told w11 w10.heap.size (.slice a11 ts.length c11) ts) := t11
                  obtain ⟨L11, hL11⟩ : ∃ L11, lab L10 w10.heap.size 0 = L11 := ⟨_, rfl⟩
                  have M11 : Hid (Made w1 xb p q cb P W L11 m0 m0 al live cl w11) := by have q := M10.out.alloc b11; rw [hL11] at q; exact q
                  have LZ : Hid (∀ k, w10.heap.size ≤ k → L11 k = 0) := fun k hk => by rw [← hL11]; exact lab_new hk
                  clear t11 b11 hL11
                  by_cases hC : T = true ∨ A1 < U0
                  · obtain ⟨pl', m', et⟩ := (TR.out.1 (CC.out.1 hC))
                    have TK := take_ok M11.out.ok.fit et
                    have ET : Hid (takeM P W 0 nn m0 = (pl', 0, m')) := et
                    have FT : Hid (Fit W P 0 m') := TK.fit
                    have hpl : pl' ≤ 256 * P := by obtain ⟨z, c, hin, _⟩ := TK.here; have := (hin.bound TK.fit).2.1; omega
                    have HLB : Hid (liveB m' (pl' : Int) = true) := (liveB_of TK.fit).2 ⟨by omega, by rw [Int.toNat_natCast]; obtain ⟨z, c, hin, _⟩ := TK.here; exact ⟨z, c, hin⟩⟩
                    clear et TK
                    have DEC : (T = true) ∨ (T = false ∧ (A1 : Int) < (U0 : Int)) := by
                      cases T with
                      | true => exact .inl rfl
                      | false => exact .inr ⟨rfl, by rcases hC with h | h; cases h; omega⟩
                    clear hC
                    rcases DEC with rfl | ⟨rfl, hAU⟩
                    · go_wp2_with (first
                        | (go_at_call 28; refine (ktake_any L11 cb P W m0 0 nn _ M11.out.ca M11.out.ok hof HN7.out).mono ?_; rw [ET.out]; rintro e w12 ⟨rfl, hl12⟩; obtain ⟨L12, m12, _⟩ := M11.out.call hl12 FT.out; have M12 : Hid (Made w1 xb p q cb P W L12 m' m0 al live cl w12) := m12; clear hl12 m12)
                        | (go_at_call 21; refine (live_ca L12 cb P W m' (pl' : Int) _ M12.out.ca M12.out.ok (by omega) true HLB.out).mono ?_; rintro e w13 ⟨rfl, b13⟩; have B13 : Hid (Below w.heap.size w w13) := B1.out.trans ((M12.out.bel.trans (b13.mono M12.out.bel.size)).mono B1.out.size); clear b13))
                      go_ret
                      exact ⟨rfl, B13.out⟩
                    · go_wp2_with (first
                        | (go_at_call 28; refine (ktake_any L11 cb P W m0 0 nn _ M11.out.ca M11.out.ok hof HN7.out).mono ?_; rw [ET.out]; rintro e w12 ⟨rfl, hl12⟩; obtain ⟨L12, m12, _⟩ := M11.out.call hl12 FT.out; have M12 : Hid (Made w1 xb p q cb P W L12 m' m0 al live cl w12) := m12; clear hl12 m12)
                        | (go_at_call 21; refine (live_ca L12 cb P W m' (pl' : Int) _ M12.out.ca M12.out.ok (by omega) true HLB.out).mono ?_; rintro e w13 ⟨rfl, b13⟩; have B13 : Hid (Below w.heap.size w w13) := B1.out.trans ((M12.out.bel.trans (b13.mono M12.out.bel.size)).mono B1.out.size); clear b13))
                      go_ret
                      exact ⟨rfl, B13.out⟩
                  · have ET : Hid (takeM P W 0 nn m0 = (0, 13, m0)) := TR.out.2 (fun e => hC (CC.out.2 e))
                    obtain rfl : T = false := by cases T with | true => exact absurd (.inl rfl) hC | false => rfl
                    have hAU : ¬ ((A1 : Int) < (U0 : Int)) := fun h => hC (.inr (by omega))
                    clear hC
                    go_wp2_with (first
                      | (go_at_call 28; refine (ktake_any L11 cb P W m0 0 nn _ M11.out.ca M11.out.ok hof HN7.out).mono ?_; rw [ET.out]; rintro e w12 ⟨rfl, hl12⟩; obtain ⟨L12, m12, mv12⟩ := M11.out.call hl12 M11.out.ok.fit; have M12 : Hid (Made w1 xb p q cb P W L12 m0 m0 al live cl w12) := m12; have T12 : Hid (Told w12 w10.heap.size (.slice a11 ts.length c11) ts) := T11.out.tu mv12.tu (fun k hk e => e (LZ.out k hk)); clear hl12 m12 mv12)
                      | (go_at_call 20; refine (kspans_any L12 cb P W m0 _ M12.out.ca M12.out.ok).mono ?_; rw [HTS.out]; rintro e w13 ⟨v, rfl, t13, b13⟩; obtain ⟨a13, c13, rfl⟩ := t13.form; have T13 : Hid (Told w13 w12.heap.size (.slice a13 ts.length c13) ts) := t13; have T12' : Hid (Told w13 w10.heap.size (.slice a11 ts.length c11) ts) := T12.out.keep b13; have B13 : Hid (Below w.heap.size w w13) := B1.out.trans ((M12.out.bel.trans (b13.mono M12.out.bel.size)).mono B1.out.size); have RA : Hid (Calls Tryz.prog 18 #[.slice a13 ts.length c13, .slice a11 ts.length c11] w13 fun e w' => e = .returned (.bool true) ∧ Below w13.heap.size w13 w') := rall_any w12.heap.size w10.heap.size a13 a11 c13 c11 ts w13 T13.out T12'.out htl RNG.out; clear t13 b13)
                      | (go_at_call 18; refine RA.out.mono ?_; rintro e w14 ⟨rfl, b14⟩; have B14 : Hid (Below w.heap.size w w14) := B13.out.trans (b14.mono B13.out.size); clear b14))
                    go_ret
                    exact ⟨rfl, B14.out⟩
              · have h7I : ¬ ((k : Int) < 7) := by omega
                have f7 := F7.out h7
                have ea1 := EA1.out
                rw [sumK7_ge h7] at ea1
                have CC : Hid (T = true ∨ A1 < U0 ↔ (keptM 0 k m0 ≠ [] ∨ (∃ r ∈ F, pn ≤ r.2) ∨ (k < 7 ∧ freeP k m0 ≠ []))) := by
                  show _ ↔ _
                  rw [HTT.out]
                  constructor
                  · rintro ((h | h) | h)
                    · exact .inl h
                    · exact .inr (.inl h)
                    · omega
                  · rintro (h | h | h)
                    · exact .inl (.inl h)
                    · exact .inl (.inr h)
                    · exact absurd h.1 h7
                clear ea1
                rcases Classical.em ((i : Int) < (W : Int)) with hiW | hiW
                · go_wp2_with fail
                  refine (kspans_any L10 cb P W m0 _ M10.out.ca M10.out.ok).mono ?_
                  rw [HTS.out]
                  rintro e w11 ⟨v, rfl, t11, b11⟩
                  obtain ⟨a11, c11, rfl⟩ := t11.form
                  have T11 : Hid (Told w11 w10.heap.size (.slice a11 ts.length c11) ts) := t11
                  obtain ⟨L11, hL11⟩ : ∃ L11, lab L10 w10.heap.size 0 = L11 := ⟨_, rfl⟩
                  have M11 : Hid (Made w1 xb p q cb P W L11 m0 m0 al live cl w11) := by have q := M10.out.alloc b11; rw [hL11] at q; exact q
                  have LZ : Hid (∀ k, w10.heap.size ≤ k → L11 k = 0) := fun k hk => by rw [← hL11]; exact lab_new hk
                  clear t11 b11 hL11
                  by_cases hC : T = true ∨ A1 < U0
                  · obtain ⟨pl', m', et⟩ := (TR.out.1 (CC.out.1 hC))
                    have TK := take_ok M11.out.ok.fit et
                    have ET : Hid (takeM P W 0 nn m0 = (pl', 0, m')) := et
                    have FT : Hid (Fit W P 0 m') := TK.fit
                    have hpl : pl' ≤ 256 * P := by obtain ⟨z, c, hin, _⟩ := TK.here; have := (hin.bound TK.fit).2.1; omega
                    have HLB : Hid (liveB m' (pl' : Int) = true) := (liveB_of TK.fit).2 ⟨by omega, by rw [Int.toNat_natCast]; obtain ⟨z, c, hin, _⟩ := TK.here; exact ⟨z, c, hin⟩⟩
                    clear et TK
                    have DEC : (T = true) ∨ (T = false ∧ (A1 : Int) < (U0 : Int)) := by
                      cases T with
                      | true => exact .inl rfl
                      | false => exact .inr ⟨rfl, by rcases hC with h | h; cases h; omega⟩
                    clear hC
                    rcases DEC with rfl | ⟨rfl, hAU⟩
                    · go_wp2_with (first
                        | (go_at_call 28; refine (ktake_any L11 cb P W m0 0 nn _ M11.out.ca M11.out.ok hof HN7.out).mono ?_; rw [ET.out]; rintro e w12 ⟨rfl, hl12⟩; obtain ⟨L12, m12, _⟩ := M11.out.call hl12 FT.out; have M12 : Hid (Made w1 xb p q cb P W L12 m' m0 al live cl w12) := m12; clear hl12 m12)
                        | (go_at_call 21; refine (live_ca L12 cb P W m' (pl' : Int) _ M12.out.ca M12.out.ok (by omega) true HLB.out).mono ?_; rintro e w13 ⟨rfl, b13⟩; have B13 : Hid (Below w.heap.size w w13) := B1.out.trans ((M12.out.bel.trans (b13.mono M12.out.bel.size)).mono B1.out.size); clear b13))
                      go_ret
                      exact ⟨rfl, B13.out⟩
                    · exact absurd hAU (by have q := EA1.out; rw [sumK7_ge h7] at q; have := F7.out h7; omega)
                  · have ET : Hid (takeM P W 0 nn m0 = (0, 13, m0)) := TR.out.2 (fun e => hC (CC.out.2 e))
                    obtain rfl : T = false := by cases T with | true => exact absurd (.inl rfl) hC | false => rfl
                    have hAU : ¬ ((A1 : Int) < (U0 : Int)) := fun h => hC (.inr (by omega))
                    clear hC
                    go_wp2_with (first
                      | (go_at_call 28; refine (ktake_any L11 cb P W m0 0 nn _ M11.out.ca M11.out.ok hof HN7.out).mono ?_; rw [ET.out]; rintro e w12 ⟨rfl, hl12⟩; obtain ⟨L12, m12, mv12⟩ := M11.out.call hl12 M11.out.ok.fit; have M12 : Hid (Made w1 xb p q cb P W L12 m0 m0 al live cl w12) := m12; have T12 : Hid (Told w12 w10.heap.size (.slice a11 ts.length c11) ts) := T11.out.tu mv12.tu (fun k hk e => e (LZ.out k hk)); clear hl12 m12 mv12)
                      | (go_at_call 20; refine (kspans_any L12 cb P W m0 _ M12.out.ca M12.out.ok).mono ?_; rw [HTS.out]; rintro e w13 ⟨v, rfl, t13, b13⟩; obtain ⟨a13, c13, rfl⟩ := t13.form; have T13 : Hid (Told w13 w12.heap.size (.slice a13 ts.length c13) ts) := t13; have T12' : Hid (Told w13 w10.heap.size (.slice a11 ts.length c11) ts) := T12.out.keep b13; have B13 : Hid (Below w.heap.size w w13) := B1.out.trans ((M12.out.bel.trans (b13.mono M12.out.bel.size)).mono B1.out.size); have RA : Hid (Calls Tryz.prog 18 #[.slice a13 ts.length c13, .slice a11 ts.length c11] w13 fun e w' => e = .returned (.bool true) ∧ Below w13.heap.size w13 w') := rall_any w12.heap.size w10.heap.size a13 a11 c13 c11 ts w13 T13.out T12'.out htl RNG.out; clear t13 b13)
                      | (go_at_call 18; refine RA.out.mono ?_; rintro e w14 ⟨rfl, b14⟩; have B14 : Hid (Below w.heap.size w w14) := B13.out.trans (b14.mono B13.out.size); clear b14))
                    go_ret
                    exact ⟨rfl, B14.out⟩
                · go_wp2_with fail
                  refine (kspans_any L10 cb P W m0 _ M10.out.ca M10.out.ok).mono ?_
                  rw [HTS.out]
                  rintro e w11 ⟨v, rfl, t11, b11⟩
                  obtain ⟨a11, c11, rfl⟩ := t11.form
                  have T11 : Hid (Told w11 w10.heap.size (.slice a11 ts.length c11) ts) := t11
                  obtain ⟨L11, hL11⟩ : ∃ L11, lab L10 w10.heap.size 0 = L11 := ⟨_, rfl⟩
                  have M11 : Hid (Made w1 xb p q cb P W L11 m0 m0 al live cl w11) := by have q := M10.out.alloc b11; rw [hL11] at q; exact q
                  have LZ : Hid (∀ k, w10.heap.size ≤ k → L11 k = 0) := fun k hk => by rw [← hL11]; exact lab_new hk
                  clear t11 b11 hL11
                  by_cases hC : T = true ∨ A1 < U0
                  · obtain ⟨pl', m', et⟩ := (TR.out.1 (CC.out.1 hC))
                    have TK := take_ok M11.out.ok.fit et
                    have ET : Hid (takeM P W 0 nn m0 = (pl', 0, m')) := et
                    have FT : Hid (Fit W P 0 m') := TK.fit
                    have hpl : pl' ≤ 256 * P := by obtain ⟨z, c, hin, _⟩ := TK.here; have := (hin.bound TK.fit).2.1; omega
                    have HLB : Hid (liveB m' (pl' : Int) = true) := (liveB_of TK.fit).2 ⟨by omega, by rw [Int.toNat_natCast]; obtain ⟨z, c, hin, _⟩ := TK.here; exact ⟨z, c, hin⟩⟩
                    clear et TK
                    have DEC : (T = true) ∨ (T = false ∧ (A1 : Int) < (U0 : Int)) := by
                      cases T with
                      | true => exact .inl rfl
                      | false => exact .inr ⟨rfl, by rcases hC with h | h; cases h; omega⟩
                    clear hC
                    rcases DEC with rfl | ⟨rfl, hAU⟩
                    · go_wp2_with (first
                        | (go_at_call 28; refine (ktake_any L11 cb P W m0 0 nn _ M11.out.ca M11.out.ok hof HN7.out).mono ?_; rw [ET.out]; rintro e w12 ⟨rfl, hl12⟩; obtain ⟨L12, m12, _⟩ := M11.out.call hl12 FT.out; have M12 : Hid (Made w1 xb p q cb P W L12 m' m0 al live cl w12) := m12; clear hl12 m12)
                        | (go_at_call 21; refine (live_ca L12 cb P W m' (pl' : Int) _ M12.out.ca M12.out.ok (by omega) true HLB.out).mono ?_; rintro e w13 ⟨rfl, b13⟩; have B13 : Hid (Below w.heap.size w w13) := B1.out.trans ((M12.out.bel.trans (b13.mono M12.out.bel.size)).mono B1.out.size); clear b13))
                      go_ret
                      exact ⟨rfl, B13.out⟩
                    · exact absurd hAU (by have q := EA1.out; rw [sumK7_ge h7] at q; have := F7.out h7; omega)
                  · have ET : Hid (takeM P W 0 nn m0 = (0, 13, m0)) := TR.out.2 (fun e => hC (CC.out.2 e))
                    obtain rfl : T = false := by cases T with | true => exact absurd (.inl rfl) hC | false => rfl
                    have hAU : ¬ ((A1 : Int) < (U0 : Int)) := fun h => hC (.inr (by omega))
                    clear hC
                    go_wp2_with (first
                      | (go_at_call 28; refine (ktake_any L11 cb P W m0 0 nn _ M11.out.ca M11.out.ok hof HN7.out).mono ?_; rw [ET.out]; rintro e w12 ⟨rfl, hl12⟩; obtain ⟨L12, m12, mv12⟩ := M11.out.call hl12 M11.out.ok.fit; have M12 : Hid (Made w1 xb p q cb P W L12 m0 m0 al live cl w12) := m12; have T12 : Hid (Told w12 w10.heap.size (.slice a11 ts.length c11) ts) := T11.out.tu mv12.tu (fun k hk e => e (LZ.out k hk)); clear hl12 m12 mv12)
                      | (go_at_call 20; refine (kspans_any L12 cb P W m0 _ M12.out.ca M12.out.ok).mono ?_; rw [HTS.out]; rintro e w13 ⟨v, rfl, t13, b13⟩; obtain ⟨a13, c13, rfl⟩ := t13.form; have T13 : Hid (Told w13 w12.heap.size (.slice a13 ts.length c13) ts) := t13; have T12' : Hid (Told w13 w10.heap.size (.slice a11 ts.length c11) ts) := T12.out.keep b13; have B13 : Hid (Below w.heap.size w w13) := B1.out.trans ((M12.out.bel.trans (b13.mono M12.out.bel.size)).mono B1.out.size); have RA : Hid (Calls Tryz.prog 18 #[.slice a13 ts.length c13, .slice a11 ts.length c11] w13 fun e w' => e = .returned (.bool true) ∧ Below w13.heap.size w13 w') := rall_any w12.heap.size w10.heap.size a13 a11 c13 c11 ts w13 T13.out T12'.out htl RNG.out; clear t13 b13)
                      | (go_at_call 18; refine RA.out.mono ?_; rintro e w14 ⟨rfl, b14⟩; have B14 : Hid (Below w.heap.size w w14) := B13.out.trans (b14.mono B13.out.size); clear b14))
                    go_ret
                    exact ⟨rfl, B14.out⟩
end Go.Proofs.YtgmljgogmbaioaaGreatDoor
