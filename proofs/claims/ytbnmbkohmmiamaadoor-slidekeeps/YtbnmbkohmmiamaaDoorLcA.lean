/- The document's Copy of spans that are told. -/
import Derived.Test.YtbnmbkohmmiamaaDoorLbI
import Derived.Laws.AppendOwnNone
namespace Go.Proofs.YtbnmbkohmmiamaaDoor
open Go.RowKit
set_option linter.unusedVariables false

theorem app_nil_cap (P : Program) (w : World) (t e : TypeId) (i : TypeInfo) (ht : P.underlying t = some (.slice e)) (hi : P.info? e = some i) (ty : TypeId) (b : Addr) (k : Nat) : (Builtin.append_ #[t, t] ty #[.slice (some b) 0 0, .slice none 0 k]).run P w = (Builtin.append_ #[t, t] ty #[.slice (some b) 0 0, .slice none 0 0]).run P w := by
  rfl
/-- Numbers of any list put behind none: a list of one's own. -/
theorem appAll_run (B : Nat) (w : World) (hB : B ≤ w.heap.size) (g0 : Nat) (h : OwnsI w B (some ⟨g0, 0, none⟩) [] 0) (la : Option Addr) (l : List Int) (n lk : Nat) (hn : l.length = n) (hI : IsI w la l) (hl : l.length ≤ 17592186044416) :
    ∃ a' cap' w', (Builtin.append_ #[44, 44] 44 #[.slice (some ⟨g0, 0, none⟩) 0 0, .slice la n lk]).run Tryd.prog w = .ok (.slice a' n cap') w' ∧ OwnsI w' B a' l cap' ∧ Tu (fun k => k = g0) w w' := by
  subst hn
  obtain ⟨i0, hi, hz0, hz2, hz3⟩ := info_parts Tryd.info3
  cases la with
  | none =>
    obtain ⟨_, rfl | ⟨b, off, e, _⟩⟩ := hI
    · refine ⟨some ⟨g0, 0, none⟩, 0, w, ?_, h, Tu.refl _ _⟩
      show (Builtin.append_ #[44, 44] 44 #[.slice (some ⟨g0, 0, none⟩) 0 0, .slice none 0 lk]).run Tryd.prog w = _
      rw [app_nil_cap Tryd.prog w _ _ _ Tryd.underlying44 hi]
      exact run_append_owned_none (P := Tryd.prog) (w := w) B 44 44 3 i0 1 Tryd.underlying44 hi _ _ _ h
    · cases e
  | some x =>
    obtain ⟨v', w', hr, h2, h3, _, _⟩ := run_append_own_at (P := Tryd.prog) w B 44 44 3 i0 _ 1 8 Tryd.underlying44 hi hz0 hz2 hz3 rfl (by decide) (.slice (some ⟨g0, 0, none⟩) 0 0) 0 ([].map (Value.int .i64)) h x l.length lk (l.map (Value.int .i64)) (by simp) (fun j u hj => by
        have hj' : j < l.length := by have := (List.getElem?_eq_some_iff.1 hj).1; simpa using this
        obtain ⟨_, h0 | ⟨b, off, e, _, hc⟩⟩ := hI
        · rw [h0] at hj'; simp at hj'
        · cases e
          rw [show (⟨b, off, none⟩ : Addr).add j = ⟨b, off + j, none⟩ from by simp [Addr.add], hc j hj']
          rw [List.getElem?_map, List.getElem?_eq_getElem hj'] at hj
          rw [← hj, List.getD_eq_getElem?_getD, List.getElem?_eq_getElem hj']
          rfl) (fun u hu => by obtain ⟨x, _, rfl⟩ := List.mem_map.1 hu; rfl) (by unfold maxLen; omega) (by omega) hB
    simp only [Nat.zero_add, List.map_nil, List.nil_append] at h2
    obtain ⟨a', cap', rfl⟩ := owns_formI h2
    refine ⟨a', cap', w', hr, h2, Tu.grown h3 (fun g hg => ?_)⟩
    have : some g0 = some g := hg
    exact (Option.some.inj this).symm
set_option maxRecDepth 20000 in
set_option maxHeartbeats 4000000 in
theorem rcopy_any (a : Option Addr) (n cap : Nat) (ts : List Td) (w : World) (h : RdT w a ts) (hn : ts.length = n) (hl : n ≤ 100000) (hL : ∀ t ∈ ts, t.l.length ≤ 17592186044416) :
    Calls Tryd.prog 9 #[.slice a n cap] w fun e w' => ∃ a' c', e = .returned (.slice a' n c') ∧ Told w' w.heap.size (.slice a' n c') ts ∧ Below w.heap.size w w' := by
  have H : Hid (RdT w a ts) := h
  have HN : Hid (ts.length = n) := hn
  have HL : Hid (∀ t ∈ ts, t.l.length ≤ 17592186044416) := hL
  clear h hn hL
  go_enter Tryd.func9, Tryd.ntmps9
  go_wp2_with fail
  go_loopw [3, 8] (fun lv iv wr => ∃ (k : Nat) (av : Option Addr) (cv : Nat), k ≤ n ∧ iv = .int .i64 (k : Nat) ∧ lv = .slice av k cv ∧ Told wr w.heap.size (.slice av k cv) (ts.take k) ∧ Below w.heap.size w wr) (fun _ iv _ => n - lenW iv)
  case atStart => exact ⟨0, none, 0, Nat.zero_le _, rfl, rfl, Told.nil _ _, Below.refl _ _⟩
  case round =>
    obtain ⟨k, av, cv, hk, rfl, rfl, ht, hb⟩ := hrel
    rename World => wr
    have HT : Hid (Told wr w.heap.size (.slice av k cv) (ts.take k)) := ht
    have HB : Hid (Below w.heap.size w wr) := hb
    clear ht hb
    by_cases hkn : k < n
    · have hkt : k < ts.length := by rw [HN.out]; exact hkn
      obtain ⟨g, off, la, lk, rfl, c0, c1, c2, c3, hI, hl0⟩ := (H.out.keep HB.out) k hkt
      have hl1 := HL.out ts[k] (List.getElem_mem hkt)
      have ET : ts.take k ++ [ts[k]] = ts.take (k + 1) := (List.take_succ_eq_append_getElem hkt).symm
      obtain ⟨t, ht⟩ : ∃ t, ts[k] = t := ⟨_, rfl⟩
      rw [ht] at c0 c1 c2 c3 hI hl0 hl1 ET
      have HET : Hid (ts.take k ++ [t] = ts.take (k + 1)) := ET
      obtain ⟨p, c, s, l⟩ := t
      simp only at c0 c1 c2 c3 hI hl0 hl1
      obtain ⟨ln, hln⟩ : ∃ ln, l.length = ln := ⟨_, rfl⟩
      have HLN : Hid (l.length = ln) := hln
      rw [hln] at c3
      obtain ⟨E1, hE1⟩ : ∃ E1, wr.alloc (.cells #[.int .i64 p, .int .i64 c, .int .i64 s, .slice la ln lk] 46) = E1 := ⟨_, rfl⟩
      have HE1 : Hid (wr.alloc (.cells #[.int .i64 p, .int .i64 c, .int .i64 s, .slice la ln lk] 46) = E1) := hE1
      have B1 : Below wr.heap.size wr E1 := by rw [← hE1]; exact (Below.refl _ wr).alloc (Nat.le_refl _) _
      have R1 : E1.heap[wr.heap.size]? = some (.cells (dcells p c s la ln lk) 46 (0, 0)) := by rw [← hE1]; exact Go.heap_alloc_new wr _
      have z1 : E1.heap.size = wr.heap.size + 1 := by rw [← hE1]; simp
      obtain ⟨E2, hE2⟩ : ∃ E2, E1.alloc (.cells #[] 3) = E2 := ⟨_, rfl⟩
      have HE2 : Hid (E1.alloc (.cells #[] 3) = E2) := hE2
      have B2 : Below E1.heap.size E1 E2 := by rw [← hE2]; exact (Below.refl _ E1).alloc (Nat.le_refl _) _
      have O2 : OwnsI E2 (wr.heap.size + 1) (some ⟨E1.heap.size, 0, none⟩) [] 0 := by
        rw [← hE2]; exact World.ownsRow_made E1 #[] 0 (by omega) (Nat.zero_le _) rfl
      have R2 := bblock B2 R1
      have hw0 := HB.out.size
      obtain ⟨a9, c9, w9, run9, o9, u9⟩ := appAll_run (wr.heap.size + 1) E2 (by have := B2.size; omega) E1.heap.size O2 la l ln lk hln ((hI.keep B1).keep B2) hl1
      have R9 : w9.heap[wr.heap.size]? = some (.cells (dcells p c s la ln lk) 46 (0, 0)) := u9.block _ _ R2 (by omega)
      have B9 : Below wr.heap.size wr w9 := (B1.trans (B2.mono B1.size)).trans ((u9.below (B := wr.heap.size + 1) (fun i e => by omega) (by have := B2.size; omega)).mono (by omega))
      obtain ⟨X, hX⟩ : ∃ X, w9.setCell ⟨wr.heap.size, 3, none⟩ (.slice a9 ln c9) = X := ⟨_, rfl⟩
      have HX : Hid (w9.setCell ⟨wr.heap.size, 3, none⟩ (.slice a9 ln c9) = X) := hX
      have on : Only wr.heap.size w9 X := by rw [← hX]; exact Only.set _ 3 _ w9
      have RX : X.heap[wr.heap.size]? = some (.cells (dcells p c s a9 ln c9) 46 (0, 0)) := by
        rw [← hX, heap_put R9]; simp [dcells]
      have BX : Below wr.heap.size wr X := B9.trans (on.below (Nat.le_refl _))
      have OX : OwnsI X (wr.heap.size + 1) a9 l c9 := by
        obtain ⟨h0, h1 | ⟨g', c'', cur, h1, hb, h3, h4⟩⟩ := o9
        · exact ⟨h0, .inl h1⟩
        · exact ⟨h0, .inr ⟨g', c'', cur, h1, hb, by rw [on.block g' (by omega)]; exact h3, h4⟩⟩
      obtain ⟨D, hD⟩ : ∃ D, X.alloc (.cells #[.int .i64 p, .int .i64 c, .int .i64 s, .slice a9 ln c9] 46) = D := ⟨_, rfl⟩
      have HD : Hid (X.alloc (.cells #[.int .i64 p, .int .i64 c, .int .i64 s, .slice a9 ln c9] 46) = D) := hD
      have bD : Below X.heap.size X D := by rw [← hD]; exact (Below.refl _ X).alloc (Nat.le_refl _) _
      have RD : Hid (D.heap[X.heap.size]? = some (.cells (dcells p c s a9 ln c9) 46 (0, 0))) := by show _ = _; rw [← hD]; exact Go.heap_alloc_new X _
      have B0 : Below wr.heap.size wr D := BX.trans (bD.mono BX.size)
      have TD : Hid (Told D w.heap.size (.slice av k cv) (ts.take k)) := HT.out.keep B0
      have BD : Hid (Below w.heap.size w D) := HB.out.trans (B0.mono HB.out.size)
      have OD : Hid (OwnsI D w.heap.size a9 l c9) := (OX.keep bD).mono (by omega)
      have KL : Hid ((ts.take k).length = k) := by show _ = _; rw [List.length_take, HN.out]; omega
      have LN : Hid ((ts.take k).length ≤ 100000) := by show _ ≤ _; rw [KL.out]; omega
      have RUN9 : Hid ((Builtin.append_ #[44, 44] 44 #[.slice (some ⟨E1.heap.size, 0, none⟩) 0 0, .slice la ln lk]).run Tryd.prog E2 = .ok (.slice a9 ln c9) w9) := run9
      have e3 := dcell3 R2
      have d3 := dcell3 R1
      have f9 : w9.frozen? ⟨wr.heap.size, 3, none⟩ = false := frozen_of_row _ _ _ _ _ R9
      have y3 := dcell3 R9
      have x0 := dcell0 RX
      have x1 := dcell1 RX
      have x2 := dcell2 RX
      have x3 := dcell3 RX
      have k0 : (k : Int) < (n : Int) := by omega
      clear hI hl0 hl1 ET ht hln B1 R1 z1 B2 O2 R2 hw0 run9 o9 u9 B9 on RX BX OX bD B0 R9 hE1
      go_upto_region 5 with (fail)
      rw [HE1.out]
      go_wp2_with (first
        | (have q9 := f9; at_builtin; (try rw [HE2.out]); refine wpList_runi rfl rfl _ _ rfl (.slice (some ⟨E1.heap.size, 0, none⟩) 0 0) (.slice la ln lk) _ _ rfl rfl RUN9.out ?_; clear f9)
        | (at_builtin; (try rw [HX.out]); (try rw [HD.out]); refine wpList_told rfl _ _ rfl w.heap.size BD.out.size av k cv (ts.take k) rfl KL.out TD.out _ 1 ⟨⟨p, c, s, l⟩, a9, c9⟩ ln HLN.out rfl RD.out OD.out LN.out ?_; intro a4 c4 w4 t4 b4; have T4 : Hid (Told w4 w.heap.size (.slice a4 (k + 1) c4) (ts.take (k + 1))) := (by rw [← HET.out]; exact t4); have B4 : Hid (Below w.heap.size w w4) := BD.out.trans b4; clear t4 b4))
      go_roundw
      case rel => exact ⟨k + 1, a4, c4, by omega, by congr 1, rfl, T4.out, B4.out⟩
      case measure => simp [lenW]; omega
    · obtain rfl : k = n := by omega
      have F : Hid (Told wr w.heap.size (.slice av k cv) ts) := by
        have := HT.out
        rw [List.take_of_length_le (Nat.le_of_eq HN.out)] at this
        exact this
      go_wp2
      go_ret
      exact ⟨av, cv, rfl, F.out, HB.out⟩
end Go.Proofs.YtbnmbkohmmiamaaDoor
