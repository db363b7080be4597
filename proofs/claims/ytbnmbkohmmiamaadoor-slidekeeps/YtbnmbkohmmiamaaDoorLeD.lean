/- The document's Copy, its lists told apart by labels. -/
import Derived.Test.YtbnmbkohmmiamaaDoorLeC
namespace Go.Proofs.YtbnmbkohmmiamaaDoor
open Go.RowKit
set_option linter.unusedVariables false

set_option maxRecDepth 20000 in
set_option maxHeartbeats 4000000 in
theorem rcopy2_any (a : Option Addr) (n cap : Nat) (ts : List Td) (w : World) (h : RdT w a ts) (hn : ts.length = n) (hl : n ≤ 100000) (hL : ∀ t ∈ ts, t.l.length ≤ 17592186044416) :
    Calls Tryd.prog 9 #[.slice a n cap] w fun e w' => ∃ a' c' L, e = .returned (.slice a' n c') ∧ Dp w w' L a' c' ts ∧ (∀ k, k < w.heap.size → L k = 0) ∧ Below w.heap.size w w' := by
  have H : Hid (RdT w a ts) := h
  have HN : Hid (ts.length = n) := hn
  have HL : Hid (∀ t ∈ ts, t.l.length ≤ 17592186044416) := hL
  clear h hn hL
  go_enter Tryd.func9, Tryd.ntmps9
  go_wp2_with fail
  go_loopw [3, 8] (fun lv iv wr => ∃ (k : Nat) (av : Option Addr) (cv : Nat) (L : Nat → Nat), k ≤ n ∧ iv = .int .i64 (k : Nat) ∧ lv = .slice av k cv ∧ Dp w wr L av cv (ts.take k) ∧ (∀ j, j < w.heap.size → L j = 0) ∧ Below w.heap.size w wr) (fun _ iv _ => n - lenW iv)
  case atStart => exact ⟨0, none, 0, fun _ => 0, Nat.zero_le _, rfl, rfl, Dp.nil _ _ _, fun _ _ => rfl, Below.refl _ _⟩
  case round =>
    obtain ⟨k, av, cv, L, hk, rfl, rfl, ht, hlow, hb⟩ := hrel
    rename World => wr
    have HT : Hid (Dp w wr L av cv (ts.take k)) := ht
    have HLW : Hid (∀ j, j < w.heap.size → L j = 0) := hlow
    have HB : Hid (Below w.heap.size w wr) := hb
    clear ht hb hlow
    by_cases hkn : k < n
    · have hkt : k < ts.length := by rw [HN.out]; exact hkn
      obtain ⟨g, off, la, lk, rfl, c0, c1, c2, c3, hI, hl0⟩ := (H.out.keep HB.out) k hkt
      have hl1 := HL.out ts[k] (List.getElem_mem hkt)
      have ET : ts.take k ++ [ts[k]] = ts.take (k + 1) := (List.take_succ_eq_append_getElem hkt).symm
      obtain ⟨t, ht⟩ : ∃ t, ts[k] = t := ⟨_, rfl⟩
      rw [ht] at c0 c1 c2 c3 hI hl0 hl1 ET
      have HET : Hid (ts.take k ++ [t] = ts.take (k + 1)) := ET
      obtain ⟨p, c, s, l⟩ := t
      simp only at c0 c1 c2 c3 hI hl0 hl1
      obtain ⟨ln, hln⟩ : ∃ ln, l.length = ln := ⟨_, rfl⟩
      have HLN : Hid (l.length = ln) := hln
      rw [hln] at c3
      obtain ⟨E1, hE1⟩ : ∃ E1, wr.alloc (.cells #[.int .i64 p, .int .i64 c, .int .i64 s, .slice la ln lk] 46) = E1 := ⟨_, rfl⟩
      have HE1 : Hid (wr.alloc (.cells #[.int .i64 p, .int .i64 c, .int .i64 s, .slice la ln lk] 46) = E1) := hE1
      have B1 : Below wr.heap.size wr E1 := by rw [← hE1]; exact (Below.refl _ wr).alloc (Nat.le_refl _) _
      have R1 : E1.heap[wr.heap.size]? = some (.cells (dcells p c s la ln lk) 46 (0, 0)) := by rw [← hE1]; exact Go.heap_alloc_new wr _
      have z1 : E1.heap.size = wr.heap.size + 1 := by rw [← hE1]; simp
      obtain ⟨E2, hE2⟩ : ∃ E2, E1.alloc (.cells #[] 3) = E2 := ⟨_, rfl⟩
      have HE2 : Hid (E1.alloc (.cells #[] 3) = E2) := hE2
      have B2 : Below E1.heap.size E1 E2 := by rw [← hE2]; exact (Below.refl _ E1).alloc (Nat.le_refl _) _
      have O2 : OwnsI E2 (wr.heap.size + 1) (some ⟨E1.heap.size, 0, none⟩) [] 0 := by
        rw [← hE2]; exact World.ownsRow_made E1 #[] 0 (by omega) (Nat.zero_le _) rfl
      have R2 := bblock B2 R1
      have hw0 := HB.out.size
      obtain ⟨a9, c9, w9, run9, o9, u9⟩ := appAll_run (wr.heap.size + 1) E2 (by have := B2.size; omega) E1.heap.size O2 la l ln lk hln ((hI.keep B1).keep B2) hl1
      have R9 : w9.heap[wr.heap.size]? = some (.cells (dcells p c s la ln lk) 46 (0, 0)) := u9.block _ _ R2 (by omega)
      have B9 : Below wr.heap.size wr w9 := (B1.trans (B2.mono B1.size)).trans ((u9.below (B := wr.heap.size + 1) (fun i e => by omega) (by have := B2.size; omega)).mono (by omega))
      obtain ⟨X, hX⟩ : ∃ X, w9.setCell ⟨wr.heap.size, 3, none⟩ (.slice a9 ln c9) = X := ⟨_, rfl⟩
      have HX : Hid (w9.setCell ⟨wr.heap.size, 3, none⟩ (.slice a9 ln c9) = X) := hX
      have on : Only wr.heap.size w9 X := by rw [← hX]; exact Only.set _ 3 _ w9
      have RX : X.heap[wr.heap.size]? = some (.cells (dcells p c s a9 ln c9) 46 (0, 0)) := by
        rw [← hX, heap_put R9]; simp [dcells]
      have BX : Below wr.heap.size wr X := B9.trans (on.below (Nat.le_refl _))
      have OX : OwnsI X (wr.heap.size + 1) a9 l c9 := by
        obtain ⟨h0, h1 | ⟨g', c'', cur, h1, hb, h3, h4⟩⟩ := o9
        · exact ⟨h0, .inl h1⟩
        · exact ⟨h0, .inr ⟨g', c'', cur, h1, hb, by rw [on.block g' (by omega)]; exact h3, h4⟩⟩
      obtain ⟨D, hD⟩ : ∃ D, X.alloc (.cells #[.int .i64 p, .int .i64 c, .int .i64 s, .slice a9 ln c9] 46) = D := ⟨_, rfl⟩
      have HD : Hid (X.alloc (.cells #[.int .i64 p, .int .i64 c, .int .i64 s, .slice a9 ln c9] 46) = D) := hD
      have KL : (ts.take k).length = k := by rw [List.length_take, HN.out]; omega
      have LW : Li w X (setL L wr.heap.size a9 (10 + k)) (10 + k) a9 l c9 := ⟨OX.mono (by omega), fun g hg => by
        have := OX.ge g hg
        show (if g < wr.heap.size then L g else if ob a9 = some g then 10 + k else 0) = 10 + k
        rw [if_neg (by omega), if_pos hg]⟩
      obtain ⟨ga', cap', w', L', runD, DP', WK'⟩ := dp_app HT.out hw0 k KL (by omega) (X := X) (L1 := setL L wr.heap.size a9 (10 + k)) ⟨fun j hj => if_pos hj, Tu.ofBelow BX⟩ ⟨p, c, s, l⟩ a9 c9 ln hln LW D hD
      have RUND : Hid ((Builtin.append_ #[22, 22] 22 #[.slice av k cv, .slice (some ⟨X.heap.size, 0, none⟩) 1 1]).run Tryd.prog D = .ok (.slice ga' (k + 1) cap') w') := runD
      have DP2 : Hid (Dp w w' L' ga' cap' (ts.take (k + 1))) := by rw [← HET.out]; exact DP'
      have BW' : Hid (Below w.heap.size w w') := HB.out.trans (WK'.tu.below (fun i hi => by
        rcases Nat.lt_or_ge i w.heap.size with e | e
        · have := HLW.out i e; omega
        · exact e) hw0)
      have LW' : Hid (∀ j, j < w.heap.size → L' j = 0) := fun j hj => by rw [WK'.ext j (by omega)]; exact HLW.out j hj
      have RUN9 : Hid ((Builtin.append_ #[44, 44] 44 #[.slice (some ⟨E1.heap.size, 0, none⟩) 0 0, .slice la ln lk]).run Tryd.prog E2 = .ok (.slice a9 ln c9) w9) := run9
      have e3 := dcell3 R2
      have d3 := dcell3 R1
      have f9 : w9.frozen? ⟨wr.heap.size, 3, none⟩ = false := frozen_of_row _ _ _ _ _ R9
      have y3 := dcell3 R9
      have x0 := dcell0 RX
      have x1 := dcell1 RX
      have x2 := dcell2 RX
      have x3 := dcell3 RX
      have k0 : (k : Int) < (n : Int) := by omega
      clear hI hl0 hl1 ET ht hln B1 R1 z1 B2 O2 R2 hw0 run9 o9 u9 B9 on RX BX OX R9 hE1 KL LW runD DP' WK'
      go_upto_region 5 with (fail)
      rw [HE1.out]
      go_wp2_with (first
        | (have q9 := f9; at_builtin; (try rw [HE2.out]); refine wpList_runi rfl rfl _ _ rfl (.slice (some ⟨E1.heap.size, 0, none⟩) 0 0) (.slice la ln lk) _ _ rfl rfl RUN9.out ?_; clear f9)
        | (at_builtin; (try rw [HX.out]); (try rw [HD.out]); refine wpList_run rfl 22 rfl _ _ rfl (.slice av k cv) (.slice (some ⟨X.heap.size, 0, none⟩) 1 1) _ _ rfl rfl RUND.out ?_))
      go_roundw
      case rel => exact ⟨k + 1, ga', cap', L', by omega, by congr 1, rfl, DP2.out, LW'.out, BW'.out⟩
      case measure => simp [lenW]; omega
    · obtain rfl : k = n := by omega
      have F : Hid (Dp w wr L av cv ts) := by
        have := HT.out
        rw [List.take_of_length_le (Nat.le_of_eq HN.out)] at this
        exact this
      go_wp2
      go_ret
      exact ⟨av, cv, L, rfl, F.out, HLW.out, HB.out⟩
end Go.Proofs.YtbnmbkohmmiamaaDoor
