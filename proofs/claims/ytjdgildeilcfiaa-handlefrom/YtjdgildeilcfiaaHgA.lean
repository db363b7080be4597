/- Both tables side by side, and the handles that were made. -/
import Derived.Test.YtjdgildeilcfiaaHfE
import Derived.Test.YtjdgildeilcfiaaHeB
namespace Go.Proofs.Ytjdgildeilcfiaa
open Go.RowKit
set_option linter.unusedVariables false

theorem ne_type {w : World} {i j : Nat} {cs cs' : Array Value} {t t' : TypeId} {z z' : Nat × Nat} (h : w.heap[i]? = some (.cells cs t z)) (h' : w.heap[j]? = some (.cells cs' t' z')) (ht : t ≠ t') : i ≠ j := by
  rintro rfl
  rw [h] at h'
  simp at h'
  exact ht h'.2.1
/-- The code's table, the document's, and the handles that were made. -/
structure Tw (w wr : World) (b : Nat) (a : Option Addr) (c mb mg n : Nat) (L K : List Rw) (pb : Nat) (ah : Option Addr) (ch : Nat) (M : List Nat) : Prop where
  ct : Ct wr w.heap.size b a c n L
  rt : Rt wr mb mg n K
  pc : wr.heap[pb]? = some (.cells #[.slice ah M.length ch] 31 (0, 0))
  oh : Oh wr w.heap.size ah M ch
  sm : ∀ x ∈ M, x < 18446744073709551616
  ne : ob a ≠ some mg
  g1 : w.heap.size ≤ mg
  g2 : w.heap.size ≤ pb
  bel : Below w.heap.size w wr
theorem Tw.keep {w wr w' : World} {b : Nat} {a : Option Addr} {c mb mg n : Nat} {L K : List Rw} {pb : Nat} {ah : Option Addr} {ch : Nat} {M : List Nat} (h : Tw w wr b a c mb mg n L K pb ah ch M) (hb : Below wr.heap.size wr w') : Tw w w' b a c mb mg n L K pb ah ch M :=
  ⟨h.ct.keep hb, h.rt.keep hb, by rw [hb.block pb (hlt h.pc)]; exact h.pc, h.oh.keep hb, h.sm, h.ne, h.g1, h.g2, h.bel.trans (hb.mono h.bel.size)⟩
theorem Tw.drewN {w wr : World} {b : Nat} {a : Option Addr} {c mb mg n : Nat} {L K : List Rw} {pb : Nat} {ah : Option Addr} {ch : Nat} {M : List Nat} (h : Tw w wr b a c mb mg n L K pb ah ch M) (m : Nat) : Tw w (wr.drewN m) b a c mb mg n L K pb ah ch M :=
  ⟨h.ct.drewN m, h.rt.drewN m, h.pc, h.oh, h.sm, h.ne, h.g1, h.g2, ⟨h.bel.os, h.bel.tape, h.bel.output, h.bel.size, h.bel.block⟩⟩
theorem Tw.drew {w wr : World} {b : Nat} {a : Option Addr} {c mb mg n : Nat} {L K : List Rw} {pb : Nat} {ah : Option Addr} {ch : Nat} {M : List Nat} (h : Tw w wr b a c mb mg n L K pb ah ch M) : Tw w wr.drew b a c mb mg n L K pb ah ch M :=
  ⟨h.ct.drew, h.rt.drew, h.pc, h.oh, h.sm, h.ne, h.g1, h.g2, ⟨h.bel.os, h.bel.tape, h.bel.output, h.bel.size, h.bel.block⟩⟩
/-- Behind a call on the code's table. -/
theorem Tw.code {w wr w' : World} {b : Nat} {a a' : Option Addr} {c c' mb mg n : Nat} {L L' K : List Rw} {pb : Nat} {ah : Option Addr} {ch : Nat} {M : List Nat} (h : Tw w wr b a c mb mg n L K pb ah ch M) (hc : Ct w' w.heap.size b a' c' n L') (ht : Tu (Mine b a) wr w') (ho : ob a' = ob a ∨ ∃ g, ob a' = some g ∧ wr.heap.size ≤ g) : Tw w w' b a' c' mb mg n L' K pb ah ch M := by
  have row : ∀ g, ob a = some g → ∃ cur, wr.heap[g]? = some (.cells cur 44 (0, 0)) := h.ct.row.kind
  refine ⟨hc, h.rt.tu ht ?_ ?_, ht.block pb _ h.pc ?_, h.oh.tu ht (h.oh.apart h.ct), h.sm, ?_, h.g1, h.g2, h.bel.trans (h.ct.below ht h.bel.size)⟩
  · rintro (e | e)
    · exact ne_type h.rt.box h.ct.box (by decide) e
    · obtain ⟨cur, q⟩ := row _ e
      exact ne_type h.rt.box q (by decide) rfl
  · rintro (e | e)
    · exact ne_type h.rt.row h.ct.box (by decide) e
    · exact h.ne e
  · rintro (e | e)
    · exact ne_type h.pc h.ct.box (by decide) e
    · obtain ⟨cur, q⟩ := row _ e
      exact ne_type h.pc q (by decide) rfl
  · rcases ho with e | ⟨g, e, hg⟩
    · rw [e]; exact h.ne
    · rw [e]
      intro q
      have := Option.some.inj q
      have := h.rt.lt.2
      omega
/-- Behind a call on the document's table. -/
theorem Tw.ref {w wr w' : World} {b : Nat} {a : Option Addr} {c mb mg n : Nat} {L K K' : List Rw} {pb : Nat} {ah : Option Addr} {ch : Nat} {M : List Nat} (h : Tw w wr b a c mb mg n L K pb ah ch M) (hr : Rt w' mb mg n K') (ht : Tu (fun k => k = mg) wr w') : Tw w w' b a c mb mg n L K' pb ah ch M := by
  refine ⟨h.ct.tu ht (fun e => ne_type h.ct.box h.rt.row (by decide) e) (fun g hg e => h.ne (by rw [hg, e])), hr, ht.block pb _ h.pc (fun e => ne_type h.pc h.rt.row (by decide) e), h.oh.tu ht (fun g hg e => ?_), h.sm, h.ne, h.g1, h.g2, h.bel.trans (ht.below (fun i e => by rw [e]; exact h.g1) h.bel.size)⟩
  obtain ⟨cur, q⟩ := h.oh.kind g hg
  exact ne_type q h.rt.row (by decide) e
/-- One handle more was made. -/
theorem Tw.more {w wr w1 : World} {b : Nat} {a : Option Addr} {c mb mg n : Nat} {L K : List Rw} {pb : Nat} {ah ah' : Option Addr} {ch ch' : Nat} {M : List Nat} {N : Nat} (h : Tw w wr b a c mb mg n L K pb ah ch M) (ho : Oh w1 w.heap.size ah' (M ++ [N]) ch') (ht : Tu (fun k => ob ah = some k) wr w1) (hN : N < 18446744073709551616) :
    w1.heap[pb]? = some (.cells #[.slice ah M.length ch] 31 (0, 0)) ∧ Tw w (w1.setCell ⟨pb, 0, none⟩ (.slice ah' (M.length + 1) ch')) b a c mb mg n L K pb ah' ch' (M ++ [N]) := by
  have hk : ∀ g, ob ah = some g → ∃ cur, wr.heap[g]? = some (.cells cur 34 (0, 0)) := h.oh.kind
  have no : ∀ {i : Nat} {cs : Array Value} {t : TypeId} {z : Nat × Nat}, wr.heap[i]? = some (.cells cs t z) → t ≠ 34 → ¬ (ob ah = some i) := fun hi htt e => by
    obtain ⟨cur, q⟩ := hk _ e
    exact ne_type hi q htt rfl
  have pc1 := ht.block pb _ h.pc (no h.pc (by decide))
  have ct1 := h.ct.tu ht (no h.ct.box (by decide)) (fun g hg e => by
    obtain ⟨cur, q⟩ := h.ct.row.kind g hg
    exact no q (by decide) e)
  have rt1 := h.rt.tu ht (no h.rt.box (by decide)) (no h.rt.row (by decide))
  have b1 : Below w.heap.size w w1 := h.bel.trans (ht.below (fun i hi => (h.oh.ge i hi).1) h.bel.size)
  have o := Only.set pb 0 (.slice ah' (M.length + 1) ch') w1
  refine ⟨pc1, ?_, ?_, ?_, ?_, ?_, h.ne, h.g1, h.g2, ?_⟩
  · exact ct1.tu (Tu.ofOnly (S := fun k => k = pb) o rfl) (fun e => ne_type ct1.box pc1 (by decide) e) (fun g hg e => by
      obtain ⟨cur, q⟩ := ct1.row.kind g hg
      exact ne_type q pc1 (by decide) e)
  · exact rt1.tu (Tu.ofOnly (S := fun k => k = pb) o rfl) (fun e => ne_type rt1.box pc1 (by decide) e) (fun e => ne_type rt1.row pc1 (by decide) e)
  · rw [heap_setCell_same w1 pb 0 _ _ _ pc1, List.length_append]; rfl
  · exact ho.tu (Tu.ofOnly (S := fun k => k = pb) o rfl) (fun g hg e => by
      obtain ⟨cur, q⟩ := ho.kind g hg
      exact ne_type q pc1 (by decide) e)
  · intro x hx
    simp at hx
    rcases hx with hx | rfl
    · exact h.sm x hx
    · exact hN
  · exact b1.trans ⟨o.os, o.tape, o.output, Nat.le_of_eq o.size.symm, fun i hi => o.block i (by have := h.g2; omega)⟩
/-- A call's box stays. -/
theorem Tw.boxC {w wr w' : World} {b : Nat} {a : Option Addr} {c mb mg n : Nat} {L K : List Rw} {pb : Nat} {ah : Option Addr} {ch : Nat} {M : List Nat} {cb : Nat} {cs : Array Value} (h : Tw w wr b a c mb mg n L K pb ah ch M) (hb : wr.heap[cb]? = some (.cells cs 36 (0, 0))) (ht : Tu (Mine b a) wr w') : w'.heap[cb]? = some (.cells cs 36 (0, 0)) := ht.block cb _ hb (by
  rintro (e | e)
  · exact ne_type hb h.ct.box (by decide) e
  · obtain ⟨cur, q⟩ := h.ct.row.kind _ e
    exact ne_type hb q (by decide) rfl)
theorem Tw.boxR {w wr w' : World} {b : Nat} {a : Option Addr} {c mb mg n : Nat} {L K : List Rw} {pb : Nat} {ah : Option Addr} {ch : Nat} {M : List Nat} {cb : Nat} {cs : Array Value} (h : Tw w wr b a c mb mg n L K pb ah ch M) (hb : wr.heap[cb]? = some (.cells cs 36 (0, 0))) (ht : Tu (fun k => k = mg) wr w') : w'.heap[cb]? = some (.cells cs 36 (0, 0)) := ht.block cb _ hb (fun e => ne_type hb h.rt.row (by decide) e)
theorem Tw.cellP {w wr : World} {b : Nat} {a : Option Addr} {c mb mg n : Nat} {L K : List Rw} {pb : Nat} {ah : Option Addr} {ch : Nat} {M : List Nat} (h : Tw w wr b a c mb mg n L K pb ah ch M) : wr.cell? ⟨pb, 0, none⟩ = some (.slice ah M.length ch) := cell_of_row wr pb 0 _ _ _ h.pc

set_option maxHeartbeats 1000000 in
theorem same_tw (w wr : World) (b : Nat) (a : Option Addr) (c mb mg n : Nat) (L : List Rw) (pb : Nat) (ah : Option Addr) (ch : Nat) (M : List Nat) (h : Tw w wr b a c mb mg n L L pb ah ch M) :
    Calls Try.prog 13 #[.pointer (some ⟨b, 0, none⟩), .pointer (some ⟨mb, 0, none⟩)] wr fun e w' => e = .returned (.bool true) ∧ Below wr.heap.size wr w' := by
  have H : Hid (Tw w wr b a c mb mg n L L pb ah ch M) := h
  have hl := h.ct.len
  have hv : (liveF 0 L).length ≤ 4096 := by have := liveF_len L 0; omega
  clear h
  go_enter Try.func13, Try.ntmps13
  go_wp2_with fail
  refine (rows_any w.heap.size b a c n L _ H.out.ct).mono ?_
  rintro e w1 ⟨a1, c1, rfl, o1, b1⟩
  have B1 : Hid (Below wr.heap.size wr w1) := b1
  have O1 : Hid (Ow w1 wr.heap.size a1 L c1) := o1
  clear o1 b1
  go_wp2_with fail
  refine (rrows_any mb mg n L _ (H.out.keep B1.out).rt).mono ?_
  rintro e w2 ⟨a2, c2, rfl, o2, b2⟩
  have B2 : Hid (Below wr.heap.size wr w2) := B1.out.trans (b2.mono B1.out.size)
  have W1 : Hid (IsW w2 a1 L) := (O1.out.isW).keep b2
  have W2 : Hid (IsW w2 a2 L) := o2.isW
  clear o2 b2
  go_wp2_with fail
  refine (same_true a1 a2 c1 c2 L _ W1.out W2.out (by omega)).mono ?_
  rintro e w3 ⟨rfl, m3, rfl⟩
  obtain ⟨wq, hwq⟩ : ∃ wq, w2.drewN m3 = wq := ⟨_, rfl⟩
  have B3 : Hid (Below wr.heap.size wr wq) := by show Below _ _ _; rw [← hwq]; exact ⟨B2.out.os, B2.out.tape, B2.out.output, B2.out.size, B2.out.block⟩
  rw [hwq]
  clear hwq
  go_wp2_with fail
  refine (live_any w.heap.size b a c n L _ (H.out.keep B3.out).ct).mono ?_
  rintro e w4 ⟨a4, c4, rfl, o4, b4⟩
  have B4 : Hid (Below wr.heap.size wr w4) := B3.out.trans (b4.mono B3.out.size)
  have O4 : Hid (Oh w4 wq.heap.size a4 (liveF 0 L) c4) := o4
  clear o4 b4
  go_wp2_with fail
  refine (rlive_any mb mg n L _ (H.out.keep B4.out).rt).mono ?_
  rintro e w5 ⟨a5, c5, rfl, o5, b5⟩
  have B5 : Hid (Below wr.heap.size wr w5) := B4.out.trans (b5.mono B4.out.size)
  have V1 : Hid (IsH w5 a4 (liveF 0 L)) := (O4.out.isH).keep b5
  have V2 : Hid (IsH w5 a5 (liveF 0 L)) := o5.isH
  clear o5 b5
  go_wp2_with fail
  refine (handles_true a4 a5 c4 c5 (liveF 0 L) _ V1.out V2.out (by omega)).mono ?_
  rintro e w6 ⟨rfl, m6, rfl⟩
  obtain ⟨wp, hwp⟩ : ∃ wp, w5.drewN m6 = wp := ⟨_, rfl⟩
  have B6 : Hid (Below wr.heap.size wr wp) := by show Below _ _ _; rw [← hwp]; exact ⟨B5.out.os, B5.out.tape, B5.out.output, B5.out.size, B5.out.block⟩
  rw [hwp]
  clear hwp
  obtain ⟨T, hT⟩ : ∃ T, decide (n ≤ nxL L) = T := ⟨_, rfl⟩
  have ET : Hid (decide (n ≤ nxL L) = T) := hT
  clear hT
  go_wp2_with (first
    | (go_at_call 25; refine (full_any w.heap.size b a c n L _ (H.out.keep B6.out).ct).mono ?_; rw [ET.out]; rintro e w7 ⟨rfl, b7⟩; have B7 : Hid (Below wr.heap.size wr w7) := B6.out.trans (b7.mono B6.out.size); clear b7)
    | (go_at_call 32; refine (rfull_any mb mg n L _ (H.out.keep B7.out).rt).mono ?_; rw [ET.out]; rintro e w8 ⟨rfl, b8⟩; have B8 : Hid (Below wr.heap.size wr w8) := B7.out.trans (b8.mono B7.out.size); clear b8))
  go_ret
  exact ⟨ret_bool (by simp), B8.out⟩
end Go.Proofs.Ytjdgildeilcfiaa
