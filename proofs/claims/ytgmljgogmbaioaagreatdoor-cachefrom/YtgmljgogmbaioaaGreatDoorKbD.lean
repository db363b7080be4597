/- What Scavenge does, whole. -/
import Derived.Test.YtgmljgogmbaioaaGreatDoorKbAC
namespace Go.Proofs.YtgmljgogmbaioaaGreatDoor
open Go.RowKit
set_option linter.unusedVariables false
set_option maxRecDepth 4000

theorem ent_delFP : (match Tryz.prog.funcs[73]? with | some fn => !(fn.name == "runtime.NumGoroutine") && !fn.body.isNone | none => false) = true := by kernel_rfl
theorem idxP_nil (a : Option Addr) (cap : Nat) (q1 : Nat) (w : World) : Calls Tryz.prog 100 #[.slice a 0 cap, .func (.func 74) #[] #[.pointer (some ⟨q1, 0, none⟩)]] w fun e w' => e = .returned (.int .i64 (-1)) ∧ w = w' := by
  go_enter Tryz.func100, Tryz.ntmps100
  go_wp2
  go_loopw [8] (fun iv wr => iv = .int .i64 0 ∧ w = wr) (fun _ _ => 0)
  case atStart => exact ⟨rfl, rfl⟩
  case round =>
    obtain ⟨rfl, rfl⟩ := hrel
    go_wp2
    go_ret
    exact ⟨rfl, rfl⟩
theorem delFP_nil (a : Option Addr) (cap : Nat) (q1 : Nat) (w : World) : Calls Tryz.prog 73 #[.slice a 0 cap, .func (.func 74) #[] #[.pointer (some ⟨q1, 0, none⟩)]] w fun e w' => e = .returned (.slice a 0 cap) ∧ w = w' := by
  go_enter Tryz.func73, Tryz.ntmps73
  go_wp2_with (go_at_call 100; refine (idxP_nil a cap q1 _).mono ?_; rintro e w2 ⟨rfl, rfl⟩)
  go_ret
  exact ⟨rfl, rfl⟩
/-- The list of spans is strained. -/
theorem Cm.strained {w w1 : World} {L : Nat → Nat} {cb fb hb g : Nat} {cap : Nat} {ps : List Nat} {sh : List Value} {P W : Nat} {φ : Nat → Bool} {m : List Sg} {K : Nat → Nat → List Nat} (h : Cm w L cb fb hb (some ⟨g, 0, none⟩) cap ps sh P W φ m K) (hg3 : L g = 3) (hO : Only g w w1) (q : Nat → Bool) (n' : Nat) (hn : (stayA q 0 m).length = n') (hv : VAt w1 (fun k => k = g) 92 (some ⟨g, 0, none⟩) ((stayA q 0 ps).map ptrV) cap) :
    Cm (w1.setCell ⟨cb, 1, none⟩ (.slice (some ⟨g, 0, none⟩) n' cap)) L cb fb hb (some ⟨g, 0, none⟩) cap (stayA q 0 ps) sh P W φ (stayA q 0 m) K ∧ Mv L w L (w1.setCell ⟨cb, 1, none⟩ (.slice (some ⟨g, 0, none⟩) n' cap)) := by
  have hlb := h.lb
  have b1 : w1.heap[cb]? = some (.cells #[.pointer (some ⟨fb, 0, none⟩), .slice (some ⟨g, 0, none⟩) m.length cap, .slice (some ⟨hb, 0, none⟩) W W] 89 (0, 0)) := by rw [hO.block cb (fun e => by rw [e] at hlb; omega)]; exact h.box
  have hO2 : Only cb w1 (w1.setCell ⟨cb, 1, none⟩ (.slice (some ⟨g, 0, none⟩) n' cap)) := Only.set cb 1 _ w1
  have ht : Tu (fun k => (L k = 1 ∨ L k = 3) ∨ w.heap.size ≤ k) w (w1.setCell ⟨cb, 1, none⟩ (.slice (some ⟨g, 0, none⟩) n' cap)) := (Tu.ofOnly hO (.inl (.inr hg3))).trans (Tu.ofOnly hO2 (.inl (.inl hlb)))
  have s := h.stayZ (fun l => l = 1 ∨ l = 3) (by omega) (Ext.refl _ _) ht
  refine ⟨⟨s.tab, s.l0, s.l1, ?_, s.lb, s.free (by omega), ?_, stayA_len q _ _ 0 h.plen, fun j hj => ?_, s.hrow (by omega), s.lh, h.shl, fun v c hv hc => s.shelf v c hv hc (by omega)⟩, Mv.of (fun l => l = 1 ∨ l = 3) (by omega) (Ext.refl _ _) ht⟩
  · rw [hn, heap_setCell_same w1 cb 1 _ _ _ b1]; rfl
  · exact (hv.mono (T := fun k => L k = 3) (fun k _ e => by rw [e]; exact hg3)).same (old_only hO2 (by omega))
  · obtain ⟨i, hi, hi', z1, z2⟩ := stayA_at q m ps 0 j h.plen.symm hj (by rw [stayA_len q _ _ 0 h.plen]; exact hj)
    rw [z1, z2]
    exact s.spans i hi hi' (by omega)
theorem kf_scav {W P : Nat} {m : List Sg} (h : Fit W P 0 m) : Kf (scavM m) = Kf m := by
  funext v c
  refine kept_is (h.filter _) (pl_rises _ h) (fun x => ?_)
  show x ∈ keptM v c m ↔ _
  rw [mem_keptM]
  constructor
  · rintro ⟨z, hz⟩; exact ⟨z, (scav_in (by omega)).2 hz⟩
  · rintro ⟨z, hz⟩; exact ⟨z, (scav_in (by omega)).1 hz⟩
/-- The box of a cache with no span is laid again. -/
theorem Cm.again {w : World} {L : Nat → Nat} {cb fb hb : Nat} {a : Option Addr} {cap : Nat} {ps : List Nat} {sh : List Value} {P W : Nat} {φ : Nat → Bool} {m : List Sg} {K : Nat → Nat → List Nat} (h : Cm w L cb fb hb a cap ps sh P W φ m K) (n' : Nat) (hn : m.length = n') :
    Cm (w.setCell ⟨cb, 1, none⟩ (.slice a n' cap)) L cb fb hb a cap ps sh P W φ m K ∧ Mv L w L (w.setCell ⟨cb, 1, none⟩ (.slice a n' cap)) := by
  have hO2 : Only cb w (w.setCell ⟨cb, 1, none⟩ (.slice a n' cap)) := Only.set cb 1 _ w
  have ht : Tu (fun k => L k = 1 ∨ w.heap.size ≤ k) w (w.setCell ⟨cb, 1, none⟩ (.slice a n' cap)) := Tu.ofOnly hO2 (.inl h.lb)
  have s := h.stayZ (fun l => l = 1) (by omega) (Ext.refl _ _) ht
  refine ⟨⟨s.tab, s.l0, s.l1, ?_, s.lb, s.free (by omega), s.row (by omega), h.plen, fun j hj => s.spans j hj (by rw [h.plen]; exact hj) (by omega), s.hrow (by omega), s.lh, h.shl, fun v c hv hc => s.shelf v c hv hc (by omega)⟩, Mv.of (fun l => l = 1) (by omega) (Ext.refl _ _) ht⟩
  rw [hn, heap_setCell_same w cb 1 _ _ _ h.box]; rfl
theorem scav_core (L L0 : Nat → Nat) (cb fb hb : Nat) (a : Option Addr) (cap : Nat) (ps : List Nat) (sh : List Value) (P W : Nat) (m : List Sg) (n q1 : Nat) (w wx : World) (hn : m.length = n) (hC : Cm wx L0 cb fb hb a cap ps sh P W (pgF m) m (Kof m)) (hM : Mv L w L0 wx) (ho : Okc P W m) (hq0 : L0 q1 = 0) (hql : q1 < wx.heap.size) (hqc : wx.cell? ⟨q1, 0, none⟩ = some (.pointer (some ⟨cb, 0, none⟩))) :
    Calls Tryz.prog 73 #[.slice a n cap, .func (.func 74) #[] #[.pointer (some ⟨q1, 0, none⟩)]] wx fun e w' => ∃ n' : Nat, e = .returned (.slice a n' cap) ∧ w'.cell? ⟨q1, 0, none⟩ = some (.pointer (some ⟨cb, 0, none⟩)) ∧ w'.cell? ⟨cb, 1, none⟩ = some (.slice a n cap) ∧ w'.frozen? ⟨cb, 1, none⟩ = false ∧ ∃ L1 ps', Cm (w'.setCell ⟨cb, 1, none⟩ (.slice a n' cap)) L1 cb fb hb a cap ps' sh P W (pgF (scavM m)) (scavM m) (Kof (scavM m)) ∧ Mv L w L1 (w'.setCell ⟨cb, 1, none⟩ (.slice a n' cap)) ∧ (w'.setCell ⟨cb, 1, none⟩ (.slice a n' cap)).cell? ⟨q1, 0, none⟩ = some (.pointer (some ⟨cb, 0, none⟩)) := by
  have hqcb : q1 ≠ cb := fun e => by have := hC.lb; rw [e] at hq0; omega
  rcases Nat.eq_zero_or_pos n with h0 | h0
  · subst h0
    have hm : m = [] := List.eq_nil_of_length_eq_zero hn
    subst hm
    refine (delFP_nil a cap q1 wx).mono ?_
    rintro e w' ⟨rfl, rfl⟩
    obtain ⟨C, M⟩ := hC.again 0 rfl
    exact ⟨0, rfl, hqc, hC.cell1, frozen_of_row _ _ 1 _ _ hC.box, L0, ps, C, hM.trans M, by rw [(Only.set cb 1 _ wx).cell (p := ⟨q1, 0, none⟩) hqcb]; exact hqc⟩
  · obtain ⟨g, p, e', hg3, _⟩ := hC.at 0 (by omega)
    subst e'
    have hg3' : L0 g = 3 := hg3
    have hml := ho.fit.len
    have hp1 := ho.p1
    have hpl := hC.plen
    have J0 : Jw L w cb fb hb g cap ps sh P W m (Kof m) q1 0 wx := ⟨⟨L0, wx, by rw [phi_zero]; exact hC, Only.refl g wx, hM, hg3', hq0, hql, hqc⟩⟩
    have hcbg : cb ≠ g := fun e => by have := hC.lb; rw [e] at this; omega
    have hqg : q1 ≠ g := fun e => by rw [e] at hq0; omega
    have V0 : VAt wx (fun k => k = g) 92 (some ⟨g, 0, none⟩) (ps.map ptrV) cap := by
      rcases hC.row with ⟨e, _⟩ | ⟨g', cur, e, _, z⟩
      · cases e
      · cases e; exact .inr ⟨g, cur, rfl, rfl, z⟩
    refine (delFP_any (fun k => k = g) g cap n q1 (ps.map ptrV) (fun k => !(if h : k < m.length then anyB m[k] else true)) (Jw L w cb fb hb g cap ps sh P W m (Kof m) q1) wx V0 (by rw [List.length_map, hpl]; exact hn) (by omega) (fun v hv => by obtain ⟨x, _, rfl⟩ := List.mem_map.1 hv; exact ⟨_, rfl⟩) J0 (fun k wr hk hJ => ?_) (fun k wr w' hJ ho => hJ.only ho)).mono ?_
    · have hk' : k < m.length := by rw [List.length_map, hpl] at hk; exact hk
      rw [List.getElem_map, dif_pos hk']
      exact scav1_any L w cb fb hb g cap ps sh P W m (Kof m) q1 k wr ho hk' (by rw [hpl]; exact hk') hJ _ rfl
    · rintro e w' ⟨n', rfl, hl, hv, hJ⟩
      obtain ⟨L1, w0, C1, O1, M1, g1, q1z, q1l, q1c⟩ := hJ.ex
      have ef : stayA (fun k => !(if h : k < m.length then anyB m[k] else true)) 0 m = scavM m := stayA_filter anyB _ m 0 (fun j hj => by simp [hj])
      rw [stayA_map] at hl hv
      rw [← hn, phi_all] at C1
      obtain ⟨C2, M2⟩ := C1.strained g1 O1 _ n' (by rw [List.length_map] at hl; rw [← hl]; exact (stayA_len _ _ _ 0 hpl).symm) hv
      rw [ef] at C2
      refine ⟨n', rfl, ?_, ?_, ?_, L1, stayA (fun k => !(if h : k < m.length then anyB m[k] else true)) 0 ps, ?_, M1.trans M2, ?_⟩
      · rw [O1.cell (p := ⟨q1, 0, none⟩) hqg]; exact q1c
      · rw [O1.cell (p := ⟨cb, 1, none⟩) hcbg, ← hn]; exact C1.cell1
      · rw [O1.frozen (p := ⟨cb, 1, none⟩) hcbg]; exact frozen_of_row _ _ 1 _ _ C1.box
      · have : Kof (scavM m) = Kof m := kf_scav ho.fit
        rw [this]; exact C2
      · rw [(Only.set cb 1 _ w').cell (p := ⟨q1, 0, none⟩) hqcb, O1.cell (p := ⟨q1, 0, none⟩) hqg]; exact q1c
set_option maxHeartbeats 1000000 in
theorem kscav_any (L : Nat → Nat) (cb P W : Nat) (m : List Sg) (w : World) (h : Ca w L cb P W m) (ho : Okc P W m) :
    Calls Tryz.prog 38 #[.pointer (some ⟨cb, 0, none⟩)] w fun e w' => e = .returned (.int .i64 (scavN m : Nat)) ∧ Left L w cb P W (scavM m) w' := by
  obtain ⟨fb, hb, a, cap, ps, sh, hC⟩ := h
  have HO : Hid (Okc P W m) := ho
  have hP := ho.p1
  have hml := ho.fit.len
  obtain ⟨L0, hL0⟩ : ∃ L0, lab L w.heap.size 0 = L0 := ⟨_, rfl⟩
  have hE : Ext w L L0 := by rw [← hL0]; exact lab_ext w L 0
  have hLq : L0 w.heap.size = 0 := by rw [← hL0]; exact lab_new (Nat.le_refl _)
  have bb : Below w.heap.size w (w.alloc (.cells #[.pointer (some ⟨cb, 0, none⟩)] 26)) := (Below.refl _ w).alloc (Nat.le_refl _) _
  have CB : Hid (Cm (w.alloc (.cells #[.pointer (some ⟨cb, 0, none⟩)] 26)) L0 cb fb hb a cap ps sh P W (pgF m) m (Kof m)) := hC.keep hE bb
  have MB : Hid (Mv L w L0 (w.alloc (.cells #[.pointer (some ⟨cb, 0, none⟩)] 26))) := Mv.below hE bb
  have LQ : Hid (L0 w.heap.size = 0) := hLq
  have c0 := CB.out.cell0
  obtain ⟨n, hn⟩ : ∃ n, m.length = n := ⟨_, rfl⟩
  have HN : Hid (m.length = n) := hn
  have SUM : Hid (sumL (freeL (pgF (scavM m)) P) = sumL (freeL (pgF m) P) + scavN m) := scav_sum ho.fit
  have S1 : sumL (freeL (pgF (scavM m)) P) ≤ P := (freeL_FL _ _).sum_le
  obtain ⟨x1, hx1⟩ : ∃ x1, sumL (freeL (pgF m) P) = x1 := ⟨_, rfl⟩
  obtain ⟨x2, hx2⟩ : ∃ x2, sumL (freeL (pgF (scavM m)) P) = x2 := ⟨_, rfl⟩
  have EX1 : Hid (sumL (freeL (pgF m) P) = x1) := hx1
  have EX2 : Hid (sumL (freeL (pgF (scavM m)) P) = x2) := hx2
  rw [hx2] at S1
  have HS : x2 = x1 + scavN m := by rw [← hx1, ← hx2]; exact SUM.out
  clear hC ho hL0 hE bb hLq hx1 hx2 hn
  go_enter Tryz.func38, Tryz.ntmps38
  go_wp2_with (go_at_call 72; refine (left_any (fun k => L0 k = 2) fb P (pgF m) _ CB.out.free (by omega)).mono ?_; rw [EX1.out]; rintro e w1 ⟨rfl, b1⟩; have C1 : Hid (Cm w1 L0 cb fb hb a cap ps sh P W (pgF m) m (Kof m)) := CB.out.keep (Ext.refl _ _) b1; have M1 : Hid (Mv L w L0 w1) := MB.out.trans (Mv.below (Ext.refl _ _) b1); have B1 : Hid (Below (w.alloc (.cells #[.pointer (some ⟨cb, 0, none⟩)] 26)).heap.size (w.alloc (.cells #[.pointer (some ⟨cb, 0, none⟩)] 26)) w1) := b1; have q1c : w1.cell? ⟨w.heap.size, 0, none⟩ = some (.pointer (some ⟨cb, 0, none⟩)) := bcell b1 (cell_of_row _ _ 0 _ _ _ (Go.heap_alloc_new w _)); have c1 := C1.out.cell1; rw [HN.out] at c1; have CD : Hid (Cm w1.drew L0 cb fb hb a cap ps sh P W (pgF m) m (Kof m)) := (C1.out.drew 1); have MD : Hid (Mv L w L0 w1.drew) := (M1.out.trans (Mv.below (Ext.refl _ _) ((Below.refl _ w1).drew))); have QL : Hid (w.heap.size < w1.drew.heap.size) := (by have h1 := b1.size; simp at h1; exact h1); clear b1)
  go_region_law (refine step_call rfl 73 _ _ rfl [.slice a n cap, .func (.func 74) #[] #[.pointer (some ⟨w.heap.size, 0, none⟩)]] (by simp [Act.eval]) _ (scav_core L L0 cb fb hb a cap ps sh P W m n w.heap.size w _ HN.out CD.out MD.out HO.out LQ.out QL.out q1c) ent_delFP ?_; rintro e w2 ⟨n', rfl, q2, c2, y2, L2, ps2, c3, m3, q3⟩; refine ⟨_, rfl, ?_⟩; have C3 : Hid _ := c3; have M3 : Hid _ := m3; have e3 := c3.cell0; clear c3 m3)
  all_goals
    go_wp2_with (go_at_call 72; refine (left_any (fun k => L2 k = 2) fb P (pgF (scavM m)) _ C3.out.free (by omega)).mono ?_; rw [EX2.out]; rintro e w4 ⟨rfl, b4⟩; have C4 : Hid (Cm w4 L2 cb fb hb a cap ps2 sh P W (pgF (scavM m)) (scavM m) (Kof (scavM m))) := C3.out.keep (Ext.refl _ _) b4; have M4 : Hid (Mv L w L2 w4) := M3.out.trans (Mv.below (Ext.refl _ _) b4); clear b4)
    go_ret
    refine ⟨?_, L2, ⟨fb, hb, a, cap, ps2, sh, C4.out⟩, M4.out⟩
    exact congrArg (fun z => Ending.returned (.int .i64 z)) (by omega : (x1 : Int) + ((scavN m : Nat) : Int) - (x1 : Int) = ((scavN m : Nat) : Int))
end Go.Proofs.YtgmljgogmbaioaaGreatDoor
