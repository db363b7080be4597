/- What Flush, Kept and Free do. -/
import Derived.Test.YtgmljgogmbaioabGreatDoorKaQ
namespace Go.Proofs.YtgmljgogmbaioabGreatDoor
open Go.RowKit
set_option linter.unusedVariables false
set_option maxRecDepth 4000

set_option maxHeartbeats 1000000 in
theorem kflush_any (L : Nat → Nat) (cb P W : Nat) (m : List Sg) (v : Int) (w : World) (h : Ca w L cb P W m) (ho : Okc P W m) (r : Nat) (m' : List Sg) (hr : (if 0 ≤ v ∧ v < (W : Int) then (0, flushM v.toNat m) else (2, m)) = (r, m')) :
    Calls Tryz.prog 7 #[.pointer (some ⟨cb, 0, none⟩), .int .i64 v] w fun e w' => e = .returned (.int .i64 (r : Nat)) ∧ Left L w cb P W m' w' := by
  obtain ⟨fb, hb, a, cap, ps, sh, hC⟩ := h
  have HC : Hid (Cm w L cb fb hb a cap ps sh P W (pgF m) m (Kof m)) := hC
  have HO : Hid (Okc P W m) := ho
  have hW := ho.w1
  by_cases hw : 0 ≤ v ∧ v < (W : Int)
  · rw [if_pos hw] at hr
    have HW : Hid (decide (0 ≤ v ∧ v < (W : Int)) = true) := decide_eq_true hw
    obtain ⟨u, rfl⟩ : ∃ u : Nat, v = (u : Int) := ⟨v.toNat, by omega⟩
    rw [Int.toNat_natCast] at hr
    obtain ⟨rfl, rfl⟩ : 0 = r ∧ flushM u m = m' := by simpa using hr
    have hu : u < W := by omega
    have hu' : (u : Int) < (W : Int) := by omega
    have hu0 : (0 : Int) ≤ (u : Int) := by omega
    clear hC ho hr
    go_enter Tryz.func7, Tryz.ntmps7
    go_wp2_with (go_at_call 15; refine (khasW_any L cb fb hb a cap ps sh P W _ m _ (u : Int) _ HC.out hW).mono ?_; rw [HW.out]; rintro e w' ⟨rfl, rfl⟩)
    go_loopw [14] (fun iv wr => ∃ (k : Nat) (L' : Nat → Nat) (sh' : List Value), iv = .int .i64 (k : Nat) ∧ k ≤ 7 ∧ Cm wr L' cb fb hb a cap ps sh' P W (pgF (flushK u k m)) (flushK u k m) (Kof (flushK u k m)) ∧ Mv L w L' wr) (fun iv _ => 7 - (intOf iv).toNat)
    case atStart => exact ⟨0, L, sh, rfl, by omega, by rw [flushK_zero]; exact HC.out, Mv.refl _ _⟩
    case round =>
      obtain ⟨k, L1, sh1, rfl, hk, hC1, hM1⟩ := hrel
      rename World => wr
      obtain ⟨mk, hmk⟩ : ∃ mk, flushK u k m = mk := ⟨_, rfl⟩
      have EMK : Hid (flushK u k m = mk) := hmk
      have OK : Hid (Okc P W mk) := ⟨HO.out.p0, HO.out.p1, HO.out.w0, HO.out.w1, by rw [← hmk]; exact flushK_fit u k HO.out.fit⟩
      rw [hmk] at hC1
      have C1 : Hid (Cm wr L1 cb fb hb a cap ps sh1 P W (pgF mk) mk (Kof mk)) := hC1
      have M1 : Hid (Mv L w L1 wr) := hM1
      have c2 := hC1.cell2
      clear hC1 hM1 hmk
      by_cases hlt : k < 7
      · have hlt' : (k : Int) < 7 := by omega
        have hlen := (Kof_ok OK.out u k).2
        have ES : Hid (flushK u (k + 1) m = setsM ((Kof mk u k).drop 0) 0 mk) := by
          show _ = _
          rw [flushK_step u k HO.out.fit (flushK_fit u k HO.out.fit), EMK.out]; rfl
        have EK : Hid (Kof (setsM ((Kof mk u k).drop 0) 0 mk) = upd (Kof mk) u k ((Kof mk u k).take 0)) := kf_drop OK.out.fit 0
        go_wp2_with (go_at_call 23; refine (krel_any L1 cb fb hb a cap ps sh1 P W mk (Kof mk) u k 0 _ C1.out OK.out hu hlt (Nat.zero_le _) hlen (slots_kept (fun x hx => List.mem_of_mem_drop hx))).mono ?_; rintro e w4 ⟨rfl, L4, sh4, C4, M4⟩; rw [← EK.out] at C4; have CC4 : Hid (Cm w4 L4 cb fb hb a cap ps sh4 P W (pgF (setsM ((Kof mk u k).drop 0) 0 mk)) (setsM ((Kof mk u k).drop 0) 0 mk) (Kof (setsM ((Kof mk u k).drop 0) 0 mk))) := C4; have MM4 : Hid (Mv L1 wr L4 w4) := M4; clear C4 M4)
        go_roundw
        case rel => exact ⟨k + 1, L4, sh4, by go_num, by omega, by rw [ES.out]; exact CC4.out, M1.out.trans MM4.out⟩
        case measure => simp [intOf]; omega
      · obtain rfl : k = 7 := by omega
        go_wp2
        go_ret
        refine ⟨rfl, L1, ?_, M1.out⟩
        rw [← flushK_all u HO.out.fit, EMK.out]
        exact ⟨fb, hb, a, cap, ps, sh1, C1.out⟩
  · rw [if_neg hw] at hr
    obtain ⟨rfl, rfl⟩ : 2 = r ∧ m = m' := by simpa using hr
    have HW : Hid (decide (0 ≤ v ∧ v < (W : Int)) = false) := decide_eq_false hw
    clear hC ho hr
    go_enter Tryz.func7, Tryz.ntmps7
    go_wp2_with (go_at_call 15; refine (khasW_any L cb fb hb a cap ps sh P W _ m _ v _ HC.out hW).mono ?_; rw [HW.out]; rintro e w' ⟨rfl, rfl⟩)
    go_ret
    exact ⟨rfl, L, ⟨fb, hb, a, cap, ps, sh, HC.out⟩, Mv.refl _ _⟩
theorem kfree_any (L : Nat → Nat) (cb P W : Nat) (m : List Sg) (w : World) (h : Ca w L cb P W m) (ho : Okc P W m) :
    Calls Tryz.prog 11 #[.pointer (some ⟨cb, 0, none⟩)] w fun e w' => e = .returned (.slice (some ⟨w.heap.size, 0, none⟩) (freeM P 0 m).length (freeM P 0 m).length) ∧ Row w' w.heap.size (freeM P 0 m) ∧ Below w.heap.size w w' := by
  obtain ⟨fb, hb, a, cap, ps, sh, hC⟩ := h
  have c0 := hC.cell0
  have FR : Hid (IsR w (fun k => L k = 2) fb P (pgF m)) := hC.free
  have hP := ho.p1
  rw [free_eq ho.fit]
  clear hC ho
  go_enter Tryz.func11, Tryz.ntmps11
  go_wp2_with fail
  refine (free_any _ fb P (pgF m) _ FR.out (by omega)).mono ?_
  rintro e w1 ⟨rfl, r1, b1⟩
  have R1 : Hid (Row w1 w.heap.size (freeL (pgF m) P)) := r1
  have B1 : Hid (Below w.heap.size w w1) := b1
  obtain ⟨n, hn⟩ : ∃ n, (freeL (pgF m) P).length = n := ⟨_, rfl⟩
  have EN : Hid ((freeL (pgF m) P).length = n) := hn
  rw [hn]
  clear r1 b1 hn
  go_wp2
  go_ret
  exact ⟨by rw [EN.out]; rfl, R1.out, B1.out⟩
end Go.Proofs.YtgmljgogmbaioabGreatDoor
