/- What Take does. -/
import Derived.Test.YtgmljgogmbaioaaGreatDoorKaKL
namespace Go.Proofs.YtgmljgogmbaioaaGreatDoor
open Go.RowKit
set_option linter.unusedVariables false
set_option maxRecDepth 4000

/-- What a call that turns the cache leaves. -/
def Left (L : Nat → Nat) (w : World) (cb P W : Nat) (m : List Sg) (w' : World) : Prop := ∃ L', Ca w' L' cb P W m ∧ Mv L w L' w'
set_option maxHeartbeats 1000000 in
theorem ktake_any (L : Nat → Nat) (cb P W : Nat) (m : List Sg) (v n : Int) (w : World) (h : Ca w L cb P W m) (ho : Okc P W m) (hr : -1 ≤ ofI n ∧ ofI n ≤ 7) (hn7 : ofI n = 7 → 0 ≤ n) :
    Calls Tryz.prog 28 #[.pointer (some ⟨cb, 0, none⟩), .int .i64 v, .int .i64 n] w fun e w' => e = .returned (.tuple #[.int .i64 ((takeM P W v n m).1 : Nat), .int .i64 ((takeM P W v n m).2.1 : Nat)]) ∧ Left L w cb P W (takeM P W v n m).2.2 w' := by
  obtain ⟨fb, hb, a, cap, ps, sh, hC⟩ := h
  have HC : Hid (Cm w L cb fb hb a cap ps sh P W (pgF m) m (Kof m)) := hC
  have HO : Hid (Okc P W m) := ho
  have hW := ho.w1
  have c2 := hC.cell2
  obtain ⟨R, hR⟩ : ∃ R, takeM P W v n m = R := ⟨_, rfl⟩
  have HR : Hid (takeM P W v n m = R) := hR
  rw [hR]
  obtain ⟨q, hq⟩ : ∃ q, ofI n = q := ⟨_, rfl⟩
  have HQ : Hid (ofI n = q) := hq
  rw [hq] at hr hn7
  clear hC ho hR hq
  by_cases hw : 0 ≤ v ∧ v < (W : Int)
  · have HW : Hid (decide (0 ≤ v ∧ v < (W : Int)) = true) := decide_eq_true hw
    by_cases hm1 : q = -1
    · subst hm1
      have ER : Hid (R = (0, 2, m)) := by show R = _; rw [← HR.out]; unfold takeM; rw [if_pos (.inr HQ.out)]
      go_enter Tryz.func28, Tryz.ntmps28
      go_wp2_with (first
        | (go_at_call 54; refine (cof_any n _ HC.out.tab.1).mono ?_; rw [HQ.out]; rintro e w' ⟨rfl, rfl⟩)
        | (go_at_call 57; refine (khasW_any L cb fb hb a cap ps sh P W _ m _ v _ HC.out hW).mono ?_; rw [HW.out]; rintro e w' ⟨rfl, rfl⟩))
      go_ret2
      exact ⟨by rw [ER.out]; rfl, L, by rw [ER.out]; exact ⟨fb, hb, a, cap, ps, sh, HC.out⟩, Mv.refl _ _⟩
    · have hq0 : 0 ≤ q := by omega
      have hqn : ¬ (q < 0) := by omega
      by_cases h7 : q = 7
      · subst h7
        have hn0 := hn7 rfl
        obtain ⟨b, rfl⟩ : ∃ b : Nat, n = (b : Int) := ⟨n.toNat, by omega⟩
        have ER : Hid (R = match layP P (pagesN (b : Int)) 0 m with
            | none => (0, 13, m)
            | some p => (256 * p, 0, ins (fresh p 7 b 1) m)) := by
          show R = _
          rw [← HR.out]; unfold takeM
          rw [if_neg (by rw [HQ.out]; omega), if_pos HQ.out, Int.toNat_natCast]
          cases layP P (pagesN (b : Int)) 0 m <;> rfl
        go_enter Tryz.func28, Tryz.ntmps28
        go_wp2_with (first
          | (go_at_call 54; refine (cof_any (b : Int) _ HC.out.tab.1).mono ?_; rw [HQ.out]; rintro e w' ⟨rfl, rfl⟩)
          | (go_at_call 57; refine (khasW_any L cb fb hb a cap ps sh P W _ m _ v _ HC.out hW).mono ?_; rw [HW.out]; rintro e w' ⟨rfl, rfl⟩))
        refine (ktakeL_any L cb fb hb a cap ps sh P W m b _ HC.out HO.out HQ.out).mono ?_
        intro e w2 hP
        rcases hl : layP P (pagesN (b : Int)) 0 m with _ | p
        · rw [hl] at hP ER
          obtain ⟨rfl, L2, h1, h2⟩ := hP
          have F : Hid (Ca w2 L2 cb P W m ∧ Mv L w L2 w2) := ⟨h1, h2⟩
          clear h1 h2 hl
          go_wp2
          go_ret2
          exact ⟨by rw [ER.out]; rfl, L2, by rw [ER.out]; exact F.out.1, F.out.2⟩
        · rw [hl] at hP ER
          obtain ⟨rfl, L2, h1, h2⟩ := hP
          have F : Hid (Ca w2 L2 cb P W (ins (fresh p 7 b 1) m) ∧ Mv L w L2 w2) := ⟨h1, h2⟩
          clear h1 h2 hl
          go_wp2
          go_ret2
          exact ⟨by rw [ER.out]; rfl, L2, by rw [ER.out]; exact F.out.1, F.out.2⟩
      · obtain ⟨c, rfl⟩ : ∃ c : Nat, q = (c : Int) := ⟨q.toNat, by omega⟩
        obtain ⟨x, rfl⟩ : ∃ x : Nat, v = (x : Int) := ⟨v.toNat, by omega⟩
        have hx : x < W := by omega
        have hc7 : c < 7 := by omega
        have hq7 : ((c : Int) == 7) = false := beq_eq_false_iff_ne.2 h7
        have ER : Hid (R = match fillM P x c m with
            | none => (0, 13, m)
            | some m2 => ((keptM x c m2).headD 0, 0, setM ((keptM x c m2).headD 0) 1 m2)) := by
          show R = _
          rw [← HR.out]; unfold takeM
          rw [if_neg (by rw [HQ.out]; omega), if_neg (by rw [HQ.out]; exact h7), HQ.out, Int.toNat_natCast, Int.toNat_natCast]
          cases fillM P x c m <;> rfl
        have hx' : (x : Int) < (W : Int) := by omega
        have hx0 : (0 : Int) ≤ (x : Int) := by omega
        go_enter Tryz.func28, Tryz.ntmps28
        go_wp2_with (first
          | (go_at_call 54; refine (cof_any n _ HC.out.tab.1).mono ?_; rw [HQ.out]; rintro e w' ⟨rfl, rfl⟩)
          | (go_at_call 57; refine (khasW_any L cb fb hb a cap ps sh P W _ m _ (x : Int) _ HC.out hW).mono ?_; rw [HW.out]; rintro e w' ⟨rfl, rfl⟩))
        refine (ktakeS_any L cb fb hb a cap ps sh P W m x c _ HC.out HO.out hx hc7).mono ?_
        intro e w2 hP
        rcases hl : fillM P x c m with _ | m2
        · rw [hl] at hP ER
          obtain ⟨rfl, L2, h1, h2⟩ := hP
          have F : Hid (Ca w2 L2 cb P W m ∧ Mv L w L2 w2) := ⟨h1, h2⟩
          clear h1 h2 hl
          go_wp2
          go_ret2
          exact ⟨by rw [ER.out]; rfl, L2, by rw [ER.out]; exact F.out.1, F.out.2⟩
        · rw [hl] at hP ER
          obtain ⟨rfl, L2, h1, h2⟩ := hP
          obtain ⟨y, hy⟩ : ∃ y, (keptM x c m2).headD 0 = y := ⟨_, rfl⟩
          rw [hy] at h1
          have EY : Hid ((keptM x c m2).headD 0 = y) := hy
          have F : Hid (Ca w2 L2 cb P W (setM y 1 m2) ∧ Mv L w L2 w2) := ⟨h1, h2⟩
          rw [hy]
          clear h1 h2 hl hy
          go_wp2
          go_ret2
          exact ⟨by rw [ER.out]; show _ = Ending.returned (.tuple #[.int .i64 (((keptM x c m2).headD 0 : Nat) : Int), .int .i64 0]); rw [EY.out]; rfl, L2, by rw [ER.out]; show Ca w2 L2 cb P W (setM ((keptM x c m2).headD 0) 1 m2); rw [EY.out]; exact F.out.1, F.out.2⟩
  · have HW : Hid (decide (0 ≤ v ∧ v < (W : Int)) = false) := decide_eq_false hw
    have ER : Hid (R = (0, 2, m)) := by show R = _; rw [← HR.out]; unfold takeM; rw [if_pos (.inl hw)]
    go_enter Tryz.func28, Tryz.ntmps28
    go_wp2_with (first
      | (go_at_call 54; refine (cof_any n _ HC.out.tab.1).mono ?_; rw [HQ.out]; rintro e w' ⟨rfl, rfl⟩)
      | (go_at_call 57; refine (khasW_any L cb fb hb a cap ps sh P W _ m _ v _ HC.out hW).mono ?_; rw [HW.out]; rintro e w' ⟨rfl, rfl⟩))
    go_ret2
    exact ⟨by rw [ER.out]; rfl, L, by rw [ER.out]; exact ⟨fb, hb, a, cap, ps, sh, HC.out⟩, Mv.refl _ _⟩
end Go.Proofs.YtgmljgogmbaioaaGreatDoor
