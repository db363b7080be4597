/- The document's Lay into bytes of one's own. -/
import Derived.Test.YtebmegghojiegaaDoorGsL
namespace Go.Proofs.YtebmegghojiegaaDoor
open Go.RowKit
set_option linter.unusedVariables false

set_option maxRecDepth 20000 in
set_option maxHeartbeats 4000000 in
/-- The document's Lay into bytes of one's own. -/
theorem lay_own (B kap g c n o : Nat) (l : List Int) (W : Int) (w : World) (h : OwnsB w B (some ⟨g, 0, none⟩) l kap) (hn : n = l.length) (ho : o + 8 ≤ n) (hm : n ≤ 1000000000) (h0 : 0 ≤ W) (h1 : W ≤ 18446744073709551615) :
    Calls Tryd.prog 20 #[.slice (some ⟨g, 0, none⟩) n c, .int .i64 (o : Nat), .int .u64 W] w fun e w' => e = .returned (.tuple #[]) ∧ OwnsB w' B (some ⟨g, 0, none⟩) (overR l o (putL 8 W)) kap ∧ Tg g w w' := by
  obtain ⟨P, hP⟩ : ∃ P, putL 8 W = P := ⟨_, rfl⟩
  have pl : P.length = 8 := by rw [← hP]; exact putL_len 8 W
  have PUT : Hid (∀ w : World, Calls Tryd.prog 46 #[.int .u64 W, .int .i64 8] w fun e w' => ∃ a cap, e = .returned (.slice a 8 cap) ∧ IsB w' a P ∧ (∀ ad, a = some ad → w.heap.size ≤ ad.block) ∧ Below w.heap.size w w') := fun w => by
    rw [← hP]; exact rput_is W 8 8 (by decide) (by omega) h0 h1 w
  have HR0 : Hid (OwnsB w B (some ⟨g, 0, none⟩) l kap) := h
  have HN : Hid (n = l.length) := hn
  have PL : Hid (P.length = 8) := pl
  have FIN : Hid (∀ wr, OwnsB wr B (some ⟨g, 0, none⟩) (midR l o P 8) kap → OwnsB wr B (some ⟨g, 0, none⟩) (overR l o P) kap) := fun wr hr => by rw [← pl, midR_full] at hr; exact hr
  have ML : Hid (∀ i, i ≤ 8 → (midR l o P i).length = n) := fun i hi => by show _ = _; rw [midR_len (by omega) (by omega), hn]
  have NX : Hid (∀ wr i, i < 8 → OwnsB wr B (some ⟨g, 0, none⟩) (midR l o P i) kap → OwnsB (wr.setCell ⟨g, o + i, none⟩ (.int .u8 (P.getD i 0))) B (some ⟨g, 0, none⟩) (midR l o P (i + 1)) kap) := fun wr i hi hr => by
    have hr1 := hr.set (o + i) (P.getD i 0) (by rw [ML.out i (by omega)]; omega)
    rw [midR_set (by omega) (by omega)] at hr1
    exact hr1
  rw [hP]
  clear h hn pl hP
  go_enter Tryd.func20, Tryd.ntmps20
  go_wp2_with (go_at_call 46; refine (PUT.out _).mono ?_; rintro e w1 ⟨a, cap, rfl, ib, ab, bw⟩)
  have IB1 : Hid (IsB w1 a P) := ib
  have AB1 : Hid (∀ ad, a = some ad → ad.block ≠ g) := fun ad e => by have := ab ad e; have := HR0.out.bk.lt; omega
  have BW1 : Hid (Below w.heap.size w w1) := bw
  clear ib ab bw
  go_loopw [11] (fun iv wr => ∃ i : Nat, i ≤ 8 ∧ iv = .int .i64 (i : Nat) ∧ OwnsB wr B (some ⟨g, 0, none⟩) (midR l o P i) kap ∧ Tg g w1 wr) (fun iv _ => 8 - (intOf iv).toNat)
  case atStart => exact ⟨0, Nat.zero_le _, rfl, by rw [midR_zero]; exact HR0.out.keep BW1.out, Tg.refl g w1⟩
  case round =>
    obtain ⟨i, hi, rfl, hr, ht⟩ := hrel
    rename World => wr
    have HR : Hid (OwnsB wr B (some ⟨g, 0, none⟩) (midR l o P i) kap) := hr
    have HT : Hid (Tg g w1 wr) := ht
    by_cases hlt : i < 8
    · have IB := ht.isB IB1.out AB1.out
      obtain ⟨hall, h0 | ⟨ba, off, rfl, hba, hc⟩⟩ := IB
      · have := PL.out; rw [h0] at this; simp at this
      · have cb := hc i (by have := PL.out; omega)
        have cg := hr.bk.cell (o + i) (by rw [ML.out i hi]; omega)
        have zg := hr.bk.thawed (o + i)
        obtain ⟨Bv, hBv⟩ : ∃ Bv, P.getD i 0 = Bv := ⟨_, rfl⟩
        have NX2 : Hid (OwnsB (wr.setCell ⟨g, o + i, none⟩ (.int .u8 Bv)) B (some ⟨g, 0, none⟩) (midR l o P (i + 1)) kap) := by show OwnsB _ _ _ _ _; rw [← hBv]; exact NX.out wr i hlt hr
        rw [hBv] at cb
        have hlt' : (i : Int) < 8 := by omega
        have g2 : IntKind.i64.wrap ((o : Int) + (i : Int)) = (o : Int) + (i : Int) := by rw [IntKind.wrap_i64]; omega
        have g3 : (o : Int) + (i : Int) < (n : Int) := by omega
        have g4 : ((o : Int) + (i : Int)).toNat = o + i := by omega
        have g5 : (0 : Int) ≤ (o : Int) + (i : Int) := by omega
        clear hr ht hall hc hBv
        go_wp2
        all_goals go_roundw
        case rel => exact ⟨i + 1, by omega, by go_num, NX2.out, HT.out.trans (Tg.ofOnly (Only.set _ _ _ _))⟩
        case measure => simp [intOf]; omega
    · obtain rfl : i = 8 := by omega
      go_wp2
      go_end0
      exact ⟨rfl, FIN.out _ HR.out, (Tg.ofBelow BW1.out).trans HT.out⟩
end Go.Proofs.YtebmegghojiegaaDoor
