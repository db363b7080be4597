/- The rules asked one behind the other: broken. -/
import Derived.Test.YtbfamjnnlcopiaaGreatDoorGzAQ
import Derived.Test.YtbfamjnnlcopiaaGreatDoorAvH
import Derived.Test.YtbfamjnnlcopiaaGreatDoorAwE
namespace Go.Proofs.YtbfamjnnlcopiaaGreatDoor
open Go.RowKit
set_option linter.unusedVariables false
set_option maxRecDepth 4000

theorem Hold.next {V : Vw} {k : Nat} (h : Hold V k) (hk : ∀ m, m < ruN V k → ruF V k m = true) : Hold V (k + 1) := fun j hj i hi => by
  rcases Nat.lt_or_eq_of_le (Nat.le_of_lt_succ hj) with e | rfl
  · exact h j e i hi
  · exact hk i hi
theorem ru_cell {w : World} {g lb kn rn sn : Nat} (h : w.heap[g]? = some (.cells (ruCells lb kn rn sn).toArray 149 (0, 0))) (j : Nat) (v : Value) (hv : (ruCells lb kn rn sn)[j]? = some v) : w.cell? ⟨g, j, none⟩ = some v := by
  rw [cell_of_row _ _ j _ _ _ h]
  simpa using hv
set_option maxRecDepth 20000 in
set_option maxHeartbeats 8000000 in
theorem broken_any (lb ms mi : Nat) (V : Vw) (A : Va) (nf nr : Nat) (f : Int → Option Nat) (w : World) (h : Lk w lb ms mi V A nf nr f) :
    Calls Tryz.prog 65 #[.pointer (some ⟨lb, 0, none⟩)] w fun e w' => ∃ r x, e = .returned (.tuple #[.int .i64 r, .int .i64 x]) ∧ ChkR V r x ∧ Below w.heap.size w w' := by
  have c2 : w.cell? ⟨lb, 2, none⟩ = some (.slice A.ka A.kn A.kc) := cell_of_row _ _ 2 _ _ _ h.box
  have c3 : w.cell? ⟨lb, 3, none⟩ = some (.slice A.ra A.rn A.rc) := cell_of_row _ _ 3 _ _ _ h.box
  have c4 : w.cell? ⟨lb, 4, none⟩ = some (.slice A.sa A.sn A.sc) := cell_of_row _ _ 4 _ _ _ h.box
  have HL : Hid (Lk w lb ms mi V A nf nr f) := h
  obtain ⟨kn, hkn⟩ : ∃ kn, A.kn = kn := ⟨_, rfl⟩
  obtain ⟨rn, hrn⟩ : ∃ rn, A.rn = rn := ⟨_, rfl⟩
  obtain ⟨sn, hsn⟩ : ∃ sn, A.sn = sn := ⟨_, rfl⟩
  rw [hkn] at c2
  rw [hrn] at c3
  rw [hsn] at c4
  have kz : kn ≤ 64 := by have := h.vw.kl; have := h.vw.kz; omega
  have rz : rn ≤ 300 := by have := h.vw.rl; have := h.vw.rz; omega
  have sz : sn ≤ 64 := by have := h.vw.sl; have := h.vw.tz; omega
  have KN : Hid (V.ks.length = kn ∧ V.rs.length = rn ∧ V.ts.length = sn) := ⟨by rw [h.vw.kl, hkn], by rw [h.vw.rl, hrn], by rw [h.vw.sl, hsn]⟩
  clear h hkn hrn hsn
  go_enter Tryz.func65, Tryz.ntmps65
  go_wp2_with (go_at_call 99; refine (rules_any lb kn rn sn A.kc A.rc A.sc A.ka A.ra A.sa _ c2 c3 c4).mono ?_; rintro e w1 ⟨g, rfl, hg, hcells, b1⟩; have HC : Hid (w1.heap[g]? = some (.cells (ruCells lb kn rn sn).toArray 149 (0, 0))) := hcells; have B1 : Hid (Below w.heap.size w w1) := b1; clear hcells b1)
  have L1 : Hid (Lk w1 lb ms mi V A nf nr f) := HL.out.keep B1.out
  clear c2 c3 c4
  go_loopw [10] (fun iv wz => ∃ k : Nat, k ≤ 7 ∧ iv = .int .i64 (k : Nat) ∧ Hold V k ∧ Below w1.heap.size w1 wz) (fun iv _ => 7 - lenW iv)
  case atStart => exact ⟨0, Nat.zero_le _, rfl, fun j hj => by omega, Below.refl _ _⟩
  case round =>
    obtain ⟨k, hk, rfl, hh, hb⟩ := hrel
    rename World => wz
    have HH : Hid (Hold V k) := hh
    have BZ : Hid (Below w1.heap.size w1 wz) := hb
    have HCZ : Hid (wz.heap[g]? = some (.cells (ruCells lb kn rn sn).toArray 149 (0, 0))) := by show _ = _; rw [hb.block g (hlt HC.out)]; exact HC.out
    clear hh hb
    obtain ⟨y, hy⟩ : ∃ y : Int, (k : Int) = y := ⟨_, rfl⟩
    rw [hy]
    rcases k with _ | _ | _ | _ | _ | _ | _ | k
    · obtain rfl : y = 0 := by rw [← hy]; rfl
      clear hy
      have e0 : wz.cell? ⟨g, 0, none⟩ = some (.int .i64 1) := ru_cell HCZ.out 0 _ rfl
      have e1 : wz.cell? ⟨g, 1, none⟩ = some (.func (.func 117) #[.pointer (some ⟨lb, 0, none⟩)] #[]) := ru_cell HCZ.out 1 _ rfl
      have RN : Hid (ruN V 0 = 1) := rfl
      obtain ⟨E, hE⟩ : ∃ E, wz.alloc (.cells #[.int .i64 1, .func (.func 117) #[.pointer (some ⟨lb, 0, none⟩)] #[]] 149) = E := ⟨_, rfl⟩
      have bE : Below wz.heap.size wz E := by rw [← hE]; exact (Below.refl _ wz).alloc (Nat.le_refl _) _
      have rE : E.heap[wz.heap.size]? = some (.cells #[.int .i64 1, .func (.func 117) #[.pointer (some ⟨lb, 0, none⟩)] #[]] 149 (0, 0)) := by rw [← hE]; exact Go.heap_alloc_new wz _
      have BE : Hid (Below w1.heap.size w1 E) := BZ.out.trans (bE.mono BZ.out.size)
      have RE : Hid (E.heap[wz.heap.size]? = some (.cells #[.int .i64 1, .func (.func 117) #[.pointer (some ⟨lb, 0, none⟩)] #[]] 149 (0, 0))) := rE
      have d0 : E.cell? ⟨wz.heap.size, 0, none⟩ = some (.int .i64 1) := cell_of_row _ _ 0 _ _ _ rE
      obtain ⟨nb, hnb⟩ : ∃ nb, wz.heap.size = nb := ⟨_, rfl⟩
      rw [hnb] at d0 RE
      have RSF : ∀ (W : World) (a : Addr), (store a (.func (.func 117) #[.pointer (some ⟨lb, 0, none⟩)] #[])).run Tryz.prog W = Go.stored Tryz.prog W a (.func (.func 117) #[.pointer (some ⟨lb, 0, none⟩)] #[]) _ := fun W a => run_store Tryz.prog W a _ _ rfl
      clear bE rE
      go_wp2_with fail
      go_loopw [17] (fun iv wy => ∃ m : Nat, m ≤ 1 ∧ iv = .int .i64 (m : Nat) ∧ (∀ q, q < m → ruF V 0 q = true) ∧ Below E.heap.size E wy) (fun iv _ => 1 - lenW iv)
      case atStart => exact ⟨0, Nat.zero_le _, rfl, fun q hq => by omega, by first | exact Below.refl _ _ | (rw [← hE]; exact Below.refl _ _)⟩
      case round =>
        obtain ⟨m, hm, rfl, hq, hb⟩ := hrel
        rename World => wy
        have HM : Hid (∀ q, q < m → ruF V 0 q = true) := hq
        have BY : Hid (Below E.heap.size E wy) := hb
        have LY : Hid (Lk wy lb ms mi V A nf nr f) := (L1.out.keep BE.out).keep BY.out
        have f1 : wy.cell? ⟨nb, 1, none⟩ = some (.func (.func 117) #[.pointer (some ⟨lb, 0, none⟩)] #[]) := bcell BY.out (cell_of_row _ _ 1 _ _ _ RE.out)
        clear hq hb
        by_cases hml : m < 1
        · have HI : Hid (m < ruN V 0) := by show m < _; rw [RN.out]; exact hml
          have m0 : (m : Int) < 1 := by omega
          obtain ⟨r, hr⟩ : ∃ r, ruF V 0 m = r := ⟨_, rfl⟩
          have HR : Hid (ruF V 0 m = r) := hr
          clear hr
          cases r with
          | false =>
            have FC : Hid (ChkR V 1 (m : Int)) := .inr ⟨0, m, by decide, HI.out, by decide, rfl, HR.out, HM.out, HH.out⟩
            have RF : Hid (∀ w', Below wy.heap.size wy w' → Below w.heap.size w w') := fun w' b' => B1.out.trans ((BE.out.trans ((BY.out.trans (b'.mono BY.out.size)).mono BE.out.size)).mono B1.out.size)
            go_wp2_with (go_at_call 117; refine (measured_any lb ms mi V A nf nr f (m : Int) _ LY.out false HR.out).mono ?_; rintro e w2 ⟨rfl, b2⟩; have B2 : Hid (Below w.heap.size w w2) := RF.out w2 b2; clear b2)
            go_ret2
            exact ⟨_, _, rfl, FC.out, B2.out⟩
          | true =>
            have NX : Hid (∀ q, q < m + 1 → ruF V 0 q = true) := fun q hq => by
              rcases Nat.lt_or_eq_of_le (Nat.le_of_lt_succ hq) with e | rfl
              · exact HM.out q e
              · exact HR.out
            go_wp2_with (go_at_call 117; refine (measured_any lb ms mi V A nf nr f (m : Int) _ LY.out true HR.out).mono ?_; rintro e w2 ⟨rfl, b2⟩; have B2 : Hid (Below E.heap.size E w2) := BY.out.trans (b2.mono BY.out.size); clear b2)
            go_roundw
            case rel => exact ⟨m + 1, by omega, by congr 1, NX.out, B2.out⟩
            case measure => simp [lenW]; omega
        · obtain rfl : m = 1 := by omega
          have NH : Hid (Hold V 1) := HH.out.next (fun q hq => HM.out q (by rw [RN.out] at hq; exact hq))
          have B2 : Hid (Below w1.heap.size w1 wy) := BE.out.trans (BY.out.mono BE.out.size)
          go_wp2
          go_roundw
          case rel => exact ⟨1, by decide, rfl, NH.out, B2.out⟩
          case measure => simp [lenW]
    · obtain rfl : y = 1 := by rw [← hy]; rfl
      clear hy
      have e0 : wz.cell? ⟨g, 2, none⟩ = some (.int .i64 (kn : Nat)) := ru_cell HCZ.out 2 _ rfl
      have e1 : wz.cell? ⟨g, 3, none⟩ = some (.func (.func 118) #[.pointer (some ⟨lb, 0, none⟩)] #[]) := ru_cell HCZ.out 3 _ rfl
      have RN : Hid (ruN V 1 = kn) := KN.out.1
      obtain ⟨E, hE⟩ : ∃ E, wz.alloc (.cells #[.int .i64 (kn : Nat), .func (.func 118) #[.pointer (some ⟨lb, 0, none⟩)] #[]] 149) = E := ⟨_, rfl⟩
      have bE : Below wz.heap.size wz E := by rw [← hE]; exact (Below.refl _ wz).alloc (Nat.le_refl _) _
      have rE : E.heap[wz.heap.size]? = some (.cells #[.int .i64 (kn : Nat), .func (.func 118) #[.pointer (some ⟨lb, 0, none⟩)] #[]] 149 (0, 0)) := by rw [← hE]; exact Go.heap_alloc_new wz _
      have BE : Hid (Below w1.heap.size w1 E) := BZ.out.trans (bE.mono BZ.out.size)
      have RE : Hid (E.heap[wz.heap.size]? = some (.cells #[.int .i64 (kn : Nat), .func (.func 118) #[.pointer (some ⟨lb, 0, none⟩)] #[]] 149 (0, 0))) := rE
      have d0 : E.cell? ⟨wz.heap.size, 0, none⟩ = some (.int .i64 (kn : Nat)) := cell_of_row _ _ 0 _ _ _ rE
      obtain ⟨nb, hnb⟩ : ∃ nb, wz.heap.size = nb := ⟨_, rfl⟩
      rw [hnb] at d0 RE
      have RSF : ∀ (W : World) (a : Addr), (store a (.func (.func 118) #[.pointer (some ⟨lb, 0, none⟩)] #[])).run Tryz.prog W = Go.stored Tryz.prog W a (.func (.func 118) #[.pointer (some ⟨lb, 0, none⟩)] #[]) _ := fun W a => run_store Tryz.prog W a _ _ rfl
      clear bE rE
      go_wp2_with fail
      go_loopw [17] (fun iv wy => ∃ m : Nat, m ≤ kn ∧ iv = .int .i64 (m : Nat) ∧ (∀ q, q < m → ruF V 1 q = true) ∧ Below E.heap.size E wy) (fun iv _ => kn - lenW iv)
      case atStart => exact ⟨0, Nat.zero_le _, rfl, fun q hq => by omega, by first | exact Below.refl _ _ | (rw [← hE]; exact Below.refl _ _)⟩
      case round =>
        obtain ⟨m, hm, rfl, hq, hb⟩ := hrel
        rename World => wy
        have HM : Hid (∀ q, q < m → ruF V 1 q = true) := hq
        have BY : Hid (Below E.heap.size E wy) := hb
        have LY : Hid (Lk wy lb ms mi V A nf nr f) := (L1.out.keep BE.out).keep BY.out
        have f1 : wy.cell? ⟨nb, 1, none⟩ = some (.func (.func 118) #[.pointer (some ⟨lb, 0, none⟩)] #[]) := bcell BY.out (cell_of_row _ _ 1 _ _ _ RE.out)
        clear hq hb
        by_cases hml : m < kn
        · have HI : Hid (m < ruN V 1) := by show m < _; rw [RN.out]; exact hml
          have m0 : (m : Int) < (kn : Int) := by omega
          obtain ⟨r, hr⟩ : ∃ r, ruF V 1 m = r := ⟨_, rfl⟩
          have HR : Hid (ruF V 1 m = r) := hr
          clear hr
          cases r with
          | false =>
            have FC : Hid (ChkR V 2 (m : Int)) := .inr ⟨1, m, by decide, HI.out, by decide, rfl, HR.out, HM.out, HH.out⟩
            have RF : Hid (∀ w', Below wy.heap.size wy w' → Below w.heap.size w w') := fun w' b' => B1.out.trans ((BE.out.trans ((BY.out.trans (b'.mono BY.out.size)).mono BE.out.size)).mono B1.out.size)
            go_wp2_with (go_at_call 118; refine (kindRight_any lb ms mi V A nf nr f m _ LY.out HI.out false HR.out).mono ?_; rintro e w2 ⟨rfl, b2⟩; have B2 : Hid (Below w.heap.size w w2) := RF.out w2 b2; clear b2)
            go_ret2
            exact ⟨_, _, rfl, FC.out, B2.out⟩
          | true =>
            have NX : Hid (∀ q, q < m + 1 → ruF V 1 q = true) := fun q hq => by
              rcases Nat.lt_or_eq_of_le (Nat.le_of_lt_succ hq) with e | rfl
              · exact HM.out q e
              · exact HR.out
            go_wp2_with (go_at_call 118; refine (kindRight_any lb ms mi V A nf nr f m _ LY.out HI.out true HR.out).mono ?_; rintro e w2 ⟨rfl, b2⟩; have B2 : Hid (Below E.heap.size E w2) := BY.out.trans (b2.mono BY.out.size); clear b2)
            go_roundw
            case rel => exact ⟨m + 1, by omega, by congr 1, NX.out, B2.out⟩
            case measure => simp [lenW]; omega
        · obtain rfl : m = kn := by omega
          have NH : Hid (Hold V 2) := HH.out.next (fun q hq => HM.out q (by rw [RN.out] at hq; exact hq))
          have B2 : Hid (Below w1.heap.size w1 wy) := BE.out.trans (BY.out.mono BE.out.size)
          go_wp2
          go_roundw
          case rel => exact ⟨2, by decide, rfl, NH.out, B2.out⟩
          case measure => simp [lenW]
    · obtain rfl : y = 2 := by rw [← hy]; rfl
      clear hy
      have e0 : wz.cell? ⟨g, 4, none⟩ = some (.int .i64 (sn : Nat)) := ru_cell HCZ.out 4 _ rfl
      have e1 : wz.cell? ⟨g, 5, none⟩ = some (.func (.func 119) #[.pointer (some ⟨lb, 0, none⟩)] #[]) := ru_cell HCZ.out 5 _ rfl
      have RN : Hid (ruN V 2 = sn) := KN.out.2.2
      obtain ⟨E, hE⟩ : ∃ E, wz.alloc (.cells #[.int .i64 (sn : Nat), .func (.func 119) #[.pointer (some ⟨lb, 0, none⟩)] #[]] 149) = E := ⟨_, rfl⟩
      have bE : Below wz.heap.size wz E := by rw [← hE]; exact (Below.refl _ wz).alloc (Nat.le_refl _) _
      have rE : E.heap[wz.heap.size]? = some (.cells #[.int .i64 (sn : Nat), .func (.func 119) #[.pointer (some ⟨lb, 0, none⟩)] #[]] 149 (0, 0)) := by rw [← hE]; exact Go.heap_alloc_new wz _
      have BE : Hid (Below w1.heap.size w1 E) := BZ.out.trans (bE.mono BZ.out.size)
      have RE : Hid (E.heap[wz.heap.size]? = some (.cells #[.int .i64 (sn : Nat), .func (.func 119) #[.pointer (some ⟨lb, 0, none⟩)] #[]] 149 (0, 0))) := rE
      have d0 : E.cell? ⟨wz.heap.size, 0, none⟩ = some (.int .i64 (sn : Nat)) := cell_of_row _ _ 0 _ _ _ rE
      obtain ⟨nb, hnb⟩ : ∃ nb, wz.heap.size = nb := ⟨_, rfl⟩
      rw [hnb] at d0 RE
      have RSF : ∀ (W : World) (a : Addr), (store a (.func (.func 119) #[.pointer (some ⟨lb, 0, none⟩)] #[])).run Tryz.prog W = Go.stored Tryz.prog W a (.func (.func 119) #[.pointer (some ⟨lb, 0, none⟩)] #[]) _ := fun W a => run_store Tryz.prog W a _ _ rfl
      clear bE rE
      go_wp2_with fail
      go_loopw [17] (fun iv wy => ∃ m : Nat, m ≤ sn ∧ iv = .int .i64 (m : Nat) ∧ (∀ q, q < m → ruF V 2 q = true) ∧ Below E.heap.size E wy) (fun iv _ => sn - lenW iv)
      case atStart => exact ⟨0, Nat.zero_le _, rfl, fun q hq => by omega, by first | exact Below.refl _ _ | (rw [← hE]; exact Below.refl _ _)⟩
      case round =>
        obtain ⟨m, hm, rfl, hq, hb⟩ := hrel
        rename World => wy
        have HM : Hid (∀ q, q < m → ruF V 2 q = true) := hq
        have BY : Hid (Below E.heap.size E wy) := hb
        have LY : Hid (Lk wy lb ms mi V A nf nr f) := (L1.out.keep BE.out).keep BY.out
        have f1 : wy.cell? ⟨nb, 1, none⟩ = some (.func (.func 119) #[.pointer (some ⟨lb, 0, none⟩)] #[]) := bcell BY.out (cell_of_row _ _ 1 _ _ _ RE.out)
        clear hq hb
        by_cases hml : m < sn
        · have HI : Hid (m < ruN V 2) := by show m < _; rw [RN.out]; exact hml
          have m0 : (m : Int) < (sn : Int) := by omega
          obtain ⟨r, hr⟩ : ∃ r, ruF V 2 m = r := ⟨_, rfl⟩
          have HR : Hid (ruF V 2 m = r) := hr
          clear hr
          cases r with
          | false =>
            have FC : Hid (ChkR V 3 (m : Int)) := .inr ⟨2, m, by decide, HI.out, by decide, rfl, HR.out, HM.out, HH.out⟩
            have RF : Hid (∀ w', Below wy.heap.size wy w' → Below w.heap.size w w') := fun w' b' => B1.out.trans ((BE.out.trans ((BY.out.trans (b'.mono BY.out.size)).mono BE.out.size)).mono B1.out.size)
            go_wp2_with (go_at_call 119; refine (spanStands_any lb ms mi V A nf nr f m _ LY.out HI.out (HH.out 0 (by decide) 0 (by show 0 < 1; decide)) HM.out false HR.out).mono ?_; rintro e w2 ⟨rfl, b2⟩; have B2 : Hid (Below w.heap.size w w2) := RF.out w2 b2; clear b2)
            go_ret2
            exact ⟨_, _, rfl, FC.out, B2.out⟩
          | true =>
            have NX : Hid (∀ q, q < m + 1 → ruF V 2 q = true) := fun q hq => by
              rcases Nat.lt_or_eq_of_le (Nat.le_of_lt_succ hq) with e | rfl
              · exact HM.out q e
              · exact HR.out
            go_wp2_with (go_at_call 119; refine (spanStands_any lb ms mi V A nf nr f m _ LY.out HI.out (HH.out 0 (by decide) 0 (by show 0 < 1; decide)) HM.out true HR.out).mono ?_; rintro e w2 ⟨rfl, b2⟩; have B2 : Hid (Below E.heap.size E w2) := BY.out.trans (b2.mono BY.out.size); clear b2)
            go_roundw
            case rel => exact ⟨m + 1, by omega, by congr 1, NX.out, B2.out⟩
            case measure => simp [lenW]; omega
        · obtain rfl : m = sn := by omega
          have NH : Hid (Hold V 3) := HH.out.next (fun q hq => HM.out q (by rw [RN.out] at hq; exact hq))
          have B2 : Hid (Below w1.heap.size w1 wy) := BE.out.trans (BY.out.mono BE.out.size)
          go_wp2
          go_roundw
          case rel => exact ⟨3, by decide, rfl, NH.out, B2.out⟩
          case measure => simp [lenW]
    · obtain rfl : y = 3 := by rw [← hy]; rfl
      clear hy
      have e0 : wz.cell? ⟨g, 6, none⟩ = some (.int .i64 (rn : Nat)) := ru_cell HCZ.out 6 _ rfl
      have e1 : wz.cell? ⟨g, 7, none⟩ = some (.func (.func 120) #[.pointer (some ⟨lb, 0, none⟩)] #[]) := ru_cell HCZ.out 7 _ rfl
      have RN : Hid (ruN V 3 = rn) := KN.out.2.1
      obtain ⟨E, hE⟩ : ∃ E, wz.alloc (.cells #[.int .i64 (rn : Nat), .func (.func 120) #[.pointer (some ⟨lb, 0, none⟩)] #[]] 149) = E := ⟨_, rfl⟩
      have bE : Below wz.heap.size wz E := by rw [← hE]; exact (Below.refl _ wz).alloc (Nat.le_refl _) _
      have rE : E.heap[wz.heap.size]? = some (.cells #[.int .i64 (rn : Nat), .func (.func 120) #[.pointer (some ⟨lb, 0, none⟩)] #[]] 149 (0, 0)) := by rw [← hE]; exact Go.heap_alloc_new wz _
      have BE : Hid (Below w1.heap.size w1 E) := BZ.out.trans (bE.mono BZ.out.size)
      have RE : Hid (E.heap[wz.heap.size]? = some (.cells #[.int .i64 (rn : Nat), .func (.func 120) #[.pointer (some ⟨lb, 0, none⟩)] #[]] 149 (0, 0))) := rE
      have d0 : E.cell? ⟨wz.heap.size, 0, none⟩ = some (.int .i64 (rn : Nat)) := cell_of_row _ _ 0 _ _ _ rE
      obtain ⟨nb, hnb⟩ : ∃ nb, wz.heap.size = nb := ⟨_, rfl⟩
      rw [hnb] at d0 RE
      have RSF : ∀ (W : World) (a : Addr), (store a (.func (.func 120) #[.pointer (some ⟨lb, 0, none⟩)] #[])).run Tryz.prog W = Go.stored Tryz.prog W a (.func (.func 120) #[.pointer (some ⟨lb, 0, none⟩)] #[]) _ := fun W a => run_store Tryz.prog W a _ _ rfl
      clear bE rE
      go_wp2_with fail
      go_loopw [17] (fun iv wy => ∃ m : Nat, m ≤ rn ∧ iv = .int .i64 (m : Nat) ∧ (∀ q, q < m → ruF V 3 q = true) ∧ Below E.heap.size E wy) (fun iv _ => rn - lenW iv)
      case atStart => exact ⟨0, Nat.zero_le _, rfl, fun q hq => by omega, by first | exact Below.refl _ _ | (rw [← hE]; exact Below.refl _ _)⟩
      case round =>
        obtain ⟨m, hm, rfl, hq, hb⟩ := hrel
        rename World => wy
        have HM : Hid (∀ q, q < m → ruF V 3 q = true) := hq
        have BY : Hid (Below E.heap.size E wy) := hb
        have LY : Hid (Lk wy lb ms mi V A nf nr f) := (L1.out.keep BE.out).keep BY.out
        have f1 : wy.cell? ⟨nb, 1, none⟩ = some (.func (.func 120) #[.pointer (some ⟨lb, 0, none⟩)] #[]) := bcell BY.out (cell_of_row _ _ 1 _ _ _ RE.out)
        clear hq hb
        by_cases hml : m < rn
        · have HI : Hid (m < ruN V 3) := by show m < _; rw [RN.out]; exact hml
          have m0 : (m : Int) < (rn : Int) := by omega
          obtain ⟨r, hr⟩ : ∃ r, ruF V 3 m = r := ⟨_, rfl⟩
          have HR : Hid (ruF V 3 m = r) := hr
          clear hr
          cases r with
          | false =>
            have FC : Hid (ChkR V 4 (m : Int)) := .inr ⟨3, m, by decide, HI.out, by decide, rfl, HR.out, HM.out, HH.out⟩
            have RF : Hid (∀ w', Below wy.heap.size wy w' → Below w.heap.size w w') := fun w' b' => B1.out.trans ((BE.out.trans ((BY.out.trans (b'.mono BY.out.size)).mono BE.out.size)).mono B1.out.size)
            go_wp2_with (go_at_call 120; refine (rowRight_any lb ms mi V A nf nr f m _ LY.out HI.out HH.out false HR.out).mono ?_; rintro e w2 ⟨rfl, b2⟩; have B2 : Hid (Below w.heap.size w w2) := RF.out w2 b2; clear b2)
            go_ret2
            exact ⟨_, _, rfl, FC.out, B2.out⟩
          | true =>
            have NX : Hid (∀ q, q < m + 1 → ruF V 3 q = true) := fun q hq => by
              rcases Nat.lt_or_eq_of_le (Nat.le_of_lt_succ hq) with e | rfl
              · exact HM.out q e
              · exact HR.out
            go_wp2_with (go_at_call 120; refine (rowRight_any lb ms mi V A nf nr f m _ LY.out HI.out HH.out true HR.out).mono ?_; rintro e w2 ⟨rfl, b2⟩; have B2 : Hid (Below E.heap.size E w2) := BY.out.trans (b2.mono BY.out.size); clear b2)
            go_roundw
            case rel => exact ⟨m + 1, by omega, by congr 1, NX.out, B2.out⟩
            case measure => simp [lenW]; omega
        · obtain rfl : m = rn := by omega
          have NH : Hid (Hold V 4) := HH.out.next (fun q hq => HM.out q (by rw [RN.out] at hq; exact hq))
          have B2 : Hid (Below w1.heap.size w1 wy) := BE.out.trans (BY.out.mono BE.out.size)
          go_wp2
          go_roundw
          case rel => exact ⟨4, by decide, rfl, NH.out, B2.out⟩
          case measure => simp [lenW]
    · obtain rfl : y = 4 := by rw [← hy]; rfl
      clear hy
      have e0 : wz.cell? ⟨g, 8, none⟩ = some (.int .i64 (rn : Nat)) := ru_cell HCZ.out 8 _ rfl
      have e1 : wz.cell? ⟨g, 9, none⟩ = some (.func (.func 121) #[.pointer (some ⟨lb, 0, none⟩)] #[]) := ru_cell HCZ.out 9 _ rfl
      have RN : Hid (ruN V 4 = rn) := KN.out.2.1
      obtain ⟨E, hE⟩ : ∃ E, wz.alloc (.cells #[.int .i64 (rn : Nat), .func (.func 121) #[.pointer (some ⟨lb, 0, none⟩)] #[]] 149) = E := ⟨_, rfl⟩
      have bE : Below wz.heap.size wz E := by rw [← hE]; exact (Below.refl _ wz).alloc (Nat.le_refl _) _
      have rE : E.heap[wz.heap.size]? = some (.cells #[.int .i64 (rn : Nat), .func (.func 121) #[.pointer (some ⟨lb, 0, none⟩)] #[]] 149 (0, 0)) := by rw [← hE]; exact Go.heap_alloc_new wz _
      have BE : Hid (Below w1.heap.size w1 E) := BZ.out.trans (bE.mono BZ.out.size)
      have RE : Hid (E.heap[wz.heap.size]? = some (.cells #[.int .i64 (rn : Nat), .func (.func 121) #[.pointer (some ⟨lb, 0, none⟩)] #[]] 149 (0, 0))) := rE
      have d0 : E.cell? ⟨wz.heap.size, 0, none⟩ = some (.int .i64 (rn : Nat)) := cell_of_row _ _ 0 _ _ _ rE
      obtain ⟨nb, hnb⟩ : ∃ nb, wz.heap.size = nb := ⟨_, rfl⟩
      rw [hnb] at d0 RE
      have RSF : ∀ (W : World) (a : Addr), (store a (.func (.func 121) #[.pointer (some ⟨lb, 0, none⟩)] #[])).run Tryz.prog W = Go.stored Tryz.prog W a (.func (.func 121) #[.pointer (some ⟨lb, 0, none⟩)] #[]) _ := fun W a => run_store Tryz.prog W a _ _ rfl
      clear bE rE
      go_wp2_with fail
      go_loopw [17] (fun iv wy => ∃ m : Nat, m ≤ rn ∧ iv = .int .i64 (m : Nat) ∧ (∀ q, q < m → ruF V 4 q = true) ∧ Below E.heap.size E wy) (fun iv _ => rn - lenW iv)
      case atStart => exact ⟨0, Nat.zero_le _, rfl, fun q hq => by omega, by first | exact Below.refl _ _ | (rw [← hE]; exact Below.refl _ _)⟩
      case round =>
        obtain ⟨m, hm, rfl, hq, hb⟩ := hrel
        rename World => wy
        have HM : Hid (∀ q, q < m → ruF V 4 q = true) := hq
        have BY : Hid (Below E.heap.size E wy) := hb
        have LY : Hid (Lk wy lb ms mi V A nf nr f) := (L1.out.keep BE.out).keep BY.out
        have f1 : wy.cell? ⟨nb, 1, none⟩ = some (.func (.func 121) #[.pointer (some ⟨lb, 0, none⟩)] #[]) := bcell BY.out (cell_of_row _ _ 1 _ _ _ RE.out)
        clear hq hb
        by_cases hml : m < rn
        · have HI : Hid (m < ruN V 4) := by show m < _; rw [RN.out]; exact hml
          have m0 : (m : Int) < (rn : Int) := by omega
          obtain ⟨r, hr⟩ : ∃ r, ruF V 4 m = r := ⟨_, rfl⟩
          have HR : Hid (ruF V 4 m = r) := hr
          clear hr
          cases r with
          | false =>
            have FC : Hid (ChkR V 5 (m : Int)) := .inr ⟨4, m, by decide, HI.out, by decide, rfl, HR.out, HM.out, HH.out⟩
            have RF : Hid (∀ w', Below wy.heap.size wy w' → Below w.heap.size w w') := fun w' b' => B1.out.trans ((BE.out.trans ((BY.out.trans (b'.mono BY.out.size)).mono BE.out.size)).mono B1.out.size)
            go_wp2_with (go_at_call 121; refine (rowAlone_any lb ms mi V A nf nr f m _ LY.out HI.out false HR.out).mono ?_; rintro e w2 ⟨rfl, b2⟩; have B2 : Hid (Below w.heap.size w w2) := RF.out w2 b2; clear b2)
            go_ret2
            exact ⟨_, _, rfl, FC.out, B2.out⟩
          | true =>
            have NX : Hid (∀ q, q < m + 1 → ruF V 4 q = true) := fun q hq => by
              rcases Nat.lt_or_eq_of_le (Nat.le_of_lt_succ hq) with e | rfl
              · exact HM.out q e
              · exact HR.out
            go_wp2_with (go_at_call 121; refine (rowAlone_any lb ms mi V A nf nr f m _ LY.out HI.out true HR.out).mono ?_; rintro e w2 ⟨rfl, b2⟩; have B2 : Hid (Below E.heap.size E w2) := BY.out.trans (b2.mono BY.out.size); clear b2)
            go_roundw
            case rel => exact ⟨m + 1, by omega, by congr 1, NX.out, B2.out⟩
            case measure => simp [lenW]; omega
        · obtain rfl : m = rn := by omega
          have NH : Hid (Hold V 5) := HH.out.next (fun q hq => HM.out q (by rw [RN.out] at hq; exact hq))
          have B2 : Hid (Below w1.heap.size w1 wy) := BE.out.trans (BY.out.mono BE.out.size)
          go_wp2
          go_roundw
          case rel => exact ⟨5, by decide, rfl, NH.out, B2.out⟩
          case measure => simp [lenW]
    · obtain rfl : y = 5 := by rw [← hy]; rfl
      clear hy
      have e0 : wz.cell? ⟨g, 10, none⟩ = some (.int .i64 (sn : Nat)) := ru_cell HCZ.out 10 _ rfl
      have e1 : wz.cell? ⟨g, 11, none⟩ = some (.func (.func 122) #[.pointer (some ⟨lb, 0, none⟩)] #[]) := ru_cell HCZ.out 11 _ rfl
      have RN : Hid (ruN V 5 = sn) := KN.out.2.2
      obtain ⟨E, hE⟩ : ∃ E, wz.alloc (.cells #[.int .i64 (sn : Nat), .func (.func 122) #[.pointer (some ⟨lb, 0, none⟩)] #[]] 149) = E := ⟨_, rfl⟩
      have bE : Below wz.heap.size wz E := by rw [← hE]; exact (Below.refl _ wz).alloc (Nat.le_refl _) _
      have rE : E.heap[wz.heap.size]? = some (.cells #[.int .i64 (sn : Nat), .func (.func 122) #[.pointer (some ⟨lb, 0, none⟩)] #[]] 149 (0, 0)) := by rw [← hE]; exact Go.heap_alloc_new wz _
      have BE : Hid (Below w1.heap.size w1 E) := BZ.out.trans (bE.mono BZ.out.size)
      have RE : Hid (E.heap[wz.heap.size]? = some (.cells #[.int .i64 (sn : Nat), .func (.func 122) #[.pointer (some ⟨lb, 0, none⟩)] #[]] 149 (0, 0))) := rE
      have d0 : E.cell? ⟨wz.heap.size, 0, none⟩ = some (.int .i64 (sn : Nat)) := cell_of_row _ _ 0 _ _ _ rE
      obtain ⟨nb, hnb⟩ : ∃ nb, wz.heap.size = nb := ⟨_, rfl⟩
      rw [hnb] at d0 RE
      have RSF : ∀ (W : World) (a : Addr), (store a (.func (.func 122) #[.pointer (some ⟨lb, 0, none⟩)] #[])).run Tryz.prog W = Go.stored Tryz.prog W a (.func (.func 122) #[.pointer (some ⟨lb, 0, none⟩)] #[]) _ := fun W a => run_store Tryz.prog W a _ _ rfl
      clear bE rE
      go_wp2_with fail
      go_loopw [17] (fun iv wy => ∃ m : Nat, m ≤ sn ∧ iv = .int .i64 (m : Nat) ∧ (∀ q, q < m → ruF V 5 q = true) ∧ Below E.heap.size E wy) (fun iv _ => sn - lenW iv)
      case atStart => exact ⟨0, Nat.zero_le _, rfl, fun q hq => by omega, by first | exact Below.refl _ _ | (rw [← hE]; exact Below.refl _ _)⟩
      case round =>
        obtain ⟨m, hm, rfl, hq, hb⟩ := hrel
        rename World => wy
        have HM : Hid (∀ q, q < m → ruF V 5 q = true) := hq
        have BY : Hid (Below E.heap.size E wy) := hb
        have LY : Hid (Lk wy lb ms mi V A nf nr f) := (L1.out.keep BE.out).keep BY.out
        have f1 : wy.cell? ⟨nb, 1, none⟩ = some (.func (.func 122) #[.pointer (some ⟨lb, 0, none⟩)] #[]) := bcell BY.out (cell_of_row _ _ 1 _ _ _ RE.out)
        clear hq hb
        by_cases hml : m < sn
        · have HI : Hid (m < ruN V 5) := by show m < _; rw [RN.out]; exact hml
          have m0 : (m : Int) < (sn : Int) := by omega
          obtain ⟨r, hr⟩ : ∃ r, ruF V 5 m = r := ⟨_, rfl⟩
          have HR : Hid (ruF V 5 m = r) := hr
          clear hr
          cases r with
          | false =>
            have FC : Hid (ChkR V 6 (m : Int)) := .inr ⟨5, m, by decide, HI.out, by decide, rfl, HR.out, HM.out, HH.out⟩
            have RF : Hid (∀ w', Below wy.heap.size wy w' → Below w.heap.size w w') := fun w' b' => B1.out.trans ((BE.out.trans ((BY.out.trans (b'.mono BY.out.size)).mono BE.out.size)).mono B1.out.size)
            go_wp2_with (go_at_call 122; refine (slotsTold_any lb ms mi V A nf nr f m _ LY.out HI.out (HH.out.mono (by decide)) false HR.out).mono ?_; rintro e w2 ⟨rfl, b2⟩; have B2 : Hid (Below w.heap.size w w2) := RF.out w2 b2; clear b2)
            go_ret2
            exact ⟨_, _, rfl, FC.out, B2.out⟩
          | true =>
            have NX : Hid (∀ q, q < m + 1 → ruF V 5 q = true) := fun q hq => by
              rcases Nat.lt_or_eq_of_le (Nat.le_of_lt_succ hq) with e | rfl
              · exact HM.out q e
              · exact HR.out
            go_wp2_with (go_at_call 122; refine (slotsTold_any lb ms mi V A nf nr f m _ LY.out HI.out (HH.out.mono (by decide)) true HR.out).mono ?_; rintro e w2 ⟨rfl, b2⟩; have B2 : Hid (Below E.heap.size E w2) := BY.out.trans (b2.mono BY.out.size); clear b2)
            go_roundw
            case rel => exact ⟨m + 1, by omega, by congr 1, NX.out, B2.out⟩
            case measure => simp [lenW]; omega
        · obtain rfl : m = sn := by omega
          have NH : Hid (Hold V 6) := HH.out.next (fun q hq => HM.out q (by rw [RN.out] at hq; exact hq))
          have B2 : Hid (Below w1.heap.size w1 wy) := BE.out.trans (BY.out.mono BE.out.size)
          go_wp2
          go_roundw
          case rel => exact ⟨6, by decide, rfl, NH.out, B2.out⟩
          case measure => simp [lenW]
    · obtain rfl : y = 6 := by rw [← hy]; rfl
      clear hy
      have e0 : wz.cell? ⟨g, 12, none⟩ = some (.int .i64 (rn : Nat)) := ru_cell HCZ.out 12 _ rfl
      have e1 : wz.cell? ⟨g, 13, none⟩ = some (.func (.func 123) #[.pointer (some ⟨lb, 0, none⟩)] #[]) := ru_cell HCZ.out 13 _ rfl
      have RN : Hid (ruN V 6 = rn) := KN.out.2.1
      obtain ⟨E, hE⟩ : ∃ E, wz.alloc (.cells #[.int .i64 (rn : Nat), .func (.func 123) #[.pointer (some ⟨lb, 0, none⟩)] #[]] 149) = E := ⟨_, rfl⟩
      have bE : Below wz.heap.size wz E := by rw [← hE]; exact (Below.refl _ wz).alloc (Nat.le_refl _) _
      have rE : E.heap[wz.heap.size]? = some (.cells #[.int .i64 (rn : Nat), .func (.func 123) #[.pointer (some ⟨lb, 0, none⟩)] #[]] 149 (0, 0)) := by rw [← hE]; exact Go.heap_alloc_new wz _
      have BE : Hid (Below w1.heap.size w1 E) := BZ.out.trans (bE.mono BZ.out.size)
      have RE : Hid (E.heap[wz.heap.size]? = some (.cells #[.int .i64 (rn : Nat), .func (.func 123) #[.pointer (some ⟨lb, 0, none⟩)] #[]] 149 (0, 0))) := rE
      have d0 : E.cell? ⟨wz.heap.size, 0, none⟩ = some (.int .i64 (rn : Nat)) := cell_of_row _ _ 0 _ _ _ rE
      obtain ⟨nb, hnb⟩ : ∃ nb, wz.heap.size = nb := ⟨_, rfl⟩
      rw [hnb] at d0 RE
      have RSF : ∀ (W : World) (a : Addr), (store a (.func (.func 123) #[.pointer (some ⟨lb, 0, none⟩)] #[])).run Tryz.prog W = Go.stored Tryz.prog W a (.func (.func 123) #[.pointer (some ⟨lb, 0, none⟩)] #[]) _ := fun W a => run_store Tryz.prog W a _ _ rfl
      clear bE rE
      go_wp2_with fail
      go_loopw [17] (fun iv wy => ∃ m : Nat, m ≤ rn ∧ iv = .int .i64 (m : Nat) ∧ (∀ q, q < m → ruF V 6 q = true) ∧ Below E.heap.size E wy) (fun iv _ => rn - lenW iv)
      case atStart => exact ⟨0, Nat.zero_le _, rfl, fun q hq => by omega, by first | exact Below.refl _ _ | (rw [← hE]; exact Below.refl _ _)⟩
      case round =>
        obtain ⟨m, hm, rfl, hq, hb⟩ := hrel
        rename World => wy
        have HM : Hid (∀ q, q < m → ruF V 6 q = true) := hq
        have BY : Hid (Below E.heap.size E wy) := hb
        have LY : Hid (Lk wy lb ms mi V A nf nr f) := (L1.out.keep BE.out).keep BY.out
        have f1 : wy.cell? ⟨nb, 1, none⟩ = some (.func (.func 123) #[.pointer (some ⟨lb, 0, none⟩)] #[]) := bcell BY.out (cell_of_row _ _ 1 _ _ _ RE.out)
        clear hq hb
        by_cases hml : m < rn
        · have HI : Hid (m < ruN V 6) := by show m < _; rw [RN.out]; exact hml
          have m0 : (m : Int) < (rn : Int) := by omega
          obtain ⟨r, hr⟩ : ∃ r, ruF V 6 m = r := ⟨_, rfl⟩
          have HR : Hid (ruF V 6 m = r) := hr
          clear hr
          cases r with
          | false =>
            have FC : Hid (ChkR V 7 (m : Int)) := .inr ⟨6, m, by decide, HI.out, by decide, rfl, HR.out, HM.out, HH.out⟩
            have RF : Hid (∀ w', Below wy.heap.size wy w' → Below w.heap.size w w') := fun w' b' => B1.out.trans ((BE.out.trans ((BY.out.trans (b'.mono BY.out.size)).mono BE.out.size)).mono B1.out.size)
            go_wp2_with (go_at_call 123; refine (fieldsLead_any lb ms mi V A nf nr f m _ LY.out HI.out (HH.out.mono (by decide)) false HR.out).mono ?_; rintro e w2 ⟨rfl, b2⟩; have B2 : Hid (Below w.heap.size w w2) := RF.out w2 b2; clear b2)
            go_ret2
            exact ⟨_, _, rfl, FC.out, B2.out⟩
          | true =>
            have NX : Hid (∀ q, q < m + 1 → ruF V 6 q = true) := fun q hq => by
              rcases Nat.lt_or_eq_of_le (Nat.le_of_lt_succ hq) with e | rfl
              · exact HM.out q e
              · exact HR.out
            go_wp2_with (go_at_call 123; refine (fieldsLead_any lb ms mi V A nf nr f m _ LY.out HI.out (HH.out.mono (by decide)) true HR.out).mono ?_; rintro e w2 ⟨rfl, b2⟩; have B2 : Hid (Below E.heap.size E w2) := BY.out.trans (b2.mono BY.out.size); clear b2)
            go_roundw
            case rel => exact ⟨m + 1, by omega, by congr 1, NX.out, B2.out⟩
            case measure => simp [lenW]; omega
        · obtain rfl : m = rn := by omega
          have NH : Hid (Hold V 7) := HH.out.next (fun q hq => HM.out q (by rw [RN.out] at hq; exact hq))
          have B2 : Hid (Below w1.heap.size w1 wy) := BE.out.trans (BY.out.mono BE.out.size)
          go_wp2
          go_roundw
          case rel => exact ⟨7, by decide, rfl, NH.out, B2.out⟩
          case measure => simp [lenW]
    · obtain rfl : y = 7 := by omega
      obtain rfl : k = 0 := by omega
      clear hy
      have F0 : Hid (ChkR V 0 0) := .inl ⟨rfl, rfl, HH.out⟩
      have B2 : Hid (Below w.heap.size w wz) := B1.out.trans (BZ.out.mono B1.out.size)
      go_wp2
      go_ret2
      exact ⟨_, _, rfl, F0.out, B2.out⟩
end Go.Proofs.YtbfamjnnlcopiaaGreatDoor
