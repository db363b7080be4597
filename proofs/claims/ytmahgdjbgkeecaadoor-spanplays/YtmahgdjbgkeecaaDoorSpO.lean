/- The span that data tell, by the document: its Of. -/
import Derived.Test.YtmahgdjbgkeecaaDoorSpM
import Derived.Test.YtmahgdjbgkeecaaDoorSpW
namespace Go.Proofs.YtmahgdjbgkeecaaDoor
open Go.RowKit
set_option linter.unusedVariables false

theorem rof_bad (p c s : Int) (a : Option Addr) (n cap : Nat) (x : Int) (w : World) (hx : newE p c s = x) (h0 : x ≠ 0) :
    Calls Tryd.prog 11 #[.agg #[.int .i64 p, .int .i64 c, .int .i64 s, .slice a n cap]] w fun e w' => e = .returned (.tuple #[.pointer none, .int .i64 x]) ∧ Below w.heap.size w w' := by
  obtain ⟨D, hD, zD, rD, bD⟩ := dbox w p c s a n cap
  have HD : Hid (w.alloc (.cells #[.int .i64 p, .int .i64 c, .int .i64 s, .slice a n cap] 24) = D) := hD
  have BD : Hid (Below w.heap.size w D) := bD
  have c0 := dcell0 rD
  have c1 := dcell1 rD
  have c2 := dcell2 rD
  have HX : Hid (newE p c s = x) := hx
  have hne : (x == 0) = false := beq_eq_false_iff_ne.2 h0
  have hne' : (x != 0) = true := by rw [bne, hne]; rfl
  clear hD zD rD bD hx
  go_enter Tryd.func11, Tryd.ntmps11
  go_upto_region 1 with (fail)
  rw [HD.out]
  go_wp2_with (go_at_call 26; refine (rnew_bad p c s x D HX.out h0).mono ?_; rintro e w' ⟨rfl, rfl⟩)
  go_ret2
  exact ⟨rfl, BD.out⟩

/-- What the document's Of leaves. -/
def ROp (w : World) (p c s : Int) (n : Nat) (l : List Int) (r : Bool) (e : Ending) (w' : World) : Prop :=
  Below w.heap.size w w' ∧ ((r = false ∧ e = .returned (.tuple #[.pointer none, .int .i64 4])) ∨ (r = true ∧ ∃ mb mg, e = .returned (.tuple #[.pointer (some ⟨mb, 0, none⟩), .int .i64 0]) ∧ Ref w' mb mg p c s n (fOf l) ∧ w.heap.size ≤ mb ∧ w.heap.size ≤ mg))

set_option maxRecDepth 20000 in
set_option maxHeartbeats 4000000 in
theorem rof_any (p c s : Int) (a : Option Addr) (cap : Nat) (l : List Int) (n : Nat) (r : Bool) (w : World) (hI : IsI w a l) (hm : l.length ≤ maxLen) (hx : newE p c s = 0) (hn : slN c = n) (hr : okL n (-1) l = r) :
    Calls Tryd.prog 11 #[.agg #[.int .i64 p, .int .i64 c, .int .i64 s, .slice a l.length cap]] w (ROp w p c s n l r) := by
  obtain ⟨D, hD, zD, rD, bD⟩ := dbox w p c s a l.length cap
  have HD : Hid (w.alloc (.cells #[.int .i64 p, .int .i64 c, .int .i64 s, .slice a l.length cap] 24) = D) := hD
  have BD : Hid (Below w.heap.size w D) := bD
  have RD : Hid (D.heap[w.heap.size]? = some (.cells (dcells p c s a l.length cap) 24 (0, 0))) := rD
  have ID : Hid (IsI D a l) := hI.keep bD
  have RT : Hid (Rt p c s) := newE_rt hx
  have n16 : n ≤ 16 := by have := RT.out.facts.2.1; omega
  have c0 := dcell0 rD
  have c1 := dcell1 rD
  have c2 := dcell2 rD
  have HN : Hid (slN c = n) := hn
  have HR : Hid (okL n (-1) l = r) := hr
  unfold maxLen at hm
  clear hD zD rD bD hx hn hr hI
  go_enter Tryd.func11, Tryd.ntmps11
  go_upto_region 1 with (fail)
  rw [HD.out]
  go_wp2_with fail
  refine (rnew_ok p c s n D RT.out HN.out).mono ?_
  rintro e w1 ⟨mb, mg, rfl, r1, b1, g1, g2⟩
  have R1 : Hid (Ref w1 mb mg p c s n (fOf (l.take 0))) := by show Ref _ _ _ _ _ _ _ _; rw [List.take_zero, fOf_nil]; exact r1
  have B1 : Hid (Below D.heap.size D w1) := b1
  have d3 := bcell b1 (dcell3 RD.out)
  clear r1 b1 c0 c1 c2
  go_wp2
  go_loopw [24] (fun iv wr => ∃ (k : Nat) (t : Int), k ≤ l.length ∧ iv = .int .i64 (k : Nat) ∧ t = prevI l k ∧ -1 ≤ t ∧ okL n (-1) l = okL n t (l.drop k) ∧ Ref wr mb mg p c s n (fOf (l.take k)) ∧ Below D.heap.size D wr) (fun iv _ => l.length - (intOf iv).toNat)
  case atStart => exact ⟨0, -1, Nat.zero_le _, rfl, rfl, by omega, rfl, R1.out, B1.out⟩
  case round =>
    clear R1 B1 d3
    obtain ⟨k, t, hk, rfl, ht, t0, hO, hRf, hBl⟩ := hrel
    rename World => wr
    have HTt : Hid (t = prevI l k) := ht
    have HO : Hid (okL n (-1) l = okL n t (l.drop k)) := hO
    have RF : Hid (Ref wr mb mg p c s n (fOf (l.take k))) := hRf
    have BL : Hid (Below D.heap.size D wr) := hBl
    have BW : Hid (Below w.heap.size w wr) := BD.out.trans (hBl.mono BD.out.size)
    have d3 := bcell hBl (dcell3 RD.out)
    have m3 := hRf.c3
    clear ht hO hRf hBl
    by_cases hlt : k < l.length
    · obtain ⟨hin, h0 | ⟨ba, off, rfl, hba, hc⟩⟩ := ID.out
      · rw [h0] at hlt; simp at hlt
      have hcell := (BL.out.cell (p := ⟨ba, off + k, none⟩) hba).trans (hc k hlt)
      have hxb := AllI.at (show AllI l from hin) k
      have ST : Hid (okL n t (l.drop k) = (decide (t < l.getD k 0 ∧ l.getD k 0 < (n : Int)) && okL n (l.getD k 0) (l.drop (k + 1)))) := okL_step n t l k hlt
      have FM : Hid (0 ≤ l.getD k 0 → (fun x => if x = (l.getD k 0).toNat then true else fOf (l.take k) x) = fOf (l.take (k + 1))) := fun h0 => fOf_more l k hlt h0
      have PV : Hid (prevI l (k + 1) = l.getD k 0) := prevI_succ l k
      obtain ⟨x, hx⟩ : ∃ x, l.getD k 0 = x := ⟨_, rfl⟩
      rw [hx] at hcell hxb ST FM PV
      have BAD : Hid (¬ (t < x ∧ x < (n : Int)) → r = false) := fun h => by rw [← HR.out, HO.out, ST.out, decide_eq_false h, Bool.false_and]
      have HC : Hid (∀ i, i < l.length → D.cell? ⟨ba, off + i, none⟩ = some (.int .i64 (l.getD i 0))) := hc
      clear hx hc hin
      by_cases hx0 : x < 0
      · have E : Hid (r = false) := BAD.out (by omega)
        go_wp2
        go_ret2
        exact ⟨BW.out, .inl ⟨E.out, rfl⟩⟩
      · by_cases hxn : (n : Int) ≤ x
        · have E : Hid (r = false) := BAD.out (by omega)
          go_wp2
          go_ret2
          exact ⟨BW.out, .inl ⟨E.out, rfl⟩⟩
        · obtain ⟨j, rfl⟩ : ∃ j : Nat, x = j := ⟨x.toNat, by omega⟩
          have hjn : j < n := by omega
          have mj := RF.out.cell j hjn
          have mz := RF.out.thawed j
          have RS : Hid (Ref (wr.setCell ⟨mg, j, none⟩ (.bool true)) mb mg p c s n (fOf (l.take (k + 1)))) := by
            have q := RF.out.set j true
            have e : put (fOf (l.take k)) j true = fOf (l.take (k + 1)) := by rw [← FM.out (by omega)]; rfl
            rw [e] at q
            exact q
          have BS : Hid (Below D.heap.size D (wr.setCell ⟨mg, j, none⟩ (.bool true))) := BL.out.setCell g2 _
          by_cases hk0 : k = 0
          · have NO : Hid (okL n (-1) l = okL n (j : Int) (l.drop (k + 1))) := by
              show _ = _
              have e : t = -1 := by rw [HTt.out, hk0]; rfl
              rw [HO.out, ST.out, decide_eq_true (by omega), Bool.true_and]
            have g0 : ¬ (0 : Int) < (k : Int) := by omega
            clear hk0
            go_wp2
            go_roundw
            case rel => exact ⟨k + 1, (j : Int), by omega, by go_num, PV.out.symm, by omega, NO.out, RS.out, BS.out⟩
            case measure => simp [intOf]; omega
          · obtain ⟨i, hi⟩ : ∃ i : Nat, k = i + 1 := ⟨k - 1, by omega⟩
            have hcell2 := (BL.out.cell (p := ⟨ba, off + i, none⟩) hba).trans (HC.out i (by omega))
            have PT : Hid (t = l.getD i 0) := by show _ = _; rw [HTt.out, hi]; exact prevI_succ l i
            rw [← PT.out] at hcell2
            have g0 : (0 : Int) < (k : Int) := by omega
            have gi : (k : Int) - 1 = (i : Int) := by omega
            have gl : i < l.length := by omega
            have GH : Hid (k = i + 1) := hi
            clear hi hk0
            by_cases hle : (j : Int) ≤ t
            · have E : Hid (r = false) := BAD.out (by omega)
              go_wp2
              go_ret2
              exact ⟨BW.out, .inl ⟨E.out, rfl⟩⟩
            · have NO : Hid (okL n (-1) l = okL n (j : Int) (l.drop (k + 1))) := by
                show _ = _
                rw [HO.out, ST.out, decide_eq_true (by omega), Bool.true_and]
              go_wp2
              go_roundw
              case rel => exact ⟨k + 1, (j : Int), by omega, by go_num, PV.out.symm, by omega, NO.out, RS.out, BS.out⟩
              case measure => simp [intOf]; omega
    · obtain rfl : k = l.length := by omega
      have E : Hid (r = true) := by show _ = _; rw [← HR.out, HO.out]; exact okL_end _ _ _ _ (Nat.le_refl _)
      have F : Hid (Ref wr mb mg p c s n (fOf l)) := by have q := RF.out; rw [List.take_length] at q; exact q
      have Z : Hid (w.heap.size ≤ D.heap.size) := BD.out.size
      go_wp2
      go_ret2
      exact ⟨BW.out, .inr ⟨E.out, mb, mg, rfl, F.out, Nat.le_trans Z.out g1, Nat.le_trans Z.out g2⟩⟩
end Go.Proofs.YtmahgdjbgkeecaaDoor
