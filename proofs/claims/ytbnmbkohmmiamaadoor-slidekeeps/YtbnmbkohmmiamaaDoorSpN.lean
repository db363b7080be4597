/- The span that data tell: takeAll, Of. -/
import Derived.Test.YtbnmbkohmmiamaaDoorSpV
namespace Go.Proofs.YtbnmbkohmmiamaaDoor
open Go.RowKit
set_option linter.unusedVariables false

/-- A span on which a law goes on: its blocks are none that stood at the beginning. -/
structure Spn (w wr : World) (sb b g : Nat) (p c s : Int) (f : Nat → Bool) : Prop where
  at' : SpanAt wr sb b g p c s f
  low : Below w.heap.size w wr
  gs : w.heap.size ≤ sb
  gb : w.heap.size ≤ b
  gg : w.heap.size ≤ g
theorem Spn.next {w wr w' : World} {sb b g : Nat} {p c s : Int} {f f' : Nat → Bool} (h : Spn w wr sb b g p c s f) (hs : SpanAt w' sb b g p c s f') (ho : Only g wr w') : Spn w w' sb b g p c s f' :=
  ⟨hs, h.low.trans (ho.below h.gg), h.gs, h.gb, h.gg⟩
theorem Spn.keep {w wr w' : World} {sb b g : Nat} {p c s : Int} {f : Nat → Bool} (h : Spn w wr sb b g p c s f) (hb : Below wr.heap.size wr w') : Spn w w' sb b g p c s f :=
  ⟨h.at'.keep hb, h.low.trans (hb.mono h.low.size), h.gs, h.gb, h.gg⟩
theorem Spn.drew {w wr : World} {sb b g : Nat} {p c s : Int} {f : Nat → Bool} (h : Spn w wr sb b g p c s f) : Spn w wr.drew sb b g p c s f := ⟨h.at'.drew, Below.toDrew h.low, h.gs, h.gb, h.gg⟩
/-- The same, told of a beginning further back. -/
theorem Spn.back {w v wr : World} {sb b g : Nat} {p c s : Int} {f : Nat → Bool} (h : Spn v wr sb b g p c s f) (hb : Below w.heap.size w v) : Spn w wr sb b g p c s f :=
  ⟨h.at', hb.trans (h.low.mono hb.size), Nat.le_trans hb.size h.gs, Nat.le_trans hb.size h.gb, Nat.le_trans hb.size h.gg⟩

/-- What takeAll leaves. -/
def TAp (w0 : World) (sb b g : Nat) (p c s : Int) (l : List Int) (r : Bool) (e : Ending) (w' : World) : Prop :=
  e = .returned (.bool r) ∧ Below w0.heap.size w0 w' ∧ (r = true → Spn w0 w' sb b g p c s (fOf l))
set_option maxRecDepth 20000 in
set_option maxHeartbeats 2000000 in
theorem takeAll_any (sb b g : Nat) (p c s : Int) (a : Option Addr) (cap : Nat) (l : List Int) (r : Bool) (w0 w : World) (hI : IsI w0 a l) (hm : l.length ≤ maxLen) (h : Spn w0 w sb b g p c s (fun _ => false)) (hr : okL (slN c) (-1) l = r) :
    Calls Tryd.prog 40 #[.pointer (some ⟨sb, 3, none⟩), .slice a l.length cap] w (TAp w0 sb b g p c s l r) := by
  have HI : Hid (IsI w0 a l) := hI
  have HS : Hid (Spn w0 w sb b g p c s (fOf (l.take 0))) := by show Spn _ _ _ _ _ _ _ _ _; rw [List.take_zero, fOf_nil]; exact h
  have HR : Hid (okL (slN c) (-1) l = r) := hr
  have few := h.at'.set.few
  unfold maxLen at hm
  clear hI h hr
  go_enter Tryd.func40, Tryd.ntmps40
  go_wp2
  go_loopw [5, 10] (fun lv iv wr => ∃ (k : Nat) (t : Int), k ≤ l.length ∧ iv = .int .i64 (k : Nat) ∧ lv = .int .i64 t ∧ -1 ≤ t ∧ t ≤ 9223372036854775807 ∧ (∀ i : Nat, fOf (l.take k) i = true → (i : Int) ≤ t) ∧ okL (slN c) (-1) l = okL (slN c) t (l.drop k) ∧ Spn w0 wr sb b g p c s (fOf (l.take k))) (fun _ iv _ => l.length - (intOf iv).toNat)
  case atStart => exact ⟨0, -1, Nat.zero_le _, rfl, rfl, by omega, by omega, fun i hi => by simp [fOf] at hi, rfl, HS.out⟩
  case round =>
    clear HS
    obtain ⟨k, t, hk, rfl, rfl, t0, t1, hA, hO, hS⟩ := hrel
    rename World => wr
    have HA : Hid (∀ i : Nat, fOf (l.take k) i = true → (i : Int) ≤ t) := hA
    have HO : Hid (okL (slN c) (-1) l = okL (slN c) t (l.drop k)) := hO
    have HS : Hid (Spn w0 wr sb b g p c s (fOf (l.take k))) := hS
    have b3 := hS.at'.at3
    clear hA hO hS
    by_cases hlt : k < l.length
    · obtain ⟨hin, h0 | ⟨ba, off, rfl, hba, hc⟩⟩ := HI.out
      · rw [h0] at hlt; simp at hlt
      have hcell := (HS.out.low.cell (p := ⟨ba, off + k, none⟩) hba).trans (hc k hlt)
      have hxb := AllI.at (show AllI l from hin) k
      have ST : Hid (okL (slN c) t (l.drop k) = (decide (t < l.getD k 0 ∧ l.getD k 0 < (slN c : Int)) && okL (slN c) (l.getD k 0) (l.drop (k + 1)))) := okL_step (slN c) t l k hlt
      have FM : Hid (0 ≤ l.getD k 0 → (fun x => if x = (l.getD k 0).toNat then true else fOf (l.take k) x) = fOf (l.take (k + 1))) := fun h0 => fOf_more l k hlt h0
      obtain ⟨x, hx⟩ : ∃ x, l.getD k 0 = x := ⟨_, rfl⟩
      rw [hx] at hcell hxb ST FM
      clear hx hc hin hba
      by_cases hle : x ≤ t
      · have E : Hid (r = false) := by show _ = _; rw [← HR.out, HO.out, ST.out, decide_eq_false (by omega), Bool.false_and]
        go_wp2
        go_ret
        exact ⟨ret_bool E.out.symm, HS.out.low, fun h => by rw [E.out] at h; cases h⟩
      · by_cases hn : x < (slN c : Int)
        · obtain ⟨j, rfl⟩ : ∃ j : Nat, x = j := ⟨x.toNat, by omega⟩
          have hp : isP (slN c) (j : Int) = true := isP_true.2 (by omega)
          have hfj : fOf (l.take k) j = false := by
            cases hf : fOf (l.take k) j
            · rfl
            · have := HA.out j hf; omega
          have P : Hid ((isP (slN c) (j : Int) && !fOf (l.take k) (Int.toNat (j : Int))) = true) := by show _ = _; rw [hp, Int.toNat_natCast, hfj]; rfl
          have T : Hid (turn (slN c) (fOf (l.take k)) (j : Int) true = fOf (l.take (k + 1))) := by
            show _ = _
            rw [← FM.out (by omega)]
            funext y; rw [← turn_put hp y]; rfl
          have NA : Hid (∀ i : Nat, fOf (l.take (k + 1)) i = true → (i : Int) ≤ (j : Int)) := fun i hi => by
            rw [← FM.out (by omega)] at hi
            by_cases e : i = j
            · omega
            · have hi : (if i = (Int.toNat (j : Int)) then true else fOf (l.take k) i) = true := hi
              rw [if_neg (by simpa using e)] at hi
              have := HA.out i hi
              omega
          have NO : Hid (okL (slN c) (-1) l = okL (slN c) (j : Int) (l.drop (k + 1))) := by show _ = _; rw [HO.out, ST.out, decide_eq_true (by omega), Bool.true_and]
          have hji : (j : Int) ≤ 65536 := by omega
          clear hp hfj
          go_wp2_with (go_at_call 58; refine (sadd_any b g (slN c) (fOf (l.take k)) (j : Int) wr HS.out.at'.set).mono ?_; rw [P.out, T.out]; rintro e w1 ⟨rfl, s1, o1⟩; have S1 : Hid (Spn w0 w1 sb b g p c s (fOf (l.take (k + 1)))) := HS.out.next (HS.out.at'.turned s1 o1) o1; clear s1 o1)
          go_roundw
          case rel => exact ⟨k + 1, (j : Int), by omega, by go_num, rfl, by omega, by omega, NA.out, NO.out, S1.out⟩
          case measure => simp [intOf]; omega
        · have hp : isP (slN c) x = false := isP_false.2 (by omega)
          have P : Hid ((isP (slN c) x && !fOf (l.take k) (Int.toNat x)) = false) := by show _ = _; rw [hp]; rfl
          have E : Hid (r = false) := by show _ = _; rw [← HR.out, HO.out, ST.out, decide_eq_false (by omega), Bool.false_and]
          clear hp
          go_wp2_with (go_at_call 58; refine (sadd_any b g (slN c) (fOf (l.take k)) x wr HS.out.at'.set).mono ?_; rw [P.out]; rintro e w1 ⟨rfl, s1, o1⟩; have B1 : Hid (Below w0.heap.size w0 w1) := HS.out.low.trans (o1.below HS.out.gg); clear s1 o1)
          go_ret
          exact ⟨ret_bool E.out.symm, B1.out, fun h => by rw [E.out] at h; cases h⟩
    · obtain rfl : k = l.length := by omega
      have E : Hid (r = true) := by show _ = _; rw [← HR.out, HO.out]; exact okL_end _ _ _ _ (Nat.le_refl _)
      have F : Hid (Spn w0 wr sb b g p c s (fOf l)) := by have q := HS.out; rw [List.take_length] at q; exact q
      go_wp2
      go_ret
      exact ⟨ret_bool E.out.symm, F.out.low, fun _ => F.out⟩

theorem of_bad (p c s : Int) (a : Option Addr) (n cap : Nat) (w : World) (hT : Tabs w) (hp : -9223372036854775808 ≤ p ∧ p ≤ 9223372036854775807) (x : Int) (hx : newE p c s = x) (h0 : x ≠ 0) :
    Calls Tryd.prog 20 #[.agg #[.int .i64 p, .int .i64 c, .int .i64 s, .slice a n cap]] w fun e w' => e = .returned (.tuple #[.pointer none, .int .i64 x]) ∧ Below w.heap.size w w' := by
  obtain ⟨D, hD, zD, rD, bD⟩ := dbox w p c s a n cap
  have HD : Hid (w.alloc (.cells #[.int .i64 p, .int .i64 c, .int .i64 s, .slice a n cap] 46) = D) := hD
  have BD : Hid (Below w.heap.size w D) := bD
  have TD : Hid (Tabs D) := hT.keep bD
  have c0 := dcell0 rD
  have c1 := dcell1 rD
  have c2 := dcell2 rD
  have HX : Hid (newE p c s = x) := hx
  have hne : (x == 0) = false := beq_eq_false_iff_ne.2 h0
  have hne' : (x != 0) = true := by rw [bne, hne]; rfl
  clear hD zD rD bD hT hx
  go_enter Tryd.func20, Tryd.ntmps20
  go_upto_region 1 with (fail)
  rw [HD.out]
  go_wp2_with (go_at_call 39; refine (new_bad p c s D TD.out hp x HX.out h0).mono ?_; rintro e w1 ⟨rfl, b1⟩; have B1 : Hid (Below w.heap.size w w1) := BD.out.trans (b1.mono BD.out.size); clear b1)
  go_ret2
  exact ⟨rfl, B1.out⟩

set_option maxRecDepth 20000 in
set_option maxHeartbeats 2000000 in
theorem of_form (p c s : Int) (a : Option Addr) (cap : Nat) (l : List Int) (w : World) (hT : Tabs w) (hI : IsI w a l) (hm : l.length ≤ maxLen) (hx : newE p c s = 0) (hl : okL (slN c) (-1) l = false) :
    Calls Tryd.prog 20 #[.agg #[.int .i64 p, .int .i64 c, .int .i64 s, .slice a l.length cap]] w fun e w' => e = .returned (.tuple #[.pointer none, .int .i64 4]) ∧ Below w.heap.size w w' := by
  obtain ⟨D, hD, zD, rD, bD⟩ := dbox w p c s a l.length cap
  have HD : Hid (w.alloc (.cells #[.int .i64 p, .int .i64 c, .int .i64 s, .slice a l.length cap] 46) = D) := hD
  have BD : Hid (Below w.heap.size w D) := bD
  have TD : Hid (Tabs D) := hT.keep bD
  have ID : Hid (IsI D a l) := hI.keep bD
  have RT : Hid (Rt p c s) := newE_rt hx
  have c0 := dcell0 rD
  have c1 := dcell1 rD
  have c2 := dcell2 rD
  have c3 := dcell3 rD
  have HX : Hid (newE p c s = 0) := hx
  have HL : Hid (okL (slN c) (-1) l = false) := hl
  have LT : Hid (w.heap.size < D.heap.size) := by show w.heap.size < D.heap.size; omega
  clear hD zD rD bD hT hx hI hl
  go_enter Tryd.func20, Tryd.ntmps20
  go_upto_region 1 with (fail)
  rw [HD.out]
  go_wp2_with (go_at_call 39; refine (new_ok p c s D TD.out RT.out HX.out).mono ?_; rintro e w1 ⟨sb, b, g, rfl, s1, b1, g1, g2, g3⟩; have S1 : Hid (Spn D w1 sb b g p c s (fun _ => false)) := ⟨s1, b1, g1, g2, g3⟩; have B1 : Hid (Below w.heap.size w w1) := BD.out.trans (b1.mono BD.out.size); have d3 := bcell b1 c3; clear s1 b1 g1 g2 g3)
  go_region_held3 (fun w' => w'.cell? ⟨w.heap.size, 3, none⟩ = some (.slice a l.length cap)) (first | exact e3 | exact d3)
    ((go_at_call 40; refine (takeAll_any sb b g p c s a cap l false D _ ID.out hm S1.out.drew HL.out).mono ?_; rintro e w2 ⟨rfl, b2, _⟩; have B2 : Hid (Below w.heap.size w w2) := BD.out.trans (b2.mono BD.out.size); have e3 := bcell b2 c3; clear b2))
  go_wp2
  go_ret2
  exact ⟨rfl, B2.out⟩

set_option maxRecDepth 20000 in
set_option maxHeartbeats 2000000 in
theorem of_ok (p c s : Int) (a : Option Addr) (cap : Nat) (l : List Int) (w : World) (hT : Tabs w) (hI : IsI w a l) (hm : l.length ≤ maxLen) (hx : newE p c s = 0) (hl : okL (slN c) (-1) l = true) :
    Calls Tryd.prog 20 #[.agg #[.int .i64 p, .int .i64 c, .int .i64 s, .slice a l.length cap]] w fun e w' => ∃ sb b g, e = .returned (.tuple #[.pointer (some ⟨sb, 0, none⟩), .int .i64 0]) ∧ Spn w w' sb b g p c s (fOf l) := by
  obtain ⟨D, hD, zD, rD, bD⟩ := dbox w p c s a l.length cap
  have HD : Hid (w.alloc (.cells #[.int .i64 p, .int .i64 c, .int .i64 s, .slice a l.length cap] 46) = D) := hD
  have BD : Hid (Below w.heap.size w D) := bD
  have TD : Hid (Tabs D) := hT.keep bD
  have ID : Hid (IsI D a l) := hI.keep bD
  have RT : Hid (Rt p c s) := newE_rt hx
  have c0 := dcell0 rD
  have c1 := dcell1 rD
  have c2 := dcell2 rD
  have c3 := dcell3 rD
  have HX : Hid (newE p c s = 0) := hx
  have HL : Hid (okL (slN c) (-1) l = true) := hl
  clear hD zD rD bD hT hx hI hl
  go_enter Tryd.func20, Tryd.ntmps20
  go_upto_region 1 with (fail)
  rw [HD.out]
  go_wp2_with (go_at_call 39; refine (new_ok p c s D TD.out RT.out HX.out).mono ?_; rintro e w1 ⟨sb, b, g, rfl, s1, b1, g1, g2, g3⟩; have S1 : Hid (Spn D w1 sb b g p c s (fun _ => false)) := ⟨s1, b1, g1, g2, g3⟩; have d3 := bcell b1 c3; clear s1 b1 g1 g2 g3)
  go_region_held3 (fun w' => w'.cell? ⟨w.heap.size, 3, none⟩ = some (.slice a l.length cap)) (first | exact e3 | exact d3)
    ((go_at_call 40; refine (takeAll_any sb b g p c s a cap l true D _ ID.out hm S1.out.drew HL.out).mono ?_; rintro e w2 ⟨rfl, b2, s2⟩; have S2 : Hid (Spn w w2 sb b g p c s (fOf l)) := (s2 rfl).back BD.out; have e3 := bcell b2 c3; clear b2 s2))
  go_wp2
  go_ret2
  exact ⟨sb, b, g, rfl, S2.out⟩
end Go.Proofs.YtbnmbkohmmiamaaDoor
