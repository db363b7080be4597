/- The walk of KindChecks. -/
import Derived.Test.YtkcnanpojnbepaaKdK
import Derived.Test.YtkcnanpojnbepaaKdH
import Derived.Test.YtkcnanpojnbepaaKdM
namespace Go.Proofs.Ytkcnanpojnbepaa
open Go.RowKit
set_option linter.unusedVariables false

/-- A kind in a new box. -/
theorem newbox {w D : World} {s : Int} {a : Option Addr} {n c : Nat} (h : w.alloc (.cells #[.int .i64 s, .slice a n c] 24) = D) : D.cell? ⟨w.heap.size, 0, none⟩ = some (.int .i64 s) ∧ D.cell? ⟨w.heap.size, 1, none⟩ = some (.slice a n c) ∧ Below w.heap.size w D := by
  subst h
  obtain ⟨h1, h2⟩ := box_cells w s a n c
  exact ⟨h1, h2, box_below w s a n c⟩

set_option maxRecDepth 20000 in
set_option maxHeartbeats 4000000 in
theorem kindChecks_any (s : Int) (a : Option Addr) (c : Nat) (ps : List Int) (w : World) (hI : IsI w a ps) (hnil : a = none → ps = [] ∧ c = 0) (hm : ps.length ≤ maxLen) (hlen : ps.length ≤ 17592186044416) :
    Calls Try.prog 3 #[.agg #[.int .i64 s, .slice a ps.length c]] w fun e w' => e = .returned (.bool true) ∧ Below w.heap.size w w' := by
  have HI : Hid (IsI w a ps) := hI
  have HN : Hid (a = none → ps = [] ∧ c = 0) := hnil
  have HM : Hid (ps.length ≤ maxLen) := hm
  have B0 : Hid (Below w.heap.size w (w.alloc (.cells #[.int .i64 s, .slice a ps.length c] 24))) := box_below w s a _ c
  obtain ⟨q0, q1⟩ := box_cells w s a ps.length c
  have Q0 : Hid _ := q0
  have Q1 : Hid _ := q1
  obtain ⟨r, hr⟩ : ∃ r, checkK s ps = r := ⟨_, rfl⟩
  have ER : Hid (checkK s ps = r) := hr
  clear hI hnil q0 q1 hr hm
  go_enter Try.func3, Try.ntmps3
  go_wp2_with fail
  refine (alive_any _).mono ?_
  rintro e w1 ⟨rfl, b1⟩
  have c0 := bcellK b1 Q0.out
  have c1 := bcellK b1 Q1.out
  have B1 : Hid (Below w.heap.size w w1) := B0.out.trans (b1.mono B0.out.size)
  clear b1
  go_wp2_with fail
  refine (kcopy_any s a c _ ps _ rfl (HI.out.keep B1.out) HN.out hlen).mono ?_
  rintro e w2 ⟨a2, c2, rfl, o2, b2⟩
  have O2 : Hid (OwnsI w2 w1.heap.size a2 ps c2) := o2
  have B2 : Hid (Below w.heap.size w w2) := B1.out.trans (b2.mono B1.out.size)
  have d0 := bcellK b2 c0
  have d1 := bcellK b2 c1
  clear o2 b2 c0 c1
  go_upto_region 4 with (fail)
  obtain ⟨D, hD⟩ : ∃ D, w2.alloc (.cells #[.int .i64 s, .slice a2 ps.length c2] 24) = D := ⟨_, rfl⟩
  obtain ⟨i0, i1, b3⟩ := newbox hD
  have k0 := bcellK b3 d0
  have k1 := bcellK b3 d1
  have I2 : Hid (IsI D a2 ps) := (ownsI_isI HI.out.1 O2.out).keep b3
  have B3 : Hid (Below w.heap.size w D) := B2.out.trans (b3.mono B2.out.size)
  have I1 : Hid (IsI D a ps) := HI.out.keep B3.out
  rw [hD]
  have e00 : (r == r) = true := beq_self_eq_true r
  clear b3 d0 d1 hD
  go_region_held3 (fun w' => w'.cell? ⟨w2.heap.size, 0, none⟩ = some (.int .i64 s) ∧ w'.cell? ⟨w2.heap.size, 1, none⟩ = some (.slice a2 ps.length c2) ∧ w'.cell? ⟨w.heap.size, 0, none⟩ = some (.int .i64 s) ∧ w'.cell? ⟨w.heap.size, 1, none⟩ = some (.slice a ps.length c)) (first | assumption | exact ⟨by assumption, by assumption, by assumption, by assumption⟩ | go_keep)
    (first
      | (go_at_call 11; refine (check_is s a2 c2 _ ps r _ rfl ER.out (by first | exact I2.out.keep BR.out | exact I2.out.drew) HM.out).mono ?_; rintro e wC ⟨rfl, bC⟩; have BC : Hid (Below D.heap.size D wC) := (by first | exact BR.out.trans (bC.mono BR.out.size) | exact Below.ofDrew bC); have p0 := bcellK BC.out i0; have p1 := bcellK BC.out i1; have p2 := bcellK BC.out k0; have p3 := bcellK BC.out k1; clear bC)
      | (go_at_call 12; refine (rcheck_is s a c _ ps r _ rfl ER.out (by first | exact I1.out.keep BC.out | exact I1.out.drew) HM.out).mono ?_; rintro e wR ⟨rfl, bR⟩; have BR : Hid (Below D.heap.size D wR) := (by first | exact BC.out.trans (bR.mono BC.out.size) | exact Below.ofDrew bR); have r0 := bcellK BR.out i0; have r1 := bcellK BR.out i1; have r2 := bcellK BR.out k0; have r3 := bcellK BR.out k1; clear bR)
      | (go_at_call 13; refine (ksame_true s a2 a _ _ c2 c ps _ (by first | exact I2.out.keep BR.out | exact I2.out.keep BC.out) (by first | exact I1.out.keep BR.out | exact I1.out.keep BC.out) rfl rfl HM.out).mono ?_; rintro e wS ⟨rfl, bS⟩; have BS : Hid (Below D.heap.size D wS) := (by first | exact BR.out.trans (bS.mono BR.out.size) | exact BC.out.trans (bS.mono BC.out.size)); have s0 := bcellK BS.out i0; have s1 := bcellK BS.out i1; have s2 := bcellK BS.out k0; have s3 := bcellK BS.out k1; clear bS))
  all_goals
    go_wp2
    go_ret
    exact ⟨rfl, B3.out.trans (BS.out.mono B3.out.size)⟩
end Go.Proofs.Ytkcnanpojnbepaa
