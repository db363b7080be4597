/- The walk of KindPlain. -/
import Derived.Test.YtkcnanpojnbepaaKdK
import Derived.Test.YtkcnanpojnbepaaKdH
import Derived.Test.YtkcnanpojnbepaaKdL
namespace Go.Proofs.Ytkcnanpojnbepaa
open Go.RowKit
set_option linter.unusedVariables false

theorem field_is (s : Int) (a : Option Addr) (c k : Nat) (ps : List Int) (i v : Int) (ok : Bool) (w : World) (hk : k = ps.length) (hv : fieldV s ps i = (v, ok)) (hI : IsI w a ps) (hm : ps.length ≤ maxLen) (hi : -9223372036854775808 ≤ i ∧ i ≤ 9223372036854775807) :
    Calls Try.prog 14 #[.agg #[.int .i64 s, .slice a k c], .int .i64 i] w fun e w' => e = .returned (.tuple #[.int .i64 v, .bool ok]) ∧ Below w.heap.size w w' := by
  subst hk
  have := field_any s a c ps i w hI hm hi
  rw [hv] at this
  exact this

set_option maxRecDepth 20000 in
set_option maxHeartbeats 4000000 in
theorem kindPlain_yes (s : Int) (a : Option Addr) (c : Nat) (ps : List Int) (x : Int) (k : Nat) (w : World) (hI : IsI w a ps) (hm : ps.length ≤ maxLen) (hx : -9223372036854775808 ≤ x ∧ x ≤ 9223372036854775807) (hn : -9223372036854775808 ≤ ((k : Nat) : Int) ∧ ((k : Nat) : Int) ≤ 9223372036854775807) (hr : checkK s ps = 0) (hk : k < ps.length) :
    Calls Try.prog 4 #[.agg #[.int .i64 s, .slice a ps.length c], .int .i64 x, .int .i64 (k : Nat)] w fun e w' => e = .returned (.bool true) ∧ Below w.heap.size w w' := by
  have HI : Hid (IsI w a ps) := hI
  have HM : Hid (ps.length ≤ maxLen) := hm
  have B0 : Hid (Below w.heap.size w (w.alloc (.cells #[.int .i64 s, .slice a ps.length c] 24))) := box_below w s a _ c
  obtain ⟨q0, q1⟩ := box_cells w s a ps.length c
  have Q0 : Hid _ := q0
  have Q1 : Hid _ := q1
  obtain ⟨pl, hpl⟩ : ∃ pl, plainK s ps x (k : Nat) = pl := ⟨_, rfl⟩
  have EPL : Hid (plainK s ps x (k : Nat) = pl) := hpl
  have epl : (pl == pl) = true := beq_self_eq_true pl
  unfold maxLen at hm
  clear hI q0 q1 hpl
  have hki : (k : Int) < (ps.length : Int) := by omega
  have EV : Hid (fieldV s ps (k : Nat) = (ps.getD k 0, true)) := by show _ = _; unfold fieldV; rw [if_pos ⟨hr, by omega, hki⟩, Int.toNat_natCast]
  have ER : Hid (checkK s ps = 0) := hr
  obtain ⟨V, hV⟩ : ∃ V, ps.getD k 0 = V := ⟨_, rfl⟩
  rw [hV] at EV
  have HV : Hid (ps.getD k 0 = V) := hV
  have eV : (V == V) = true := beq_self_eq_true V
  clear hr hV
  go_enter Try.func4, Try.ntmps4
  go_wp2_with fail
  refine (alive_any _).mono ?_
  rintro e w1 ⟨rfl, b1⟩
  have c0 := bcellK b1 Q0.out
  have c1 := bcellK b1 Q1.out
  have B1 : Hid (Below w.heap.size w w1) := B0.out.trans (b1.mono B0.out.size)
  clear b1
  go_wp2_with fail
  refine (field_is s a c _ ps (k : Nat) V true _ rfl EV.out (HI.out.keep B1.out) HM.out (by omega)).mono ?_
  rintro e w2 ⟨rfl, b2⟩
  have B2 : Hid (Below w.heap.size w w2) := B1.out.trans (b2.mono B1.out.size)
  have d0 := bcellK b2 c0
  have d1 := bcellK b2 c1
  clear b2 c0 c1
  go_wp2_with fail
  refine (rcheck_is s a c _ ps 0 _ rfl ER.out (HI.out.keep B2.out) HM.out).mono ?_
  rintro e w3 ⟨rfl, b3⟩
  have B3 : Hid (Below w.heap.size w w3) := B2.out.trans (b3.mono B2.out.size)
  have k0 := bcellK b3 d0
  have k1 := bcellK b3 d1
  have I3 : Hid (IsI w3 a ps) := HI.out.keep B3.out
  clear b3 d0 d1
  obtain ⟨hin, h0 | ⟨b, off, rfl, hsz, hc⟩⟩ := I3.out
  · rw [h0] at hk; simp at hk
  have hcell := hc k hk
  rw [HV.out] at hcell
  clear hc hin hsz
  go_upto_region 7 with (fail)
  go_region_held3 (fun w' => w'.cell? ⟨w.heap.size, 0, none⟩ = some (.int .i64 s) ∧ w'.cell? ⟨w.heap.size, 1, none⟩ = some (.slice (some ⟨b, off, none⟩) ps.length c)) (first | assumption | exact ⟨by assumption, by assumption⟩ | go_keep)
    (first
      | (go_at_call 15; refine (plain_is s (some ⟨b, off, none⟩) c _ ps x (k : Nat) pl _ rfl EPL.out (by first | exact I3.out.keep BR.out | exact I3.out.drew) HM.out (by omega) (by omega)).mono ?_; rintro e wC ⟨rfl, bC⟩; have BC : Hid (Below w3.heap.size w3 wC) := (by first | exact BR.out.trans (bC.mono BR.out.size) | exact Below.ofDrew bC); have p0 := bcellK BC.out k0; have p1 := bcellK BC.out k1; clear bC)
      | (go_at_call 16; refine (rplain_is s (some ⟨b, off, none⟩) c _ ps x (k : Nat) pl _ rfl EPL.out (by first | exact I3.out.keep BC.out | exact I3.out.drew) HM.out (by omega) (by omega)).mono ?_; rintro e wR ⟨rfl, bR⟩; have BR : Hid (Below w3.heap.size w3 wR) := (by first | exact BC.out.trans (bR.mono BC.out.size) | exact Below.ofDrew bR); have r0 := bcellK BR.out k0; have r1 := bcellK BR.out k1; clear bR))
  all_goals
    go_wp2
    go_ret
    first
      | exact ⟨rfl, B3.out.trans (BR.out.mono B3.out.size)⟩
      | exact ⟨rfl, B3.out.trans (BC.out.mono B3.out.size)⟩

set_option maxRecDepth 20000 in
set_option maxHeartbeats 4000000 in
theorem kindPlain_no (s : Int) (a : Option Addr) (c : Nat) (ps : List Int) (x : Int) (n : Int) (w : World) (hI : IsI w a ps) (hm : ps.length ≤ maxLen) (hx : -9223372036854775808 ≤ x ∧ x ≤ 9223372036854775807) (hn : -9223372036854775808 ≤ n ∧ n ≤ 9223372036854775807) (h : ¬ (checkK s ps = 0 ∧ 0 ≤ n ∧ n < ps.length)) :
    Calls Try.prog 4 #[.agg #[.int .i64 s, .slice a ps.length c], .int .i64 x, .int .i64 n] w fun e w' => e = .returned (.bool true) ∧ Below w.heap.size w w' := by
  have HI : Hid (IsI w a ps) := hI
  have HM : Hid (ps.length ≤ maxLen) := hm
  have B0 : Hid (Below w.heap.size w (w.alloc (.cells #[.int .i64 s, .slice a ps.length c] 24))) := box_below w s a _ c
  obtain ⟨q0, q1⟩ := box_cells w s a ps.length c
  have Q0 : Hid _ := q0
  have Q1 : Hid _ := q1
  obtain ⟨pl, hpl⟩ : ∃ pl, plainK s ps x n = pl := ⟨_, rfl⟩
  have EPL : Hid (plainK s ps x n = pl) := hpl
  have epl : (pl == pl) = true := beq_self_eq_true pl
  unfold maxLen at hm
  clear hI q0 q1 hpl
  have EV : Hid (fieldV s ps n = (0, false)) := by show _ = _; unfold fieldV; rw [if_neg h]
  obtain ⟨r, hr⟩ : ∃ r, checkK s ps = r := ⟨_, rfl⟩
  have ER : Hid (checkK s ps = r) := hr
  rw [hr] at h
  clear hr
  have hcs : (r == 0) = false ∨ (r = 0 ∧ n < 0) ∨ (r = 0 ∧ 0 ≤ n ∧ (ps.length : Int) ≤ n) := by
    by_cases h0 : r = 0
    · exact .inr (by omega)
    · exact .inl (by rw [beq_eq_false_iff_ne]; exact h0)
  clear h
  rcases hcs with h1 | ⟨rfl, h1⟩ | ⟨rfl, h1, h2⟩
  · go_enter Try.func4, Try.ntmps4
    go_wp2_with fail
    refine (alive_any _).mono ?_
    rintro e w1 ⟨rfl, b1⟩
    have c0 := bcellK b1 Q0.out
    have c1 := bcellK b1 Q1.out
    have B1 : Hid (Below w.heap.size w w1) := B0.out.trans (b1.mono B0.out.size)
    clear b1
    go_wp2_with fail
    refine (field_is s a c _ ps n 0 false _ rfl EV.out (HI.out.keep B1.out) HM.out (by omega)).mono ?_
    rintro e w2 ⟨rfl, b2⟩
    have B2 : Hid (Below w.heap.size w w2) := B1.out.trans (b2.mono B1.out.size)
    have d0 := bcellK b2 c0
    have d1 := bcellK b2 c1
    clear b2 c0 c1
    go_wp2_with fail
    refine (rcheck_is s a c _ ps r _ rfl ER.out (HI.out.keep B2.out) HM.out).mono ?_
    rintro e w3 ⟨rfl, b3⟩
    have B3 : Hid (Below w.heap.size w w3) := B2.out.trans (b3.mono B2.out.size)
    have k0 := bcellK b3 d0
    have k1 := bcellK b3 d1
    have I3 : Hid (IsI w3 a ps) := HI.out.keep B3.out
    clear b3 d0 d1
    go_upto_region 7 with (fail)
    go_region_held3 (fun w' => w'.cell? ⟨w.heap.size, 0, none⟩ = some (.int .i64 s) ∧ w'.cell? ⟨w.heap.size, 1, none⟩ = some (.slice a ps.length c)) (first | assumption | exact ⟨by assumption, by assumption⟩ | go_keep)
      (first
        | (go_at_call 15; refine (plain_is s a c _ ps x n pl _ rfl EPL.out (by first | exact I3.out.keep BR.out | exact I3.out.drew) HM.out (by omega) (by omega)).mono ?_; rintro e wC ⟨rfl, bC⟩; have BC : Hid (Below w3.heap.size w3 wC) := (by first | exact BR.out.trans (bC.mono BR.out.size) | exact Below.ofDrew bC); have p0 := bcellK BC.out k0; have p1 := bcellK BC.out k1; clear bC)
        | (go_at_call 16; refine (rplain_is s a c _ ps x n pl _ rfl EPL.out (by first | exact I3.out.keep BC.out | exact I3.out.drew) HM.out (by omega) (by omega)).mono ?_; rintro e wR ⟨rfl, bR⟩; have BR : Hid (Below w3.heap.size w3 wR) := (by first | exact BC.out.trans (bR.mono BC.out.size) | exact Below.ofDrew bR); have r0 := bcellK BR.out k0; have r1 := bcellK BR.out k1; clear bR))
    all_goals
      go_wp2
      go_ret
      first
        | exact ⟨rfl, B3.out.trans (BR.out.mono B3.out.size)⟩
        | exact ⟨rfl, B3.out.trans (BC.out.mono B3.out.size)⟩
  · go_enter Try.func4, Try.ntmps4
    go_wp2_with fail
    refine (alive_any _).mono ?_
    rintro e w1 ⟨rfl, b1⟩
    have c0 := bcellK b1 Q0.out
    have c1 := bcellK b1 Q1.out
    have B1 : Hid (Below w.heap.size w w1) := B0.out.trans (b1.mono B0.out.size)
    clear b1
    go_wp2_with fail
    refine (field_is s a c _ ps n 0 false _ rfl EV.out (HI.out.keep B1.out) HM.out (by omega)).mono ?_
    rintro e w2 ⟨rfl, b2⟩
    have B2 : Hid (Below w.heap.size w w2) := B1.out.trans (b2.mono B1.out.size)
    have d0 := bcellK b2 c0
    have d1 := bcellK b2 c1
    clear b2 c0 c1
    go_wp2_with fail
    refine (rcheck_is s a c _ ps 0 _ rfl ER.out (HI.out.keep B2.out) HM.out).mono ?_
    rintro e w3 ⟨rfl, b3⟩
    have B3 : Hid (Below w.heap.size w w3) := B2.out.trans (b3.mono B2.out.size)
    have k0 := bcellK b3 d0
    have k1 := bcellK b3 d1
    have I3 : Hid (IsI w3 a ps) := HI.out.keep B3.out
    clear b3 d0 d1
    go_upto_region 7 with (fail)
    go_region_held3 (fun w' => w'.cell? ⟨w.heap.size, 0, none⟩ = some (.int .i64 s) ∧ w'.cell? ⟨w.heap.size, 1, none⟩ = some (.slice a ps.length c)) (first | assumption | exact ⟨by assumption, by assumption⟩ | go_keep)
      (first
        | (go_at_call 15; refine (plain_is s a c _ ps x n pl _ rfl EPL.out (by first | exact I3.out.keep BR.out | exact I3.out.drew) HM.out (by omega) (by omega)).mono ?_; rintro e wC ⟨rfl, bC⟩; have BC : Hid (Below w3.heap.size w3 wC) := (by first | exact BR.out.trans (bC.mono BR.out.size) | exact Below.ofDrew bC); have p0 := bcellK BC.out k0; have p1 := bcellK BC.out k1; clear bC)
        | (go_at_call 16; refine (rplain_is s a c _ ps x n pl _ rfl EPL.out (by first | exact I3.out.keep BC.out | exact I3.out.drew) HM.out (by omega) (by omega)).mono ?_; rintro e wR ⟨rfl, bR⟩; have BR : Hid (Below w3.heap.size w3 wR) := (by first | exact BC.out.trans (bR.mono BC.out.size) | exact Below.ofDrew bR); have r0 := bcellK BR.out k0; have r1 := bcellK BR.out k1; clear bR))
    all_goals
      go_wp2
      go_ret
      first
        | exact ⟨rfl, B3.out.trans (BR.out.mono B3.out.size)⟩
        | exact ⟨rfl, B3.out.trans (BC.out.mono B3.out.size)⟩
  · go_enter Try.func4, Try.ntmps4
    go_wp2_with fail
    refine (alive_any _).mono ?_
    rintro e w1 ⟨rfl, b1⟩
    have c0 := bcellK b1 Q0.out
    have c1 := bcellK b1 Q1.out
    have B1 : Hid (Below w.heap.size w w1) := B0.out.trans (b1.mono B0.out.size)
    clear b1
    go_wp2_with fail
    refine (field_is s a c _ ps n 0 false _ rfl EV.out (HI.out.keep B1.out) HM.out (by omega)).mono ?_
    rintro e w2 ⟨rfl, b2⟩
    have B2 : Hid (Below w.heap.size w w2) := B1.out.trans (b2.mono B1.out.size)
    have d0 := bcellK b2 c0
    have d1 := bcellK b2 c1
    clear b2 c0 c1
    go_wp2_with fail
    refine (rcheck_is s a c _ ps 0 _ rfl ER.out (HI.out.keep B2.out) HM.out).mono ?_
    rintro e w3 ⟨rfl, b3⟩
    have B3 : Hid (Below w.heap.size w w3) := B2.out.trans (b3.mono B2.out.size)
    have k0 := bcellK b3 d0
    have k1 := bcellK b3 d1
    have I3 : Hid (IsI w3 a ps) := HI.out.keep B3.out
    clear b3 d0 d1
    go_upto_region 7 with (fail)
    go_region_held3 (fun w' => w'.cell? ⟨w.heap.size, 0, none⟩ = some (.int .i64 s) ∧ w'.cell? ⟨w.heap.size, 1, none⟩ = some (.slice a ps.length c)) (first | assumption | exact ⟨by assumption, by assumption⟩ | go_keep)
      (first
        | (go_at_call 15; refine (plain_is s a c _ ps x n pl _ rfl EPL.out (by first | exact I3.out.keep BR.out | exact I3.out.drew) HM.out (by omega) (by omega)).mono ?_; rintro e wC ⟨rfl, bC⟩; have BC : Hid (Below w3.heap.size w3 wC) := (by first | exact BR.out.trans (bC.mono BR.out.size) | exact Below.ofDrew bC); have p0 := bcellK BC.out k0; have p1 := bcellK BC.out k1; clear bC)
        | (go_at_call 16; refine (rplain_is s a c _ ps x n pl _ rfl EPL.out (by first | exact I3.out.keep BC.out | exact I3.out.drew) HM.out (by omega) (by omega)).mono ?_; rintro e wR ⟨rfl, bR⟩; have BR : Hid (Below w3.heap.size w3 wR) := (by first | exact BC.out.trans (bR.mono BC.out.size) | exact Below.ofDrew bR); have r0 := bcellK BR.out k0; have r1 := bcellK BR.out k1; clear bR))
    all_goals
      go_wp2
      go_ret
      first
        | exact ⟨rfl, B3.out.trans (BR.out.mono B3.out.size)⟩
        | exact ⟨rfl, B3.out.trans (BC.out.mono B3.out.size)⟩

theorem kindPlain_any (s : Int) (a : Option Addr) (c : Nat) (ps : List Int) (x n : Int) (w : World) (hI : IsI w a ps) (hm : ps.length ≤ maxLen) (hx : -9223372036854775808 ≤ x ∧ x ≤ 9223372036854775807) (hn : -9223372036854775808 ≤ n ∧ n ≤ 9223372036854775807) :
    Calls Try.prog 4 #[.agg #[.int .i64 s, .slice a ps.length c], .int .i64 x, .int .i64 n] w fun e w' => e = .returned (.bool true) ∧ Below w.heap.size w w' := by
  by_cases h : checkK s ps = 0 ∧ 0 ≤ n ∧ n < ps.length
  · obtain ⟨k, rfl⟩ : ∃ k : Nat, n = k := ⟨n.toNat, by omega⟩
    exact kindPlain_yes s a c ps x k w hI hm hx hn h.1 (by omega)
  · exact kindPlain_no s a c ps x n w hI hm hx hn h
end Go.Proofs.Ytkcnanpojnbepaa
