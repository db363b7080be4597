/- Layer 20: the walk of RootWrites. -/
import Derived.Test.YtgpkiajakokjmaaRtR
import Derived.Test.YtgpkiajakokjmaaRtN
import Derived.Test.YtgpkiajakokjmaaRtS
namespace Go.Proofs.Ytgpkiajakokjmaa
open Go.RowKit
set_option linter.unusedVariables false
set_option maxRecDepth 4000

theorem body_byte {x : Rt} {s : Int} (hs : s ≤ 9223372036854775807) : AllB (bodyO x s).1 ∧ (bodyO x s).1.length ≤ 140737488355328 := by
  unfold bodyO
  split
  · rename_i h
    obtain ⟨g, ok, pl, el, pg⟩ := right_parts h
    have LS : lastS s ≤ 9223372036854775807 := by unfold lastS; split <;> omega
    constructor
    · refine vars_byte _ (fun n hn => ?_)
      rcases List.mem_append.1 hn with hn | hn
      · unfold headN at hn
        simp only [List.mem_cons, List.not_mem_nil, or_false] at hn
        have g1 := g.1.1
        have g2 := g.1.2.1
        rcases hn with rfl | rfl | rfl | rfl | rfl | rfl | rfl <;> omega
      · have := nums_in (pg := x.p) (by omega) LS (aheadE x.k x.r) x.es 0 (by omega) ahead_t ok pl n hn
        omega
    · have h1 := vars_len (headN x ++ numsE 0 x.es)
      have h2 := numsE_len x.es 0
      have h3 : (headN x).length = 7 := rfl
      show (varsL _).length ≤ _
      rw [List.length_append] at h1
      omega
  · exact ⟨AllB.nil, Nat.zero_le _⟩
set_option maxRecDepth 20000 in
set_option maxHeartbeats 16000000 in
/-- RootWrites. -/
theorem rootWrites_any (x : Rt) (s : Int) (a : Option Addr) (cap : Nat) (w : World) (h : IsW w a x.es) (he : EI x.es) (hl : x.es.length ≤ 4398046511104) (hn : a = none → x.es = [] ∧ cap = 0) (hs : s ≤ 9223372036854775807) (hr : -9223372036854775808 ≤ x.r) (hk : -9223372036854775808 ≤ x.k) :
    Calls Try.prog 3 #[.agg #[.int .i64 x.b, .int .i64 x.p, .int .i64 x.w, .int .i64 x.h, .int .i64 x.r, .int .i64 x.k, .slice a x.es.length cap], .int .i64 s] w fun e w' => e = .returned (.bool true) ∧ Below w.heap.size w w' := by
  obtain ⟨D, hD, rD, bD⟩ := rtbox w x (.slice a x.es.length cap) 24
  obtain ⟨bb, E, hO⟩ : ∃ bb E, bodyO x s = (bb, E) := ⟨_, _, rfl⟩
  have AB := body_byte (x := x) hs
  rw [hO] at AB
  simp only at AB
  obtain ⟨ab1, ab2⟩ := AB
  have THE : Hid (∀ w : World, IsW w a x.es → Calls Try.prog 9 #[.agg #[.int .i64 x.b, .int .i64 x.p, .int .i64 x.w, .int .i64 x.h, .int .i64 x.r, .int .i64 x.k, .slice a x.es.length cap]] w fun e w' => ∃ a' c', e = .returned (.agg #[.int .i64 x.b, .int .i64 x.p, .int .i64 x.w, .int .i64 x.h, .int .i64 x.r, .int .i64 x.k, .slice a' x.es.length c']) ∧ IsW w' a' x.es ∧ Below w.heap.size w w') := fun w hw => theirs_any x a cap w hw hl hn
  have OWN : Hid (∀ (w : World) (a : Option Addr) (c : Nat), Calls Try.prog 10 #[.agg #[.int .i64 x.b, .int .i64 x.p, .int .i64 x.w, .int .i64 x.h, .int .i64 x.r, .int .i64 x.k, .slice a x.es.length c]] w fun e w' => e = .returned (.agg #[.int .i64 x.b, .int .i64 x.p, .int .i64 x.w, .int .i64 x.h, .int .i64 x.r, .int .i64 x.k, .slice a x.es.length c]) ∧ Below w.heap.size w w') := fun w a c => own_any x a _ c w
  have CB : Hid (∀ (w : World) (a : Option Addr) (c : Nat), IsW w a x.es → Calls Try.prog 11 #[.agg #[.int .i64 x.b, .int .i64 x.p, .int .i64 x.w, .int .i64 x.h, .int .i64 x.r, .int .i64 x.k, .slice a x.es.length c], .int .i64 s] w fun e w' => ∃ a' c, e = .returned (.tuple #[.slice a' bb.length c, .int .i64 E]) ∧ OwnsB w' w.heap.size a' bb c ∧ Below w.heap.size w w') := fun w a c hw => by
    have q := cbody_any x s a c w hw he hl hs hr hk
    rw [hO] at q
    exact q
  have DB : Hid (∀ (w : World) (a : Option Addr) (c : Nat), IsW w a x.es → Calls Try.prog 12 #[.agg #[.int .i64 x.b, .int .i64 x.p, .int .i64 x.w, .int .i64 x.h, .int .i64 x.r, .int .i64 x.k, .slice a x.es.length c], .int .i64 s] w fun e w' => ∃ a' c, e = .returned (.tuple #[.slice a' bb.length c, .int .i64 E]) ∧ OwnsB w' w.heap.size a' bb c ∧ Below w.heap.size w w') := fun w a c hw => by
    have q := dbody_any x s a c w hw hl hs
    rw [hO] at q
    exact q
  obtain ⟨V, hV⟩ : ∃ V, rightR x s = V := ⟨_, rfl⟩
  have CT : Hid (∀ (w : World) (a : Option Addr) (c : Nat), IsW w a x.es → Calls Try.prog 14 #[.agg #[.int .i64 x.b, .int .i64 x.p, .int .i64 x.w, .int .i64 x.h, .int .i64 x.r, .int .i64 x.k, .slice a x.es.length c], .int .i64 s] w fun e w' => e = .returned (.bool V) ∧ Below w.heap.size w w') := fun w a c hw => by
    have q := cright_any x s a c w hw he hl hs hr hk
    rw [hV] at q
    exact q
  have DT : Hid (∀ (w : World) (a : Option Addr) (c : Nat), IsW w a x.es → Calls Try.prog 15 #[.agg #[.int .i64 x.b, .int .i64 x.p, .int .i64 x.w, .int .i64 x.h, .int .i64 x.r, .int .i64 x.k, .slice a x.es.length c], .int .i64 s] w fun e w' => e = .returned (.bool V) ∧ Below w.heap.size w w') := fun w a c hw => by
    have q := dright_any x s a c w hw hl hs
    rw [hV] at q
    exact q
  have DS : Hid (∀ (w : World) (a b : Option Addr) (c d : Nat), IsW w a x.es → IsW w b x.es → Calls Try.prog 16 #[.agg #[.int .i64 x.b, .int .i64 x.p, .int .i64 x.w, .int .i64 x.h, .int .i64 x.r, .int .i64 x.k, .slice a x.es.length c], .agg #[.int .i64 x.b, .int .i64 x.p, .int .i64 x.w, .int .i64 x.h, .int .i64 x.r, .int .i64 x.k, .slice b x.es.length d]] w fun e w' => e = .returned (.bool true) ∧ Below w.heap.size w w') := fun w a b c d h1 h2 => dsame_true x a b c d w h1 h2 hl
  have RR : Hid (E = 0 → readR bb s = (x, 0)) := fun q => by
    subst q
    unfold bodyO at hO
    split at hO
    · rename_i g
      simp only [Prod.mk.injEq, and_true] at hO
      rw [← hO]
      exact rread_back g hs
    · simp at hO
  have CR : Hid (E = 0 → ∀ (w : World) (a : Option Addr) (c : Nat), IsB w a bb → (a = none → bb = []) → Calls Try.prog 17 #[.slice a bb.length c, .int .i64 s] w fun e w' => ∃ a c, e = .returned (.tuple #[.agg #[.int .i64 x.b, .int .i64 x.p, .int .i64 x.w, .int .i64 x.h, .int .i64 x.r, .int .i64 x.k, .slice a x.es.length c], .int .i64 0]) ∧ Ow w' w.heap.size a x.es c ∧ Below w.heap.size w w') := fun hE w a c hw hna => by
    have q := cread_any a c bb s w hw ab2 hna hs
    unfold RdPost at q
    rw [RR.out hE] at q
    exact q
  have ABH : Hid (AllB bb) := ab1
  obtain ⟨xb, p, xw, xh, r, k, es⟩ := x
  simp only at h he hl hn hr hk hD rD THE OWN CB DB CT DT DS CR ⊢
  have HW : Hid (IsW D a es) := h.keep bD
  have BD : Hid (Below w.heap.size w D) := bD
  obtain ⟨M, hM⟩ : ∃ M, es.length = M := ⟨_, rfl⟩
  rw [hM] at THE OWN CB DB CT DT DS CR hD rD ⊢
  obtain ⟨Q, hQ⟩ : ∃ Q, bb.length = Q := ⟨_, rfl⟩
  have HQ : Hid (bb.length = Q) := hQ
  rw [hQ] at CB DB CR
  have HD : Hid _ := hD
  obtain ⟨nd, hnd⟩ : ∃ nd, w.heap.size = nd := ⟨_, rfl⟩
  rw [hnd] at rD
  have HND : Hid (w.heap.size = nd) := hnd
  have RD : Hid (D.heap[nd]? = some (.cells #[.int .i64 xb, .int .i64 p, .int .i64 xw, .int .i64 xh, .int .i64 r, .int .i64 k, .slice a M cap] 24 (0, 0))) := rD
  clear h he hl hn hr hk hD rD bD hnd hM hQ hO hV ab1 ab2 RR
  go_enter Try.func3, Try.ntmps3
  go_upto_region 1 with (fail)
  rw [HD.out]
  try rw [HND.out]
  go_wp2_with fail
  refine (alive20 _).mono ?_
  rintro e w1 ⟨rfl, b1⟩
  have B1 : Hid (Below w.heap.size w w1) := BD.out.trans (b1.mono BD.out.size)
  have W1 : Hid (IsW w1 a es) := HW.out.keep b1
  have r1 : w1.heap[nd]? = some (.cells #[.int .i64 xb, .int .i64 p, .int .i64 xw, .int .i64 xh, .int .i64 r, .int .i64 k, .slice a M cap] 24 (0, 0)) := by rw [b1.block _ (hlt RD.out)]; exact RD.out
  have R1 : Hid _ := r1
  obtain ⟨c0, c1, c2, c3, c4, c5, c6⟩ := seven r1
  clear b1 r1
  go_wp2_with fail
  refine (THE.out _ W1.out).mono ?_
  rintro e w2 ⟨a5, k5, rfl, i5, b2⟩
  obtain ⟨F5, hF5, rF5, bF5⟩ := rtbox w2 (⟨xb, p, xw, xh, r, k, es⟩ : Rt) (.slice a5 M k5) 26
  simp only at hF5 rF5
  have I5 : Hid (IsW F5 a5 es) := i5.keep bF5
  have W5 : Hid (IsW F5 a es) := (W1.out.keep b2).keep bF5
  have B5 : Hid (Below w.heap.size w F5) := (B1.out.trans (b2.mono B1.out.size)).trans (bF5.mono (Nat.le_trans B1.out.size b2.size))
  have r5 : F5.heap[nd]? = some (.cells #[.int .i64 xb, .int .i64 p, .int .i64 xw, .int .i64 xh, .int .i64 r, .int .i64 k, .slice a M cap] 24 (0, 0)) := by rw [bF5.block _ (Nat.lt_of_lt_of_le (hlt R1.out) b2.size), b2.block _ (hlt R1.out)]; exact R1.out
  have HF5 : Hid _ := hF5
  obtain ⟨n5, hn5⟩ : ∃ n5, w2.heap.size = n5 := ⟨_, rfl⟩
  rw [hn5] at rF5
  have HN5 : Hid (w2.heap.size = n5) := hn5
  have RF5 : Hid (F5.heap[n5]? = some (.cells #[.int .i64 xb, .int .i64 p, .int .i64 xw, .int .i64 xh, .int .i64 r, .int .i64 k, .slice a5 M k5] 26 (0, 0))) := rF5
  have R5 : Hid _ := r5
  clear c0 c1 c2 c3 c4 c5 c6 i5 b2 hF5 rF5 bF5 hn5
  obtain ⟨c0, c1, c2, c3, c4, c5, c6⟩ := seven r5
  clear r5
  go_upto_region 4 with (fail)
  rw [HF5.out]
  try rw [HN5.out]
  go_wp2_with fail
  refine (THE.out _ W5.out).mono ?_
  rintro e w3 ⟨a6, k6, rfl, i6, b3⟩
  have I6 : Hid (IsW w3 a6 es) := i6
  have B3 : Hid (Below F5.heap.size F5 w3) := b3
  clear i6 b3 c0 c1 c2 c3 c4 c5 c6
  go_wp2_with fail
  refine (OWN.out _ a6 k6).mono ?_
  rintro e w4 ⟨rfl, b4⟩
  obtain ⟨F6, hF6, rF6, bF6⟩ := rtbox w4 (⟨xb, p, xw, xh, r, k, es⟩ : Rt) (.slice a6 M k6) 28
  simp only at hF6 rF6
  have b34 : Below F5.heap.size F5 F6 := (B3.out.trans (b4.mono B3.out.size)).trans (bF6.mono (Nat.le_trans B3.out.size b4.size))
  have J5 : Hid (IsW F6 a5 es) := I5.out.keep b34
  have J6 : Hid (IsW F6 a6 es) := (I6.out.keep b4).keep bF6
  have B6 : Hid (Below w.heap.size w F6) := B5.out.trans (b34.mono B5.out.size)
  have q5 : F6.heap[n5]? = some (.cells #[.int .i64 xb, .int .i64 p, .int .i64 xw, .int .i64 xh, .int .i64 r, .int .i64 k, .slice a5 M k5] 26 (0, 0)) := by rw [b34.block _ (hlt RF5.out)]; exact RF5.out
  have HF6 : Hid _ := hF6
  obtain ⟨n6, hn6⟩ : ∃ n6, w4.heap.size = n6 := ⟨_, rfl⟩
  rw [hn6] at rF6
  have HN6 : Hid (w4.heap.size = n6) := hn6
  have Q6 : Hid (F6.heap[n6]? = some (.cells #[.int .i64 xb, .int .i64 p, .int .i64 xw, .int .i64 xh, .int .i64 r, .int .i64 k, .slice a6 M k6] 28 (0, 0))) := rF6
  have Q5 : Hid _ := q5
  clear b4 hF6 rF6 bF6 hn6 b34
  obtain ⟨c0, c1, c2, c3, c4, c5, c6⟩ := seven q5
  clear q5
  go_upto_region 5 with (fail)
  rw [HF6.out]
  try rw [HN6.out]
  go_wp2_with fail
  refine (CB.out _ a5 k5 J5.out).mono ?_
  rintro e w7 ⟨ab, kb, rfl, ob, b7⟩
  have IB : Hid (IsB w7 ab bb) := ownsB_isB ABH.out ob
  have NB : Hid (ab = none → bb = []) := fun e => by
    subst e
    obtain ⟨_, ⟨q, q2⟩ | ⟨g, c', cur, q, _⟩⟩ := ob
    · exact List.eq_nil_of_length_eq_zero q2
    · cases q
  have B7 : Hid (Below F6.heap.size F6 w7) := b7
  have q6 : w7.heap[n6]? = some (.cells #[.int .i64 xb, .int .i64 p, .int .i64 xw, .int .i64 xh, .int .i64 r, .int .i64 k, .slice a6 M k6] 28 (0, 0)) := by rw [b7.block _ (hlt Q6.out)]; exact Q6.out
  clear ob b7 c0 c1 c2 c3 c4 c5 c6
  obtain ⟨c0, c1, c2, c3, c4, c5, c6⟩ := seven q6
  clear q6
  go_wp2_with fail
  refine (DB.out _ a6 k6 (J6.out.keep B7.out)).mono ?_
  rintro e w8 ⟨ac, kc, rfl, oc, b8⟩
  have IC : Hid (IsB w8 ac bb) := ownsB_isB ABH.out oc
  have B8 : Hid (Below F6.heap.size F6 w8) := B7.out.trans (b8.mono B7.out.size)
  have IB8 : Hid (IsB w8 ab bb) := IB.out.keep b8
  have K5 : Hid (IsW w8 a5 es) := J5.out.keep B8.out
  have K6 : Hid (IsW w8 a6 es) := J6.out.keep B8.out
  clear oc b8 c0 c1 c2 c3 c4 c5 c6
  have q5 : w8.heap[n5]? = some (.cells #[.int .i64 xb, .int .i64 p, .int .i64 xw, .int .i64 xh, .int .i64 r, .int .i64 k, .slice a5 M k5] 26 (0, 0)) := by rw [B8.out.block _ (hlt Q5.out)]; exact Q5.out
  have q6 : w8.heap[n6]? = some (.cells #[.int .i64 xb, .int .i64 p, .int .i64 xw, .int .i64 xh, .int .i64 r, .int .i64 k, .slice a6 M k6] 28 (0, 0)) := by rw [B8.out.block _ (hlt Q6.out)]; exact Q6.out
  have P5 : Hid _ := q5
  have P6 : Hid _ := q6
  have KEEP : Hid (∀ W : World, Below w8.heap.size w8 W → W.heap[n5]? = some (.cells #[.int .i64 xb, .int .i64 p, .int .i64 xw, .int .i64 xh, .int .i64 r, .int .i64 k, .slice a5 M k5] 26 (0, 0)) ∧ W.heap[n6]? = some (.cells #[.int .i64 xb, .int .i64 p, .int .i64 xw, .int .i64 xh, .int .i64 r, .int .i64 k, .slice a6 M k6] 28 (0, 0))) := fun W hW => ⟨by rw [hW.block _ (hlt P5.out)]; exact P5.out, by rw [hW.block _ (hlt P6.out)]; exact P6.out⟩
  obtain ⟨c0, c1, c2, c3, c4, c5, c6⟩ := seven q5
  obtain ⟨d0, d1, d2, d3, d4, d5, d6⟩ := seven q6
  have ne : (E != E) = false := by simp
  have nv : (V != V) = false := by simp
  have S8 : Hid (Below w8.heap.size w8 w8) := Below.refl _ _
  clear q5 q6
  go_upto_region 7 with (fail)
  go_region_held3 (fun w' => w'.cell? ⟨n5, 0, none⟩ = some (.int .i64 xb) ∧ w'.cell? ⟨n5, 1, none⟩ = some (.int .i64 p) ∧ w'.cell? ⟨n5, 2, none⟩ = some (.int .i64 xw) ∧ w'.cell? ⟨n5, 3, none⟩ = some (.int .i64 xh) ∧ w'.cell? ⟨n5, 4, none⟩ = some (.int .i64 r) ∧ w'.cell? ⟨n5, 5, none⟩ = some (.int .i64 k) ∧ w'.cell? ⟨n5, 6, none⟩ = some (.slice a5 M k5) ∧ w'.cell? ⟨n6, 0, none⟩ = some (.int .i64 xb) ∧ w'.cell? ⟨n6, 1, none⟩ = some (.int .i64 p) ∧ w'.cell? ⟨n6, 2, none⟩ = some (.int .i64 xw) ∧ w'.cell? ⟨n6, 3, none⟩ = some (.int .i64 xh) ∧ w'.cell? ⟨n6, 4, none⟩ = some (.int .i64 r) ∧ w'.cell? ⟨n6, 5, none⟩ = some (.int .i64 k) ∧ w'.cell? ⟨n6, 6, none⟩ = some (.slice a6 M k6)) (first | assumption | exact ⟨by assumption, by assumption, by assumption, by assumption, by assumption, by assumption, by assumption, by assumption, by assumption, by assumption, by assumption, by assumption, by assumption, by assumption⟩ | go_keep)
    (first
      | (go_at_call 13; refine (same_true ab ac _ _ kb kc bb _ (by first | exact IB8.out | exact IB8.out.drew) (by first | exact IC.out | exact IC.out.drew) HQ.out.symm HQ.out.symm).mono ?_; rintro e wS ⟨rfl, rfl⟩)
      | (go_at_call 14; refine (CT.out _ a5 k5 (by first | exact K5.out | exact K5.out.keep (below_drewN _ 1))).mono ?_; rintro e w9 ⟨rfl, b9⟩; have B9 : Hid (Below w8.heap.size w8 w9) := Below.ofDrew b9; have mr5 := (KEEP.out _ B9.out).1; have mr6 := (KEEP.out _ B9.out).2; obtain ⟨ma0, ma1, ma2, ma3, ma4, ma5, ma6⟩ := seven mr5; obtain ⟨mb0, mb1, mb2, mb3, mb4, mb5, mb6⟩ := seven mr6; clear mr5 mr6; clear b9)
      | (go_at_call 15; refine (DT.out _ a6 k6 (K6.out.keep B9.out)).mono ?_; rintro e w10 ⟨rfl, b10⟩; have B10 : Hid (Below w8.heap.size w8 w10) := B9.out.trans (b10.mono B9.out.size); have nr5 := (KEEP.out _ B10.out).1; have nr6 := (KEEP.out _ B10.out).2; obtain ⟨na0, na1, na2, na3, na4, na5, na6⟩ := seven nr5; obtain ⟨nb0, nb1, nb2, nb3, nb4, nb5, nb6⟩ := seven nr6; clear nr5 nr6; clear b10)
      | (go_at_call 10; refine (OWN.out _ a5 k5).mono ?_; rintro e w11 ⟨rfl, b11⟩; have B11 : Hid (Below w8.heap.size w8 w11) := B10.out.trans (b11.mono B10.out.size); have or5 := (KEEP.out _ B11.out).1; have or6 := (KEEP.out _ B11.out).2; obtain ⟨oa0, oa1, oa2, oa3, oa4, oa5, oa6⟩ := seven or5; obtain ⟨ob0, ob1, ob2, ob3, ob4, ob5, ob6⟩ := seven or6; clear or5 or6; clear b11)
      | (go_at_call 16; refine (DS.out _ a5 a6 k5 k6 (K5.out.keep B11.out) (K6.out.keep B11.out)).mono ?_; rintro e w12 ⟨rfl, b12⟩; have B12 : Hid (Below w8.heap.size w8 w12) := B11.out.trans (b12.mono B11.out.size); have pr5 := (KEEP.out _ B12.out).1; have pr6 := (KEEP.out _ B12.out).2; obtain ⟨pa0, pa1, pa2, pa3, pa4, pa5, pa6⟩ := seven pr5; obtain ⟨pb0, pb1, pb2, pb3, pb4, pb5, pb6⟩ := seven pr6; clear pr5 pr6; clear b12))
  all_goals
    clear c0 c1 c2 c3 c4 c5 c6 d0 d1 d2 d3 d4 d5 d6
    have B12F : Hid (Below w.heap.size w w12) := (B6.out.trans (B8.out.mono B6.out.size)).trans (B12.out.mono (Nat.le_trans B6.out.size B8.out.size))
    by_cases hE : E = 0
    rotate_left
    · have eb : (E != 0) = true := by rw [bne_iff_ne]; exact hE
      go_wp2
      go_ret
      exact ⟨rfl, B12F.out⟩
    subst hE
    have CR0 : Hid _ := CR.out rfl w12 ab kb (IB8.out.keep B12.out) NB.out
    have I66 : Hid (IsW w12 a6 es) := K6.out.keep B12.out
    have P66 : Hid (w12.heap[n6]? = some (.cells #[.int .i64 xb, .int .i64 p, .int .i64 xw, .int .i64 xh, .int .i64 r, .int .i64 k, .slice a6 M k6] 28 (0, 0))) := (KEEP.out _ B12.out).2
    clear ma0 ma1 ma2 ma3 ma4 ma5 ma6 mb0 mb1 mb2 mb3 mb4 mb5 mb6 na0 na1 na2 na3 na4 na5 na6 nb0 nb1 nb2 nb3 nb4 nb5 nb6 oa0 oa1 oa2 oa3 oa4 oa5 oa6 ob0 ob1 ob2 ob3 ob4 ob5 ob6 pa0 pa1 pa2 pa3 pa4 pa5 pa6 pb0 pb1 pb2 pb3 pb4 pb5 pb6 CR
    go_wp2_with fail
    refine Calls.mono CR0.out ?_
    rintro e w13 ⟨ar, kr, rfl, or', b13⟩
    obtain ⟨F7, hF7, rF7, bF7⟩ := rtbox w13 (⟨xb, p, xw, xh, r, k, es⟩ : Rt) (.slice ar M kr) 26
    simp only at hF7 rF7
    have b14 : Below w12.heap.size w12 F7 := b13.trans (bF7.mono b13.size)
    have X6 : Hid (IsW F7 a6 es) := I66.out.keep b14
    have XR : Hid (IsW F7 ar es) := or'.isW.keep bF7
    have q6 : F7.heap[n6]? = some (.cells #[.int .i64 xb, .int .i64 p, .int .i64 xw, .int .i64 xh, .int .i64 r, .int .i64 k, .slice a6 M k6] 28 (0, 0)) := by rw [b14.block _ (hlt P66.out)]; exact P66.out
    have B14 : Hid (Below w.heap.size w F7) := B12F.out.trans (b14.mono B12F.out.size)
    have HF7 : Hid _ := hF7
    obtain ⟨n7, hn7⟩ : ∃ n7, w13.heap.size = n7 := ⟨_, rfl⟩
    rw [hn7] at rF7
    have HN7 : Hid (w13.heap.size = n7) := hn7
    have T6 : Hid _ := q6
    have T7 : Hid _ := rF7
    have KEEP2 : Hid (∀ W : World, Below F7.heap.size F7 W → W.heap[n7]? = some (.cells #[.int .i64 xb, .int .i64 p, .int .i64 xw, .int .i64 xh, .int .i64 r, .int .i64 k, .slice ar M kr] 26 (0, 0)) ∧ W.heap[n6]? = some (.cells #[.int .i64 xb, .int .i64 p, .int .i64 xw, .int .i64 xh, .int .i64 r, .int .i64 k, .slice a6 M k6] 28 (0, 0))) := fun W hW => ⟨by rw [hW.block _ (hlt T7.out)]; exact T7.out, by rw [hW.block _ (hlt T6.out)]; exact T6.out⟩
    obtain ⟨c0, c1, c2, c3, c4, c5, c6⟩ := seven rF7
    obtain ⟨d0, d1, d2, d3, d4, d5, d6⟩ := seven q6
    clear hF7 rF7 bF7 hn7 q6 b13 b14 or'
    go_upto_region 12 with (fail)
    rw [HF7.out]
    try rw [HN7.out]
    go_region_held3 (fun w' => w'.cell? ⟨n7, 0, none⟩ = some (.int .i64 xb) ∧ w'.cell? ⟨n7, 1, none⟩ = some (.int .i64 p) ∧ w'.cell? ⟨n7, 2, none⟩ = some (.int .i64 xw) ∧ w'.cell? ⟨n7, 3, none⟩ = some (.int .i64 xh) ∧ w'.cell? ⟨n7, 4, none⟩ = some (.int .i64 r) ∧ w'.cell? ⟨n7, 5, none⟩ = some (.int .i64 k) ∧ w'.cell? ⟨n7, 6, none⟩ = some (.slice ar M kr) ∧ w'.cell? ⟨n6, 0, none⟩ = some (.int .i64 xb) ∧ w'.cell? ⟨n6, 1, none⟩ = some (.int .i64 p) ∧ w'.cell? ⟨n6, 2, none⟩ = some (.int .i64 xw) ∧ w'.cell? ⟨n6, 3, none⟩ = some (.int .i64 xh) ∧ w'.cell? ⟨n6, 4, none⟩ = some (.int .i64 r) ∧ w'.cell? ⟨n6, 5, none⟩ = some (.int .i64 k) ∧ w'.cell? ⟨n6, 6, none⟩ = some (.slice a6 M k6)) (first | assumption | exact ⟨by assumption, by assumption, by assumption, by assumption, by assumption, by assumption, by assumption, by assumption, by assumption, by assumption, by assumption, by assumption, by assumption, by assumption⟩ | go_keep)
      (first
        | (go_at_call 10; refine (OWN.out _ ar kr).mono ?_; rintro e w15 ⟨rfl, b15⟩; have B15 : Hid (Below F7.heap.size F7 w15) := Below.ofDrew b15; have qr5 := (KEEP2.out _ B15.out).1; have qr6 := (KEEP2.out _ B15.out).2; obtain ⟨qa0, qa1, qa2, qa3, qa4, qa5, qa6⟩ := seven qr5; obtain ⟨qb0, qb1, qb2, qb3, qb4, qb5, qb6⟩ := seven qr6; clear qr5 qr6; clear b15)
        | (go_at_call 16; refine (DS.out _ ar a6 kr k6 (XR.out.keep B15.out) (X6.out.keep B15.out)).mono ?_; rintro e w16 ⟨rfl, b16⟩; have B16 : Hid (Below F7.heap.size F7 w16) := B15.out.trans (b16.mono B15.out.size); have sr5 := (KEEP2.out _ B16.out).1; have sr6 := (KEEP2.out _ B16.out).2; obtain ⟨sa0, sa1, sa2, sa3, sa4, sa5, sa6⟩ := seven sr5; obtain ⟨sb0, sb1, sb2, sb3, sb4, sb5, sb6⟩ := seven sr6; clear sr5 sr6; clear b16))
    all_goals
      go_wp2
      go_ret
      exact ⟨rfl, B14.out.trans (B16.out.mono B14.out.size)⟩
end Go.Proofs.Ytgpkiajakokjmaa
