/- Layer 20: the walk of RootReads. -/
import Derived.Test.YtgpkiajakokjmaaRtR
import Derived.Test.YtgpkiajakokjmaaRtS
import Derived.Test.YtgpkiajakokjmaaRtY
namespace Go.Proofs.Ytgpkiajakokjmaa
open Go.RowKit
set_option linter.unusedVariables false
set_option maxRecDepth 4000

set_option maxRecDepth 20000 in
set_option maxHeartbeats 16000000 in
/-- RootReads. -/
theorem rootReads_any (a : Option Addr) (cap : Nat) (l : List Int) (s : Int) (w : World) (hI : IsB w a l) (hm : l.length ≤ 140737488355328) (hs : s ≤ 9223372036854775807) :
    Calls Try.prog 4 #[.slice a l.length cap, .int .i64 s] w fun e w' => e = .returned (.bool true) ∧ Below w.heap.size w w' := by
  have HI : Hid (IsB w a l) := hI
  obtain ⟨x, E, hR⟩ : ∃ x E, readR l s = (x, E) := ⟨_, _, rfl⟩
  have AB : Hid (AllB l) := hI.1
  have hl : x.es.length ≤ 4398046511104 := by
    by_cases hE : E = 0
    · subst hE
      obtain ⟨g1, g2⟩ := rread_good AB.out hR
      obtain ⟨_, _, _, el, _⟩ := right_parts g1
      have gg := (right_parts g1).1
      omega
    · obtain rfl := read_zero20 hR hE
      simp [rtz]
  have CR : Hid (∀ (w : World) (g c : Nat), IsB w (some ⟨g, 0, none⟩) l → Calls Try.prog 17 #[.slice (some ⟨g, 0, none⟩) l.length c, .int .i64 s] w fun e w' => ∃ a c, e = .returned (.tuple #[.agg #[.int .i64 x.b, .int .i64 x.p, .int .i64 x.w, .int .i64 x.h, .int .i64 x.r, .int .i64 x.k, .slice a x.es.length c], .int .i64 E]) ∧ Ow w' w.heap.size a x.es c ∧ Below w.heap.size w w') := fun w g c hw => by
    have q := cread_any (some ⟨g, 0, none⟩) c l s w hw hm (fun e => by cases e) hs
    unfold RdPost at q
    rw [hR] at q
    exact q
  have DR : Hid (∀ (w : World), IsB w a l → Calls Try.prog 19 #[.slice a l.length cap, .int .i64 s] w fun e w' => ∃ a c, e = .returned (.tuple #[.agg #[.int .i64 x.b, .int .i64 x.p, .int .i64 x.w, .int .i64 x.h, .int .i64 x.r, .int .i64 x.k, .slice a x.es.length c], .int .i64 E]) ∧ Ow w' w.heap.size a x.es c ∧ Below w.heap.size w w') := fun w hw => by
    have q := dread_any a cap l s w hw hm hs
    unfold RdPost at q
    rw [hR] at q
    exact q
  have OWN : Hid (∀ (w : World) (a : Option Addr) (c : Nat), Calls Try.prog 10 #[.agg #[.int .i64 x.b, .int .i64 x.p, .int .i64 x.w, .int .i64 x.h, .int .i64 x.r, .int .i64 x.k, .slice a x.es.length c]] w fun e w' => e = .returned (.agg #[.int .i64 x.b, .int .i64 x.p, .int .i64 x.w, .int .i64 x.h, .int .i64 x.r, .int .i64 x.k, .slice a x.es.length c]) ∧ Below w.heap.size w w') := fun w a c => own_any x a _ c w
  have DS : Hid (∀ (w : World) (a b : Option Addr) (c d : Nat), IsW w a x.es → IsW w b x.es → Calls Try.prog 16 #[.agg #[.int .i64 x.b, .int .i64 x.p, .int .i64 x.w, .int .i64 x.h, .int .i64 x.r, .int .i64 x.k, .slice a x.es.length c], .agg #[.int .i64 x.b, .int .i64 x.p, .int .i64 x.w, .int .i64 x.h, .int .i64 x.r, .int .i64 x.k, .slice b x.es.length d]] w fun e w' => e = .returned (.bool true) ∧ Below w.heap.size w w') := fun w a b c d h1 h2 => dsame_true x a b c d w h1 h2 hl
  obtain ⟨xb, p, xw, xh, r, k, es⟩ := x
  simp only at CR DR OWN DS
  obtain ⟨M, hM⟩ : ∃ M, es.length = M := ⟨_, rfl⟩
  simp only [hM] at CR DR OWN DS
  have HM : Hid (es.length = M) := hM
  clear hI hR hl hM
  go_enter Try.func4, Try.ntmps4
  go_wp2_with (go_at_call 8; refine (alive20 _).mono ?_; rintro e w1 ⟨rfl, b1⟩; have B1 : Hid (Below w.heap.size w w1) := b1; clear b1)
  go_wp2_with fail
  refine (copy_any a cap _ l _ rfl (HI.out.keep B1.out) hm).mono ?_
  rintro e w2 ⟨g, cg, rfl, o2, b2⟩
  have B2 : Hid (Below w.heap.size w w2) := B1.out.trans (b2.mono B1.out.size)
  have I2 : Hid (IsB w2 (some ⟨g, 0, none⟩) l) := ownsB_isB AB.out o2
  clear o2 b2
  go_wp2_with fail
  refine (CR.out _ g cg I2.out).mono ?_
  rintro e w3 ⟨a5, k5, rfl, o3, b3⟩
  obtain ⟨F5, hF5, rF5, bF5⟩ := rtbox w3 (⟨xb, p, xw, xh, r, k, es⟩ : Rt) (.slice a5 M k5) 26
  simp only at hF5 rF5
  have B5 : Hid (Below w.heap.size w F5) := (B2.out.trans (b3.mono B2.out.size)).trans (bF5.mono (Nat.le_trans B2.out.size b3.size))
  have I5 : Hid (IsB F5 (some ⟨g, 0, none⟩) l) := (I2.out.keep b3).keep bF5
  have J5 : Hid (IsW F5 a5 es) := o3.isW.keep bF5
  have HF5 : Hid _ := hF5
  obtain ⟨n5, hn5⟩ : ∃ n5, w3.heap.size = n5 := ⟨_, rfl⟩
  rw [hn5] at rF5
  have HN5 : Hid (w3.heap.size = n5) := hn5
  have RF5 : Hid (F5.heap[n5]? = some (.cells #[.int .i64 xb, .int .i64 p, .int .i64 xw, .int .i64 xh, .int .i64 r, .int .i64 k, .slice a5 M k5] 26 (0, 0))) := rF5
  clear b3 hF5 rF5 bF5 hn5 o3
  go_upto_region 5 with (fail)
  rw [HF5.out]
  try rw [HN5.out]
  go_wp2_with fail
  refine (DR.out _ (HI.out.keep B5.out)).mono ?_
  rintro e w4 ⟨a6, k6, rfl, o4, b4⟩
  obtain ⟨F6, hF6, rF6, bF6⟩ := rtbox w4 (⟨xb, p, xw, xh, r, k, es⟩ : Rt) (.slice a6 M k6) 28
  simp only at hF6 rF6
  have b34 : Below F5.heap.size F5 F6 := b4.trans (bF6.mono b4.size)
  have B6 : Hid (Below w.heap.size w F6) := B5.out.trans (b34.mono B5.out.size)
  have K5 : Hid (IsW F6 a5 es) := J5.out.keep b34
  have K6 : Hid (IsW F6 a6 es) := o4.isW.keep bF6
  have I6 : Hid (IsB F6 (some ⟨g, 0, none⟩) l) := I5.out.keep b34
  have q5 : F6.heap[n5]? = some (.cells #[.int .i64 xb, .int .i64 p, .int .i64 xw, .int .i64 xh, .int .i64 r, .int .i64 k, .slice a5 M k5] 26 (0, 0)) := by rw [b34.block _ (hlt RF5.out)]; exact RF5.out
  have HF6 : Hid _ := hF6
  obtain ⟨n6, hn6⟩ : ∃ n6, w4.heap.size = n6 := ⟨_, rfl⟩
  rw [hn6] at rF6
  have HN6 : Hid (w4.heap.size = n6) := hn6
  have P6 : Hid (F6.heap[n6]? = some (.cells #[.int .i64 xb, .int .i64 p, .int .i64 xw, .int .i64 xh, .int .i64 r, .int .i64 k, .slice a6 M k6] 28 (0, 0))) := rF6
  have P5 : Hid _ := q5
  have KEEP : Hid (∀ W : World, Below F6.heap.size F6 W → W.heap[n5]? = some (.cells #[.int .i64 xb, .int .i64 p, .int .i64 xw, .int .i64 xh, .int .i64 r, .int .i64 k, .slice a5 M k5] 26 (0, 0)) ∧ W.heap[n6]? = some (.cells #[.int .i64 xb, .int .i64 p, .int .i64 xw, .int .i64 xh, .int .i64 r, .int .i64 k, .slice a6 M k6] 28 (0, 0))) := fun W hW => ⟨by rw [hW.block _ (hlt P5.out)]; exact P5.out, by rw [hW.block _ (hlt P6.out)]; exact P6.out⟩
  obtain ⟨c0, c1, c2, c3, c4, c5, c6⟩ := seven q5
  obtain ⟨d0, d1, d2, d3, d4, d5, d6⟩ := seven rF6
  have ne : (E == E) = true := by simp
  clear q5 b4 hF6 rF6 bF6 hn6 b34 o4
  go_upto_region 6 with (fail)
  rw [HF6.out]
  try rw [HN6.out]
  go_region_held3 (fun w' => w'.cell? ⟨n5, 0, none⟩ = some (.int .i64 xb) ∧ w'.cell? ⟨n5, 1, none⟩ = some (.int .i64 p) ∧ w'.cell? ⟨n5, 2, none⟩ = some (.int .i64 xw) ∧ w'.cell? ⟨n5, 3, none⟩ = some (.int .i64 xh) ∧ w'.cell? ⟨n5, 4, none⟩ = some (.int .i64 r) ∧ w'.cell? ⟨n5, 5, none⟩ = some (.int .i64 k) ∧ w'.cell? ⟨n5, 6, none⟩ = some (.slice a5 M k5) ∧ w'.cell? ⟨n6, 0, none⟩ = some (.int .i64 xb) ∧ w'.cell? ⟨n6, 1, none⟩ = some (.int .i64 p) ∧ w'.cell? ⟨n6, 2, none⟩ = some (.int .i64 xw) ∧ w'.cell? ⟨n6, 3, none⟩ = some (.int .i64 xh) ∧ w'.cell? ⟨n6, 4, none⟩ = some (.int .i64 r) ∧ w'.cell? ⟨n6, 5, none⟩ = some (.int .i64 k) ∧ w'.cell? ⟨n6, 6, none⟩ = some (.slice a6 M k6)) (first | assumption | exact ⟨by assumption, by assumption, by assumption, by assumption, by assumption, by assumption, by assumption, by assumption, by assumption, by assumption, by assumption, by assumption, by assumption, by assumption⟩ | go_keep)
    (first
      | (go_at_call 10; refine (OWN.out _ a5 k5).mono ?_; rintro e w15 ⟨rfl, b15⟩; have B15 : Hid (Below F6.heap.size F6 w15) := Below.ofDrew b15; have qr5 := (KEEP.out _ B15.out).1; have qr6 := (KEEP.out _ B15.out).2; obtain ⟨qa0, qa1, qa2, qa3, qa4, qa5, qa6⟩ := seven qr5; obtain ⟨qb0, qb1, qb2, qb3, qb4, qb5, qb6⟩ := seven qr6; clear qr5 qr6; clear b15)
      | (go_at_call 16; refine (DS.out _ a5 a6 k5 k6 (K5.out.keep B15.out) (K6.out.keep B15.out)).mono ?_; rintro e w16 ⟨rfl, b16⟩; have B16 : Hid (Below F6.heap.size F6 w16) := B15.out.trans (b16.mono B15.out.size); have sr5 := (KEEP.out _ B16.out).1; have sr6 := (KEEP.out _ B16.out).2; obtain ⟨sa0, sa1, sa2, sa3, sa4, sa5, sa6⟩ := seven sr5; obtain ⟨sb0, sb1, sb2, sb3, sb4, sb5, sb6⟩ := seven sr6; clear sr5 sr6; clear b16)
      | (go_at_call 13; go_loud (refine (same_true (some ⟨g, 0, none⟩) a _ _ cg cap l _ (I6.out.keep B16.out) (HI.out.keep (B6.out.trans (B16.out.mono B6.out.size))) rfl rfl).mono ?_; rintro e wS ⟨rfl, rfl⟩)))
  all_goals
    go_wp2
    go_ret
    exact ⟨rfl, B6.out.trans (B16.out.mono B6.out.size)⟩
end Go.Proofs.Ytgpkiajakokjmaa
