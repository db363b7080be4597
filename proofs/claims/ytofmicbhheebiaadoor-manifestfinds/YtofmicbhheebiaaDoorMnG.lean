/- Layer 21: why bytes are no manifest; Read. -/
import Derived.Test.YtofmicbhheebiaaDoorGzAH
import Derived.Test.YtofmicbhheebiaaDoorCnC
import Derived.BigQuiet
namespace Go.Proofs.YtofmicbhheebiaaDoor
open Go.RowKit
set_option linter.unusedVariables false
set_option maxRecDepth 4000

theorem isB_drewM {w : World} {a : Option Addr} {l : List Int} (h : IsB w a l) : IsB w.drew a l := h
set_option maxRecDepth 20000 in
set_option maxHeartbeats 4000000 in
theorem mwrong_any (a : Option Addr) (cap n : Nat) (b : List Int) (w : World) (h : IsB w a b) (hn : n = b.length) (hc : b.length ≤ cap) (hm : b.length ≤ maxLen) :
    Calls Tryd.prog 41 #[.slice a n cap] w fun e w' => e = .returned (.int .i64 (wrongM b)) ∧ Below w.heap.size w w' := by
  by_cases h1 : b.length < 64
  · have HE : Hid (wrongM b = 3) := if_pos h1
    have n1 : (n : Int) < 64 := by omega
    clear h hn hc hm h1
    go_enter Tryd.func41, Tryd.ntmps41
    go_wp2
    go_ret
    exact ⟨by rw [HE.out]; rfl, Below.refl _ w⟩
  by_cases h2 : 64 < b.length
  · have HE : Hid (wrongM b = 6) := by show _ = _; unfold wrongM; rw [if_neg h1, if_pos h2]
    have n1 : ¬ (n : Int) < 64 := by omega
    have n2 : (64 : Int) < (n : Int) := by omega
    clear h hn hc hm h1 h2
    go_enter Tryd.func41, Tryd.ntmps41
    go_wp2
    go_ret
    exact ⟨by rw [HE.out]; rfl, Below.refl _ w⟩
  have hl : b.length = 64 := by omega
  rw [hl] at hn hc
  subst hn
  obtain ⟨g, o, rfl⟩ : ∃ g o, a = some ⟨g, o, none⟩ := by
    obtain ⟨_, rfl | ⟨g, o, e, _⟩⟩ := h
    · cases hl
    · exact ⟨g, o, e⟩
  have HI : Hid (IsB w (some ⟨g, o, none⟩) b) := h
  have p1 : (60 : Int) < (cap : Int) := by omega
  have p2 : (56 : Int) < (cap : Int) := by omega
  have p3 : (4 : Int) ≤ (cap : Int) := by omega
  have p4 : (60 : Int) ≤ (cap : Int) := by omega
  have p5 : (56 : Int) ≤ (cap : Int) := by omega
  have t4 : (b.take 4).length = 4 := by simp [hl]
  have d60 : (b.drop 60).length = 4 := by simp [hl]
  have P4 : Hid (∀ W, IsB W (some ⟨g, o, none⟩) b → IsB W (some ⟨g, o, none⟩) (b.take 4)) := fun W q => by have := q.part 0 4 rfl; rwa [List.drop_zero] at this
  have P60 : Hid (∀ W, IsB W (some ⟨g, o, none⟩) b → IsB W (some ⟨g, o + 60, none⟩) (b.drop 60)) := fun W q => by have := q.part 60 4 rfl; rwa [List.take_of_length_le (by rw [d60]; exact Nat.le_refl _)] at this
  have EQ : Hid (∀ (W : World) (c1 c2 : Nat), IsB W (some ⟨g, o, none⟩) b → Calls Tryd.prog 59 #[.slice (some ⟨g, o, none⟩) 4 c1, .slice (some ⟨g, o + 60, none⟩) 4 c2] W fun e w' => e = .returned (.bool (decide (b.take 4 = b.drop 60))) ∧ W = w') := fun W c1 c2 q =>
    bequal_any _ _ 4 4 c1 c2 _ _ W (P4.out W q) (P60.out W q) t4.symm d60.symm
  by_cases e1 : b.take 4 = b.drop 60
  rotate_left
  · have HE : Hid (wrongM b = 9) := by show _ = _; unfold wrongM; rw [if_neg h1, if_neg h2, if_pos e1]
    have dv : decide (b.take 4 = b.drop 60) = false := decide_eq_false e1
    rw [dv] at EQ
    clear h hc hm h1 h2 hl t4 d60 e1 dv
    go_enter Tryd.func41, Tryd.ntmps41
    go_upto_region 5 with (fail)
    go_quiet ((go_at_call 59; refine Calls.mono (EQ.out _ _ _ (by exact HI.out)) ?_; rintro e w' ⟨rfl, rfl⟩; exact ⟨rfl, _, rfl⟩))
    go_wp2
    go_ret
    exact ⟨by rw [HE.out]; rfl, ⟨rfl, rfl, rfl, Nat.le_refl _, fun _ _ => rfl⟩⟩
  have dv : decide (b.take 4 = b.drop 60) = true := decide_eq_true e1
  rw [dv] at EQ
  obtain ⟨v0, v1⟩ := get4_bd h.1 56
  obtain ⟨v, hv⟩ : ∃ v, getL ((b.drop 56).take 4) = v := ⟨_, rfl⟩
  have AB : AllB (b.take 56) := AllB.take h.1 56
  obtain ⟨s0, s1⟩ := sumI_bd AB
  obtain ⟨S, hS⟩ : ∃ S, sumI (b.take 56) = S := ⟨_, rfl⟩
  rw [hv] at v0 v1
  rw [hS] at s0 s1
  have GT : Hid (∀ (W : World) (c : Nat), IsB W (some ⟨g, o, none⟩) b → Calls Tryd.prog 60 #[.slice (some ⟨g, o + 56, none⟩) 4 c] W fun e w' => e = .returned (.int .u64 v) ∧ W = w') := fun W c q =>
    get_of _ c 4 ((b.drop 56).take 4) v W (by simp [hl]) (by rw [take48]; exact hv) (q.part 56 4 rfl) (by simp [hl]; decide)
  have SM : Hid (∀ (W : World) (c : Nat), IsB W (some ⟨g, o, none⟩) b → Calls Tryd.prog 40 #[.slice (some ⟨g, o, none⟩) 56 c] W fun e w' => e = .returned (.int .u32 S) ∧ W = w') := fun W c q => by
    have q2 := q.part 0 56 rfl
    rw [List.drop_zero] at q2
    refine (sum_of _ c 56 (b.take 56) W (by simp [hl]) q2 (by simp [hl]; decide)).mono ?_
    rintro e w' ⟨rfl, rfl⟩
    exact ⟨by rw [hS], rfl⟩
  have wS : IntKind.u64.wrap S = S := by rw [IntKind.wrap_u64]; omega
  by_cases e2 : v = S
  rotate_left
  · have HE : Hid (wrongM b = 5) := by show _ = _; unfold wrongM; rw [if_neg h1, if_neg h2, if_neg (fun q => q e1), if_pos (by rw [hv, hS]; exact e2)]
    clear h hc hm h1 h2 hl t4 d60 e1 dv hv hS AB
    have b2 : (v == S) = false := by simpa using e2
    go_enter Tryd.func41, Tryd.ntmps41
    go_upto_region 5 with (fail)
    go_quiet ((go_at_call 59; refine Calls.mono (EQ.out _ _ _ (by exact HI.out)) ?_; rintro e w' ⟨rfl, rfl⟩; exact ⟨rfl, _, rfl⟩))
    go_upto_region 7 with (fail)
    go_quiet (first
        | (go_at_call 60; refine Calls.mono (GT.out _ _ (by exact HI.out)) ?_; rintro e w' ⟨rfl, rfl⟩; exact ⟨rfl, _, rfl⟩)
        | (go_at_call 40; refine Calls.mono (SM.out _ _ (by exact HI.out)) ?_; rintro e w' ⟨rfl, rfl⟩; exact ⟨rfl, _, rfl⟩))
    go_wp2
    go_ret
    exact ⟨by rw [HE.out]; rfl, ⟨rfl, rfl, rfl, Nat.le_refl _, fun _ _ => rfl⟩⟩
  subst e2
  have HW : Hid (wrongM b = if wrM b = true then 0 else 4) := by
    show _ = _
    unfold wrongM wrM
    rw [if_neg h1, if_neg h2, if_neg (fun q => q e1), if_neg (by rw [hv, hS]; exact fun q => q rfl)]
    simp only [decide_eq_true_eq]
  have WR : Hid (∀ W, IsB W (some ⟨g, o, none⟩) b → Calls Tryd.prog 61 #[.slice (some ⟨g, o, none⟩) 64 cap] W fun e w' => e = .returned (.bool (wrM b)) ∧ Below W.heap.size W w') := fun W q => miswritten_any _ cap 64 b W q hl rfl hc
  obtain ⟨r, hr⟩ : ∃ r, wrM b = r := ⟨_, rfl⟩
  rw [hr] at HW WR
  clear h hc hm h1 h2 hl t4 d60 e1 dv hv hS AB hr
  cases r
  · go_enter Tryd.func41, Tryd.ntmps41
    go_upto_region 5 with (fail)
    go_quiet ((go_at_call 59; refine Calls.mono (EQ.out _ _ _ (by exact HI.out)) ?_; rintro e w' ⟨rfl, rfl⟩; exact ⟨rfl, _, rfl⟩))
    go_upto_region 7 with (fail)
    go_quiet (first
        | (go_at_call 60; refine Calls.mono (GT.out _ _ (by exact HI.out)) ?_; rintro e w' ⟨rfl, rfl⟩; exact ⟨rfl, _, rfl⟩)
        | (go_at_call 40; refine Calls.mono (SM.out _ _ (by exact HI.out)) ?_; rintro e w' ⟨rfl, rfl⟩; exact ⟨rfl, _, rfl⟩))
    go_wp2_with (go_at_call 61; refine Calls.mono (WR.out _ (by exact HI.out)) ?_; rintro e w3 ⟨rfl, b3⟩; have B3 : Hid (Below w.heap.size w w3) := ⟨b3.os, b3.tape, b3.output, b3.size, b3.block⟩)
    go_ret
    exact ⟨by rw [HW.out]; rfl, B3.out⟩
  · go_enter Tryd.func41, Tryd.ntmps41
    go_upto_region 5 with (fail)
    go_quiet ((go_at_call 59; refine Calls.mono (EQ.out _ _ _ (by exact HI.out)) ?_; rintro e w' ⟨rfl, rfl⟩; exact ⟨rfl, _, rfl⟩))
    go_upto_region 7 with (fail)
    go_quiet (first
        | (go_at_call 60; refine Calls.mono (GT.out _ _ (by exact HI.out)) ?_; rintro e w' ⟨rfl, rfl⟩; exact ⟨rfl, _, rfl⟩)
        | (go_at_call 40; refine Calls.mono (SM.out _ _ (by exact HI.out)) ?_; rintro e w' ⟨rfl, rfl⟩; exact ⟨rfl, _, rfl⟩))
    go_wp2_with (go_at_call 61; refine Calls.mono (WR.out _ (by exact HI.out)) ?_; rintro e w3 ⟨rfl, b3⟩; have B3 : Hid (Below w.heap.size w w3) := ⟨b3.os, b3.tape, b3.output, b3.size, b3.block⟩)
    go_ret
    exact ⟨by rw [HW.out]; rfl, B3.out⟩

set_option maxRecDepth 20000 in
set_option maxHeartbeats 4000000 in
theorem mread_any (a : Option Addr) (cap n : Nat) (b : List Int) (w : World) (h : IsB w a b) (hn : n = b.length) (hc : b.length ≤ cap) (hm : b.length ≤ maxLen) :
    Calls Tryd.prog 18 #[.slice a n cap] w fun e w' => e = .returned (.tuple #[(rdM b).v, .int .i64 (wrongM b)]) ∧ Below w.heap.size w w' := by
  obtain ⟨E, hE, rE, bE, zE⟩ := res21 48 w
  have HE : Hid (w.alloc (.cells #[.int .i64 0, .int .i64 0, .int .i64 0] 48) = E) := hE
  have BE : Hid (Below w.heap.size w E) := bE
  have RE : Hid (E.heap[w.heap.size]? = some (.cells #[.int .i64 0, .int .i64 0, .int .i64 0] 48 (0, 0))) := rE
  have LE : Hid (w.heap.size < E.heap.size) := (Array.getElem?_eq_some_iff.1 rE).1
  have WR : Hid (∀ W, E = W → Calls Tryd.prog 41 #[.slice a n cap] W fun e w' => e = .returned (.int .i64 (wrongM b)) ∧ Below W.heap.size W w') := fun W e => mwrong_any a cap n b W (h.keep (by rw [← e]; exact bE)) hn hc hm
  by_cases hw : wrongM b = 0
  · have hl := (wrong_zero hw).1
    have TD : Hid (∀ W, Below w.heap.size w W → Calls Tryd.prog 42 #[.slice a n cap] W fun e w' => e = .returned (tldM b).v ∧ Below W.heap.size W w') := fun W e => mtold_any a cap n b W (h.keep e) hl (by omega) (by omega)
    have HR : Hid (rdM b = tldM b) := if_pos hw
    have HW : Hid (wrongM b = 0) := hw
    rw [hw] at WR
    obtain ⟨⟨s, f, k⟩, hm'⟩ : ∃ m, tldM b = m := ⟨_, rfl⟩
    rw [hm'] at TD HR
    unfold Mn.v at TD
    clear h hn hc hm hE rE bE zE hw hl hm'
    go_enter Tryd.func18, Tryd.ntmps18
    go_upto_region 1 with (fail)
    rw [HE.out]
    go_wp2_with (first
      | (go_at_call 42; refine Calls.mono (TD.out w1 (BE.out.trans (B1.out.mono (Nat.le_of_lt LE.out)))) ?_; rintro e w2 ⟨rfl, b2⟩; have B2 : Hid (Below E.heap.size E w2) := B1.out.trans (b2.mono B1.out.size); have r2 : w2.heap[w.heap.size]? = some (.cells #[.int .i64 0, .int .i64 0, .int .i64 0] 48 (0, 0)) := (by rw [B2.out.block _ LE.out]; exact RE.out); obtain ⟨y0, y1, y2⟩ := three21 r2; obtain ⟨f0, f1, f2⟩ := threeF21 r2; obtain ⟨e0, e1, e2⟩ := three21 (lay3_row (a := .int .i64 s) (b := .int .i64 f) (c := .int .i64 k) r2); unfold lay3 at e0 e1 e2; clear r2 b2)
      | (go_at_call 41; refine Calls.mono (WR.out _ rfl) ?_; rintro e w1 ⟨rfl, b1⟩; have B1 : Hid (Below E.heap.size E w1) := b1; clear b1))
    exact bodyPost_ret (v := .tuple #[.agg #[.int .i64 s, .int .i64 f, .int .i64 k], .int .i64 0]) (by simp [results, Tryd.results18, go_sem, e0, e1, e2]) rfl ⟨by rw [HR.out, HW.out]; rfl, (BE.out.trans (B2.out.mono (Nat.le_of_lt LE.out))).trans ((lay3_only _ _ _ _ _).below (Nat.le_refl _))⟩
  · have HR : Hid (rdM b = mnz) := if_neg hw
    obtain ⟨q, hq⟩ : ∃ q, wrongM b = q := ⟨_, rfl⟩
    have HW : Hid (wrongM b = q) := hq
    rw [hq] at WR hw
    have b0 : (q == 0) = false := by simpa using hw
    clear h hn hc hm hE rE bE zE hq
    go_enter Tryd.func18, Tryd.ntmps18
    go_upto_region 1 with (fail)
    rw [HE.out]
    go_wp2_with (go_at_call 41; refine Calls.mono (WR.out _ rfl) ?_; rintro e w2 ⟨rfl, b2⟩; have B2 : Hid (Below E.heap.size E w2) := b2; have r2 : w2.heap[w.heap.size]? = some (.cells #[.int .i64 0, .int .i64 0, .int .i64 0] 48 (0, 0)) := (by rw [B2.out.block _ LE.out]; exact RE.out); obtain ⟨y0, y1, y2⟩ := three21 r2; obtain ⟨f0, f1, f2⟩ := threeF21 r2; obtain ⟨e0, e1, e2⟩ := three21 (lay3_row (a := .int .i64 0) (b := .int .i64 0) (c := .int .i64 0) r2); unfold lay3 at e0 e1 e2; clear r2 b2)
    exact bodyPost_ret (v := .tuple #[.agg #[.int .i64 0, .int .i64 0, .int .i64 0], .int .i64 q]) (by simp [results, Tryd.results18, go_sem, e0, e1, e2]) rfl ⟨by rw [HR.out, HW.out]; rfl, (BE.out.trans (B2.out.mono (Nat.le_of_lt LE.out))).trans ((lay3_only _ _ _ _ _).below (Nat.le_refl _))⟩
end Go.Proofs.YtofmicbhheebiaaDoor
