/- Layer 21: the document's Read. -/
import Derived.Test.YtofmicbhheebiaaDoorMnR
import Derived.Test.YtofmicbhheebiaaDoorGzAF
import Derived.BigQuiet
namespace Go.Proofs.YtofmicbhheebiaaDoor
open Go.RowKit
set_option linter.unusedVariables false
set_option maxRecDepth 4000

theorem rget_w (a : Option Addr) (cap n : Nat) (l : List Int) (v : Int) (w : World) (hn : n = l.length) (hv : getL (l.take 8) = v) (h : IsB w a l) (hm : l.length ≤ maxLen) :
    Calls Tryd.prog 49 #[.slice a n cap] w fun e w' => e = .returned (.int .u64 v) ∧ w = w' := by
  subst hn hv
  exact rget_any a cap l w h hm

/-- A result's box, and what is laid into it. -/
theorem resF {W : World} {n : Nat} {T : TypeId} (x y z : Int) (r : W.heap[n]? = some (.cells #[.int .i64 0, .int .i64 0, .int .i64 0] T (0, 0))) :
    (W.frozen? ⟨n, 0, none⟩ = false ∧ W.frozen? ⟨n, 1, none⟩ = false ∧ W.frozen? ⟨n, 2, none⟩ = false) ∧ (W.cell? ⟨n, 0, none⟩ = some (.int .i64 0) ∧ W.cell? ⟨n, 1, none⟩ = some (.int .i64 0) ∧ W.cell? ⟨n, 2, none⟩ = some (.int .i64 0)) ∧ (((W.setCell ⟨n, 0, none⟩ (.int .i64 x)).setCell ⟨n, 1, none⟩ (.int .i64 y)).setCell ⟨n, 2, none⟩ (.int .i64 z)).cell? ⟨n, 0, none⟩ = some (.int .i64 x) ∧ (((W.setCell ⟨n, 0, none⟩ (.int .i64 x)).setCell ⟨n, 1, none⟩ (.int .i64 y)).setCell ⟨n, 2, none⟩ (.int .i64 z)).cell? ⟨n, 1, none⟩ = some (.int .i64 y) ∧ (((W.setCell ⟨n, 0, none⟩ (.int .i64 x)).setCell ⟨n, 1, none⟩ (.int .i64 y)).setCell ⟨n, 2, none⟩ (.int .i64 z)).cell? ⟨n, 2, none⟩ = some (.int .i64 z) := by
  have q := three21 (lay3_row (a := .int .i64 x) (b := .int .i64 y) (c := .int .i64 z) r)
  exact ⟨threeF21 r, three21 r, q.1, q.2.1, q.2.2⟩
set_option maxRecDepth 20000 in
set_option maxHeartbeats 8000000 in
theorem qread_any (a : Option Addr) (cap n : Nat) (b : List Int) (w : World) (h : IsB w a b) (hn : n = b.length) (hc : b.length ≤ cap) (hm : b.length ≤ maxLen) :
    Calls Tryd.prog 34 #[.slice a n cap] w fun e w' => e = .returned (.tuple #[(rdM b).v, .int .i64 (wrongM b)]) ∧ Below w.heap.size w w' := by
  obtain ⟨E, hE, rE, bE, zE⟩ := res21 51 w
  have HE : Hid (w.alloc (.cells #[.int .i64 0, .int .i64 0, .int .i64 0] 51) = E) := hE
  have BE : Hid (Below w.heap.size w E) := bE
  have RE : Hid (E.heap[w.heap.size]? = some (.cells #[.int .i64 0, .int .i64 0, .int .i64 0] 51 (0, 0))) := rE
  have LE : Hid (w.heap.size < E.heap.size) := (Array.getElem?_eq_some_iff.1 rE).1
  have FE : Hid (∀ W : World, W.heap = E.heap → (W.frozen? ⟨w.heap.size, 0, none⟩ = false ∧ W.frozen? ⟨w.heap.size, 1, none⟩ = false ∧ W.frozen? ⟨w.heap.size, 2, none⟩ = false) ∧ (W.cell? ⟨w.heap.size, 0, none⟩ = some (.int .i64 0) ∧ W.cell? ⟨w.heap.size, 1, none⟩ = some (.int .i64 0) ∧ W.cell? ⟨w.heap.size, 2, none⟩ = some (.int .i64 0)) ∧ ((((W.setCell ⟨w.heap.size, 0, none⟩ (.int .i64 0)).setCell ⟨w.heap.size, 1, none⟩ (.int .i64 0)).setCell ⟨w.heap.size, 2, none⟩ (.int .i64 0)).cell? ⟨w.heap.size, 0, none⟩ = some (.int .i64 0) ∧ (((W.setCell ⟨w.heap.size, 0, none⟩ (.int .i64 0)).setCell ⟨w.heap.size, 1, none⟩ (.int .i64 0)).setCell ⟨w.heap.size, 2, none⟩ (.int .i64 0)).cell? ⟨w.heap.size, 1, none⟩ = some (.int .i64 0) ∧ (((W.setCell ⟨w.heap.size, 0, none⟩ (.int .i64 0)).setCell ⟨w.heap.size, 1, none⟩ (.int .i64 0)).setCell ⟨w.heap.size, 2, none⟩ (.int .i64 0)).cell? ⟨w.heap.size, 2, none⟩ = some (.int .i64 0))) := fun W hW => by
    have r : W.heap[w.heap.size]? = some (.cells #[.int .i64 0, .int .i64 0, .int .i64 0] 51 (0, 0)) := by rw [hW]; exact rE
    exact ⟨threeF21 r, three21 r, three21 (lay3_row (a := .int .i64 0) (b := .int .i64 0) (c := .int .i64 0) r)⟩
  have ZB : Hid (Below w.heap.size w (lay3 E w.heap.size (.int .i64 0) (.int .i64 0) (.int .i64 0))) := bE.trans ((lay3_only _ _ _ _ _).below (Nat.le_refl _))
  by_cases h1 : b.length < 64
  · obtain ⟨⟨f0, f1, f2⟩, ⟨y0, y1, y2⟩, e0, e1, e2⟩ := FE.out E rfl
    have HW : Hid (wrongM b = 3) := if_pos h1
    have HR : Hid (rdM b = mnz) := if_neg (by rw [HW.out]; decide)
    have n1 : (n : Int) < 64 := by omega
    clear h hn hc hm h1 hE rE bE zE
    go_enter Tryd.func34, Tryd.ntmps34
    go_upto_region 1 with (fail)
    rw [HE.out]
    go_wp2
    exact bodyPost_ret (v := .tuple #[.agg #[.int .i64 0, .int .i64 0, .int .i64 0], .int .i64 3]) (by simp [results, Tryd.results34, go_sem, e0, e1, e2]) rfl ⟨by rw [HR.out, HW.out]; rfl, ZB.out⟩
  by_cases h2 : 64 < b.length
  · obtain ⟨⟨f0, f1, f2⟩, ⟨y0, y1, y2⟩, e0, e1, e2⟩ := FE.out E rfl
    have HW : Hid (wrongM b = 6) := by show _ = _; unfold wrongM; rw [if_neg h1, if_pos h2]
    have HR : Hid (rdM b = mnz) := if_neg (by rw [HW.out]; decide)
    have n1 : ¬ (n : Int) < 64 := by omega
    have n2 : (64 : Int) < (n : Int) := by omega
    clear h hn hc hm h1 h2 hE rE bE zE
    go_enter Tryd.func34, Tryd.ntmps34
    go_upto_region 1 with (fail)
    rw [HE.out]
    go_wp2
    exact bodyPost_ret (v := .tuple #[.agg #[.int .i64 0, .int .i64 0, .int .i64 0], .int .i64 6]) (by simp [results, Tryd.results34, go_sem, e0, e1, e2]) rfl ⟨by rw [HR.out, HW.out]; rfl, ZB.out⟩
  have hl : b.length = 64 := by omega
  rw [hl] at hn hc
  subst hn
  obtain ⟨g, o, rfl⟩ : ∃ g o, a = some ⟨g, o, none⟩ := by
    obtain ⟨_, rfl | ⟨g, o, e, _⟩⟩ := h
    · cases hl
    · exact ⟨g, o, e⟩
  have HI : Hid (IsB E (some ⟨g, o, none⟩) b) := h.keep bE
  have p1 : (60 : Int) < (cap : Int) := by omega
  have p2 : (56 : Int) < (cap : Int) := by omega
  have p3 : (4 : Int) ≤ (cap : Int) := by omega
  have p4 : (60 : Int) ≤ (cap : Int) := by omega
  have p5 : (56 : Int) ≤ (cap : Int) := by omega
  have p6 : (8 : Int) ≤ (cap : Int) := by omega
  have p7 : (12 : Int) ≤ (cap : Int) := by omega
  have p8 : (4 : Int) < (cap : Int) := by omega
  have m4 : ¬ cap = 4 := by omega
  have m8 : ¬ cap = 8 := by omega
  have p9 : (8 : Int) < (cap : Int) := by omega
  have t4 : (b.take 4).length = 4 := by simp [hl]
  have d60 : (b.drop 60).length = 4 := by simp [hl]
  have P4 : Hid (∀ W, IsB W (some ⟨g, o, none⟩) b → IsB W (some ⟨g, o, none⟩) (b.take 4)) := fun W q => by have := q.part 0 4 rfl; rwa [List.drop_zero] at this
  have P60 : Hid (∀ W, IsB W (some ⟨g, o, none⟩) b → IsB W (some ⟨g, o + 60, none⟩) (b.drop 60)) := fun W q => by have := q.part 60 4 rfl; rwa [List.take_of_length_le (by rw [d60]; exact Nat.le_refl _)] at this
  have EQ : Hid (∀ (W : World) (c1 c2 : Nat), IsB W (some ⟨g, o, none⟩) b → Calls Tryd.prog 47 #[.slice (some ⟨g, o, none⟩) 4 c1, .slice (some ⟨g, o + 60, none⟩) 4 c2] W fun e w' => e = .returned (.bool (decide (b.take 4 = b.drop 60))) ∧ W = w') := fun W c1 c2 q =>
    same_any _ _ 4 4 c1 c2 _ _ W (P4.out W q) (P60.out W q) t4.symm d60.symm
  by_cases q1 : b.take 4 = b.drop 60
  rotate_left
  · have HW : Hid (wrongM b = 9) := by show _ = _; unfold wrongM; rw [if_neg h1, if_neg h2, if_pos q1]
    have HR : Hid (rdM b = mnz) := if_neg (by rw [HW.out]; decide)
    have dv : decide (b.take 4 = b.drop 60) = false := decide_eq_false q1
    rw [dv] at EQ
    clear h hc hm h1 h2 hl t4 d60 q1 dv hE rE bE zE
    go_enter Tryd.func34, Tryd.ntmps34
    go_upto_region 1 with (fail)
    rw [HE.out]
    go_upto_region 5 with (fail)
    go_quiet ((go_at_call 47; refine Calls.mono (EQ.out _ _ _ (by exact HI.out)) ?_; rintro e w' ⟨rfl, rfl⟩; exact ⟨rfl, _, rfl⟩))
    obtain ⟨⟨f0, f1, f2⟩, ⟨y0, y1, y2⟩, e0, e1, e2⟩ := FE.out (E.drewN nq) rfl
    go_wp2
    exact bodyPost_ret (v := .tuple #[.agg #[.int .i64 0, .int .i64 0, .int .i64 0], .int .i64 9]) (by simp [results, Tryd.results34, go_sem, e0, e1, e2]) rfl ⟨by rw [HR.out, HW.out]; rfl, ⟨ZB.out.os, ZB.out.tape, ZB.out.output, ZB.out.size, ZB.out.block⟩⟩
  have dv : decide (b.take 4 = b.drop 60) = true := decide_eq_true q1
  rw [dv] at EQ
  have GA : Hid (∀ (W : World) (c k : Nat) (v : Int), k ≤ 60 → getL ((b.drop k).take 4) = v → IsB W (some ⟨g, o, none⟩) b → Calls Tryd.prog 49 #[.slice (some ⟨g, o + k, none⟩) 4 c] W fun e w' => e = .returned (.int .u64 v) ∧ W = w') := fun W c k v hk hv q =>
    rget_w _ c 4 ((b.drop k).take 4) v W (by simp [hl]; omega) (by rw [take48]; exact hv) (q.part k 4 rfl) (by simp [hl]; exact Nat.le_trans (Nat.min_le_left _ _) (by decide))
  obtain ⟨v0, v1⟩ := get4_bd h.1 56
  obtain ⟨v, hv⟩ : ∃ v, getL ((b.drop 56).take 4) = v := ⟨_, rfl⟩
  have AB : AllB (b.take 56) := AllB.take h.1 56
  obtain ⟨s0, s1⟩ := sumI_bd AB
  obtain ⟨S, hS⟩ : ∃ S, sumI (b.take 56) = S := ⟨_, rfl⟩
  rw [hv] at v0 v1
  rw [hS] at s0 s1
  have GT : Hid (∀ (W : World) (c : Nat), IsB W (some ⟨g, o, none⟩) b → Calls Tryd.prog 49 #[.slice (some ⟨g, o + 56, none⟩) 4 c] W fun e w' => e = .returned (.int .u64 v) ∧ W = w') := fun W c q => GA.out W c 56 v (by omega) hv q
  have SM : Hid (∀ (W : World) (c : Nat), IsB W (some ⟨g, o, none⟩) b → Calls Tryd.prog 48 #[.slice (some ⟨g, o, none⟩) 56 c] W fun e w' => e = .returned (.int .u32 S) ∧ W = w') := fun W c q => by
    have q2 := q.part 0 56 rfl
    rw [List.drop_zero] at q2
    refine (rsum_of _ c 56 (b.take 56) W (by simp [hl]) q2 (by simp [hl]; decide)).mono ?_
    rintro e w' ⟨rfl, rfl⟩
    exact ⟨by rw [hS], rfl⟩
  have wS : IntKind.u64.wrap S = S := by rw [IntKind.wrap_u64]; omega
  by_cases q2 : S = v
  rotate_left
  · have HW : Hid (wrongM b = 5) := by show _ = _; unfold wrongM; rw [if_neg h1, if_neg h2, if_neg (fun q => q q1), if_pos (by rw [hv, hS]; exact fun q => q2 q.symm)]
    have HR : Hid (rdM b = mnz) := if_neg (by rw [HW.out]; decide)
    clear h hc hm h1 h2 hl t4 d60 q1 dv hv hS AB hE rE bE zE
    have b2 : (S == v) = false := by simpa using q2
    go_enter Tryd.func34, Tryd.ntmps34
    go_upto_region 1 with (fail)
    rw [HE.out]
    go_upto_region 5 with (fail)
    go_quiet ((go_at_call 47; refine Calls.mono (EQ.out _ _ _ (by exact HI.out)) ?_; rintro e w' ⟨rfl, rfl⟩; exact ⟨rfl, _, rfl⟩))
    revert nq; intro n1
    go_upto_region 7 with (fail)
    go_quiet (first
        | (go_at_call 49; refine Calls.mono (GT.out _ _ (by exact HI.out)) ?_; rintro e w' ⟨rfl, rfl⟩; exact ⟨rfl, _, rfl⟩)
        | (go_at_call 48; refine Calls.mono (SM.out _ _ (by exact HI.out)) ?_; rintro e w' ⟨rfl, rfl⟩; exact ⟨rfl, _, rfl⟩))
    revert nq; intro n2
    obtain ⟨V, hV⟩ : ∃ V, (E.drewN n1).drewN n2 = V := ⟨_, rfl⟩
    obtain ⟨⟨f0, f1, f2⟩, ⟨y0, y1, y2⟩, e0, e1, e2⟩ := FE.out V (by rw [← hV]; rfl)
    have ZV : Hid (Below w.heap.size w (lay3 V w.heap.size (.int .i64 0) (.int .i64 0) (.int .i64 0))) := by show Below _ _ _; rw [← hV]; exact ⟨ZB.out.os, ZB.out.tape, ZB.out.output, ZB.out.size, ZB.out.block⟩
    rw [hV]
    go_wp2
    exact bodyPost_ret (v := .tuple #[.agg #[.int .i64 0, .int .i64 0, .int .i64 0], .int .i64 5]) (by simp [results, Tryd.results34, go_sem, e0, e1, e2]) rfl ⟨by rw [HR.out, HW.out]; rfl, ZV.out⟩
  subst q2
  have HW : Hid (wrongM b = if okM (tldM b) = true ∧ manM (tldM b) = b then 0 else 4) := by
    show _ = _
    unfold wrongM
    rw [if_neg h1, if_neg h2, if_neg (fun q => q q1), if_neg (by rw [hv, hS]; exact fun q => q rfl)]
  obtain ⟨⟨xs, xf, xn⟩, hx⟩ : ∃ m, tldM b = m := ⟨_, rfl⟩
  obtain ⟨vf, hvf⟩ : ∃ vf : Nat → Int, vf = fun q => getL ((b.drop (q - o)).take 4) := ⟨_, rfl⟩
  have V0 : Hid (vf o = xs) := by show _ = _; rw [hvf]; simp only [Nat.sub_self, List.drop_zero]; exact congrArg Mn.s hx
  have V4 : Hid (vf (o + 4) = xf) := by show _ = _; rw [hvf]; simp only [Nat.add_sub_cancel_left]; exact congrArg Mn.f hx
  have V8 : Hid (vf (o + 8) = xn) := by show _ = _; rw [hvf]; simp only [Nat.add_sub_cancel_left]; exact congrArg Mn.n hx
  have GG : Hid (∀ (W : World) (q c : Nat), o ≤ q ∧ q ≤ o + 60 → IsB W (some ⟨g, o, none⟩) b → Calls Tryd.prog 49 #[.slice (some ⟨g, q, none⟩) 4 c] W fun e w' => e = .returned (.int .u64 (vf q)) ∧ W = w') := fun W q c hq i => by
    have := GA.out W c (q - o) (vf q) (by omega) (by rw [hvf]) i
    rwa [show o + (q - o) = q by omega] at this
  obtain ⟨xs0, xs1⟩ := get4_bd h.1 0
  obtain ⟨xf0, xf1⟩ := get4_bd h.1 4
  obtain ⟨xn0, xn1⟩ := get4_bd h.1 8
  rw [show getL ((b.drop 0).take 4) = xs from by rw [List.drop_zero]; exact congrArg Mn.s hx] at xs0 xs1
  rw [show getL ((b.drop 4).take 4) = xf from congrArg Mn.f hx] at xf0 xf1
  rw [show getL ((b.drop 8).take 4) = xn from congrArg Mn.n hx] at xn0 xn1
  have wx : IntKind.i64.wrap xs = xs := by rw [IntKind.wrap_i64]; omega
  have wf : IntKind.i64.wrap xf = xf := by rw [IntKind.wrap_i64]; omega
  have wn : IntKind.i64.wrap xn = xn := by rw [IntKind.wrap_i64]; omega
  have QB : Hid (∀ w, Calls Tryd.prog 50 #[.agg #[.int .i64 xs, .int .i64 xf, .int .i64 xn]] w fun e w' => ∃ a c, e = .returned (.tuple #[.slice a (outM ⟨xs, xf, xn⟩).length c, .int .i64 (errM ⟨xs, xf, xn⟩)]) ∧ OwnsB w' w.heap.size a (outM ⟨xs, xf, xn⟩) c ∧ Below w.heap.size w w') := fun w => qbytes_any ⟨xs, xf, xn⟩ w
  rw [hx] at HW
  have HX : Hid (tldM b = ⟨xs, xf, xn⟩) := hx
  have HH : Hid (Below w.heap.size w E) := bE
  clear dv hv hS AB hx GA hvf h xs0 xs1 xf0 xf1 xn0 xn1 hE rE bE zE
  go_enter Tryd.func34, Tryd.ntmps34
  go_upto_region 1 with (fail)
  rw [HE.out]
  go_upto_region 5 with (fail)
  go_quiet ((go_at_call 47; refine Calls.mono (EQ.out _ _ _ (by exact HI.out)) ?_; rintro e w' ⟨rfl, rfl⟩; exact ⟨rfl, _, rfl⟩))
  revert nq; intro n1
  go_upto_region 7 with (fail)
  go_quiet (first
      | (go_at_call 49; refine Calls.mono (GT.out _ _ (by exact HI.out)) ?_; rintro e w' ⟨rfl, rfl⟩; exact ⟨rfl, _, rfl⟩)
      | (go_at_call 48; refine Calls.mono (SM.out _ _ (by exact HI.out)) ?_; rintro e w' ⟨rfl, rfl⟩; exact ⟨rfl, _, rfl⟩))
  revert nq; intro n2
  obtain ⟨V, hV⟩ : ∃ V, (E.drewN n1).drewN n2 = V := ⟨_, rfl⟩
  have IV : Hid (IsB V (some ⟨g, o, none⟩) b) := by show IsB _ _ _; rw [← hV]; exact HI.out
  have HVE : Hid (V.heap = E.heap) := by show _ = _; rw [← hV]; rfl
  have BV : Hid (Below w.heap.size w V) := by show Below _ _ _; rw [← hV]; exact ⟨HH.out.os, HH.out.tape, HH.out.output, HH.out.size, HH.out.block⟩
  rw [hV]
  go_upto_region 9 with (fail)
  have IA : Hid (IsB (V.alloc (.cells #[.int .i64 0, .int .i64 0, .int .i64 0] 51)) (some ⟨g, o, none⟩) b) := IV.out.keep ((Below.refl _ V).alloc (Nat.le_refl _) _)
  rename_i Q1 K1 hK1
  go_region_held3 (fun w' => True) (first | trivial | go_keep)
    ((go_at_call 49; refine Calls.mono (GG.out _ _ _ (by omega) (by with_reducible first | exact IV.out | exact isB_drewM IV.out | exact IA.out | exact isB_drewM IA.out)) ?_; rintro e w' ⟨rfl, rfl⟩; first | rw [V0.out] | rw [V4.out] | rw [V8.out]))
  all_goals
    refine hK1 _ _ ?_
    obtain ⟨Wf, hWf⟩ : ∃ W, (V.alloc (.cells #[.int .i64 xs, .int .i64 xf, .int .i64 xn] 51)).drew = W := ⟨_, rfl⟩
    rw [hWf]
    have rW : Wf.heap[V.heap.size]? = some (.cells #[.int .i64 xs, .int .i64 xf, .int .i64 xn] 51 (0, 0)) := by rw [← hWf]; exact Go.heap_alloc_new V _
    have BW : Hid (Below V.heap.size V Wf) := by
      show Below _ _ _
      rw [← hWf]
      have q := (Below.refl V.heap.size V).alloc (Nat.le_refl _) (.cells #[.int .i64 xs, .int .i64 xf, .int .i64 xn] 51)
      exact ⟨q.os, q.tape, q.output, q.size, q.block⟩
    obtain ⟨NV, hNV⟩ : ∃ n, V.heap.size = n := ⟨_, rfl⟩
    rw [hNV] at rW
    have RW : Hid (Wf.heap[NV]? = some (.cells #[.int .i64 xs, .int .i64 xf, .int .i64 xn] 51 (0, 0))) := rW
    have LW : Hid (NV < Wf.heap.size) := (Array.getElem?_eq_some_iff.1 rW).1
    obtain ⟨z0, z1, z2⟩ := three21 rW
    have LV : Hid (w.heap.size < V.heap.size) := by show _ < _; have := LE.out; rw [HVE.out]; exact this
    (try rw [hNV])
    clear hWf rW hNV hK1
    go_wp2_with fail
    refine Calls.mono (QB.out _) ?_
    rintro e w2 ⟨a2, c2, rfl, o2, b2⟩
    have B2 : Hid (Below V.heap.size V w2) := BW.out.trans (b2.mono BW.out.size)
    have R2 : w2.heap[w.heap.size]? = some (.cells #[.int .i64 0, .int .i64 0, .int .i64 0] 51 (0, 0)) := by rw [B2.out.block _ LV.out, HVE.out]; exact RE.out
    have G2 : w2.heap[NV]? = some (.cells #[.int .i64 xs, .int .i64 xf, .int .i64 xn] 51 (0, 0)) := by rw [b2.block _ LW.out]; exact RW.out
    have BL : Hid (∀ x y z : Int, Below w.heap.size w (lay3 w2 w.heap.size (.int .i64 x) (.int .i64 y) (.int .i64 z))) := fun x y z => (BV.out.trans (B2.out.mono BV.out.size)).trans ((lay3_only _ _ _ _ _).below (Nat.le_refl _))
    have I2 : Hid (IsB w2 a2 (outM ⟨xs, xf, xn⟩)) := ownsB_isB (outM_allB _) o2
    have J2 : Hid (IsB w2 (some ⟨g, o, none⟩) b) := IV.out.keep B2.out
    clear z0 z1 z2
    obtain ⟨z0, z1, z2⟩ := three21 G2
    by_cases hok : okM ⟨xs, xf, xn⟩ = true
    · have e0' : errM ⟨xs, xf, xn⟩ = 0 := if_pos hok
      have eo : outM ⟨xs, xf, xn⟩ = manM ⟨xs, xf, xn⟩ := if_pos hok
      have SA : Hid (Calls Tryd.prog 47 #[.slice (some ⟨g, o, none⟩) 64 cap, .slice a2 (outM ⟨xs, xf, xn⟩).length c2] w2 fun e w' => e = .returned (.bool (decide (b = manM ⟨xs, xf, xn⟩))) ∧ w2 = w') := by
        have q := same_any _ _ 64 _ cap c2 b (outM ⟨xs, xf, xn⟩) w2 J2.out I2.out hl.symm rfl
        rw [eo] at q ⊢
        exact q
      rw [e0']
      by_cases hb : b = manM ⟨xs, xf, xn⟩
      · have HW2 : Hid (wrongM b = 0) := by show _ = _; rw [HW.out, if_pos ⟨hok, hb.symm⟩]
        have HR : Hid (rdM b = ⟨xs, xf, xn⟩) := by show _ = _; rw [rdM, if_pos HW2.out, HX.out]
        have dv2 : decide (b = manM ⟨xs, xf, xn⟩) = true := decide_eq_true hb
        rw [dv2] at SA
        obtain ⟨⟨f0, f1, f2⟩, ⟨y0, y1, y2⟩, e0, e1, e2⟩ := resF xs xf xn R2
        obtain ⟨LO, hLO⟩ : ∃ n, (outM ⟨xs, xf, xn⟩).length = n := ⟨_, rfl⟩
        rw [hLO] at SA ⊢
        clear hok hb dv2 e0' eo R2 G2 o2 b2 hLO
        go_wp2_with (go_at_call 47; refine Calls.mono SA.out ?_; rintro e w' ⟨rfl, rfl⟩)
        exact bodyPost_ret (v := .tuple #[.agg #[.int .i64 xs, .int .i64 xf, .int .i64 xn], .int .i64 0]) (by simp [results, Tryd.results34, go_sem, e0, e1, e2]) rfl ⟨by rw [HR.out, HW2.out]; rfl, BL.out xs xf xn⟩
      · have HW2 : Hid (wrongM b = 4) := by show _ = _; rw [HW.out, if_neg (fun q => hb q.2.symm)]
        have HR : Hid (rdM b = mnz) := if_neg (by rw [HW2.out]; decide)
        have dv2 : decide (b = manM ⟨xs, xf, xn⟩) = false := decide_eq_false hb
        rw [dv2] at SA
        obtain ⟨⟨f0, f1, f2⟩, ⟨y0, y1, y2⟩, e0, e1, e2⟩ := resF 0 0 0 R2
        obtain ⟨LO, hLO⟩ : ∃ n, (outM ⟨xs, xf, xn⟩).length = n := ⟨_, rfl⟩
        rw [hLO] at SA ⊢
        clear hok hb dv2 e0' eo R2 G2 o2 b2 hLO
        go_wp2_with (go_at_call 47; refine Calls.mono SA.out ?_; rintro e w' ⟨rfl, rfl⟩)
        exact bodyPost_ret (v := .tuple #[.agg #[.int .i64 0, .int .i64 0, .int .i64 0], .int .i64 4]) (by simp [results, Tryd.results34, go_sem, e0, e1, e2]) rfl ⟨by rw [HR.out, HW2.out]; rfl, BL.out 0 0 0⟩
    · have e4' : errM ⟨xs, xf, xn⟩ = 4 := if_neg hok
      have HW2 : Hid (wrongM b = 4) := by show _ = _; rw [HW.out, if_neg (fun q => hok q.1)]
      have HR : Hid (rdM b = mnz) := if_neg (by rw [HW2.out]; decide)
      rw [e4']
      obtain ⟨⟨f0, f1, f2⟩, ⟨y0, y1, y2⟩, e0, e1, e2⟩ := resF 0 0 0 R2
      clear hok e4' R2 G2 o2 b2
      go_wp2
      exact bodyPost_ret (v := .tuple #[.agg #[.int .i64 0, .int .i64 0, .int .i64 0], .int .i64 4]) (by simp [results, Tryd.results34, go_sem, e0, e1, e2]) rfl ⟨by rw [HR.out, HW2.out]; rfl, BL.out 0 0 0⟩
end Go.Proofs.YtofmicbhheebiaaDoor
