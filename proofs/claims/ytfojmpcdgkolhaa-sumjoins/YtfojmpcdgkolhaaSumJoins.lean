/- Two sums make that of the pieces joined: the law SumJoins, for every input. -/
import Derived.Test.YtfojmpcdgkolhaaSumM
namespace Go.Proofs.Ytfojmpcdgkolhaa
open Go.ChangeShapes Go.WideShapes Go.ChangeAt Go.RowKit
set_option linter.unusedVariables false

set_option maxHeartbeats 1000000 in
theorem sumJoins_any (a b : Option Addr) (ca cb : Nat) (x y : List Int) (w : World) (hx : IsB w a x) (hy : IsB w b y) (nx : a = none → x = [] ∧ ca = 0) (ny : b = none → y = [] ∧ cb = 0) (lx : x.length ≤ maxLen) (ly : y.length ≤ maxLen) :
    Calls Try.prog 6 #[.slice a x.length ca, .slice b y.length cb] w fun e w' => e = .returned (.bool true) ∧ Below w.heap.size w w' := by
  have NX : Hid (a = none → x = [] ∧ ca = 0) := nx
  have NY : Hid (b = none → y = [] ∧ cb = 0) := ny
  have HX : Hid (IsB w a x) := hx
  have HY : Hid (IsB w b y) := hy
  clear nx ny hx hy
  unfold maxLen at lx ly
  by_cases hs : x.length ≤ 5000 ∧ y.length ≤ 5000
  · obtain ⟨sx, sy⟩ := hs
    go_enter Try.func6, Try.ntmps6
    go_wp2_with fail
    refine (alive_any w).mono ?_
    rintro e w1 ⟨rfl, b1⟩
    have X1 : Hid (IsB w1 a x) := isB_keep HX.out b1
    have Y1 : Hid (IsB w1 b y) := isB_keep HY.out b1
    have B1 : Hid (Below w.heap.size w w1) := b1
    clear b1
    go_wp2_with fail
    refine (sum_any a ca x w1 X1.out (by unfold maxLen; omega)).mono ?_
    rintro e w1' ⟨rfl, rfl⟩
    go_wp2_with fail
    refine (sum_any b cb y w1 Y1.out (by unfold maxLen; omega)).mono ?_
    rintro e w1' ⟨rfl, rfl⟩
    go_wp2_with fail
    refine (join_any _ _ (moreL 0 x) (moreL 0 y) rfl rfl (moreL_lt _ _ X1.out.1 (by decide)) (moreL_lt _ _ Y1.out.1 (by decide)) y.length (by omega) w1).mono ?_
    rintro e w2 ⟨rfl, b2⟩
    rw [Int.toNat_natCast, join_law]
    have X2 : Hid (IsB w2 a x) := isB_keep X1.out b2
    have Y2 : Hid (IsB w2 b y) := isB_keep Y1.out b2
    have B2 : Hid (Below w.heap.size w w2) := B1.out.trans (b2.mono B1.out.size)
    clear b2
    go_wp2_with (first
      | (at_builtin; refine wpList_app rfl _ _ rfl w2.heap.size (by simp) _ [] 0 rfl (ownsB_made w2) a x ca rfl (isB_keep X2.out ((Below.refl _ _).alloc (Nat.le_refl _) _)) NX.out (by simp; omega) ?_; intro a3 c3 w3 o3 b3; rw [List.nil_append] at o3 ⊢; have B3 : Hid (Below w2.heap.size w2 w3) := ((Below.refl _ w2).alloc (Nat.le_refl _) _).trans b3; have O3 : Hid (OwnsB w3 w2.heap.size a3 x c3) := o3; clear b3 o3)
      | (at_builtin; refine wpList_app rfl _ _ rfl w2.heap.size B3.out.size a3 x c3 rfl O3.out b y cb rfl (isB_keep Y2.out B3.out) NY.out (by omega) ?_; intro a4 c4 w4 o4 b4; have O4 : Hid (OwnsB w4 w2.heap.size a4 (x ++ y) c4) := o4; have B4' : Hid (Below w2.heap.size w3 w4) := b4; clear b4 o4))
    have hall : ∀ c ∈ x ++ y, 0 ≤ c ∧ c ≤ 255 := by
      intro c hc
      rcases List.mem_append.1 hc with h | h
      · exact HX.out.1 c h
      · exact HY.out.1 c h
    have I4 : Hid (IsB w4 a4 (x ++ y)) := ownsB_isB hall O4.out
    have B4 : Hid (Below w.heap.size w w4) := B2.out.trans ((B3.out.trans B4'.out).mono B2.out.size)
    clear hall
    go_wp2_with fail
    refine (sum_of a4 c4 (x.length + y.length) (x ++ y) w4 (by simp) I4.out (by unfold maxLen; simp; omega)).mono ?_
    rintro e w4' ⟨rfl, rfl⟩
    go_wp2
    go_ret
    exact ⟨rfl, B4.out⟩
  · go_enter Try.func6, Try.ntmps6
    go_wp2_with fail
    refine (alive_any w).mono ?_
    rintro e w1 ⟨rfl, b1⟩
    by_cases hx5 : x.length ≤ 5000
    · have hy5 : ¬ y.length ≤ 5000 := fun h => hs ⟨hx5, h⟩
      clear hs
      go_wp2
      go_ret
      exact ⟨rfl, b1⟩
    · clear hs
      go_wp2
      go_ret
      exact ⟨rfl, b1⟩

set_option maxRecDepth 100000 in
theorem sumJoins_lifted (os : Os) (started : os.Started) (H : Type) (enc : TypeId × Value → H) :
    ReturnsInHanded {} Try.checked os 6 .any (Rows.sumJoinsSpec.pre6 enc Try.prog Try.f6 Rows.sumJoinsRow.domain false) (Rows.sumJoinsSpec.post enc Try.prog Try.f6 false true false false) := by
  refine returnsInHanded_of_change (C := Try.checked) own started (by kernel_rfl) Try.func6
    (ChangeSpec.witness6 (enc := enc) (C := Try.checked) false ⟨#[], #[.slice none 0 0, .slice none 0 0], []⟩ 8 (by kernel_rfl) (by kernel_rfl) (by kernel_rfl) (by kernel_rfl)) ?_
  intro W base args ds gs before hval0 hW hcnd _
  have hval : ∀ (j : Nat) t v, Try.f6.params[j]? = some t → args[j]? = some v → Value.okWide Try.prog W .any base t v := hval0
  have hW' := hW
  obtain ⟨p, q, hA0, hV, rfl, hfz, hnd⟩ := hW
  have hA : DataW.TrodAll enc Try.prog W 0 (fun _ => true) true Try.f6.params.toList args.toList ds p := hA0
  rw [Try.params6] at hA hval
  obtain ⟨v0, vs0, d0, ds0, p0, q0, hargs, rfl, rfl, h0, r0⟩ := trodAll_cons hA
  obtain ⟨v1, vs1, d1, ds1, p1, q1, rfl, rfl, rfl, h1, r1⟩ := trodAll_cons r0
  obtain ⟨rfl, rfl, rfl⟩ := trodAll_nil r1
  obtain rfl : args = #[v0, v1] := by cases args; simp_all
  obtain ⟨rfl, rfl⟩ := trodVars_none hV
  obtain ⟨a0, len0, cap0, rfl⟩ := okWide_slice Try.underlying23 (hval 0 23 v0 rfl rfl)
  have k0 := h0
  have lt0 : ∀ x ∈ p0, x.block < W.heap.size := by obtain ⟨m, hm⟩ := k0; exact DataW.trod_lt m _ _ _ hm
  obtain ⟨l0, rfl, hB0, hlc0, hm0, hnil0, hd0⟩ := open_bytes h0
  obtain ⟨a1, len1, cap1, rfl⟩ := okWide_slice Try.underlying23 (hval 1 23 v1 rfl rfl)
  have k1 := h1
  have lt1 : ∀ x ∈ p1, x.block < W.heap.size := by obtain ⟨m, hm⟩ := k1; exact DataW.trod_lt m _ _ _ hm
  obtain ⟨l1, rfl, hB1, hlc1, hm1, hnil1, hd1⟩ := open_bytes h1
  clear hA0 hval0
  refine (sumJoins_any a0 a1 cap0 cap1 l0 l1 W hB0 hB1 hnil0 hnil1 (by omega) (by omega)).mono fun e W' ⟨he, bel⟩ => ?_
  subst he
  exact ⟨_, rfl, _, _, _, [], _, [], hW', trodAll_mk1 (shut_bool Try.underlying4 _), (trodAll_cons_mk (Below.trod laidOut (by kernel_rfl) (of_decide_eq_true (by kernel_rfl)) k0 bel lt0) (trodAll_cons_mk (Below.trod laidOut (by kernel_rfl) (of_decide_eq_true (by kernel_rfl)) k1 bel lt1) trodAll_mk0)), rfl, bel.frame _, fun h => by cases h⟩

theorem sumJoins_holds : Rows.SumJoinsSaid :=
  OpenClaim.holds_of_wide 6 Try.f6 rfl rfl rfl rfl rfl rfl rfl ⟨rfl, rfl, rfl, rfl, rfl⟩ rfl rfl rfl rfl rfl (by kernel_rfl) Try.func6 (by kernel_rfl)
    (of_decide_eq_true (by kernel_rfl)) (by unfold Func.isWrapper; first | (rw [if_pos (by decide +kernel)]; kernel_rfl) | (rw [if_neg (by decide +kernel)]; exact ⟨rfl, rfl⟩))
    (fun os started H enc _ => sumJoins_lifted os started H enc)
#print axioms sumJoins_holds
end Go.Proofs.Ytfojmpcdgkolhaa
