/- Of two numbers the greater one never has fewer digits, and eight bytes hold any number: the law NumOrder, for every input. -/
import Derived.Test.YtdhamfhicdcdgabNumLw
import Derived.ProofKit
import Derived.OpenShut
import Derived.ChangeOld
import Derived.Below
namespace Go.Proofs.Ytdhamfhicdcdgab
open Go.ChangeShapes Go.WideShapes Go.ChangeAt Go.RowKit
set_option linter.unusedVariables false

theorem digs_mono (f : Nat) : ∀ n m : Int, 0 ≤ n → n ≤ m → (digs f n).length ≤ (digs f m).length := by
  induction f with
  | zero => intro n m _ _; simp [digs]
  | succ f ih =>
    intro n m h0 h
    simp only [digs]
    by_cases g : m < 128
    · rw [if_pos g, if_pos (by omega)]; exact Nat.le_refl _
    · rw [if_neg g]
      by_cases g' : n < 128
      · rw [if_pos g']; simp
      · rw [if_neg g']
        have := ih (n / 128) (m / 128) (by omega) (by omega)
        simp only [List.length_cons]
        omega

set_option maxHeartbeats 4000000 in
/-- The walk behind alive, the lesser and the greater number told apart. -/
theorem order_walk (a b lo hi : Int) (w : World) (hlo : 0 ≤ lo) (hle : lo ≤ hi) (hhi : hi ≤ 18446744073709551615) (ha0 : 0 ≤ a) (ha1 : a ≤ 18446744073709551615) (hb0 : 0 ≤ b) (hb1 : b ≤ 18446744073709551615) (hc : a < b ∧ lo = a ∧ hi = b ∨ b < a ∧ lo = b ∧ hi = a ∨ a = b ∧ lo = a ∧ hi = a) :
    Calls Try.prog 3 #[.int .u64 a, .int .u64 b] w fun e w' => e = .returned (.bool true) ∧ Below w.heap.size w w' := by
  have hs : ((varL lo).length : Int) ≤ ((varL hi).length : Int) := by have := digs_mono 9 lo hi hlo hle; simp only [varL]; omega
  have ht : ((varL hi).length : Int) ≤ 10 := by have := varL_le hi; omega
  have ga : Hid (getL ((putL 8 a).take 8) = a) := get_put8 a ha0 ha1
  have gb : Hid (getL ((putL 8 b).take 8) = b) := get_put8 b hb0 hb1
  rcases hc with ⟨h, rfl, rfl⟩ | ⟨h, rfl, rfl⟩ | ⟨rfl, rfl, rfl⟩
  all_goals
    go_enter Try.func3, Try.ntmps3
    go_wp2_with fail
    refine (alive_any w).mono ?_
    rintro e w1 ⟨rfl, b1⟩
    go_wp2_with fail
    refine (size_any _ w1 (by assumption) (by assumption)).mono ?_
    rintro e w1' ⟨rfl, rfl⟩
    go_wp2_with fail
    refine (size_any _ w1 (by assumption) (by assumption)).mono ?_
    rintro e w1' ⟨rfl, rfl⟩
    go_wp2_with fail
    refine (size_any _ w1 (by assumption) (by assumption)).mono ?_
    rintro e w1' ⟨rfl, rfl⟩
    go_wp2_with fail
    refine (put_is _ 8 8 (by decide) (by assumption) (by assumption) w1).mono ?_
    rintro e w2 ⟨rfl, s2, i2, b2⟩
    go_wp2_with fail
    refine (get_is _ 8 8 _ _ w2 i2 (putL_length _ _) (by rw [putL_length]; decide) ga.out).mono ?_
    rintro e w2' ⟨rfl, rfl⟩
    go_wp2_with fail
    refine (put_is _ 9 8 (by decide) (by assumption) (by assumption) w2).mono ?_
    rintro e w3 ⟨rfl, s3, i3, b3⟩
    go_wp2_with fail
    refine (get_is _ 8 8 _ _ w3 i3 (putL_length _ _) (by rw [putL_length]; decide) gb.out).mono ?_
    rintro e w3' ⟨rfl, rfl⟩
    go_wp2_with fail
    refine (put_is _ 8 8 (by decide) (by assumption) (by assumption) w3).mono ?_
    rintro e w4 ⟨rfl, s4, i4, b4⟩
    go_wp2_with fail
    refine (var_any _ w4 (by assumption) (by assumption)).mono ?_
    rintro e w5 ⟨rfl, hown, b5⟩
    go_wp2_with fail
    refine (size_any _ w5 (by assumption) (by assumption)).mono ?_
    rintro e w5' ⟨rfl, rfl⟩
    have n1 := b1.size
    have bel : Below w.heap.size w w5 := (((b1.trans (b2.mono b1.size)).trans (b3.mono (by omega))).trans (b4.mono (by omega))).trans (b5.mono (by omega))
    go_wp2
    go_ret
    exact ⟨rfl, bel⟩

theorem own : ownKnob Try.prog.godebug = none := by kernel_rfl
theorem laidOut : laidOutB Try.prog = true := by kernel_rfl

theorem order_any (a b : Int) (w0 : (Lit.int .u64 a).wf = true) (w1 : (Lit.int .u64 b).wf = true) (w : World) :
    Calls Try.prog 3 #[.int .u64 a, .int .u64 b] w fun e w' => e = .returned (.bool true) ∧ Below w.heap.size w w' := by
  obtain ⟨a0, a1⟩ := word_of_wf w0
  obtain ⟨b0, b1⟩ := word_of_wf w1
  rcases Int.lt_trichotomy a b with h | h | h
  · exact order_walk a b a b w a0 (by omega) b1 a0 a1 b0 b1 (.inl ⟨h, rfl, rfl⟩)
  · exact order_walk a b a a w a0 (by omega) a1 a0 a1 b0 b1 (.inr (.inr ⟨h, rfl, rfl⟩))
  · exact order_walk a b b a w b0 (by omega) a1 a0 a1 b0 b1 (.inr (.inl ⟨h, rfl, rfl⟩))

set_option maxRecDepth 100000 in
theorem numOrder_lifted (os : Os) (started : os.Started) (H : Type) (enc : TypeId × Value → H) :
    ReturnsInHanded {} Try.checked os 3 .any (Rows.numOrderSpec.pre6 enc Try.prog Try.f3 Rows.numOrderRow.domain false) (Rows.numOrderSpec.post enc Try.prog Try.f3 false true false false) := by
  refine returnsInHanded_of_change (C := Try.checked) own started (by kernel_rfl) Try.func3
    (ChangeSpec.witness6 (enc := enc) (C := Try.checked) false ⟨#[], #[.int .u64 0, .int .u64 0], []⟩ 8 (by kernel_rfl) (by kernel_rfl) (by kernel_rfl) (by kernel_rfl)) ?_
  intro W base args ds gs before hval0 hW hcnd _
  have hval : ∀ (j : Nat) t v, Try.f3.params[j]? = some t → args[j]? = some v → Value.okWide Try.prog W .any base t v := hval0
  have hW' := hW
  obtain ⟨p, q, hA0, hV, rfl, hfz, hnd⟩ := hW
  have hA : DataW.TrodAll enc Try.prog W 0 (fun _ => true) true Try.f3.params.toList args.toList ds p := hA0
  rw [Try.params3] at hA hval
  obtain ⟨v0, vs0, d0, ds0, p0, q0, hargs, rfl, rfl, h0, r0⟩ := trodAll_cons hA
  obtain ⟨v1, vs1, d1, ds1, p1, q1, rfl, rfl, rfl, h1, r1⟩ := trodAll_cons r0
  obtain ⟨rfl, rfl, rfl⟩ := trodAll_nil r1
  obtain rfl : args = #[v0, v1] := by cases args; simp_all
  obtain ⟨rfl, rfl⟩ := trodVars_none hV
  obtain ⟨a0, rfl, rfl, rfl, w0⟩ := open_int Try.underlying22 (hval 0 22 v0 rfl rfl) h0
  obtain ⟨a1, rfl, rfl, rfl, w1⟩ := open_int Try.underlying22 (hval 1 22 v1 rfl rfl) h1
  clear hA0 hval0
  refine (order_any a0 a1 w0 w1 W).mono fun e W' ⟨he, bel⟩ => ?_
  subst he
  exact ⟨_, rfl, _, _, _, [], _, [], hW', trodAll_mk1 (shut_bool Try.underlying4 _), (trodAll_cons_mk (shut_int Try.underlying22 w0) (trodAll_cons_mk (shut_int Try.underlying22 w1) trodAll_mk0)), rfl, bel.frame _, fun h => by cases h⟩

theorem numOrder_holds : Rows.NumOrderSaid :=
  OpenClaim.holds_of_wide 3 Try.f3 rfl rfl rfl rfl rfl rfl rfl ⟨rfl, rfl, rfl, rfl, rfl⟩ rfl rfl rfl rfl rfl (by kernel_rfl) Try.func3 (by kernel_rfl)
    (of_decide_eq_true (by kernel_rfl)) (by unfold Func.isWrapper; first | (rw [if_pos (by decide +kernel)]; kernel_rfl) | (rw [if_neg (by decide +kernel)]; exact ⟨rfl, rfl⟩))
    (fun os started H enc _ => numOrder_lifted os started H enc)
#print axioms numOrder_holds
end Go.Proofs.Ytdhamfhicdcdgab
