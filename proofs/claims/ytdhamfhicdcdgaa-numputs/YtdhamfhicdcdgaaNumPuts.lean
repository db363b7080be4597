/- A number's bytes, and the number of any bytes, are the document's: the law NumPuts, for every input. -/
import Derived.Test.YtdhamfhicdcdgaaNumLf
namespace Go.Proofs.Ytdhamfhicdcdgaa
open Go.ChangeShapes Go.WideShapes Go.ChangeAt Go.RowKit
set_option linter.unusedVariables false

set_option maxHeartbeats 1000000 in
theorem numPuts_any (n width : Int) (a : Option Addr) (cap : Nat) (l : List Int) (w0 : (Lit.int .u64 n).wf = true) (w : World) (hB : IsB w a l) (hm : l.length ≤ maxLen) :
    Calls Try.prog 3 #[.int .u64 n, .int .i64 width, .slice a l.length cap] w fun e w' => e = .returned (.bool true) ∧ Below w.heap.size w w' := by
  obtain ⟨h0, h1⟩ := word_of_wf w0
  clear w0
  obtain ⟨K, hK, hK8⟩ : ∃ K : Nat, clampW width = K ∧ K ≤ 8 := by
    rcases clampW_cases width with h | h | h | h | h | h | h | h | h
    all_goals exact ⟨_, h, by decide⟩
  have HK : Hid (clampW width = K) := hK
  have HB : Hid (IsB w a l) := hB
  clear hK hB
  go_enter Try.func3, Try.ntmps3
  go_wp2_with fail
  refine (alive_any w).mono ?_
  rintro e w1 ⟨rfl, b1⟩
  go_wp2_with fail
  refine (put_is n width K HK.out h0 h1 w1).mono ?_
  rintro e w2 ⟨rfl, s2, i2, b2⟩
  go_wp2_with fail
  refine (rput_is n width K HK.out hK8 h0 h1 w2).mono ?_
  rintro e w3 ⟨a3, cap3, rfl, i3, b3⟩
  have n1 := b1.size
  have bel : Below w.heap.size w w3 := (b1.trans (b2.mono b1.size)).trans (b3.mono (by omega))
  go_wp2_with fail
  refine (same_true _ _ _ _ _ _ (putL K n) w3 (isB_keep i2 b3) i3 (putL_length _ _) (putL_length _ _)).mono ?_
  rintro e w3' ⟨rfl, rfl⟩
  go_wp2_with fail
  refine (get_any a cap l w3 (isB_keep HB.out bel) hm).mono ?_
  rintro e w3' ⟨rfl, rfl⟩
  go_wp2_with fail
  refine (rget_any a cap l w3 (isB_keep HB.out bel) hm).mono ?_
  rintro e w3' ⟨rfl, rfl⟩
  go_wp2
  go_ret
  exact ⟨rfl, bel⟩

set_option maxRecDepth 100000 in
theorem numPuts_lifted (os : Os) (started : os.Started) (H : Type) (enc : TypeId × Value → H) :
    ReturnsInHanded {} Try.checked os 3 .any (Rows.numPutsSpec.pre6 enc Try.prog Try.f3 Rows.numPutsRow.domain false) (Rows.numPutsSpec.post enc Try.prog Try.f3 false true false false) := by
  refine returnsInHanded_of_change (C := Try.checked) own started (by kernel_rfl) Try.func3
    (ChangeSpec.witness6 (enc := enc) (C := Try.checked) false ⟨#[], #[.int .u64 0, .int .i64 0, .slice none 0 0], []⟩ 8 (by kernel_rfl) (by kernel_rfl) (by kernel_rfl) (by kernel_rfl)) ?_
  intro W base args ds gs before hval0 hW hcnd _
  have hval : ∀ (j : Nat) t v, Try.f3.params[j]? = some t → args[j]? = some v → Value.okWide Try.prog W .any base t v := hval0
  have hW' := hW
  obtain ⟨p, q, hA0, hV, rfl, hfz, hnd⟩ := hW
  have hA : DataW.TrodAll enc Try.prog W 0 (fun _ => true) true Try.f3.params.toList args.toList ds p := hA0
  rw [Try.params3] at hA hval
  obtain ⟨v0, vs0, d0, ds0, p0, q0, hargs, rfl, rfl, h0, r0⟩ := trodAll_cons hA
  obtain ⟨v1, vs1, d1, ds1, p1, q1, rfl, rfl, rfl, h1, r1⟩ := trodAll_cons r0
  obtain ⟨v2, vs2, d2, ds2, p2, q2, rfl, rfl, rfl, h2, r2⟩ := trodAll_cons r1
  obtain ⟨rfl, rfl, rfl⟩ := trodAll_nil r2
  obtain rfl : args = #[v0, v1, v2] := by cases args; simp_all
  obtain ⟨rfl, rfl⟩ := trodVars_none hV
  obtain ⟨a0, rfl, rfl, rfl, w0⟩ := open_int Try.underlying22 (hval 0 22 v0 rfl rfl) h0
  obtain ⟨a1, rfl, rfl, rfl, w1⟩ := open_int Try.underlying3 (hval 1 3 v1 rfl rfl) h1
  obtain ⟨a2, len2, cap2, rfl⟩ := okWide_slice Try.underlying23 (hval 2 23 v2 rfl rfl)
  have k2 := h2
  have lt2 : ∀ x ∈ p2, x.block < W.heap.size := by obtain ⟨m, hm⟩ := k2; exact DataW.trod_lt m _ _ _ hm
  obtain ⟨l, rfl, hB, hlc, hm, _, _⟩ := open_bytes h2
  clear hA0 hval0
  refine (numPuts_any a0 a1 a2 cap2 l w0 W hB (by omega)).mono fun e W' ⟨he, bel⟩ => ?_
  subst he
  exact ⟨_, rfl, _, _, _, [], _, [], hW', trodAll_mk1 (shut_bool Try.underlying4 _), (trodAll_cons_mk (shut_int Try.underlying22 w0) (trodAll_cons_mk (shut_int Try.underlying3 w1) (trodAll_cons_mk (Below.trod laidOut (by kernel_rfl) (of_decide_eq_true (by kernel_rfl)) k2 bel lt2) trodAll_mk0))), rfl, bel.frame _, fun h => by cases h⟩

theorem numPuts_holds : Rows.NumPutsSaid :=
  OpenClaim.holds_of_wide 3 Try.f3 rfl rfl rfl rfl rfl rfl rfl ⟨rfl, rfl, rfl, rfl, rfl⟩ rfl rfl rfl rfl rfl (by kernel_rfl) Try.func3 (by kernel_rfl)
    (of_decide_eq_true (by kernel_rfl)) (by unfold Func.isWrapper; first | (rw [if_pos (by decide +kernel)]; kernel_rfl) | (rw [if_neg (by decide +kernel)]; exact ⟨rfl, rfl⟩))
    (fun os started H enc _ => numPuts_lifted os started H enc)
#print axioms numPuts_holds
end Go.Proofs.Ytdhamfhicdcdgaa
