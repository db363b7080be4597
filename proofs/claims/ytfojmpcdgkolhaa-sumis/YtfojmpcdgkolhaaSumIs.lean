/- The sum of any bytes, and any sum gone on with, are the document's, and the bytes stay: the law SumIs, for every input. -/
import Derived.Test.YtfojmpcdgkolhaaSumM
import Derived.Laws.BytesArg
namespace Go.Proofs.Ytfojmpcdgkolhaa
open Go.ChangeShapes Go.WideShapes Go.ChangeAt Go.RowKit
set_option linter.unusedVariables false

theorem conv_str (w : World) (a : Option Addr) (l : List Int) (n cap : Nat) (hn : n = l.length) (h : IsB w a l) : (convert 23 9 (.slice a n cap)).run Try.prog w = .ok (.string (strOfNums l)) w := by
  subst hn
  obtain ⟨_, h0 | ⟨b, off, rfl, _, hc⟩⟩ := h
  · subst h0
    rcases a with _ | ad
    · exact run_convert_bytes_nil w 23 5 Try.underlying23 Try.underlying5 0 cap 9 Try.underlying9
    · rw [run_convert_bytes_string w 23 9 5 _ _ cap Try.underlying23 Try.underlying5 Try.underlying9]
      exact run_bytesToString w _ 0 cap [] (by simp [loadCells, loadCellsFrom])
  · exact run_convert_bytes_arg w 23 5 Try.underlying23 Try.underlying5 b off l.length cap l rfl hc 9 Try.underlying9

set_option maxHeartbeats 1000000 in
theorem sumIs_any (s : Int) (m : Nat) (es : s = m) (hs : m < 4294967296) (a : Option Addr) (ca : Nat) (x : List Int) (w : World) (hx : IsB w a x) (nx : a = none → x = [] ∧ ca = 0) (lx : x.length ≤ 140737488355328) :
    Calls Try.prog 3 #[.int .u32 s, .slice a x.length ca] w fun e w' => e = .returned (.bool true) ∧ Below w.heap.size w w' := by
  subst es
  have NX : Hid (a = none → x = [] ∧ ca = 0) := nx
  have HX : Hid (IsB w a x) := hx
  clear nx hx
  have LM : x.length ≤ maxLen := by unfold maxLen; omega
  go_enter Try.func3, Try.ntmps3
  go_wp2_with fail
  refine (alive_any w).mono ?_
  rintro e w1 ⟨rfl, b1⟩
  have X1 : Hid (IsB w1 a x) := isB_keep HX.out b1
  have B1 : Hid (Below w.heap.size w w1) := b1
  clear b1
  go_wp2_with (at_builtin; refine wpList_app rfl _ _ rfl w1.heap.size (by simp) _ [] 0 rfl (ownsB_made w1) a x ca rfl (isB_keep X1.out ((Below.refl _ _).alloc (Nat.le_refl _) _)) NX.out (by simp; omega) ?_; intro a3 c3 w3 o3 b3; rw [List.nil_append] at o3 ⊢; have B3 : Hid (Below w1.heap.size w1 w3) := ((Below.refl _ w1).alloc (Nat.le_refl _) _).trans b3; have O3 : Hid (OwnsB w3 w1.heap.size a3 x c3) := o3; clear b3 o3)
  have I3 : Hid (IsB w3 a3 x) := ownsB_isB HX.out.1 O3.out
  have X3 : Hid (IsB w3 a x) := isB_keep X1.out B3.out
  have c1 := conv_str w3 a3 x x.length c3 rfl I3.out
  have c2 := conv_str w3 a x x.length ca rfl X3.out
  refine (sum_any a3 c3 x w3 I3.out LM).mono ?_
  rintro e w3' ⟨rfl, rfl⟩
  go_wp2_with fail
  refine (rsum_any a ca x w3 X3.out LM).mono ?_
  rintro e w3' ⟨rfl, rfl⟩
  go_wp2_with fail
  refine (more_any _ m a3 c3 x w3 rfl hs I3.out LM).mono ?_
  rintro e w3' ⟨rfl, rfl⟩
  go_wp2_with fail
  refine (rmore_any _ m a ca x w3 rfl hs X3.out LM).mono ?_
  rintro e w3' ⟨rfl, rfl⟩
  go_wp2
  go_ret
  exact ⟨rfl, B1.out.trans (B3.out.mono B1.out.size)⟩

set_option maxRecDepth 100000 in
theorem sumIs_lifted (os : Os) (started : os.Started) (H : Type) (enc : TypeId × Value → H) :
    ReturnsInHanded {} Try.checked os 3 .any (Rows.sumIsSpec.pre6 enc Try.prog Try.f3 Rows.sumIsRow.domain false) (Rows.sumIsSpec.post enc Try.prog Try.f3 false true false false) := by
  refine returnsInHanded_of_change_sized (C := Try.checked) own started (by kernel_rfl) Try.func3
    (ChangeSpec.witness6 (enc := enc) (C := Try.checked) false ⟨#[], #[.int .u32 0, .slice none 0 0], []⟩ 8 (by kernel_rfl) (by kernel_rfl) (by kernel_rfl) (by kernel_rfl)) ?_
  intro W base args ds gs before hval0 hW hcnd hsz0 hholds
  have hval : ∀ (j : Nat) t v, Try.f3.params[j]? = some t → args[j]? = some v → Value.okWide Try.prog W .any base t v := hval0
  have hsz : (DataW.weightsEach Try.prog (Try.f3.params.toList ++ Rows.sumIsSpec.plain.varTypes Try.prog) (ds ++ gs)).all (· ≤ reachBytes) = true := hsz0
  have hW' := hW
  obtain ⟨p, q, hA0, hV, rfl, hfz, hnd⟩ := hW
  have hA : DataW.TrodAll enc Try.prog W 0 (fun _ => true) true Try.f3.params.toList args.toList ds p := hA0
  rw [Try.params3] at hA hval hsz
  obtain ⟨v0, vs0, d0, ds0, p0, q0, hargs, rfl, rfl, h0, r0⟩ := trodAll_cons hA
  obtain ⟨v1, vs1, d1, ds1, p1, q1, rfl, rfl, rfl, h1, r1⟩ := trodAll_cons r0
  obtain ⟨rfl, rfl, rfl⟩ := trodAll_nil r1
  obtain rfl : args = #[v0, v1] := by cases args; simp_all
  obtain ⟨rfl, rfl⟩ := trodVars_none hV
  obtain ⟨a0, rfl, rfl, rfl, w0⟩ := open_int Try.underlying22 (hval 0 22 v0 rfl rfl) h0
  obtain ⟨a1, len1, cap1, rfl⟩ := okWide_slice Try.underlying23 (hval 1 23 v1 rfl rfl)
  have k1 := h1
  have lt1 : ∀ x ∈ p1, x.block < W.heap.size := by obtain ⟨m, hm⟩ := k1; exact DataW.trod_lt m _ _ _ hm
  obtain ⟨l1, rfl, hB1, hlc1, hm1, hnil1, hd1⟩ := open_bytes h1
  have hbig1 : l1.length ≤ 140737488355328 := by
    rcases hd1 with ⟨_, rfl⟩ | ⟨els, sp, rfl, he⟩
    · exact Nat.zero_le _
    · have := sized_slice hsz (j := 1) (t := 23) (e := 5) rfl rfl Try.underlying23
      rw [Try.bytes5] at this
      simp only [reachBytes] at this
      omega
  clear hA0 hval0
  obtain ⟨m0, e0, hm32⟩ := u32_of_wf w0
  refine (sumIs_any a0 m0 e0 hm32 a1 cap1 l1 W hB1 hnil1 hbig1).mono fun e W' ⟨he, bel⟩ => ?_
  subst he
  exact ⟨_, rfl, _, _, _, [], _, [], hW', trodAll_mk1 (shut_bool Try.underlying4 _), (trodAll_cons_mk (shut_int Try.underlying22 w0) (trodAll_cons_mk (Below.trod laidOut (by kernel_rfl) (of_decide_eq_true (by kernel_rfl)) k1 bel lt1) trodAll_mk0)), rfl, bel.frame _, fun h => by cases h⟩

theorem sumIs_holds : Rows.SumIsSaid :=
  OpenClaim.holds_of_wide 3 Try.f3 rfl rfl rfl rfl rfl rfl rfl ⟨rfl, rfl, rfl, rfl, rfl⟩ rfl rfl rfl rfl rfl (by kernel_rfl) Try.func3 (by kernel_rfl)
    (of_decide_eq_true (by kernel_rfl)) (by unfold Func.isWrapper; first | (rw [if_pos (by decide +kernel)]; kernel_rfl) | (rw [if_neg (by decide +kernel)]; exact ⟨rfl, rfl⟩))
    (fun os started H enc _ => sumIs_lifted os started H enc)
#print axioms sumIs_holds
end Go.Proofs.Ytfojmpcdgkolhaa
