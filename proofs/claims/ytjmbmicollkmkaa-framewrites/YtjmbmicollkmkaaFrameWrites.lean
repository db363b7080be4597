/- A frame's bytes are the document's, or it is refused, and the body stays: the law FrameWrites, for every input. -/
import Derived.Test.YtjmbmicollkmkaaFrN
namespace Go.Proofs.Ytjmbmicollkmkaa
open Go.ChangeShapes Go.WideShapes Go.ChangeAt Go.RowKit
set_option linter.unusedVariables false

theorem OwnsB.isB {w : World} {base cap : Nat} {a : Option Addr} {l : List Int} (h : OwnsB w base a l cap) (hb : AllB l) : IsB w a l := ownsB_isB hb h

theorem encB_allB {k : Int} {body : List Int} (h : AllB body) : AllB (encB k body) := by
  rw [encB]
  split
  · rename_i h0
    obtain ⟨h1, h2, _⟩ := unfit_zero.1 h0
    exact frL_allB (by omega) h2 h
  · intro x hx; cases hx

set_option maxHeartbeats 2000000 in
theorem frameWrites_any (k : Int) (a : Option Addr) (cap : Nat) (l : List Int) (w : World) (hB : IsB w a l) (hnil : a = none → l = [] ∧ cap = 0) (hbig : l.length ≤ 140737488355328) :
    Calls Try.prog 3 #[.int .i64 k, .slice a l.length cap] w fun e w' => e = .returned (.bool true) ∧ Below w.heap.size w w' := by
  have HI : Hid (IsB w a l) := hB
  have HN : Hid (a = none → l = [] ∧ cap = 0) := hnil
  have hm : l.length ≤ maxLen := by unfold maxLen; omega
  have HE : Hid (AllB (encB k l)) := encB_allB hB.1
  clear hB hnil
  go_enter Try.func3, Try.ntmps3
  go_wp2_with fail
  refine (alive_any w).mono ?_
  rintro e w1 ⟨rfl, b1⟩
  have B1 : Hid (Below w.heap.size w w1) := b1
  have z1 := b1.size
  clear b1
  go_wp2_with fail
  refine (copy_any a cap _ l w1 rfl (HI.out.keep B1.out) hbig).mono ?_
  rintro e w2 ⟨g2, c2, rfl, o2, b2⟩
  have B2 : Hid (Below w.heap.size w w2) := B1.out.trans (b2.mono z1)
  have I2 : Hid (IsB w2 (some ⟨g2, 0, none⟩) l) := o2.isB HI.out.1
  have z2 := B2.out.size
  clear o2 b2
  go_wp2_with fail
  refine (encode_any k _ c2 _ l w2 rfl I2.out (fun h => by cases h) hm).mono ?_
  rintro e w3 ⟨a3, c3, rfl, o3, b3⟩
  have B3 : Hid (Below w.heap.size w w3) := B2.out.trans (b3.mono z2)
  have I3 : Hid (IsB w3 (some ⟨g2, 0, none⟩) l) := I2.out.keep b3
  have J3 : Hid (IsB w3 a3 (encB k l)) := o3.isB HE.out
  have z3 := B3.out.size
  clear o3 b3
  go_wp2_with fail
  refine (rencode_any k a cap _ l w3 rfl (HI.out.keep B3.out) HN.out hm).mono ?_
  rintro e w4 ⟨a4, c4, rfl, o4, b4⟩
  have B4 : Hid (Below w.heap.size w w4) := B3.out.trans (b4.mono z3)
  have I4 : Hid (IsB w4 (some ⟨g2, 0, none⟩) l) := I3.out.keep b4
  have J4 : Hid (IsB w4 a3 (encB k l)) := J3.out.keep b4
  have K4 : Hid (IsB w4 a4 (encB k l)) := o4.isB HE.out
  clear o4 b4
  go_wp2_with fail
  refine (same_true a3 a4 _ _ c3 c4 (encB k l) w4 J4.out K4.out rfl rfl).mono ?_
  rintro e w5 ⟨rfl, rfl⟩
  go_wp2_with fail
  refine (same_true _ a _ _ c2 cap l w4 I4.out (HI.out.keep B4.out) rfl rfl).mono ?_
  rintro e w6 ⟨rfl, rfl⟩
  go_wp2
  go_ret
  exact ⟨rfl, B4.out⟩

set_option maxRecDepth 100000 in
theorem frameWrites_lifted (os : Os) (started : os.Started) (H : Type) (enc : TypeId × Value → H) :
    ReturnsInHanded {} Try.checked os 3 .any (Rows.frameWritesSpec.pre6 enc Try.prog Try.f3 Rows.frameWritesRow.domain false) (Rows.frameWritesSpec.post enc Try.prog Try.f3 false true false false) := by
  refine returnsInHanded_of_change_sized (C := Try.checked) own started (by kernel_rfl) Try.func3
    (ChangeSpec.witness6 (enc := enc) (C := Try.checked) false ⟨#[], #[.int .i64 0, .slice none 0 0], []⟩ 8 (by kernel_rfl) (by kernel_rfl) (by kernel_rfl) (by kernel_rfl)) ?_
  intro W base args ds gs before hval0 hW hcnd hsz0 hholds
  have hval : ∀ (j : Nat) t v, Try.f3.params[j]? = some t → args[j]? = some v → Value.okWide Try.prog W .any base t v := hval0
  have hsz : (DataW.weightsEach Try.prog (Try.f3.params.toList ++ Rows.frameWritesSpec.plain.varTypes Try.prog) (ds ++ gs)).all (· ≤ reachBytes) = true := hsz0
  have hW' := hW
  obtain ⟨p, q, hA0, hV, rfl, hfz, hnd⟩ := hW
  have hA : DataW.TrodAll enc Try.prog W 0 (fun _ => true) true Try.f3.params.toList args.toList ds p := hA0
  rw [Try.params3] at hA hval hsz
  obtain ⟨v0, vs0, d0, ds0, p0, q0, hargs, rfl, rfl, h0, r0⟩ := trodAll_cons hA
  obtain ⟨v1, vs1, d1, ds1, p1, q1, rfl, rfl, rfl, h1, r1⟩ := trodAll_cons r0
  obtain ⟨rfl, rfl, rfl⟩ := trodAll_nil r1
  obtain rfl : args = #[v0, v1] := by cases args; simp_all
  obtain ⟨rfl, rfl⟩ := trodVars_none hV
  obtain ⟨a0, rfl, rfl, rfl, w0⟩ := open_int Try.underlying3 (hval 0 3 v0 rfl rfl) h0
  obtain ⟨a1, len1, cap1, rfl⟩ := okWide_slice Try.underlying22 (hval 1 22 v1 rfl rfl)
  have k1 := h1
  have lt1 : ∀ x ∈ p1, x.block < W.heap.size := by obtain ⟨m, hm⟩ := k1; exact DataW.trod_lt m _ _ _ hm
  obtain ⟨l1, rfl, hB1, hlc1, hm1, hnil1, hd1⟩ := open_bytes h1
  have hbig1 : l1.length ≤ 140737488355328 := by
    rcases hd1 with ⟨_, rfl⟩ | ⟨els, sp, rfl, he⟩
    · exact Nat.zero_le _
    · have := sized_slice hsz (j := 1) (t := 22) (e := 5) rfl rfl Try.underlying22
      rw [Try.bytes5] at this
      simp only [reachBytes] at this
      omega
  clear hA0 hval0
  refine (frameWrites_any a0 a1 cap1 l1 W hB1 hnil1 (by omega)).mono fun e W' ⟨he, bel⟩ => ?_
  subst he
  exact ⟨_, rfl, _, _, _, [], _, [], hW', trodAll_mk1 (shut_bool Try.underlying4 _), (trodAll_cons_mk (shut_int Try.underlying3 w0) (trodAll_cons_mk (Below.trod laidOut (by kernel_rfl) (of_decide_eq_true (by kernel_rfl)) k1 bel lt1) trodAll_mk0)), rfl, bel.frame _, fun h => by cases h⟩

theorem frameWrites_holds : Rows.FrameWritesSaid :=
  OpenClaim.holds_of_wide 3 Try.f3 rfl rfl rfl rfl rfl rfl rfl ⟨rfl, rfl, rfl, rfl, rfl⟩ rfl rfl rfl rfl rfl (by kernel_rfl) Try.func3 (by kernel_rfl)
    (of_decide_eq_true (by kernel_rfl)) (by unfold Func.isWrapper; first | (rw [if_pos (by decide +kernel)]; kernel_rfl) | (rw [if_neg (by decide +kernel)]; exact ⟨rfl, rfl⟩))
    (fun os started H enc _ => frameWrites_lifted os started H enc)
#print axioms frameWrites_holds
end Go.Proofs.Ytjmbmicollkmkaa
