/- What is encoded is decoded as it was, and split off whatever stands behind it: the law FrameBack, for every input. -/
import Derived.Test.YtjmbmicollkmkaaFrN
namespace Go.Proofs.Ytjmbmicollkmkaa
open Go.ChangeShapes Go.WideShapes Go.ChangeAt Go.RowKit
set_option linter.unusedVariables false

theorem OwnsB.isB {w : World} {base cap : Nat} {a : Option Addr} {l : List Int} (h : OwnsB w base a l cap) (hb : AllB l) : IsB w a l := ownsB_isB hb h

set_option maxHeartbeats 4000000 in
theorem frameBack_in (k : Int) (a a' : Option Addr) (ca ca' : Nat) (l m : List Int) (w : World) (h0 : 0 ≤ k) (h1 : k ≤ 255) (hB : IsB w a l) (hnil : a = none → l = [] ∧ ca = 0) (hB' : IsB w a' m) (hnil' : a' = none → m = [] ∧ ca' = 0) (hl : l.length ≤ 4000) (hm : m.length ≤ 4000) (hk : ¬ k = 0) :
    Calls Try.prog 5 #[.int .u8 k, .slice a l.length ca, .slice a' m.length ca'] w fun e w' => e = .returned (.bool true) ∧ Below w.heap.size w w' := by
  have HI : Hid (IsB w a l) := hB
  have HN : Hid (a = none → l = [] ∧ ca = 0) := hnil
  have HI' : Hid (IsB w a' m) := hB'
  have HN' : Hid (a' = none → m = [] ∧ ca' = 0) := hnil'
  have hb : AllB l := hB.1
  have hb' : AllB m := hB'.1
  have hk1 : 1 ≤ k := by omega
  have hw0 := frL_right k l [] true hk1 h1 hb (by omega) (.inr rfl)
  have hk0 := back_kind k l [] true hk1 h1 hb (by omega) (.inr rfl)
  have hx0 := back_body k l [] true hk1 h1 hb (by omega) (.inr rfl)
  rw [List.append_nil] at hw0 hk0 hx0
  have W0 : Hid (wrongL (frL k l) true = 0) := hw0
  have K0 : Hid (kindW (frL k l) true = k) := hk0
  have X0 : Hid (bodyW (frL k l) true = l) := hx0
  have W1 : Hid (wrongL (frL k l ++ m) false = 0) := frL_right k l m false hk1 h1 hb (by omega) (.inl rfl)
  have K1 : Hid (kindW (frL k l ++ m) false = k) := back_kind k l m false hk1 h1 hb (by omega) (.inl rfl)
  have X1 : Hid (bodyW (frL k l ++ m) false = l) := back_body k l m false hk1 h1 hb (by omega) (.inl rfl)
  have Z1 : Hid (restW (frL k l ++ m) = m) := back_rest k l m hk1 h1 hb (by omega)
  have FB : Hid (AllB (frL k l)) := frL_allB h0 h1 hb
  have FL : Hid ((frL k l).length = l.length + 7) := frL_len k l
  have GL : Hid ((frL k l ++ m).length = l.length + 7 + m.length) := by show _ = _; rw [List.length_append, frL_len]
  have kw : IntKind.i64.wrap k = k := by rw [IntKind.wrap_i64]; omega
  have d1 : decide (4000 < (l.length : Int)) = false := by simp; omega
  have d2 : decide (4000 < (m.length : Int)) = false := by simp; omega
  have d3 : (k == 0) = false := by simpa using hk
  clear hB hnil hB' hnil' hw0 hk0 hx0
  have HB : Hid (AllB l) := hb
  have HB' : Hid (AllB m) := hb'
  clear hb hb'
  go_enter Try.func5, Try.ntmps5
  go_wp2_with fail
  refine (alive_any w).mono ?_
  rintro e w1 ⟨rfl, b1⟩
  have B1 : Hid (Below w.heap.size w w1) := b1
  have z1 := b1.size
  clear b1
  go_wp2_with fail
  refine (encode_fit k a ca _ l w1 rfl (HI.out.keep B1.out) HN.out hk1 h1 (by omega)).mono ?_
  rintro e w2 ⟨g2, c2, rfl, o2, b2⟩
  have B2 : Hid (Below w.heap.size w w2) := B1.out.trans (b2.mono z1)
  have z2 := B2.out.size
  obtain ⟨l2, m2, _⟩ := ownsB_isL o2
  have I2 : Hid (IsB w2 (some ⟨g2, 0, none⟩) (frL k l)) := o2.isB FB.out
  clear o2 b2
  go_wp2_with fail
  refine (decode_of _ c2 _ (frL k l) l k 0 w2 FL.out.symm I2.out l2 m2 K0.out X0.out W0.out).mono ?_
  rintro e w3 ⟨a3, c3, rfl, o3, b3⟩
  have B3 : Hid (Below w.heap.size w (w3.alloc (.cells #[.int .i64 k, .slice a3 l.length c3] 29))) := (B2.out.trans (b3.mono z2)).alloc (Nat.le_trans z2 b3.size) _
  have N3 : Hid (Below w3.heap.size w3 (w3.alloc (.cells #[.int .i64 k, .slice a3 l.length c3] 29))) := (Below.refl _ w3).alloc (Nat.le_refl _) _
  have I3 : Hid (IsB (w3.alloc (.cells #[.int .i64 k, .slice a3 l.length c3] 29)) (some ⟨g2, 0, none⟩) (frL k l)) := (I2.out.keep b3).keep N3.out
  have J3 : Hid (IsB (w3.alloc (.cells #[.int .i64 k, .slice a3 l.length c3] 29)) a3 l) := (o3.isB HB.out).keep N3.out
  have X3 : Hid (Boxed (w3.alloc (.cells #[.int .i64 k, .slice a3 l.length c3] 29)) w3.heap.size k a3 l.length c3) := boxed_new _ _ _ _ _
  have z3 := B3.out.size
  clear o3 b3 N3
  go_wp2_with fail
  refine (copy_any _ c2 _ (frL k l) _ FL.out.symm I3.out (by rw [FL.out]; omega)).mono ?_
  rw [FL.out]
  rintro e w4 ⟨g4, c4, rfl, o4, b4⟩
  have B4 : Hid (Below w.heap.size w w4) := B3.out.trans (b4.mono z3)
  have J4 : Hid (IsB w4 a3 l) := J3.out.keep b4
  have X4 : Hid (Boxed w4 w3.heap.size k a3 l.length c3) := X3.out.keep b4
  have O4 : Hid (OwnsB w4 (w3.alloc (.cells #[.int .i64 k, .slice a3 l.length c3] 29)).heap.size (some ⟨g4, 0, none⟩) (frL k l) c4) := o4
  have q4 := b4.size
  have J3k := b4
  clear o4
  go_wp2_with (at_builtin; refine wpList_appg rfl _ _ rfl (w3.alloc (.cells #[.int .i64 k, .slice a3 l.length c3] 29)).heap.size q4 _ (frL k l) c4 _ FL.out.symm rfl O4.out a' m ca' _ rfl rfl (HI'.out.keep B4.out) HN'.out (by rw [FL.out]; omega) (frL k l ++ m) rfl (l.length + 7 + m.length) GL.out ?_; intro a5 c5 w5 o5 g5)
  have b45 : Below (w3.alloc (.cells #[.int .i64 k, .slice a3 l.length c3] 29)).heap.size (w3.alloc (.cells #[.int .i64 k, .slice a3 l.length c3] 29)) w5 := J3k.grown g5 q4 (own_ge' FL.out.symm O4.out)
  have B5 : Hid (Below w.heap.size w w5) := B3.out.trans (b45.mono z3)
  have J5 : Hid (IsB w5 a3 l) := J3.out.keep b45
  have X5 : Hid (Boxed w5 w3.heap.size k a3 l.length c3) := X3.out.keep b45
  obtain ⟨l5, m5, _⟩ := ownsB_isL o5
  have I5 : Hid (IsB w5 a5 (frL k l ++ m)) := o5.isB (FB.out.append HB'.out)
  have z5 := B5.out.size
  clear o5 g5 b45 J3k
  refine (split_of a5 c5 _ (frL k l ++ m) l m k 0 w5 GL.out.symm I5.out l5 m5 (by rw [GL.out]; omega) K1.out X1.out Z1.out W1.out).mono ?_
  rintro e w6 ⟨a6, c6, a7, c7, rfl, o6, o7, _, b6⟩
  have B6 : Hid (Below w.heap.size w (w6.alloc (.cells #[.int .i64 k, .slice a6 l.length c6] 29))) := (B5.out.trans (b6.mono z5)).alloc (Nat.le_trans z5 b6.size) _
  have N6 : Hid (Below w6.heap.size w6 (w6.alloc (.cells #[.int .i64 k, .slice a6 l.length c6] 29))) := (Below.refl _ w6).alloc (Nat.le_refl _) _
  have X6 : Hid (Boxed (w6.alloc (.cells #[.int .i64 k, .slice a6 l.length c6] 29)) w3.heap.size k a3 l.length c3) := (X5.out.keep b6).keep N6.out
  have J6 : Hid (IsB (w6.alloc (.cells #[.int .i64 k, .slice a6 l.length c6] 29)) a3 l) := (J5.out.keep b6).keep N6.out
  have K6 : Hid (IsB (w6.alloc (.cells #[.int .i64 k, .slice a6 l.length c6] 29)) a6 l) := (o6.isB HB.out).keep N6.out
  have L6 : Hid (IsB (w6.alloc (.cells #[.int .i64 k, .slice a6 l.length c6] 29)) a7 m) := (o7.isB HB'.out).keep N6.out
  have q0 := X6.out.cell0
  have q1 := X6.out.cell1
  clear o6 o7 b6 N6
  go_wp2_with fail
  refine (same_true a3 a _ _ c3 ca l _ J6.out (HI.out.keep B6.out) rfl rfl).mono ?_
  rintro e w8 ⟨rfl, rfl⟩
  go_wp2_with fail
  refine (same_true a6 a _ _ c6 ca l _ K6.out (HI.out.keep B6.out) rfl rfl).mono ?_
  rintro e w8 ⟨rfl, rfl⟩
  go_wp2_with fail
  refine (same_true a7 a' _ _ c7 ca' m _ L6.out (HI'.out.keep B6.out) rfl rfl).mono ?_
  rintro e w8 ⟨rfl, rfl⟩
  go_wp2
  go_ret
  exact ⟨rfl, B6.out⟩

set_option maxHeartbeats 1000000 in
theorem frameBack_any (k : Int) (a a' : Option Addr) (ca ca' : Nat) (l m : List Int) (w : World) (h0 : 0 ≤ k) (h1 : k ≤ 255) (hB : IsB w a l) (hnil : a = none → l = [] ∧ ca = 0) (hB' : IsB w a' m) (hnil' : a' = none → m = [] ∧ ca' = 0) (hml : l.length ≤ maxLen) (hmm : m.length ≤ maxLen) :
    Calls Try.prog 5 #[.int .u8 k, .slice a l.length ca, .slice a' m.length ca'] w fun e w' => e = .returned (.bool true) ∧ Below w.heap.size w w' := by
  by_cases c1 : l.length ≤ 4000
  · by_cases c2 : m.length ≤ 4000
    · by_cases c3 : k = 0
      · unfold maxLen at hml hmm
        subst c3
        clear hB hB' hnil hnil'
        go_enter Try.func5, Try.ntmps5
        go_wp2_with fail
        refine (alive_any w).mono ?_
        rintro e w1 ⟨rfl, b1⟩
        go_wp2
        go_ret
        exact ⟨rfl, b1⟩
      · exact frameBack_in k a a' ca ca' l m w h0 h1 hB hnil hB' hnil' c1 c2 c3
    · unfold maxLen at hml hmm
      clear hB hB' hnil hnil'
      go_enter Try.func5, Try.ntmps5
      go_wp2_with fail
      refine (alive_any w).mono ?_
      rintro e w1 ⟨rfl, b1⟩
      go_wp2
      go_ret
      exact ⟨rfl, b1⟩
  · unfold maxLen at hml hmm
    clear hB hB' hnil hnil'
    go_enter Try.func5, Try.ntmps5
    go_wp2_with fail
    refine (alive_any w).mono ?_
    rintro e w1 ⟨rfl, b1⟩
    go_wp2
    go_ret
    exact ⟨rfl, b1⟩

set_option maxRecDepth 100000 in
theorem frameBack_lifted (os : Os) (started : os.Started) (H : Type) (enc : TypeId × Value → H) :
    ReturnsInHanded {} Try.checked os 5 .any (Rows.frameBackSpec.pre6 enc Try.prog Try.f5 Rows.frameBackRow.domain false) (Rows.frameBackSpec.post enc Try.prog Try.f5 false true false false) := by
  refine returnsInHanded_of_change (C := Try.checked) own started (by kernel_rfl) Try.func5
    (ChangeSpec.witness6 (enc := enc) (C := Try.checked) false ⟨#[], #[.int .u8 0, .slice none 0 0, .slice none 0 0], []⟩ 8 (by kernel_rfl) (by kernel_rfl) (by kernel_rfl) (by kernel_rfl)) ?_
  intro W base args ds gs before hval0 hW hcnd _
  have hval : ∀ (j : Nat) t v, Try.f5.params[j]? = some t → args[j]? = some v → Value.okWide Try.prog W .any base t v := hval0
  have hW' := hW
  obtain ⟨p, q, hA0, hV, rfl, hfz, hnd⟩ := hW
  have hA : DataW.TrodAll enc Try.prog W 0 (fun _ => true) true Try.f5.params.toList args.toList ds p := hA0
  rw [Try.params5] at hA hval
  obtain ⟨v0, vs0, d0, ds0, p0, q0, hargs, rfl, rfl, h0, r0⟩ := trodAll_cons hA
  obtain ⟨v1, vs1, d1, ds1, p1, q1, rfl, rfl, rfl, h1, r1⟩ := trodAll_cons r0
  obtain ⟨v2, vs2, d2, ds2, p2, q2, rfl, rfl, rfl, h2, r2⟩ := trodAll_cons r1
  obtain ⟨rfl, rfl, rfl⟩ := trodAll_nil r2
  obtain rfl : args = #[v0, v1, v2] := by cases args; simp_all
  obtain ⟨rfl, rfl⟩ := trodVars_none hV
  obtain ⟨a0, rfl, rfl, rfl, w0⟩ := open_int Try.underlying5 (hval 0 5 v0 rfl rfl) h0
  obtain ⟨a1, len1, cap1, rfl⟩ := okWide_slice Try.underlying22 (hval 1 22 v1 rfl rfl)
  have k1 := h1
  have lt1 : ∀ x ∈ p1, x.block < W.heap.size := by obtain ⟨m, hm⟩ := k1; exact DataW.trod_lt m _ _ _ hm
  obtain ⟨l1, rfl, hB1, hlc1, hm1, hnil1, hd1⟩ := open_bytes h1
  obtain ⟨a2, len2, cap2, rfl⟩ := okWide_slice Try.underlying22 (hval 2 22 v2 rfl rfl)
  have k2 := h2
  have lt2 : ∀ x ∈ p2, x.block < W.heap.size := by obtain ⟨m, hm⟩ := k2; exact DataW.trod_lt m _ _ _ hm
  obtain ⟨l2, rfl, hB2, hlc2, hm2, hnil2, hd2⟩ := open_bytes h2
  clear hA0 hval0
  refine (frameBack_any a0 a1 a2 cap1 cap2 l1 l2 W (byte_of_wf w0).1 (byte_of_wf w0).2 hB1 hnil1 hB2 hnil2 (by omega) (by omega)).mono fun e W' ⟨he, bel⟩ => ?_
  subst he
  exact ⟨_, rfl, _, _, _, [], _, [], hW', trodAll_mk1 (shut_bool Try.underlying4 _), (trodAll_cons_mk (shut_int Try.underlying5 w0) (trodAll_cons_mk (Below.trod laidOut (by kernel_rfl) (of_decide_eq_true (by kernel_rfl)) k1 bel lt1) (trodAll_cons_mk (Below.trod laidOut (by kernel_rfl) (of_decide_eq_true (by kernel_rfl)) k2 bel lt2) trodAll_mk0))), rfl, bel.frame _, fun h => by cases h⟩

theorem frameBack_holds : Rows.FrameBackSaid :=
  OpenClaim.holds_of_wide 5 Try.f5 rfl rfl rfl rfl rfl rfl rfl ⟨rfl, rfl, rfl, rfl, rfl⟩ rfl rfl rfl rfl rfl (by kernel_rfl) Try.func5 (by kernel_rfl)
    (of_decide_eq_true (by kernel_rfl)) (by unfold Func.isWrapper; first | (rw [if_pos (by decide +kernel)]; kernel_rfl) | (rw [if_neg (by decide +kernel)]; exact ⟨rfl, rfl⟩))
    (fun os started H enc _ => frameBack_lifted os started H enc)
#print axioms frameBack_holds
end Go.Proofs.Ytjmbmicollkmkaa
