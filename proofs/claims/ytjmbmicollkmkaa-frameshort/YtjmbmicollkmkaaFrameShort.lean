/- Bytes of a frame that lack some at the end are none, with some more they are none by themselves: the law FrameShort, for every input. -/
import Derived.Test.YtjmbmicollkmkaaFrN
namespace Go.Proofs.Ytjmbmicollkmkaa
open Go.ChangeShapes Go.WideShapes Go.ChangeAt Go.RowKit
set_option linter.unusedVariables false

theorem OwnsB.isB {w : World} {base cap : Nat} {a : Option Addr} {l : List Int} (h : OwnsB w base a l cap) (hb : AllB l) : IsB w a l := ownsB_isB hb h

set_option maxHeartbeats 4000000 in
theorem frameShort_in (k : Int) (a : Option Addr) (ca n : Nat) (l : List Int) (w : World) (h0 : 0 ≤ k) (h1 : k ≤ 255) (hn : n < 65536) (hB : IsB w a l) (hnil : a = none → l = [] ∧ ca = 0) (hl : l.length ≤ 4000) (hk : ¬ k = 0) :
    Calls Try.prog 7 #[.int .u8 k, .slice a l.length ca, .int .u16 n] w fun e w' => e = .returned (.bool true) ∧ Below w.heap.size w w' := by
  have HI : Hid (IsB w a l) := hB
  have HN : Hid (a = none → l = [] ∧ ca = 0) := hnil
  have hb : AllB l := hB.1
  have hk1 : 1 ≤ k := by omega
  obtain ⟨t, ht⟩ : ∃ t, n % (l.length + 7) = t := ⟨_, rfl⟩
  have htl : t < l.length + 7 := by rw [← ht]; exact Nat.mod_lt _ (by omega)
  have S1 : wrongL ((frL k l).take t) true = 3 := frL_short k l t true (by omega) htl
  have S2 : wrongL ((frL k l).take t) false = 3 := frL_short k l t false (by omega) htl
  have V1 : Hid (wrongL ((frL k l).take t) true = 3) := S1
  have K1 : Hid (kindW ((frL k l).take t) true = 0) := kind_bad (by rw [S1]; decide)
  have X1 : Hid (bodyW ((frL k l).take t) true = []) := body_bad (by rw [S1]; decide)
  have V2 : Hid (wrongL ((frL k l).take t) false = 3) := S2
  have K2 : Hid (kindW ((frL k l).take t) false = 0) := kind_bad (by rw [S2]; decide)
  have X2 : Hid (bodyW ((frL k l).take t) false = []) := body_bad (by rw [S2]; decide)
  have Z2 : Hid (restW ((frL k l).take t) = []) := rest_bad (by rw [S2]; decide)
  have S3 : wrongL (frL k l ++ [(n : Int) % 256]) true = 6 := frL_long k l _ (by omega) (by simp)
  have V3 : Hid (wrongL (frL k l ++ [(n : Int) % 256]) true = 6) := S3
  have K3 : Hid (kindW (frL k l ++ [(n : Int) % 256]) true = 0) := kind_bad (by rw [S3]; decide)
  have X3 : Hid (bodyW (frL k l ++ [(n : Int) % 256]) true = []) := body_bad (by rw [S3]; decide)
  have FB : Hid (AllB (frL k l)) := frL_allB h0 h1 hb
  have NB : Hid (AllB [(n : Int) % 256]) := by intro x hx; simp at hx; omega
  have FL : Hid ((frL k l).length = l.length + 7) := frL_len k l
  have TL : Hid (t = ((frL k l).take t).length) := by show _ = _; rw [List.length_take, frL_len]; omega
  have GL : Hid ((frL k l ++ [(n : Int) % 256]).length = l.length + 8) := by show _ = _; rw [List.length_append, frL_len]; rfl
  have kw : IntKind.i64.wrap k = k := by rw [IntKind.wrap_i64]; omega
  have ti : ((n : Int)).tmod ((l.length : Int) + 7) = (t : Int) := by
    rw [← ht, Int.tmod_eq_emod_of_nonneg (by omega), Int.natCast_emod]
    rfl
  have d1 : decide (4000 < (l.length : Int)) = false := by simp; omega
  have d3 : (k == 0) = false := by simpa using hk
  have HB : Hid (AllB l) := hb
  clear hB hnil hb S1 S2 S3 ht
  go_enter Try.func7, Try.ntmps7
  go_wp2_with fail
  refine (alive_any w).mono ?_
  rintro e w1 ⟨rfl, b1⟩
  have B1 : Hid (Below w.heap.size w w1) := b1
  have z1 := b1.size
  clear b1
  go_wp2_with fail
  refine (encode_fit k a ca _ l w1 rfl (HI.out.keep B1.out) HN.out hk1 h1 (by omega)).mono ?_
  rintro e w2 ⟨g2, c2, rfl, o2, b2⟩
  have B2 : Hid (Below w.heap.size w w2) := B1.out.trans (b2.mono z1)
  have z2 := B2.out.size
  obtain ⟨l2, m2, _⟩ := ownsB_isL o2
  have M2 : Hid (c2 ≤ maxLen) := m2
  have I2 : Hid (IsB w2 (some ⟨g2, 0, none⟩) (frL k l)) := o2.isB FB.out
  have P2 : Hid (IsB w2 (some ⟨g2, 0, none⟩) ((frL k l).take t)) := IsB.part I2.out 0 t
  rw [FL.out] at l2
  have l2' : ((frL k l).take t).length ≤ c2 := by rw [← TL.out]; omega
  unfold maxLen at m2
  clear o2 b2
  go_wp2_with fail
  refine (decode_of _ c2 _ ((frL k l).take t) [] 0 3 w2 TL.out P2.out l2' M2.out K1.out X1.out V1.out).mono ?_
  rintro e w3 ⟨a3, c3, rfl, o3, b3⟩
  rw [List.length_nil]
  have n3 : Below w2.heap.size w2 (w3.alloc (.cells #[.int .i64 0, .slice a3 0 c3] 29)) := b3.alloc b3.size _
  have B3 : Hid (Below w.heap.size w (w3.alloc (.cells #[.int .i64 0, .slice a3 0 c3] 29))) := B2.out.trans (n3.mono z2)
  have I3 : Hid (IsB (w3.alloc (.cells #[.int .i64 0, .slice a3 0 c3] 29)) (some ⟨g2, 0, none⟩) (frL k l)) := I2.out.keep n3
  have P3 : Hid (IsB (w3.alloc (.cells #[.int .i64 0, .slice a3 0 c3] 29)) (some ⟨g2, 0, none⟩) ((frL k l).take t)) := P2.out.keep n3
  clear o3 b3 n3
  go_wp2_with fail
  generalize w3.alloc (.cells #[.int .i64 0, .slice a3 0 c3] 29) = v3 at *
  have z3 := B3.out.size
  refine (split_of _ c2 _ ((frL k l).take t) [] [] 0 3 v3 TL.out P3.out l2' M2.out (by rw [← TL.out]; omega) K2.out X2.out Z2.out V2.out).mono ?_
  rintro e w4 ⟨a4, c4, a5, c5, rfl, o4, o5, _, b4⟩
  rw [List.length_nil]
  have n4 : Below v3.heap.size v3 (w4.alloc (.cells #[.int .i64 0, .slice a4 0 c4] 29)) := b4.alloc b4.size _
  have B4 : Hid (Below w.heap.size w (w4.alloc (.cells #[.int .i64 0, .slice a4 0 c4] 29))) := B3.out.trans (n4.mono z3)
  have I4 : Hid (IsB (w4.alloc (.cells #[.int .i64 0, .slice a4 0 c4] 29)) (some ⟨g2, 0, none⟩) (frL k l)) := I3.out.keep n4
  clear o4 o5 b4 n4
  go_wp2_with fail
  generalize w4.alloc (.cells #[.int .i64 0, .slice a4 0 c4] 29) = v4 at *
  have z4 := B4.out.size
  refine (copy_any _ c2 _ (frL k l) v4 FL.out.symm I4.out (by rw [FL.out]; omega)).mono ?_
  rw [FL.out]
  rintro e w5 ⟨g5, c5, rfl, o5, b5⟩
  have B5 : Hid (Below w.heap.size w w5) := B4.out.trans (b5.mono z4)
  have O5 : Hid (OwnsB w5 v4.heap.size (some ⟨g5, 0, none⟩) (frL k l) c5) := o5
  have q5 := b5.size
  have z5 := B5.out.size
  clear o5 b5
  go_wp2_with (at_builtin; refine wpList_appg rfl _ _ rfl v4.heap.size (by simp; omega) _ (frL k l) c5 _ FL.out.symm rfl (World.ownsRow.alloc O5.out _) _ [(n : Int) % 256] _ _ rfl rfl (isB_new w5 [(n : Int) % 256] (0, 0) NB.out) (fun h => by cases h) (by rw [FL.out]; simp; omega) (frL k l ++ [(n : Int) % 256]) rfl (l.length + 8) GL.out ?_; intro a6 c6 w6 o6 g6)
  have B6 : Hid (Below w.heap.size w w6) := (B5.out.alloc z5 _).grown g6 (by simp; omega) (fun j hj => Nat.le_trans z4 (own_ge' FL.out.symm O5.out j hj))
  obtain ⟨l6, m6, _⟩ := ownsB_isL o6
  have I6 : Hid (IsB w6 a6 (frL k l ++ [(n : Int) % 256])) := o6.isB (FB.out.append NB.out)
  have z6 := B6.out.size
  clear o6 g6
  refine (decode_of a6 c6 _ (frL k l ++ [(n : Int) % 256]) [] 0 6 w6 GL.out.symm I6.out l6 m6 K3.out X3.out V3.out).mono ?_
  rintro e w7 ⟨a7, c7, rfl, o7, b7⟩
  have B7 : Hid (Below w.heap.size w w7) := B6.out.trans (b7.mono z6)
  have z7 := B7.out.size
  clear o7 b7
  go_wp2
  go_ret
  exact ⟨rfl, B7.out.alloc z7 _⟩

set_option maxHeartbeats 1000000 in
theorem frameShort_any (k : Int) (a : Option Addr) (ca n : Nat) (l : List Int) (w : World) (h0 : 0 ≤ k) (h1 : k ≤ 255) (hn : n < 65536) (hB : IsB w a l) (hnil : a = none → l = [] ∧ ca = 0) (hml : l.length ≤ maxLen) :
    Calls Try.prog 7 #[.int .u8 k, .slice a l.length ca, .int .u16 n] w fun e w' => e = .returned (.bool true) ∧ Below w.heap.size w w' := by
  by_cases c1 : l.length ≤ 4000
  · by_cases c3 : k = 0
    · unfold maxLen at hml
      subst c3
      clear hB hnil
      go_enter Try.func7, Try.ntmps7
      go_wp2_with fail
      refine (alive_any w).mono ?_
      rintro e w1 ⟨rfl, b1⟩
      go_wp2
      go_ret
      exact ⟨rfl, b1⟩
    · exact frameShort_in k a ca n l w h0 h1 hn hB hnil c1 c3
  · unfold maxLen at hml
    clear hB hnil
    go_enter Try.func7, Try.ntmps7
    go_wp2_with fail
    refine (alive_any w).mono ?_
    rintro e w1 ⟨rfl, b1⟩
    go_wp2
    go_ret
    exact ⟨rfl, b1⟩

set_option maxRecDepth 100000 in
theorem frameShort_lifted (os : Os) (started : os.Started) (H : Type) (enc : TypeId × Value → H) :
    ReturnsInHanded {} Try.checked os 7 .any (Rows.frameShortSpec.pre6 enc Try.prog Try.f7 Rows.frameShortRow.domain false) (Rows.frameShortSpec.post enc Try.prog Try.f7 false true false false) := by
  refine returnsInHanded_of_change (C := Try.checked) own started (by kernel_rfl) Try.func7
    (ChangeSpec.witness6 (enc := enc) (C := Try.checked) false ⟨#[], #[.int .u8 0, .slice none 0 0, .int .u16 0], []⟩ 8 (by kernel_rfl) (by kernel_rfl) (by kernel_rfl) (by kernel_rfl)) ?_
  intro W base args ds gs before hval0 hW hcnd _
  have hval : ∀ (j : Nat) t v, Try.f7.params[j]? = some t → args[j]? = some v → Value.okWide Try.prog W .any base t v := hval0
  have hW' := hW
  obtain ⟨p, q, hA0, hV, rfl, hfz, hnd⟩ := hW
  have hA : DataW.TrodAll enc Try.prog W 0 (fun _ => true) true Try.f7.params.toList args.toList ds p := hA0
  rw [Try.params7] at hA hval
  obtain ⟨v0, vs0, d0, ds0, p0, q0, hargs, rfl, rfl, h0, r0⟩ := trodAll_cons hA
  obtain ⟨v1, vs1, d1, ds1, p1, q1, rfl, rfl, rfl, h1, r1⟩ := trodAll_cons r0
  obtain ⟨v2, vs2, d2, ds2, p2, q2, rfl, rfl, rfl, h2, r2⟩ := trodAll_cons r1
  obtain ⟨rfl, rfl, rfl⟩ := trodAll_nil r2
  obtain rfl : args = #[v0, v1, v2] := by cases args; simp_all
  obtain ⟨rfl, rfl⟩ := trodVars_none hV
  obtain ⟨a0, rfl, rfl, rfl, w0⟩ := open_int Try.underlying5 (hval 0 5 v0 rfl rfl) h0
  obtain ⟨a1, len1, cap1, rfl⟩ := okWide_slice Try.underlying22 (hval 1 22 v1 rfl rfl)
  have k1 := h1
  have lt1 : ∀ x ∈ p1, x.block < W.heap.size := by obtain ⟨m, hm⟩ := k1; exact DataW.trod_lt m _ _ _ hm
  obtain ⟨l1, rfl, hB1, hlc1, hm1, hnil1, hd1⟩ := open_bytes h1
  obtain ⟨a2, rfl, rfl, rfl, w2⟩ := open_int Try.underlying44 (hval 2 44 v2 rfl rfl) h2
  clear hA0 hval0
  obtain ⟨n2, rfl, q2⟩ := u16_of_wf w2
  refine (frameShort_any a0 a1 cap1 n2 l1 W (byte_of_wf w0).1 (byte_of_wf w0).2 q2 hB1 hnil1 (by omega)).mono fun e W' ⟨he, bel⟩ => ?_
  subst he
  exact ⟨_, rfl, _, _, _, [], _, [], hW', trodAll_mk1 (shut_bool Try.underlying4 _), (trodAll_cons_mk (shut_int Try.underlying5 w0) (trodAll_cons_mk (Below.trod laidOut (by kernel_rfl) (of_decide_eq_true (by kernel_rfl)) k1 bel lt1) (trodAll_cons_mk (shut_int Try.underlying44 w2) trodAll_mk0))), rfl, bel.frame _, fun h => by cases h⟩

theorem frameShort_holds : Rows.FrameShortSaid :=
  OpenClaim.holds_of_wide 7 Try.f7 rfl rfl rfl rfl rfl rfl rfl ⟨rfl, rfl, rfl, rfl, rfl⟩ rfl rfl rfl rfl rfl (by kernel_rfl) Try.func7 (by kernel_rfl)
    (of_decide_eq_true (by kernel_rfl)) (by unfold Func.isWrapper; first | (rw [if_pos (by decide +kernel)]; kernel_rfl) | (rw [if_neg (by decide +kernel)]; exact ⟨rfl, rfl⟩))
    (fun os started H enc _ => frameShort_lifted os started H enc)
#print axioms frameShort_holds
end Go.Proofs.Ytjmbmicollkmkaa
