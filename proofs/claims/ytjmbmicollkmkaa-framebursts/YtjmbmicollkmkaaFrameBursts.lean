/- A burst of 32 bits makes no frame: the law FrameBursts, for every input. -/
import Derived.Test.YtjmbmicollkmkaaFrO
import Derived.Lib.SmallJoins
namespace Go.Proofs.Ytjmbmicollkmkaa
open Go.ChangeShapes Go.WideShapes Go.ChangeAt Go.RowKit
set_option linter.unusedVariables false

theorem OwnsB.isB {w : World} {base cap : Nat} {a : Option Addr} {l : List Int} (h : OwnsB w base a l cap) (hb : AllB l) : IsB w a l := ownsB_isB hb h

set_option maxHeartbeats 4000000 in
theorem frameBursts_in (k : Int) (a : Option Addr) (ca p m : Nat) (l : List Int) (w : World) (h0 : 0 ≤ k) (h1 : k ≤ 255) (hp : p < 65536) (hm : m < 4294967296) (hB : IsB w a l) (hnil : a = none → l = [] ∧ ca = 0) (hl : l.length ≤ 4000) (hk : ¬ k = 0) :
    Calls Try.prog 6 #[.int .u8 k, .slice a l.length ca, .agg #[.int .u16 p, .int .u32 m]] w fun e w' => e = .returned (.bool true) ∧ Below w.heap.size w w' := by
  have HI : Hid (IsB w a l) := hB
  have HN : Hid (a = none → l = [] ∧ ca = 0) := hnil
  have hb : AllB l := hB.1
  have hk1 : 1 ≤ k := by omega
  have hw0 := frL_right k l [] true hk1 h1 hb (by omega) (.inr rfl)
  rw [List.append_nil] at hw0
  have V0 : Hid (wrongL (frL k l) true = 0) := hw0
  have FB : Hid (AllB (frL k l)) := frL_allB h0 h1 hb
  have FL : Hid ((frL k l).length = l.length + 7) := frL_len k l
  have kw : IntKind.i64.wrap k = k := by rw [IntKind.wrap_i64]; omega
  have d1 : decide (4000 < (l.length : Int)) = false := by simp; omega
  have d3 : (k == 0) = false := by simpa using hk
  have B0 : Hid (Below w.heap.size w (w.alloc (.cells #[.int .u16 p, .int .u32 m] 47))) := (Below.refl _ w).alloc (Nat.le_refl _) _
  have q00 : (w.alloc (.cells #[.int .u16 p, .int .u32 m] 47)).cell? ⟨w.heap.size, 0, none⟩ = some (.int .u16 p) := by simp
  have q01 : (w.alloc (.cells #[.int .u16 p, .int .u32 m] 47)).cell? ⟨w.heap.size, 1, none⟩ = some (.int .u32 m) := by simp
  have Q00 : Hid ((w.alloc (.cells #[.int .u16 p, .int .u32 m] 47)).cell? ⟨w.heap.size, 0, none⟩ = some (.int .u16 p)) := q00
  have Q01 : Hid ((w.alloc (.cells #[.int .u16 p, .int .u32 m] 47)).cell? ⟨w.heap.size, 1, none⟩ = some (.int .u32 m)) := q01
  have hsz : (w.alloc (.cells #[.int .u16 p, .int .u32 m] 47)).heap.size = w.heap.size + 1 := by simp
  have HSZ : Hid ((w.alloc (.cells #[.int .u16 p, .int .u32 m] 47)).heap.size = w.heap.size + 1) := hsz
  clear hB hnil hb hw0 q00 q01 hsz
  go_enter Try.func6, Try.ntmps6
  go_wp2_with fail
  generalize w.alloc (.cells #[.int .u16 p, .int .u32 m] 47) = v0 at *
  refine (alive_any v0).mono ?_
  rintro e w1 ⟨rfl, b1⟩
  have C1 : Hid (Below v0.heap.size v0 w1) := b1
  have y1 := b1.size
  clear b1
  go_wp2_with fail
  refine (encode_fit k a ca _ l w1 rfl ((HI.out.keep B0.out).keep C1.out) HN.out hk1 h1 (by omega)).mono ?_
  rintro e w2 ⟨g2, c2, rfl, o2, b2⟩
  have C2 : Hid (Below v0.heap.size v0 w2) := C1.out.trans (b2.mono y1)
  have y2 := C2.out.size
  have I2 : Hid (IsB w2 (some ⟨g2, 0, none⟩) (frL k l)) := o2.isB FB.out
  have q0 := (C2.out.cell (p := ⟨w.heap.size, 0, none⟩) (by rw [HSZ.out]; simp)).trans Q00.out
  have q1 := (C2.out.cell (p := ⟨w.heap.size, 1, none⟩) (by rw [HSZ.out]; simp)).trans Q01.out
  clear o2 b2
  go_wp2_with fail
  refine (turn_any _ c2 _ (frL k l) p m hp hm w2 FL.out.symm I2.out (by rw [FL.out]; omega)).mono ?_
  rw [FL.out]
  rintro r w3 ⟨g3, c3, c, e, rfl, l3, m3, i3, n3, e3, u3, v3, b3⟩
  have C3 : Hid (Below v0.heap.size v0 w3) := C2.out.trans (b3.mono y2)
  have y3 := C3.out.size
  have I3 : Hid (IsB w3 (some ⟨g2, 0, none⟩) (frL k l)) := I2.out.keep b3
  have J3 : Hid (IsB w3 (some ⟨g3, 0, none⟩) c) := i3
  obtain ⟨f1, f2⟩ := burst_frame (b := frL k l) (c := c) FB.out i3.1 V0.out (by rw [FL.out]; exact n3) u3 e3 (by rw [FL.out]; exact v3)
  have N3 : Hid (c.length = l.length + 7) := n3
  have hc3 : c.length ≤ c3 := by omega
  clear b3 i3 u3 v3 n3
  by_cases he : e = 0
  · obtain rfl := f2.2 he
    have K3 : Hid (∃ kk, kindW (frL k l) true = kk) := ⟨_, rfl⟩
    obtain ⟨kk, hkk⟩ := K3.out
    obtain ⟨X, hX⟩ : ∃ X, bodyW (frL k l) true = X := ⟨_, rfl⟩
    have HKK : Hid (kindW (frL k l) true = kk) := hkk
    have HXX : Hid (bodyW (frL k l) true = X) := hX
    clear hkk hX K3 f1 f2
    go_wp2_with fail
    refine (decode_of _ c3 _ (frL k l) X kk 0 w3 N3.out.symm J3.out hc3 m3 HKK.out HXX.out V0.out).mono ?_
    rintro e w4 ⟨a4, c4, rfl, o4, b4⟩
    have n4 : Below w3.heap.size w3 (w4.alloc (.cells #[.int .i64 kk, .slice a4 X.length c4] 29)) := b4.alloc b4.size _
    have C4 : Hid (Below v0.heap.size v0 (w4.alloc (.cells #[.int .i64 kk, .slice a4 X.length c4] 29))) := C3.out.trans (n4.mono y3)
    have I4 : Hid (IsB (w4.alloc (.cells #[.int .i64 kk, .slice a4 X.length c4] 29)) (some ⟨g2, 0, none⟩) (frL k l)) := I3.out.keep n4
    have J4 : Hid (IsB (w4.alloc (.cells #[.int .i64 kk, .slice a4 X.length c4] 29)) (some ⟨g3, 0, none⟩) (frL k l)) := J3.out.keep n4
    clear o4 b4 n4
    go_wp2_with fail
    refine (same_true _ _ _ _ c2 c3 (frL k l) _ I4.out J4.out FL.out.symm N3.out.symm).mono ?_
    rintro e w5 ⟨rfl, rfl⟩
    go_wp2
    go_ret
    exact ⟨rfl, B0.out.trans (C4.out.mono (by rw [HSZ.out]; omega))⟩
  · have hne : ¬ frL k l = c := fun h => he (f2.1 h.symm)
    obtain ⟨r, hr⟩ : ∃ r, wrongL c true = r := ⟨_, rfl⟩
    have hr0 : ¬ r = 0 := fun h => he (f1.1 (hr.trans h))
    have HR : Hid (wrongL c true = r) := hr
    have HK : Hid (kindW c true = 0) := kind_bad (by rw [hr]; exact hr0)
    have HX : Hid (bodyW c true = []) := body_bad (by rw [hr]; exact hr0)
    have hd : decide (frL k l = c) = false := by simpa using hne
    have HD : Hid (decide (frL k l = c) = false) := hd
    clear f1 f2 hr he hne hd
    go_wp2_with fail
    refine (decode_of _ c3 _ c [] 0 r w3 N3.out.symm J3.out hc3 m3 HK.out HX.out HR.out).mono ?_
    rintro e w4 ⟨a4, c4, rfl, o4, b4⟩
    rw [List.length_nil]
    have n4 : Below w3.heap.size w3 (w4.alloc (.cells #[.int .i64 0, .slice a4 0 c4] 29)) := b4.alloc b4.size _
    have C4 : Hid (Below v0.heap.size v0 (w4.alloc (.cells #[.int .i64 0, .slice a4 0 c4] 29))) := C3.out.trans (n4.mono y3)
    have I4 : Hid (IsB (w4.alloc (.cells #[.int .i64 0, .slice a4 0 c4] 29)) (some ⟨g2, 0, none⟩) (frL k l)) := I3.out.keep n4
    have J4 : Hid (IsB (w4.alloc (.cells #[.int .i64 0, .slice a4 0 c4] 29)) (some ⟨g3, 0, none⟩) c) := J3.out.keep n4
    have dr : (r == 0) = false := by simpa using hr0
    have dr' : (r != 0) = true := by simpa using hr0
    clear o4 b4 n4
    go_wp2_with fail
    refine (same_any _ _ _ _ c2 c3 (frL k l) c _ I4.out J4.out FL.out.symm N3.out.symm).mono ?_
    rw [HD.out]
    rintro e w5 ⟨rfl, rfl⟩
    go_wp2
    go_ret
    exact ⟨rfl, B0.out.trans (C4.out.mono (by rw [HSZ.out]; omega))⟩

set_option maxHeartbeats 1000000 in
theorem frameBursts_any (k : Int) (a : Option Addr) (ca p m : Nat) (l : List Int) (w : World) (h0 : 0 ≤ k) (h1 : k ≤ 255) (hp : p < 65536) (hm : m < 4294967296) (hB : IsB w a l) (hnil : a = none → l = [] ∧ ca = 0) (hml : l.length ≤ maxLen) :
    Calls Try.prog 6 #[.int .u8 k, .slice a l.length ca, .agg #[.int .u16 p, .int .u32 m]] w fun e w' => e = .returned (.bool true) ∧ Below w.heap.size w w' := by
  by_cases c1 : l.length ≤ 4000
  · by_cases c3 : k = 0
    · unfold maxLen at hml
      subst c3
      clear hB hnil
      go_enter Try.func6, Try.ntmps6
      go_wp2_with fail
      refine (alive_any _).mono ?_
      rintro e w1 ⟨rfl, b1⟩
      go_wp2
      go_ret
      exact ⟨rfl, ((Below.refl _ w).alloc (Nat.le_refl _) _).trans (b1.mono (by simp))⟩
    · exact frameBursts_in k a ca p m l w h0 h1 hp hm hB hnil c1 c3
  · unfold maxLen at hml
    clear hB hnil
    go_enter Try.func6, Try.ntmps6
    go_wp2_with fail
    refine (alive_any _).mono ?_
    rintro e w1 ⟨rfl, b1⟩
    go_wp2
    go_ret
    exact ⟨rfl, ((Below.refl _ w).alloc (Nat.le_refl _) _).trans (b1.mono (by simp))⟩

set_option maxRecDepth 100000 in
theorem frameBursts_lifted (os : Os) (started : os.Started) (H : Type) (enc : TypeId × Value → H) :
    ReturnsInHanded {} Try.checked os 6 .any (Rows.frameBurstsSpec.pre6 enc Try.prog Try.f6 Rows.frameBurstsRow.domain false) (Rows.frameBurstsSpec.post enc Try.prog Try.f6 false true false false) := by
  refine returnsInHanded_of_change (C := Try.checked) own started (by kernel_rfl) Try.func6
    (ChangeSpec.witness6 (enc := enc) (C := Try.checked) false ⟨#[], #[.int .u8 0, .slice none 0 0, .agg #[.int .u16 0, .int .u32 0]], []⟩ 8 (by kernel_rfl) (by kernel_rfl) (by kernel_rfl) (by kernel_rfl)) ?_
  intro W base args ds gs before hval0 hW hcnd _
  have hval : ∀ (j : Nat) t v, Try.f6.params[j]? = some t → args[j]? = some v → Value.okWide Try.prog W .any base t v := hval0
  have hW' := hW
  obtain ⟨p, q, hA0, hV, rfl, hfz, hnd⟩ := hW
  have hA : DataW.TrodAll enc Try.prog W 0 (fun _ => true) true Try.f6.params.toList args.toList ds p := hA0
  rw [Try.params6] at hA hval
  obtain ⟨v0, vs0, d0, ds0, p0, q0, hargs, rfl, rfl, h0, r0⟩ := trodAll_cons hA
  obtain ⟨v1, vs1, d1, ds1, p1, q1, rfl, rfl, rfl, h1, r1⟩ := trodAll_cons r0
  obtain ⟨v2, vs2, d2, ds2, p2, q2, rfl, rfl, rfl, h2, r2⟩ := trodAll_cons r1
  obtain ⟨rfl, rfl, rfl⟩ := trodAll_nil r2
  obtain rfl : args = #[v0, v1, v2] := by cases args; simp_all
  obtain ⟨rfl, rfl⟩ := trodVars_none hV
  obtain ⟨a0, rfl, rfl, rfl, w0⟩ := open_int Try.underlying5 (hval 0 5 v0 rfl rfl) h0
  obtain ⟨a1, len1, cap1, rfl⟩ := okWide_slice Try.underlying22 (hval 1 22 v1 rfl rfl)
  have k1 := h1
  have lt1 : ∀ x ∈ p1, x.block < W.heap.size := by obtain ⟨m, hm⟩ := k1; exact DataW.trod_lt m _ _ _ hm
  obtain ⟨l1, rfl, hB1, hlc1, hm1, hnil1, hd1⟩ := open_bytes h1
  have k2 := h2
  have lt2 : ∀ x ∈ p2, x.block < W.heap.size := by obtain ⟨m, hm⟩ := k2; exact DataW.trod_lt m _ _ _ hm
  obtain ⟨c20, c21, y20, y21, n2, rfl, rfl, rfl, hy20, hy21⟩ := Joins.open_agg2 Try.underlying47 (by kernel_rfl) (by kernel_rfl) (hval 2 47 v2 rfl rfl) h2
  obtain ⟨x20, e20, rfl, w20⟩ := DataW.trod_int Try.underlying44 hy20
  obtain ⟨x21, e21, rfl, w21⟩ := DataW.trod_int Try.underlying45 hy21
  simp at e20 e21
  subst e20 e21
  obtain ⟨m20, rfl, q20⟩ := u16_of_wf w20
  obtain ⟨m21, rfl, q21⟩ := u32_of_wf w21
  clear hA0 hval0
  refine (frameBursts_any a0 a1 cap1 m20 m21 l1 W (byte_of_wf w0).1 (byte_of_wf w0).2 q20 q21 hB1 hnil1 (by omega)).mono fun e W' ⟨he, bel⟩ => ?_
  subst he
  exact ⟨_, rfl, _, _, _, [], _, [], hW', trodAll_mk1 (shut_bool Try.underlying4 _), (trodAll_cons_mk (shut_int Try.underlying5 w0) (trodAll_cons_mk (Below.trod laidOut (by kernel_rfl) (of_decide_eq_true (by kernel_rfl)) k1 bel lt1) (trodAll_cons_mk (Below.trod laidOut (by kernel_rfl) (of_decide_eq_true (by kernel_rfl)) k2 bel lt2) trodAll_mk0))), rfl, bel.frame _, fun h => by cases h⟩

theorem frameBursts_holds : Rows.FrameBurstsSaid :=
  OpenClaim.holds_of_wide 6 Try.f6 rfl rfl rfl rfl rfl rfl rfl ⟨rfl, rfl, rfl, rfl, rfl⟩ rfl rfl rfl rfl rfl (by kernel_rfl) Try.func6 (by kernel_rfl)
    (of_decide_eq_true (by kernel_rfl)) (by unfold Func.isWrapper; first | (rw [if_pos (by decide +kernel)]; kernel_rfl) | (rw [if_neg (by decide +kernel)]; exact ⟨rfl, rfl⟩))
    (fun os started H enc _ => frameBursts_lifted os started H enc)
#print axioms frameBursts_holds
end Go.Proofs.Ytjmbmicollkmkaa
