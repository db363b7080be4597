/- Layer 21: the document's sectors, which manifests may be, their bytes. -/
import Derived.Test.YtofmicbhheebiaaDoorMnG
import Derived.Test.YtofmicbhheebiaaDoorMnZ
import Derived.Test.YtofmicbhheebiaaDoorGzAF
namespace Go.Proofs.YtofmicbhheebiaaDoor
open Go.RowKit
set_option linter.unusedVariables false
set_option maxRecDepth 4000

theorem qsector_any (s n : Int) (w : World) :
    Calls Tryd.prog 32 #[.int .i64 s, .int .i64 n] w fun e w' => e = .returned (.int .i64 (secM s n)) ∧ w = w' := by
  by_cases h : s < 0 ∨ 1 < s ∨ n < 8 ∨ 65536 < n
  · have HE : Hid (secM s n = -1) := if_pos h
    by_cases h1 : s < 0
    · clear h
      go_enter Tryd.func32, Tryd.ntmps32
      go_wp2
      go_ret
      exact ⟨by rw [HE.out]; rfl, rfl⟩
    by_cases h2 : 1 < s
    · clear h
      go_enter Tryd.func32, Tryd.ntmps32
      go_wp2
      go_ret
      exact ⟨by rw [HE.out]; rfl, rfl⟩
    by_cases h3 : n < 8
    · clear h
      go_enter Tryd.func32, Tryd.ntmps32
      go_wp2
      go_ret
      exact ⟨by rw [HE.out]; rfl, rfl⟩
    have h4 : 65536 < n := by omega
    clear h
    go_enter Tryd.func32, Tryd.ntmps32
    go_wp2
    go_ret
    exact ⟨by rw [HE.out]; rfl, rfl⟩
  · have h1 : ¬ s < 0 := by omega
    have h2 : ¬ 1 < s := by omega
    have h3 : ¬ n < 8 := by omega
    have h4 : ¬ 65536 < n := by omega
    by_cases h5 : s = 0
    · have HE : Hid (secM s n = 0) := by show _ = _; rw [secM, if_neg h, if_pos h5]
      subst h5
      clear h
      go_enter Tryd.func32, Tryd.ntmps32
      go_wp2
      go_ret
      exact ⟨by rw [HE.out]; rfl, rfl⟩
    · have HE : Hid (secM s n = n - 1) := by show _ = _; rw [secM, if_neg h, if_neg h5]
      have b0 : (s == 0) = false := by simpa using h5
      have b1 : IntKind.i64.wrap (n - 1) = n - 1 := by rw [IntKind.wrap_i64]; omega
      clear h
      go_enter Tryd.func32, Tryd.ntmps32
      go_wp2
      go_ret
      exact ⟨by rw [HE.out]; rfl, rfl⟩

set_option maxRecDepth 20000 in
set_option maxHeartbeats 4000000 in
theorem qmay_any (m : Mn) (w : World) :
    Calls Tryd.prog 66 #[m.v] w fun e w' => e = .returned (.bool (okM m)) ∧ Below w.heap.size w w' := by
  obtain ⟨v, hv⟩ : ∃ v, okM m = v := ⟨_, rfl⟩
  have HV : Hid (okM m = v) := hv
  rw [hv]
  have hiff := okM_iff (m := m)
  rw [hv] at hiff
  obtain ⟨s, f, n⟩ := m
  simp only at hiff
  obtain ⟨D, hD, rD, bD⟩ := box21 51 w s f n
  obtain ⟨y0, y1, y2⟩ := three21 rD
  have HD : Hid _ := hD
  have BD : Hid (Below w.heap.size w D) := bD
  clear hD rD bD hv
  unfold Mn.v
  by_cases h1 : 1 ≤ s
  rotate_left
  · have HE : Hid (v = false) := by show _ = _; cases v; · rfl
                                    · exact absurd (hiff.1 rfl).1 h1
    clear hiff
    go_enter Tryd.func66, Tryd.ntmps66
    go_upto_region 1 with (fail)
    rw [HD.out]
    go_wp2
    go_ret
    exact ⟨by rw [HE.out]; rfl, BD.out⟩
  by_cases h2 : s ≤ 4294967295
  rotate_left
  · have HE : Hid (v = false) := by show _ = _; cases v; · rfl
                                    · exact absurd (hiff.1 rfl).2.1 h2
    clear hiff
    go_enter Tryd.func66, Tryd.ntmps66
    go_upto_region 1 with (fail)
    rw [HD.out]
    go_wp2
    go_ret
    exact ⟨by rw [HE.out]; rfl, BD.out⟩
  by_cases h3 : 1 ≤ f
  rotate_left
  · have HE : Hid (v = false) := by show _ = _; cases v; · rfl
                                    · exact absurd (hiff.1 rfl).2.2.1 h3
    clear hiff
    go_enter Tryd.func66, Tryd.ntmps66
    go_upto_region 1 with (fail)
    rw [HD.out]
    go_wp2
    go_ret
    exact ⟨by rw [HE.out]; rfl, BD.out⟩
  by_cases h4 : f ≤ 65534
  rotate_left
  · have HE : Hid (v = false) := by show _ = _; cases v; · rfl
                                    · exact absurd (hiff.1 rfl).2.2.2.1 h4
    clear hiff
    go_enter Tryd.func66, Tryd.ntmps66
    go_upto_region 1 with (fail)
    rw [HD.out]
    go_wp2
    go_ret
    exact ⟨by rw [HE.out]; rfl, BD.out⟩
  by_cases h5 : 8 ≤ n
  rotate_left
  · have HE : Hid (v = false) := by show _ = _; cases v; · rfl
                                    · exact absurd (hiff.1 rfl).2.2.2.2.1 h5
    clear hiff
    go_enter Tryd.func66, Tryd.ntmps66
    go_upto_region 1 with (fail)
    rw [HD.out]
    go_wp2
    go_ret
    exact ⟨by rw [HE.out]; rfl, BD.out⟩
  by_cases h6 : n ≤ 65542
  rotate_left
  · have HE : Hid (v = false) := by show _ = _; cases v; · rfl
                                    · exact absurd (hiff.1 rfl).2.2.2.2.2 h6
    clear hiff
    go_enter Tryd.func66, Tryd.ntmps66
    go_upto_region 1 with (fail)
    rw [HD.out]
    go_wp2
    go_ret
    exact ⟨by rw [HE.out]; rfl, BD.out⟩
  · have HE : Hid (v = true) := hiff.2 ⟨h1, h2, h3, h4, h5, h6⟩
    clear hiff
    go_enter Tryd.func66, Tryd.ntmps66
    go_upto_region 1 with (fail)
    rw [HD.out]
    go_wp2
    go_ret
    exact ⟨by rw [HE.out]; rfl, BD.out⟩

/-- Numbers, four bytes each. -/
def catM : List Int → List Int
  | [] => []
  | x :: l => putL 4 x ++ catM l
theorem catM_append : ∀ a b : List Int, catM (a ++ b) = catM a ++ catM b
  | [], b => rfl
  | x :: a, b => by show putL 4 x ++ catM (a ++ b) = _; rw [catM_append a b, ← List.append_assoc]; rfl
theorem catM_len : ∀ l : List Int, (catM l).length = 4 * l.length
  | [] => rfl
  | x :: l => by rw [catM, List.length_append, putL_len, catM_len l, List.length_cons]; omega
theorem catM_take {l : List Int} {m : Nat} (hm : m < l.length) : catM (l.take (m + 1)) = catM (l.take m) ++ putL 4 (l.getD m 0) := by
  have e : l.take (m + 1) = l.take m ++ [l[m]] := by rw [List.take_add_one, List.getElem?_eq_getElem hm]; rfl
  have g : l.getD m 0 = l[m] := by simp [List.getD, hm]
  rw [e, g, catM_append]
  simp [catM]
theorem catM_head (m : Mn) : catM [m.s, m.f, m.n] ++ List.replicate 44 0 = hdM m := by
  simp [catM, hdM, List.append_assoc]
theorem rput4_any (n : Int) (h0 : 0 ≤ n) (h1 : n ≤ 18446744073709551615) (w : World) :
    Calls Tryd.prog 67 #[.int .u64 n, .int .i64 4] w fun e w' => ∃ (ad : Addr) (c : Nat), e = .returned (.slice (some ad) 4 c) ∧ IsB w' (some ad) (putL 4 n) ∧ Below w.heap.size w w' := by
  refine (rput_is n 4 4 (by decide) (by decide) h0 h1 w).mono ?_
  rintro e w' ⟨a, c, rfl, i, _, b⟩
  rcases a with _ | ad
  · obtain ⟨_, q | ⟨_, _, q, _⟩⟩ := i
    · have := congrArg List.length q
      rw [putL_len] at this
      cases this
    · cases q
  · exact ⟨ad, c, rfl, i, b⟩
end Go.Proofs.YtofmicbhheebiaaDoor
