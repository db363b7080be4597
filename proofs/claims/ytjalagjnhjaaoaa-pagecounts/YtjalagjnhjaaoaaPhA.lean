/- Layer 18: Count, which rows may be written, and a row's bytes, of the code. -/
import Derived.Test.YtjalagjnhjaaoaaPgB
import Derived.Deep.RegionHeld3
namespace Go.Proofs.Ytjalagjnhjaaoaa
open Go.RowKit
set_option linter.unusedVariables false
set_option maxRecDepth 4000

set_option maxHeartbeats 2000000 in
/-- Count. -/
theorem pcount_any (n per : Int) (w : World) (hn : -9223372036854775808 ≤ n ∧ n ≤ 9223372036854775807) (hp : -9223372036854775808 ≤ per ∧ per ≤ 9223372036854775807) :
    Calls Try.prog 14 #[.int .i64 n, .int .i64 per] w fun e w' => e = .returned (.int .i64 (cntP n per)) ∧ w = w' := by
  by_cases h1 : n < 1
  · have e : cntP n per = 0 := if_pos (.inl h1)
    rw [e]
    go_enter Try.func14, Try.ntmps14
    go_wp2
    go_ret
    exact ⟨rfl, rfl⟩
  · by_cases h2 : per < 1
    · have e : cntP n per = 0 := if_pos (.inr h2)
      rw [e]
      go_enter Try.func14, Try.ntmps14
      go_wp2
      go_ret
      exact ⟨rfl, rfl⟩
    · have hC : cntP n per = (n - 1) / per + 1 := if_neg (by omega)
      have l1 := (cnt_le (n := n) (per := per)).2 (by omega)
      have d0 : 0 ≤ (n - 1).tdiv per := Int.tdiv_nonneg (by omega) (by omega)
      have eD : (n - 1).tdiv per = (n - 1) / per := Int.tdiv_eq_ediv_of_nonneg (by omega)
      have w0 : IntKind.i64.wrap (n - 1) = n - 1 := by rw [IntKind.wrap_i64]; omega
      rw [← eD] at hC
      obtain ⟨D, hD⟩ : ∃ D, (n - 1).tdiv per = D := ⟨_, rfl⟩
      rw [hD] at hC d0
      rw [hC] at l1 ⊢
      have wq : IntKind.i64.wrap D = D := by rw [IntKind.wrap_i64]; omega
      have wc : IntKind.i64.wrap (D + 1) = D + 1 := by rw [IntKind.wrap_i64]; omega
      have p0 : ¬ per = 0 := by omega
      have p1 : ¬ per = -1 := by omega
      clear hC eD
      go_enter Try.func14, Try.ntmps14
      go_wp2
      go_ret
      exact ⟨rfl, rfl⟩

theorem eqR18 (w : World) (g k a : Int) (v : Bool) (hv : decide (k = 0 ∧ a = 0) = v) : (binOp .eql 51 (.agg #[.int .i64 g, .bool false, .int .i64 k, .int .i64 a]) (.agg #[.int .i64 g, .bool false, .int .i64 0, .int .i64 0])).run Try.prog w = .ok (.bool v) w := by
  have hS : Try.prog.underlying 51 = some (.struct (Try.prog.fieldsOf 51)) := by kernel_rfl
  have hp : Try.prog.stoodInHeld 51 = false := by kernel_rfl
  rw [run_eql_struct, show (10000 : Nat) = 9999 + 1 from rfl, run_equalIn_agg w 9999 51 _ _ hS hp]
  subst hv
  by_cases h0 : k = 0 <;> by_cases h1 : a = 0 <;> simp [go_sem, h0, h1, Try.underlying3]
set_option maxRecDepth 20000 in
set_option maxHeartbeats 4000000 in
/-- Which rows may be written. -/
theorem pmay_any (x : HRw) (v : Bool) (w : World) (hv : mayR x = v) :
    Calls Try.prog 25 #[.agg #[.int .i64 x.gen, .bool x.live, .int .i64 x.kind, .int .i64 x.pl]] w fun e w' => e = .returned (.bool v) ∧ Below w.heap.size w w' := by
  obtain ⟨D, hD, rD, bD⟩ := rbox18 w x
  obtain ⟨g, lv, k, a⟩ := x
  simp only at hD rD
  have HD : Hid (w.alloc (.cells #[.int .i64 g, .bool lv, .int .i64 k, .int .i64 a] 51) = D) := hD
  have BD : Hid (Below w.heap.size w D) := bD
  have c0 : D.cell? ⟨w.heap.size, 0, none⟩ = some (.int .i64 g) := cell_of_row _ _ 0 _ _ _ rD
  have c1 : D.cell? ⟨w.heap.size, 1, none⟩ = some (.bool lv) := cell_of_row _ _ 1 _ _ _ rD
  have c2 : D.cell? ⟨w.heap.size, 2, none⟩ = some (.int .i64 k) := cell_of_row _ _ 2 _ _ _ rD
  have c3 : D.cell? ⟨w.heap.size, 3, none⟩ = some (.int .i64 a) := cell_of_row _ _ 3 _ _ _ rD
  clear hD rD bD
  cases lv
  · have hv' : v = decide (0 ≤ g ∧ g ≤ 65535 ∧ k = 0 ∧ a = 0) := by rw [← hv]; exact if_neg (by simp)
    have HV : Hid (v = decide (0 ≤ g ∧ g ≤ 65535 ∧ k = 0 ∧ a = 0)) := hv'
    clear hv hv'
    by_cases g0 : 0 ≤ g
    rotate_left
    · go_enter Try.func25, Try.ntmps25
      go_upto_region 1 with (fail)
      rw [HD.out]
      go_wp2
      go_ret
      exact ⟨by rw [show v = false by rw [HV.out]; exact decide_eq_false (by omega)]; rfl, BD.out⟩
    by_cases g1 : g ≤ 65535
    rotate_left
    · go_enter Try.func25, Try.ntmps25
      go_upto_region 1 with (fail)
      rw [HD.out]
      go_wp2
      go_ret
      exact ⟨by rw [show v = false by rw [HV.out]; exact decide_eq_false (by omega)]; rfl, BD.out⟩
    obtain ⟨b, hb⟩ : ∃ b, decide (k = 0 ∧ a = 0) = b := ⟨_, rfl⟩
    have EQ : ∀ w : World, (binOp .eql 51 (.agg #[.int .i64 g, .bool false, .int .i64 k, .int .i64 a]) (.agg #[.int .i64 g, .bool false, .int .i64 0, .int .i64 0])).run Try.prog w = .ok (.bool b) w := fun w => eqR18 w g k a b hb
    have HB : Hid (v = b) := by
      show _ = _
      rw [HV.out, ← hb]
      exact decide_eq_decide.2 ⟨fun q => ⟨q.2.2.1, q.2.2.2⟩, fun q => ⟨g0, g1, q.1, q.2⟩⟩
    clear hb
    go_enter Try.func25, Try.ntmps25
    go_upto_region 1 with (fail)
    rw [HD.out]
    go_wp2
    go_ret
    exact ⟨by rw [HB.out]; rfl, BD.out⟩
  · have hv' : v = decide (1 ≤ g ∧ g ≤ 65535 ∧ 0 ≤ k ∧ k ≤ 63 ∧ 0 ≤ a ∧ a ≤ 1048575) := by rw [← hv]; exact if_pos rfl
    have HV : Hid (v = decide (1 ≤ g ∧ g ≤ 65535 ∧ 0 ≤ k ∧ k ≤ 63 ∧ 0 ≤ a ∧ a ≤ 1048575)) := hv'
    clear hv hv'
    by_cases g00 : 0 ≤ g
    rotate_left
    · go_enter Try.func25, Try.ntmps25
      go_upto_region 1 with (fail)
      rw [HD.out]
      go_wp2
      go_ret
      exact ⟨by rw [show v = false by rw [HV.out]; exact decide_eq_false (by omega)]; rfl, BD.out⟩
    by_cases g1 : g ≤ 65535
    rotate_left
    · go_enter Try.func25, Try.ntmps25
      go_upto_region 1 with (fail)
      rw [HD.out]
      go_wp2
      go_ret
      exact ⟨by rw [show v = false by rw [HV.out]; exact decide_eq_false (by omega)]; rfl, BD.out⟩
    by_cases g0 : 0 < g
    rotate_left
    · go_enter Try.func25, Try.ntmps25
      go_upto_region 1 with (fail)
      rw [HD.out]
      go_wp2
      go_ret
      exact ⟨by rw [show v = false by rw [HV.out]; exact decide_eq_false (by omega)]; rfl, BD.out⟩
    by_cases k0 : 0 ≤ k
    rotate_left
    · go_enter Try.func25, Try.ntmps25
      go_upto_region 1 with (fail)
      rw [HD.out]
      go_wp2
      go_ret
      exact ⟨by rw [show v = false by rw [HV.out]; exact decide_eq_false (by omega)]; rfl, BD.out⟩
    by_cases k1 : k ≤ 63
    rotate_left
    · go_enter Try.func25, Try.ntmps25
      go_upto_region 1 with (fail)
      rw [HD.out]
      go_wp2
      go_ret
      exact ⟨by rw [show v = false by rw [HV.out]; exact decide_eq_false (by omega)]; rfl, BD.out⟩
    by_cases a0 : 0 ≤ a
    rotate_left
    · go_enter Try.func25, Try.ntmps25
      go_upto_region 1 with (fail)
      rw [HD.out]
      go_wp2
      go_ret
      exact ⟨by rw [show v = false by rw [HV.out]; exact decide_eq_false (by omega)]; rfl, BD.out⟩
    by_cases a1 : a ≤ 1048575
    rotate_left
    · go_enter Try.func25, Try.ntmps25
      go_upto_region 1 with (fail)
      rw [HD.out]
      go_wp2
      go_ret
      exact ⟨by rw [show v = false by rw [HV.out]; exact decide_eq_false (by omega)]; rfl, BD.out⟩
    go_enter Try.func25, Try.ntmps25
    go_upto_region 1 with (fail)
    rw [HD.out]
    go_wp2
    go_ret
    exact ⟨by rw [show v = true by rw [HV.out]; exact decide_eq_true (by omega)]; rfl, BD.out⟩
theorem owns_some {w : World} {B : Nat} {a : Option Addr} (n : Int) {c : Nat} (o : OwnsB w B a (varL n) c) : ∃ ad, a = some ad := by
  obtain ⟨_, ⟨q, q2⟩ | ⟨g, c', cur, q, _⟩⟩ := o
  · have := digs_pos 9 n
    have e : (varL n).length = (digs 9 n).length := rfl
    omega
  · injection q with q
    exact ⟨_, q⟩
/-- Var, as bytes of one's own. -/
theorem varw_any (n : Int) (w : World) (h0 : 0 ≤ n) (h1 : n ≤ 18446744073709551615) :
    Calls Try.prog 46 #[.int .u64 n] w fun e w' => ∃ a cap, e = .returned (.slice a (varL n).length cap) ∧ OwnsB w' w.heap.size a (varL n) cap ∧ Below w.heap.size w w' :=
  (var_any n w h0 h1).mono (fun e w' h => ⟨_, _, h.1, h.2.1, h.2.2⟩)
set_option maxRecDepth 20000 in
set_option maxHeartbeats 4000000 in
/-- The bytes of a row that may be written. -/
theorem prowb_any (x : HRw) (w : World) (hv : mayR x = true) :
    Calls Try.prog 26 #[.agg #[.int .i64 x.gen, .bool x.live, .int .i64 x.kind, .int .i64 x.pl]] w fun e w' => ∃ a c, e = .returned (.slice a (rowB x).length c) ∧ OwnsB w' w.heap.size a (rowB x) c ∧ Below w.heap.size w w' := by
  obtain ⟨D, hD, rD, bD⟩ := rbox18 w x
  obtain ⟨g, lv, k, a⟩ := x
  simp only at hD rD
  have HD : Hid (w.alloc (.cells #[.int .i64 g, .bool lv, .int .i64 k, .int .i64 a] 51) = D) := hD
  have BD : Hid (Below w.heap.size w D) := bD
  have c0 : D.cell? ⟨w.heap.size, 0, none⟩ = some (.int .i64 g) := cell_of_row _ _ 0 _ _ _ rD
  have c1 : D.cell? ⟨w.heap.size, 1, none⟩ = some (.bool lv) := cell_of_row _ _ 1 _ _ _ rD
  have c2 : D.cell? ⟨w.heap.size, 2, none⟩ = some (.int .i64 k) := cell_of_row _ _ 2 _ _ _ rD
  have c3 : D.cell? ⟨w.heap.size, 3, none⟩ = some (.int .i64 a) := cell_of_row _ _ 3 _ _ _ rD
  have z1 : w.heap.size < D.heap.size := hlt rD
  clear hD rD bD
  cases lv
  · obtain ⟨g0, g1, k0, a0⟩ := may_dead.1 hv
    have e : rowB ⟨g, false, k, a⟩ = varL (2 * g) := if_neg (by simp)
    rw [e]
    have u1 : IntKind.u64.wrap g = g := by rw [IntKind.wrap_u64]; omega
    have u2 : IntKind.u64.wrap (2 * g) = 2 * g := by rw [IntKind.wrap_u64]; omega
    clear hv k0 a0 e
    go_enter Try.func26, Try.ntmps26
    go_upto_region 1 with (fail)
    rw [HD.out]
    go_wp2_with (go_at_call 46; refine (varw_any (2 * g) _ (by omega) (by omega)).mono ?_; rintro e w1 ⟨a1, cc1, rfl, o1, b1⟩)
    go_ret
    exact ⟨a1, cc1, rfl, OwnsB.mono o1 BD.out.size, BD.out.trans (b1.mono BD.out.size)⟩
  · obtain ⟨g0, g1, k0, k1, a0, a1⟩ := may_live.1 hv
    have e : rowB ⟨g, true, k, a⟩ = (varL (2 * g + 1) ++ varL k) ++ varL a := by rw [List.append_assoc]; exact if_pos rfl
    rw [e]
    have u1 : IntKind.u64.wrap g = g := by rw [IntKind.wrap_u64]; omega
    have u2 : IntKind.u64.wrap (2 * g) = 2 * g := by rw [IntKind.wrap_u64]; omega
    have u3 : IntKind.u64.wrap (2 * g + 1) = 2 * g + 1 := by rw [IntKind.wrap_u64]; omega
    have u4 : IntKind.u64.wrap k = k := by rw [IntKind.wrap_u64]; omega
    have u5 : IntKind.u64.wrap a = a := by rw [IntKind.wrap_u64]; omega
    have V1 := varL_le (2 * g + 1)
    have V2 := varL_le k
    have V3 := varL_le a
    have HVK : Hid (∀ x ∈ varL k, 0 ≤ x ∧ x ≤ 255) := varL_byte k (by omega) (by omega)
    have HVA : Hid (∀ x ∈ varL a, 0 ≤ x ∧ x ≤ 255) := varL_byte a (by omega) (by omega)
    obtain ⟨ng, hng⟩ : ∃ ng, w.heap.size = ng := ⟨_, rfl⟩
    have HNG : Hid (w.heap.size = ng) := hng
    have BDn : Hid (Below ng w D) := by rw [← hng]; exact BD.out
    rw [hng] at c0 c1 c2 c3 z1
    clear hv e
    obtain ⟨n1, hn1⟩ : ∃ n1, 2 * g + 1 = n1 := ⟨_, rfl⟩
    have n10 : 0 ≤ n1 := by omega
    have n11 : n1 ≤ 131071 := by omega
    have u3' : IntKind.u64.wrap (2 * g + 1) = n1 := by rw [u3]; exact hn1
    rw [hn1] at V1 ⊢
    clear u3 hn1
    go_enter Try.func26, Try.ntmps26
    go_upto_region 1 with (fail)
    rw [HD.out]
    try rw [HNG.out]
    go_upto_region 4 with (fail)
    go_cut [4] from 14 to 22 (fun bv wx => ∃ (a' : Option Addr) (c' : Nat), bv = .slice a' (varL n1 ++ varL k).length c' ∧ OwnsB wx ng a' (varL n1 ++ varL k) c' ∧ Below D.heap.size D wx)
    case first =>
      go_region_held3 (fun w' => w'.cell? ⟨ng, 2, none⟩ = some (.int .i64 k)) (first | assumption | go_keep)
        (first
          | (go_at_call_of 46 n1; refine (varw_any n1 _ (by omega) (by omega)).mono ?_; rintro e wS ⟨aS, cS, rfl, oS, bS⟩; have BS : Hid (Below D.heap.size D wS) := (by first | exact BL.out.trans (bS.mono BL.out.size) | exact Below.ofDrew bS); have p0 := BS.out.cell (p := ⟨ng, 2, none⟩) (by omega); rw [c2] at p0; have OS : Hid (OwnsB wS _ _ (varL n1) _) := oS; have KS : Hid (Below _ _ wS) := bS; clear oS bS)
          | (go_at_call 46; refine (varw_any k _ (by omega) (by omega)).mono ?_; rintro e wL ⟨aL, cL, rfl, oL, bL⟩; have BL : Hid (Below D.heap.size D wL) := (by first | exact BS.out.trans (bL.mono BS.out.size) | exact Below.ofDrew bL); have r0 := BL.out.cell (p := ⟨ng, 2, none⟩) (by omega); rw [c2] at r0; have OL : Hid (OwnsB wL _ _ (varL k) _) := oL; have KL : Hid (Below _ _ wL) := bL; clear oL bL)
          | (obtain ⟨ad, rfl⟩ := owns_some k OL.out; refine step_appB rfl rfl _ _ rfl _ (varL n1) _ _ (varL k) _ rfl rfl D.heap.size BL.out.size (OwnsB.keep OS.out KL.out) (ownsB_isB HVK.out OL.out) (by omega) ?_; intro a3 cc3 w3 o3 b3; have O3 : Hid (OwnsB w3 ng a3 (varL n1 ++ varL k) cc3) := OwnsB.mono o3 (by omega); have B3 : Hid (Below D.heap.size D w3) := BL.out.trans b3; have t0 := B3.out.cell (p := ⟨ng, 2, none⟩) (by omega); rw [c2] at t0; clear o3 b3)
          | (obtain ⟨ad, rfl⟩ := owns_some k OL.out; refine step_appB rfl rfl _ _ rfl _ (varL n1) _ _ (varL k) _ rfl rfl D.heap.size BS.out.size (OwnsB.mono OS.out BL.out.size) ((ownsB_isB HVK.out OL.out).keep KS.out) (by omega) ?_; intro a3 cc3 w3 o3 b3; have O3 : Hid (OwnsB w3 ng a3 (varL n1 ++ varL k) cc3) := OwnsB.mono o3 (by omega); have B3 : Hid (Below D.heap.size D w3) := BS.out.trans b3; have t0 := B3.out.cell (p := ⟨ng, 2, none⟩) (by omega); rw [c2] at t0; clear o3 b3))
      all_goals
        go_wp2
        go_meet
        exact ⟨a3, cc3, by rw [List.length_append], O3.out, B3.out⟩
    case rest =>
      obtain ⟨a2, cc2, rfl, o2, b2⟩ := hcut
      have d3 := b2.cell (p := ⟨ng, 3, none⟩) z1
      rw [c3] at d3
      have O2 : Hid (OwnsB wc ng a2 (varL n1 ++ varL k) cc2) := o2
      have B2 : Hid (Below ng w wc) := BDn.out.trans (b2.mono (by omega))
      have L2 : Hid ((varL n1 ++ varL k).length ≤ 100) := by show _ ≤ _; rw [List.length_append]; omega
      clear o2 b2 c0 c1 c2 c3
      obtain ⟨O, hO⟩ : ∃ O, varL n1 ++ varL k = O := ⟨_, rfl⟩
      rw [hO] at O2 L2 ⊢
      go_wp2_with (first
        | (go_at_call 46; refine (varw_any a _ a0 (by omega)).mono ?_; rintro e w5 ⟨a5, c5, rfl, o5, b5⟩; have O5 : Hid (OwnsB w5 _ _ (varL a) _) := o5; have A5 : Hid (OwnsB w5 ng a2 O cc2) := O2.out.keep b5; have B5 : Hid (Below ng w w5) := B2.out.trans (b5.mono (by have := B2.out.size; have := HNG.out; omega)); obtain ⟨ad, rfl⟩ := owns_some a o5; clear o5 b5)
        | (at_builtin; refine wpList_app rfl _ _ rfl ng (by have := B5.out.size; have := HNG.out; omega) a2 O cc2 rfl A5.out _ (varL a) _ rfl (ownsB_isB HVA.out O5.out) (fun h => by cases h) (by have := L2.out; omega) ?_; intro a4 c4 w4 o4 b4; have O4 : Hid (OwnsB w4 ng a4 (O ++ varL a) c4) := o4; have B4 : Hid (Below ng w w4) := B5.out.trans b4; clear o4 b4))
      go_ret
      rw [HNG.out, hO]
      exact ⟨a4, c4, by first | rfl | (rw [List.length_append]; rfl), O4.out, B4.out⟩
end Go.Proofs.Ytjalagjnhjaaoaa
