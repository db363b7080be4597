/- Layer 20: theirs, own, Entries, Same. -/
import Derived.Test.YtgpkiajakokjmaaRtQ
import Derived.Deep.SlicePairs
namespace Go.Proofs.Ytgpkiajakokjmaa
open Go.RowKit
set_option linter.unusedVariables false
set_option maxRecDepth 4000

theorem neqE (w : World) (a b c d : Int) : (binOp .neq 54 (.agg #[.int .i64 a, .int .i64 b, .int .i64 c, .int .i64 d]) (.agg #[.int .i64 a, .int .i64 b, .int .i64 c, .int .i64 d])).run Try.prog w = .ok (.bool false) w := by
  have hS : Try.prog.underlying 54 = some (.struct (Try.prog.fieldsOf 54)) := by kernel_rfl
  have hp : Try.prog.stoodInHeld 54 = false := by kernel_rfl
  rw [run_neq_struct, show (10000 : Nat) = 9999 + 1 from rfl, run_equalIn_agg w 9999 54 _ _ hS hp]
  simp [go_sem, Try.underlying3]
set_option maxRecDepth 20000 in
set_option maxHeartbeats 4000000 in
/-- The same entries. -/
theorem entries_true (a b : Option Addr) (ca cb : Nat) (n n' : Nat) (xs : List Ent) (w : World) (hx : IsW w a xs) (hy : IsW w b xs) (hn : n = xs.length) (hn' : n' = xs.length) (hl : xs.length ≤ 4398046511104) :
    Calls Try.prog 21 #[.slice a n ca, .slice b n' cb] w fun e w' => e = .returned (.bool true) ∧ Below w.heap.size w w' := by
  have HX : Hid (IsW w a xs) := hx
  have HY : Hid (IsW w b xs) := hy
  obtain ⟨N, hN⟩ : ∃ N, xs.length = N := ⟨_, rfl⟩
  have HN : Hid (xs.length = N) := hN
  rw [hN] at hl hn hn'
  subst hn hn'
  clear hx hy hN
  have B0 : Hid (Below w.heap.size w w) := Below.refl _ _
  have nq : ∀ (w : World) (a b c d : Int), (binOp .neq 54 (.agg #[.int .i64 a, .int .i64 b, .int .i64 c, .int .i64 d]) (.agg #[.int .i64 a, .int .i64 b, .int .i64 c, .int .i64 d])).run Try.prog w = .ok (.bool false) w := neqE
  go_enter Try.func21, Try.ntmps21
  go_wp2
  go_loopw [13] (fun iv wr => ∃ (m : Nat), m ≤ n' ∧ iv = .int .i64 (m : Nat) ∧ Below w.heap.size w wr) (fun iv _ => n' - (intOf iv).toNat)
  case atStart => exact ⟨0, Nat.zero_le _, rfl, B0.out⟩
  case round =>
    obtain ⟨m, hm, rfl, hB⟩ := hrel
    rename World => wr
    have BW : Hid (Below w.heap.size w wr) := hB
    clear hB B0
    by_cases hmn : m < n'
    · have m0 : (m : Int) < (n' : Int) := by omega
      have mx : m < xs.length := by rw [HN.out]; exact hmn
      obtain ⟨bx, ox, rfl, q0, q1, q2, q3⟩ := (HX.out.keep BW.out).at m mx
      obtain ⟨by', oy, rfl, u0, u1, u2, u3⟩ := (HY.out.keep BW.out).at m mx
      obtain ⟨x, hx⟩ : ∃ x, rwD xs m = x := ⟨_, rfl⟩
      rw [hx] at q0 q1 q2 q3 u0 u1 u2 u3
      obtain ⟨t, i, f, g⟩ := x
      simp only at q0 q1 q2 q3 u0 u1 u2 u3
      clear hx
      go_wp2_with fail
      go_quiet (fail)
      go_wp2
      go_roundw
      case rel => exact ⟨m + 1, by omega, by go_num, BW.out.trans ((below_drewN _ _).mono BW.out.size)⟩
      case measure => simp [intOf]; omega
    · have hm2 : n' = m := by omega
      subst hm2
      have m0 : ¬ (n' : Int) < (n' : Int) := by omega
      go_wp2
      go_ret
      exact ⟨rfl, BW.out⟩
theorem two_roots (w : World) (cs : Array Value) (t : TypeId) (ds : Array Value) (t2 : TypeId) : ∃ E, (w.alloc (.cells cs t)).alloc (.cells ds t2) = E ∧ E.heap[w.heap.size]? = some (.cells cs t (0, 0)) ∧ E.heap[w.heap.size + 1]? = some (.cells ds t2 (0, 0)) ∧ Below w.heap.size w E := by
  refine ⟨_, rfl, ?_, ?_, (below_alloc w _).alloc (by simp) _⟩
  · rw [(below_alloc _ _).block _ (by simp)]
    exact Go.heap_alloc_new w _
  · have := Go.heap_alloc_new (w.alloc (.cells cs t)) (.cells ds t2)
    rw [show (w.alloc (.cells cs t)).heap.size = w.heap.size + 1 by simp] at this
    exact this
set_option maxRecDepth 20000 in
set_option maxHeartbeats 8000000 in
/-- Same of two roots that are alike. -/
theorem dsame_true (x : Rt) (a b : Option Addr) (ca cb : Nat) (w : World) (hx : IsW w a x.es) (hy : IsW w b x.es) (hl : x.es.length ≤ 4398046511104) :
    Calls Try.prog 16 #[.agg #[.int .i64 x.b, .int .i64 x.p, .int .i64 x.w, .int .i64 x.h, .int .i64 x.r, .int .i64 x.k, .slice a x.es.length ca], .agg #[.int .i64 x.b, .int .i64 x.p, .int .i64 x.w, .int .i64 x.h, .int .i64 x.r, .int .i64 x.k, .slice b x.es.length cb]] w fun e w' => e = .returned (.bool true) ∧ Below w.heap.size w w' := by
  obtain ⟨E, hE, r1, r2, bE⟩ := two_roots w #[.int .i64 x.b, .int .i64 x.p, .int .i64 x.w, .int .i64 x.h, .int .i64 x.r, .int .i64 x.k, .slice a x.es.length ca] 28 #[.int .i64 x.b, .int .i64 x.p, .int .i64 x.w, .int .i64 x.h, .int .i64 x.r, .int .i64 x.k, .slice b x.es.length cb] 28
  have EN : Hid (∀ w : World, IsW w a x.es → IsW w b x.es → Calls Try.prog 21 #[.slice a x.es.length ca, .slice b x.es.length cb] w fun e w' => e = .returned (.bool true) ∧ Below w.heap.size w w') := fun w h1 h2 => entries_true a b ca cb _ _ x.es w h1 h2 rfl rfl hl
  have XE : Hid (IsW E a x.es) := hx.keep bE
  have YE : Hid (IsW E b x.es) := hy.keep bE
  have BE : Hid (Below w.heap.size w E) := bE
  obtain ⟨xb, p, xw, xh, r, k, es⟩ := x
  simp only at hE r1 r2 EN XE YE ⊢
  obtain ⟨M, hM⟩ : ∃ M, es.length = M := ⟨_, rfl⟩
  rw [hM] at hE r1 r2 EN ⊢
  have HE : Hid _ := hE
  obtain ⟨c0, c1, c2, c3, c4, c5, c6⟩ := seven r1
  obtain ⟨d0, d1, d2, d3, d4, d5, d6⟩ := seven r2
  clear hE r1 r2 hM hx hy bE hl
  go_enter Try.func16, Try.ntmps16
  go_upto_region 1 with (fail)
  rw [HE.out]
  go_wp2_with (go_at_call 21; refine Calls.mono (EN.out _ XE.out YE.out) ?_; rintro e w2 ⟨rfl, b2⟩; have B2 : Hid (Below w.heap.size w w2) := BE.out.trans (b2.mono BE.out.size); clear b2)
  go_ret
  exact ⟨rfl, B2.out⟩
set_option maxRecDepth 20000 in
set_option maxHeartbeats 8000000 in
/-- A root as the document's answer has it. -/
theorem own_any (x : Rt) (a : Option Addr) (n c : Nat) (w : World) :
    Calls Try.prog 10 #[.agg #[.int .i64 x.b, .int .i64 x.p, .int .i64 x.w, .int .i64 x.h, .int .i64 x.r, .int .i64 x.k, .slice a n c]] w fun e w' => e = .returned (.agg #[.int .i64 x.b, .int .i64 x.p, .int .i64 x.w, .int .i64 x.h, .int .i64 x.r, .int .i64 x.k, .slice a n c]) ∧ Below w.heap.size w w' := by
  obtain ⟨E, hE, r1, r2, bE⟩ := two_roots w #[.int .i64 x.b, .int .i64 x.p, .int .i64 x.w, .int .i64 x.h, .int .i64 x.r, .int .i64 x.k, .slice a n c] 26 #[.int .i64 0, .int .i64 0, .int .i64 0, .int .i64 0, .int .i64 0, .int .i64 0, .slice none 0 0] 28
  have BE : Hid (Below w.heap.size w E) := bE
  obtain ⟨xb, p, xw, xh, r, k, es⟩ := x
  simp only at hE r1 r2 ⊢
  obtain ⟨K, hK⟩ : ∃ K, w.heap.size = K := ⟨_, rfl⟩
  rw [hK] at r1 r2
  have HK : Hid (w.heap.size = K) := hK
  have HE : Hid _ := hE
  obtain ⟨c0, c1, c2, c3, c4, c5, c6⟩ := seven r1
  obtain ⟨d0, d1, d2, d3, d4, d5, d6⟩ := seven r2
  obtain ⟨z0, z1, z2, z3, z4, z5, z6⟩ := sevenF r2
  obtain ⟨LW, hLW⟩ : ∃ LW, layR E (K + 1) (.int .i64 xb) (.int .i64 p) (.int .i64 xw) (.int .i64 xh) (.int .i64 r) (.int .i64 k) (.slice a n c) = LW := ⟨_, rfl⟩
  have on : Only (K + 1) E LW := by rw [← hLW]; exact layR_only _ _ _ _ _ _ _ _ _
  obtain ⟨g0, g1, g2, g3, g4, g5, g6⟩ := seven (by have := layR_row (a := .int .i64 xb) (b := .int .i64 p) (c := .int .i64 xw) (d := .int .i64 xh) (e := .int .i64 r) (f := .int .i64 k) (v := .slice a n c) r2; rw [hLW] at this; exact this)
  have FIN : Hid (Below w.heap.size w LW) := BE.out.trans (on.below (by have := HK.out; omega))
  have LV : Hid (((((((E.setCell ⟨K + 1, 0, none⟩ (.int .i64 xb)).setCell ⟨K + 1, 1, none⟩ (.int .i64 p)).setCell ⟨K + 1, 2, none⟩ (.int .i64 xw)).setCell ⟨K + 1, 3, none⟩ (.int .i64 xh)).setCell ⟨K + 1, 4, none⟩ (.int .i64 r)).setCell ⟨K + 1, 5, none⟩ (.int .i64 k)).setCell ⟨K + 1, 6, none⟩ (.slice a n c) = LW) := by
    show _ = _
    unfold layR at hLW
    exact hLW
  clear hE r1 r2 bE hK hLW on
  go_enter Try.func10, Try.ntmps10
  go_upto_region 1 with (fail)
  rw [HE.out]
  try rw [HK.out]
  go_wp2
  rw [LV.out]
  refine bodyPost_ret (v := .agg #[.int .i64 xb, .int .i64 p, .int .i64 xw, .int .i64 xh, .int .i64 r, .int .i64 k, .slice a n c]) (by simp [results, Try.results10, go_sem, g0, g1, g2, g3, g4, g5, g6]) rfl ⟨rfl, FIN.out⟩
theorem setc_far {w : World} {b o g j : Nat} {v u : Value} (h : g ≠ b) (hc : w.cell? ⟨g, j, none⟩ = some u) : (w.setCell ⟨b, o, none⟩ v).cell? ⟨g, j, none⟩ = some u := by rw [cell_far _ _ _ _ _ _ h]; exact hc
set_option maxRecDepth 20000 in
set_option maxHeartbeats 8000000 in
/-- A root as the program has it: its entries copied. -/
theorem theirs_any (x : Rt) (a : Option Addr) (cap : Nat) (w : World) (hx : IsW w a x.es) (hl : x.es.length ≤ 4398046511104) (hn : a = none → x.es = [] ∧ cap = 0) :
    Calls Try.prog 9 #[.agg #[.int .i64 x.b, .int .i64 x.p, .int .i64 x.w, .int .i64 x.h, .int .i64 x.r, .int .i64 x.k, .slice a x.es.length cap]] w fun e w' => ∃ a' c', e = .returned (.agg #[.int .i64 x.b, .int .i64 x.p, .int .i64 x.w, .int .i64 x.h, .int .i64 x.r, .int .i64 x.k, .slice a' x.es.length c']) ∧ IsW w' a' x.es ∧ Below w.heap.size w w' := by
  obtain ⟨E, hE, r1, r2, bE⟩ := two_roots w #[.int .i64 x.b, .int .i64 x.p, .int .i64 x.w, .int .i64 x.h, .int .i64 x.r, .int .i64 x.k, .slice a x.es.length cap] 24 #[.int .i64 0, .int .i64 0, .int .i64 0, .int .i64 0, .int .i64 0, .int .i64 0, .slice none 0 0] 26
  have BE : Hid (Below w.heap.size w E) := bE
  obtain ⟨xb, p, xw, xh, r, k, es⟩ := x
  simp only at hE r1 r2 hx hl hn ⊢
  obtain ⟨K, hK⟩ : ∃ K, w.heap.size = K := ⟨_, rfl⟩
  rw [hK] at r1 r2
  have HK : Hid (w.heap.size = K) := hK
  obtain ⟨D, hD⟩ : ∃ D, E.drew.alloc (.cells #[] 54) = D := ⟨_, rfl⟩
  have rD : D.heap[E.heap.size]? = some (.cells #[] 54 (0, 0)) := by rw [← hD]; exact Go.heap_alloc_new E.drew _
  have bD : Below E.heap.size E D := by rw [← hD]; exact (Below.ofDrew (below_alloc E.drew _))
  have o0 : Ow D E.heap.size (some ⟨E.heap.size, 0, none⟩) [] 0 := ⟨rfl, .inr ⟨E.heap.size, 0, #[], rfl, Nat.le_refl _, rD, Nat.le_refl _, Nat.zero_le _, rfl, rfl⟩⟩
  obtain ⟨a2, c2, w2, run2, o2, b2⟩ := appW_any E.heap.size D bD.size _ [] 0 o0 a es cap ((hx.keep bE).keep bD) hn (by simpa using hl)
  rw [List.nil_append] at run2 o2
  have b3 : Below E.heap.size E w2 := bD.trans b2
  have rz : w2.heap[K + 1]? = some (.cells #[.int .i64 0, .int .i64 0, .int .i64 0, .int .i64 0, .int .i64 0, .int .i64 0, .slice none 0 0] 26 (0, 0)) := by rw [b3.block _ (hlt r2)]; exact r2
  have rk : w2.heap[K]? = some (.cells #[.int .i64 xb, .int .i64 p, .int .i64 xw, .int .i64 xh, .int .i64 r, .int .i64 k, .slice a es.length cap] 24 (0, 0)) := by rw [b3.block _ (hlt r1)]; exact r1
  obtain ⟨LW, hLW⟩ : ∃ LW, layR w2 (K + 1) (.int .i64 xb) (.int .i64 p) (.int .i64 xw) (.int .i64 xh) (.int .i64 r) (.int .i64 k) (.slice a2 es.length c2) = LW := ⟨_, rfl⟩
  have on : Only (K + 1) w2 LW := by rw [← hLW]; exact layR_only _ _ _ _ _ _ _ _ _
  obtain ⟨g0, g1, g2, g3, g4, g5, g6⟩ := seven (by have := layR_row (a := .int .i64 xb) (b := .int .i64 p) (c := .int .i64 xw) (d := .int .i64 xh) (e := .int .i64 r) (f := .int .i64 k) (v := .slice a2 es.length c2) rz; rw [hLW] at this; exact this)
  have OF : Hid (IsW LW a2 es) := (o2.same (fun g o hg ho => by rw [on.block g (by have := (o2.ge g hg).1; have := hlt r2; omega)]; exact ho)).isW
  have FIN : Hid (Below w.heap.size w LW) := (BE.out.trans (b3.mono BE.out.size)).trans (on.below (by have := HK.out; omega))
  have LV : Hid (((((((w2.setCell ⟨K + 1, 0, none⟩ (.int .i64 xb)).setCell ⟨K + 1, 1, none⟩ (.int .i64 p)).setCell ⟨K + 1, 2, none⟩ (.int .i64 xw)).setCell ⟨K + 1, 3, none⟩ (.int .i64 xh)).setCell ⟨K + 1, 4, none⟩ (.int .i64 r)).setCell ⟨K + 1, 5, none⟩ (.int .i64 k)).setCell ⟨K + 1, 6, none⟩ (.slice a2 es.length c2) = LW) := by
    show _ = _
    unfold layR at hLW
    exact hLW
  obtain ⟨M, hM⟩ : ∃ M, es.length = M := ⟨_, rfl⟩
  rw [hM] at hE r1 run2 rk LV g6 ⊢
  have HE : Hid _ := hE
  have RUN2 : Hid ((Builtin.append_ #[22, 22] 22 #[.slice (some ⟨E.heap.size, 0, none⟩) 0 0, .slice a M cap]).run Try.prog (E.drew.alloc (.cells #[] 54)) = .ok (.slice a2 M c2) w2) := by show _ = _; rw [hD]; exact run2
  obtain ⟨c0, c1, c2', c3, c4, c5, c6⟩ := seven r1
  have RZ : Hid _ := rz
  have RK : Hid _ := rk
  have kn : K ≠ K + 1 := by omega
  clear hE r1 r2 bE hK hLW on hD rD bD o0 run2 o2 b2 b3 rz rk hM hx hl hn
  go_enter Try.func9, Try.ntmps9
  go_upto_region 1 with (fail)
  rw [HE.out]
  try rw [HK.out]
  go_region_held3 (fun w' => w'.cell? ⟨K, 0, none⟩ = some (.int .i64 xb) ∧ w'.cell? ⟨K, 1, none⟩ = some (.int .i64 p) ∧ w'.cell? ⟨K, 2, none⟩ = some (.int .i64 xw) ∧ w'.cell? ⟨K, 3, none⟩ = some (.int .i64 xh) ∧ w'.cell? ⟨K, 4, none⟩ = some (.int .i64 r) ∧ w'.cell? ⟨K, 5, none⟩ = some (.int .i64 k) ∧ w'.cell? ⟨K, 6, none⟩ = some (.slice a M cap))
    (first | with_reducible exact ⟨setc_far kn (setc_far kn (setc_far kn (setc_far kn (setc_far kn (setc_far kn (setc_far kn e0)))))), setc_far kn (setc_far kn (setc_far kn (setc_far kn (setc_far kn (setc_far kn (setc_far kn e1)))))), setc_far kn (setc_far kn (setc_far kn (setc_far kn (setc_far kn (setc_far kn (setc_far kn e2)))))), setc_far kn (setc_far kn (setc_far kn (setc_far kn (setc_far kn (setc_far kn (setc_far kn e3)))))), setc_far kn (setc_far kn (setc_far kn (setc_far kn (setc_far kn (setc_far kn (setc_far kn e4)))))), setc_far kn (setc_far kn (setc_far kn (setc_far kn (setc_far kn (setc_far kn (setc_far kn e5)))))), setc_far kn (setc_far kn (setc_far kn (setc_far kn (setc_far kn (setc_far kn (setc_far kn e6))))))⟩ | assumption | exact ⟨by assumption, by assumption, by assumption, by assumption, by assumption, by assumption, by assumption⟩ | go_keep)
    (first | (refine step_app rfl _ _ 22 rfl (.slice (some ⟨E.heap.size, 0, none⟩) 0 0) (.slice a M cap) (by simp [Act.eval]) (by simp [Act.eval]) (.slice a2 M c2) w2 RUN2.out ?_; obtain ⟨e0, e1, e2, e3, e4, e5, e6⟩ := seven RK.out; obtain ⟨z0, z1, z2, z3, z4, z5, z6⟩ := sevenF RZ.out; obtain ⟨y0, y1, y2, y3, y4, y5, y6⟩ := seven RZ.out))
  all_goals
    go_wp2
    rw [LV.out]
    refine bodyPost_ret (v := .agg #[.int .i64 xb, .int .i64 p, .int .i64 xw, .int .i64 xh, .int .i64 r, .int .i64 k, .slice a2 M c2]) (by simp [results, Try.results9, go_sem, g0, g1, g2, g3, g4, g5, g6]) rfl ⟨a2, c2, rfl, OF.out, FIN.out⟩
end Go.Proofs.Ytgpkiajakokjmaa
