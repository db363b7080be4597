/- Layer 20: placed, listed, Right. -/
import Derived.Test.YtgpkiajakokjmaaRtC
namespace Go.Proofs.Ytgpkiajakokjmaa
open Go.RowKit
set_option linter.unusedVariables false
set_option maxRecDepth 4000

theorem within_q (n lo hi : Int) (v : Bool) (w : World) (hv : decide (lo ≤ n ∧ n ≤ hi) = v) :
    Calls Try.prog 29 #[.int .i64 n, .int .i64 lo, .int .i64 hi] w fun e w' => e = .returned (.bool v) ∧ w' = w := (within_of n lo hi v w hv).mono fun _ _ h => ⟨h.1, h.2.symm⟩
theorem last_q (s L : Int) (w : World) (hL : lastS s = L) (hs : s ≤ 9223372036854775807) :
    Calls Try.prog 47 #[.int .i64 s] w fun e w' => e = .returned (.int .i64 L) ∧ w' = w := by
  subst hL; exact (last_any s w hs).mono fun _ _ h => ⟨h.1, h.2.symm⟩
theorem below_drewN (w : World) (m : Nat) : Below w.heap.size w (w.drewN m) := ⟨rfl, rfl, rfl, Nat.le_refl _, fun _ _ => rfl⟩
set_option maxRecDepth 20000 in
set_option maxHeartbeats 4000000 in
/-- May all entries' frames be where they say? -/
theorem placed_any20 (a : Option Addr) (cp : Nat) (es : List Ent) (s : Int) (w : World) (h : IsW w a es) (hl : es.length ≤ 4398046511104) (hs : s ≤ 9223372036854775807) :
    Calls Try.prog 31 #[.slice a es.length cp, .int .i64 s] w fun e w' => e = .returned (.bool (es.all (plOk s))) ∧ Below w.heap.size w w' := by
  have HW : Hid (IsW w a es) := h
  obtain ⟨N, hN⟩ : ∃ N, es.length = N := ⟨_, rfl⟩
  have HN : Hid (es.length = N) := hN
  obtain ⟨L, hL⟩ : ∃ L, lastS s = L := ⟨_, rfl⟩
  have HL : Hid (lastS s = L) := hL
  have B0 : Hid (Below w.heap.size w w) := Below.refl _ _
  rw [hN] at hl ⊢
  clear h hN hL
  go_enter Try.func31, Try.ntmps31
  go_wp2
  go_loopw [9] (fun iv wr => ∃ (m : Nat), m ≤ N ∧ iv = .int .i64 (m : Nat) ∧ es.all (plOk s) = (es.drop m).all (plOk s) ∧ Below w.heap.size w wr) (fun iv _ => N - (intOf iv).toNat)
  case atStart => exact ⟨0, Nat.zero_le _, rfl, rfl, B0.out⟩
  case round =>
    obtain ⟨m, hm, rfl, hq, hB⟩ := hrel
    rename World => wr
    have HQ : Hid (es.all (plOk s) = (es.drop m).all (plOk s)) := hq
    have BW : Hid (Below w.heap.size w wr) := hB
    clear hq hB B0
    by_cases hmn : m < N
    · have m0 : (m : Int) < (N : Int) := by omega
      have mx : m < es.length := by rw [HN.out]; exact hmn
      obtain ⟨bx, ox, rfl, q0, q1, q2, q3⟩ := (HW.out.keep BW.out).at m mx
      have MORE : Hid (es.all (plOk s) = (plOk s (rwD es m) && (es.drop (m + 1)).all (plOk s))) := by show _ = _; rw [HQ.out, drop_more mx, List.all_cons]
      obtain ⟨x, hx⟩ : ∃ x, rwD es m = x := ⟨_, rfl⟩
      rw [hx] at q0 q1 q2 q3 MORE
      obtain ⟨G, hG, rG, bG⟩ := ebox wr x
      obtain ⟨t, i, f, n⟩ := x
      simp only at q0 q1 q2 q3 hG rG
      have HG : Hid (wr.alloc (.cells #[.int .i64 t, .int .i64 i, .int .i64 f, .int .i64 n] 54) = G) := hG
      obtain ⟨ng, hng⟩ : ∃ ng, wr.heap.size = ng := ⟨_, rfl⟩
      rw [hng] at rG
      have HNG : Hid (wr.heap.size = ng) := hng
      have BG : Hid (Below w.heap.size w G) := BW.out.trans (bG.mono BW.out.size)
      have e2 : G.cell? ⟨ng, 2, none⟩ = some (.int .i64 f) := cell_of_row _ _ 2 _ _ _ rG
      have e3 : G.cell? ⟨ng, 3, none⟩ = some (.int .i64 n) := cell_of_row _ _ 3 _ _ _ rG
      clear hx hG rG bG hng
      go_upto_region 4 with (fail)
      rw [HG.out]
      try rw [HNG.out]
      clear q0 q1 q2 q3
      obtain ⟨v1, hv1⟩ : ∃ v, decide (1 ≤ f ∧ f ≤ L) = v := ⟨_, rfl⟩
      have V1 : Hid (decide (1 ≤ f ∧ f ≤ L) = v1) := hv1
      obtain ⟨v2, hv2⟩ : ∃ v, decide (8 ≤ n ∧ n ≤ 65542) = v := ⟨_, rfl⟩
      have V2 : Hid (decide (8 ≤ n ∧ n ≤ 65542) = v2) := hv2
      have PL : Hid (plOk s ⟨t, i, f, n⟩ = (v1 && v2)) := by
        show _ = _
        unfold plOk
        simp only
        rw [HL.out, ← hv1, ← hv2, ← Bool.decide_and]
        congr 1
        simp only [and_assoc]
      clear hv1 hv2
      cases v1 with
      | false =>
        have MF : Hid (es.all (plOk s) = false) := by show _ = _; rw [MORE.out, PL.out, Bool.false_and, Bool.false_and]
        go_quiet (first | (go_at_call 47; exact Calls.quiet_of_same (last_q s L _ HL.out hs)) | (go_at_call_of 29 (Value.int .i64 f); exact Calls.quiet_of_same (within_q f 1 L false _ V1.out)) | (go_at_call_of 29 (Value.int .i64 n); exact Calls.quiet_of_same (within_q n 8 65542 v2 _ V2.out)))
        go_wp2
        go_ret
        rw [MF.out]
        exact ⟨rfl, BG.out.trans ((below_drewN _ _).mono BG.out.size)⟩
      | true =>
        cases v2 with
        | false =>
          have MF : Hid (es.all (plOk s) = false) := by show _ = _; rw [MORE.out, PL.out]; rfl
          go_quiet (first | (go_at_call 47; exact Calls.quiet_of_same (last_q s L _ HL.out hs)) | (go_at_call_of 29 (Value.int .i64 f); exact Calls.quiet_of_same (within_q f 1 L true _ V1.out)) | (go_at_call_of 29 (Value.int .i64 n); exact Calls.quiet_of_same (within_q n 8 65542 false _ V2.out)))
          go_wp2
          go_ret
          rw [MF.out]
          exact ⟨rfl, BG.out.trans ((below_drewN _ _).mono BG.out.size)⟩
        | true =>
          have MT : Hid (es.all (plOk s) = (es.drop (m + 1)).all (plOk s)) := by show _ = _; rw [MORE.out, PL.out]; rfl
          go_quiet (first | (go_at_call 47; exact Calls.quiet_of_same (last_q s L _ HL.out hs)) | (go_at_call_of 29 (Value.int .i64 f); exact Calls.quiet_of_same (within_q f 1 L true _ V1.out)) | (go_at_call_of 29 (Value.int .i64 n); exact Calls.quiet_of_same (within_q n 8 65542 true _ V2.out)))
          go_wp2
          go_roundw
          case rel => exact ⟨m + 1, by omega, by go_num, MT.out, BG.out.trans ((below_drewN _ _).mono BG.out.size)⟩
          case measure => simp [intOf]; omega
    · have hm2 : N = m := by omega
      subst hm2
      have m0 : ¬ (N : Int) < (N : Int) := by omega
      have e : Hid (es.all (plOk s) = true) := by show _ = _; rw [HQ.out, List.drop_of_length_le (by rw [HN.out]; exact Nat.le_refl _)]; rfl
      go_wp2
      go_ret
      rw [e.out]
      exact ⟨rfl, BW.out⟩

/-- A root in a box of its own. -/
theorem rtbox (w : World) (x : Rt) (v : Value) (t : TypeId) : ∃ w1, w.alloc (.cells #[.int .i64 x.b, .int .i64 x.p, .int .i64 x.w, .int .i64 x.h, .int .i64 x.r, .int .i64 x.k, v] t) = w1 ∧ w1.heap[w.heap.size]? = some (.cells #[.int .i64 x.b, .int .i64 x.p, .int .i64 x.w, .int .i64 x.h, .int .i64 x.r, .int .i64 x.k, v] t (0, 0)) ∧ Below w.heap.size w w1 :=
  ⟨_, rfl, Go.heap_alloc_new w _, (Below.refl _ w).alloc (Nat.le_refl _) _⟩
theorem rises_more {pg nx : Int} {l : List Int} {m : Nat} (hm : m < l.length) : risesB pg nx (l.drop m) = (decide (nx ≤ l.getD m 0 ∧ l.getD m 0 ≤ pg - 1) && risesB pg (l.getD m 0 + 1) (l.drop (m + 1))) := by
  have e : l.getD m 0 = l[m] := by simp [List.getD, hm]
  rw [e, List.drop_eq_getElem_cons hm, risesB]
set_option maxRecDepth 20000 in
set_option maxHeartbeats 8000000 in
/-- Are the entries those of so many kinds and rows, and of spans whose pages there are, rising? -/
theorem listed_any (x : Rt) (a : Option Addr) (cp : Nat) (w : World) (h : IsW w a x.es) (he : EI x.es) (hl : x.es.length ≤ 4398046511104) (hp : 1 ≤ x.p ∧ x.p ≤ 4096) (hr : -9223372036854775808 ≤ x.r ∧ x.r ≤ 4096) (hk : -9223372036854775808 ≤ x.k ∧ x.k ≤ 64) :
    Calls Try.prog 30 #[.agg #[.int .i64 x.b, .int .i64 x.p, .int .i64 x.w, .int .i64 x.h, .int .i64 x.r, .int .i64 x.k, .slice a x.es.length cp]] w fun e w' => e = .returned (.bool (okE x.p 0 (aheadE x.k x.r) x.es)) ∧ Below w.heap.size w w' := by
  obtain ⟨D, hD, rD, bD⟩ := rtbox w x (.slice a x.es.length cp) 26
  have LO := listed_of (pg := x.p) (aheadE x.k x.r) x.es 0 ahead_t
  obtain ⟨xb, p, xw, xh, r, k, es⟩ := x
  simp only at h he hl hp hr hk hD rD LO ⊢
  have HW : Hid (IsW D a es) := h.keep bD
  have HE : Hid (EI es) := he
  have HD : Hid (w.alloc (.cells #[.int .i64 xb, .int .i64 p, .int .i64 xw, .int .i64 xh, .int .i64 r, .int .i64 k, .slice a es.length cp] 26) = D) := hD
  have BD : Hid (Below w.heap.size w D) := bD
  obtain ⟨nd, hnd⟩ : ∃ nd, w.heap.size = nd := ⟨_, rfl⟩
  rw [hnd] at rD
  have HND : Hid (w.heap.size = nd) := hnd
  have RD : Hid _ := rD
  have c1 : D.cell? ⟨nd, 1, none⟩ = some (.int .i64 p) := cell_of_row _ _ 1 _ _ _ rD
  have c6 : D.cell? ⟨nd, 6, none⟩ = some (.slice a es.length cp) := cell_of_row _ _ 6 _ _ _ rD
  clear h he hD rD bD hnd
  obtain ⟨P, hP⟩ : ∃ P, pagesE es = P := ⟨_, rfl⟩
  have SP : Hid (Calls Try.prog 26 #[.slice a es.length cp] D fun e w' => ∃ a' c, e = .returned (.slice a' P.length c) ∧ OwnsI w' D.heap.size a' P c ∧ Below D.heap.size D w') := by
    have q := spanPages_any a cp es D HW.out HE.out hl
    rw [hP] at q
    exact q
  have PI : Hid (∀ q ∈ P, -9223372036854775808 ≤ q ∧ q ≤ 9223372036854775807) := by show ∀ q ∈ P, _; rw [← hP]; exact pages_in HE.out
  have PL : P.length ≤ es.length := by rw [← hP]; exact pages_le es
  rw [hP] at LO
  have HLO : Hid ((risesB p 0 P && matchE es (aheadE k r ++ spanE P)) = okE p 0 (aheadE k r) es) := LO
  obtain ⟨N, hN⟩ : ∃ N, P.length = N := ⟨_, rfl⟩
  have HN : Hid (P.length = N) := hN
  obtain ⟨M, hM⟩ : ∃ M, es.length = M := ⟨_, rfl⟩
  have HM : Hid (es.length = M) := hM
  rw [hN] at SP PL
  rw [hM] at SP PL c6 hl HD RD
  have wp1 : IntKind.i64.wrap (p - 1) = p - 1 := by rw [IntKind.wrap_i64]; omega
  clear hP LO hN
  rw [hM]
  clear hM
  go_enter Try.func30, Try.ntmps30
  go_upto_region 1 with (fail)
  rw [HD.out]
  try rw [HND.out]
  go_wp2_with fail
  refine Calls.mono SP.out ?_
  rintro e w1 ⟨a1, q1, rfl, o1, b1⟩
  have I1 : Hid (IsI w1 a1 P) := ownsI_isI PI.out o1
  have B1 : Hid (Below w.heap.size w w1) := BD.out.trans (b1.mono BD.out.size)
  have W1 : Hid (IsW w1 a es) := HW.out.keep b1
  have R1 : w1.heap[nd]? = some (.cells #[.int .i64 xb, .int .i64 p, .int .i64 xw, .int .i64 xh, .int .i64 r, .int .i64 k, .slice a M cp] 26 (0, 0)) := by rw [b1.block nd (hlt RD.out)]; exact RD.out
  have d1 : w1.cell? ⟨nd, 1, none⟩ = some (.int .i64 p) := cell_of_row _ _ 1 _ _ _ R1
  have d4 : w1.cell? ⟨nd, 4, none⟩ = some (.int .i64 r) := cell_of_row _ _ 4 _ _ _ R1
  have d5 : w1.cell? ⟨nd, 5, none⟩ = some (.int .i64 k) := cell_of_row _ _ 5 _ _ _ R1
  have d6 : w1.cell? ⟨nd, 6, none⟩ = some (.slice a M cp) := cell_of_row _ _ 6 _ _ _ R1
  clear c1 c6 o1 b1 SP R1
  have S0 : Hid (risesB p 0 P = risesB p 0 (P.drop 0)) := rfl
  go_wp2_with fail
  go_loop [4, 12] (fun nv iv => ∃ (m : Nat) (nx : Int), m ≤ N ∧ iv = .int .i64 (m : Nat) ∧ nv = .int .i64 nx ∧ nx ≤ 4096 ∧ -9223372036854775808 ≤ nx ∧ risesB p 0 P = risesB p nx (P.drop m)) (fun _ iv => N - (intOf iv).toNat)
  case atStart => exact ⟨0, 0, Nat.zero_le _, rfl, rfl, by omega, by omega, S0.out⟩
  case round =>
    clear S0
    obtain ⟨m, nx, hm, rfl, rfl, hnx, hnx2, hq⟩ := hrel
    have HQ : Hid (risesB p 0 P = risesB p nx (P.drop m)) := hq
    clear hq
    by_cases hmn : m < N
    · have m0 : (m : Int) < (N : Int) := by omega
      have mx : m < P.length := by rw [HN.out]; exact hmn
      obtain ⟨bx, ox, rfl, hc⟩ := I1.out.getI m mx
      have MORE : Hid (risesB p 0 P = (decide (nx ≤ P.getD m 0 ∧ P.getD m 0 ≤ p - 1) && risesB p (P.getD m 0 + 1) (P.drop (m + 1)))) := by show _ = _; rw [HQ.out, rises_more mx]
      obtain ⟨y, hy⟩ : ∃ y, P.getD m 0 = y := ⟨_, rfl⟩
      rw [hy] at hc MORE
      clear hy
      by_cases hin : nx ≤ y ∧ y ≤ p - 1
      · have V : Hid (decide (nx ≤ y ∧ y ≤ p - 1) = true) := decide_eq_true hin
        have MT : Hid (risesB p 0 P = risesB p (y + 1) (P.drop (m + 1))) := by show _ = _; rw [MORE.out, V.out, Bool.true_and]
        have wy : IntKind.i64.wrap (y + 1) = y + 1 := by rw [IntKind.wrap_i64]; omega
        have y1 : y + 1 ≤ 4096 := by omega
        have y2 : -9223372036854775808 ≤ y + 1 := by omega
        clear hin MORE
        go_wp2_with (go_at_call 29; refine (within_of y nx (p - 1) true _ V.out).mono ?_; rintro e w' ⟨rfl, rfl⟩)
        go_round
        case rel => exact ⟨m + 1, y + 1, by omega, by go_num, rfl, y1, y2, MT.out⟩
        case measure => simp [intOf]; omega
      · have V : Hid (decide (nx ≤ y ∧ y ≤ p - 1) = false) := decide_eq_false hin
        have MF : Hid (okE p 0 (aheadE k r) es = false) := by show _ = _; rw [← HLO.out, MORE.out, V.out, Bool.false_and, Bool.false_and]
        clear hin MORE
        go_wp2_with (go_at_call 29; refine (within_of y nx (p - 1) false _ V.out).mono ?_; rintro e w' ⟨rfl, rfl⟩)
        go_ret
        rw [MF.out]
        exact ⟨rfl, B1.out⟩
    · have hm2 : N = m := by omega
      subst hm2
      have m0 : ¬ (N : Int) < (N : Int) := by omega
      have RT : Hid (risesB p 0 P = true) := by show _ = _; rw [HQ.out, List.drop_of_length_le (by rw [HN.out]; exact Nat.le_refl _)]; rfl
      have NL : (N : Int) + 0 ≤ p := by rw [← HN.out]; exact rises_len P 0 RT.out (by omega)
      have OKV : Hid (matchE es (listE k r P) = okE p 0 (aheadE k r) es) := by show _ = _; rw [← HLO.out, RT.out, Bool.true_and]; rfl
      have LL : (listE k r P).length ≤ 1000000 := by
        unfold listE
        rw [List.length_append, spanE_len, HN.out]
        have := ahead_le (k := k) (r := r) (by omega) (by omega)
        omega
      obtain ⟨Q, hQ⟩ : ∃ Q, listE k r P = Q := ⟨_, rfl⟩
      have CL : Hid (∀ w2 : World, IsI w2 a1 P → Calls Try.prog 20 #[.int .i64 k, .int .i64 r, .slice a1 N q1] w2 fun e w' => ∃ a' c, e = .returned (.slice a' Q.length c) ∧ Ow w' w2.heap.size a' Q c ∧ Below w2.heap.size w2 w') := fun w2 hi => by
        have q := clist_any k r a1 q1 P w2 (by omega) (by omega) hi (by rw [HN.out]; omega)
        rw [hQ, HN.out] at q
        exact q
      rw [hQ] at OKV LL
      obtain ⟨Z, hZ⟩ : ∃ Z, Q.length = Z := ⟨_, rfl⟩
      have CE : Hid (∀ (w2 : World) (a2 : Option Addr) (c2 : Nat), IsW w2 a es → IsW w2 a2 Q → Calls Try.prog 45 #[.slice a M cp, .slice a2 Z c2, .func (.func 46) #[] #[]] w2 fun e w' => e = .returned (.bool (okE p 0 (aheadE k r) es)) ∧ Below w2.heap.size w2 w') := fun w2 a2 c2 h1 h2 => by
        have q := equal_any a a2 cp c2 es Q w2 h1 h2 (by rw [HM.out]; exact hl) (by omega)
        rw [OKV.out, HM.out, hZ] at q
        exact q
      rw [hZ] at CL
      clear hQ hZ LL NL
      go_wp2_with fail
      go_region_held3 (fun w' => w'.cell? ⟨nd, 4, none⟩ = some (.int .i64 r) ∧ w'.cell? ⟨nd, 5, none⟩ = some (.int .i64 k) ∧ w'.cell? ⟨nd, 6, none⟩ = some (.slice a M cp)) (first | assumption | exact ⟨by assumption, by assumption, by assumption⟩ | go_keep)
        (first
          | (go_at_call 20; refine Calls.mono (CL.out _ (by first | exact I1.out | exact I1.out.drew)) ?_; rintro e w2 ⟨a2, c2, rfl, o2, b2⟩; have B2 : Hid (Below w1.heap.size w1 w2) := Below.ofDrew b2; have W2 : Hid (IsW w2 a2 Q) := o2.isW; have V2 : Hid (IsW w2 a es) := W1.out.keep B2.out; have g4 := bcellK B2.out d4; have g5 := bcellK B2.out d5; have g6 := bcellK B2.out d6; clear o2 b2)
          | (go_at_call 45; refine Calls.mono (CE.out _ _ _ V2.out W2.out) ?_; rintro e w3 ⟨rfl, b3⟩; have B3 : Hid (Below w.heap.size w w3) := B1.out.trans ((B2.out.trans (b3.mono B2.out.size)).mono B1.out.size); have k4 := bcellK b3 g4; have k5 := bcellK b3 g5; have k6 := bcellK b3 g6; clear b3))
      all_goals
        go_wp2
        go_ret
        exact ⟨rfl, B3.out⟩
end Go.Proofs.Ytgpkiajakokjmaa
