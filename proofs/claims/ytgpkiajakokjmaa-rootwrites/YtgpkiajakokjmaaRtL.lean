/- Layer 20: Right of the document. -/
import Derived.Test.YtgpkiajakokjmaaRtK
import Derived.Deep.CutRange
namespace Go.Proofs.Ytgpkiajakokjmaa
open Go.RowKit
set_option linter.unusedVariables false
set_option maxRecDepth 4000

/-- The entries that are left are right. -/
def tailB (p s last : Int) (A es : List Ent) (m : Nat) : Bool := okE p (last + 1) (A.drop m) (es.drop m) && (es.drop m).all (plOk s)
theorem tail_bad {p s last : Int} {A es : List Ent} {m : Nat} (hm : m < es.length) (h : plOk s (rwD es m) = false) : tailB p s last A es m = false := by
  unfold tailB
  rw [drop_more hm, List.all_cons, h, Bool.false_and, Bool.and_false]
theorem tail_ahead {p s last : Int} {A es : List Ent} {m : Nat} (hm : m < es.length) (ha : m < A.length) (h : plOk s (rwD es m) = true) : tailB p s last A es m = (decide ((rwD es m).t = (rwD A m).t ∧ (rwD es m).i = (rwD A m).i) && tailB p s last A es (m + 1)) := by
  unfold tailB
  rw [drop_more hm, drop_more ha, List.all_cons, h, Bool.true_and, okE, Bool.and_assoc]
theorem tail_span {p s last : Int} {A es : List Ent} {m : Nat} (hm : m < es.length) (ha : A.length ≤ m) (h : plOk s (rwD es m) = true) : tailB p s last A es m = (decide ((rwD es m).t = 3 ∧ last + 1 ≤ (rwD es m).i ∧ (rwD es m).i < p) && tailB p s (rwD es m).i A es (m + 1)) := by
  unfold tailB
  rw [List.drop_of_length_le ha, List.drop_of_length_le (Nat.le_succ_of_le ha), drop_more hm, List.all_cons, h, Bool.true_and, okE, Bool.and_assoc]
theorem tail_end {p s last : Int} {A es : List Ent} {m : Nat} (hm : es.length ≤ m) (ha : A.length ≤ m) : tailB p s last A es m = true := by
  unfold tailB
  rw [List.drop_of_length_le ha, List.drop_of_length_le hm]
  rfl
theorem tail_few {p s : Int} {A es : List Ent} (hA : ∀ a ∈ A, a.t ≠ 3) (h : es.length < A.length) : tailB p s (-1) A es 0 = false := by
  unfold tailB
  cases q : okE p (-1 + 1) (A.drop 0) (es.drop 0) with
  | false => rfl
  | true =>
    have := pages_of A es _ hA q
    omega
theorem right_tail {x : Rt} {s : Int} (h : goodR x.b ∧ 1 ≤ x.p ∧ x.p ≤ 4096 ∧ 1 ≤ x.w ∧ x.w ≤ 8 ∧ 1 ≤ x.h ∧ x.h ≤ 4096 ∧ 0 ≤ x.r ∧ x.r ≤ x.h ∧ 0 ≤ x.k ∧ x.k ≤ 64) : rightR x s = tailB x.p s (-1) (aheadE x.k x.r) x.es 0 := right_yes h
theorem dec_not (a b : Int) : decide (a < b) = !(decide (b ≤ a)) := by
  by_cases h : a < b
  · rw [decide_eq_true h, decide_eq_false (by omega)]; rfl
  · rw [decide_eq_false h, decide_eq_true (by omega)]; rfl
theorem bad_four (f n L : Int) : (decide (f < 1) || decide (L < f) || decide (n < 8) || decide (65542 < n)) = !(decide (1 ≤ f ∧ f ≤ L ∧ 8 ≤ n ∧ n ≤ 65542)) := by
  simp only [dec_not, ← Bool.not_and, Bool.decide_and, Bool.and_assoc]
theorem bad_ten (p xw xh r k : Int) : (decide (p < 1) || decide (4096 < p) || decide (xw < 1) || decide (8 < xw) || decide (xh < 1) || decide (4096 < xh) || decide (r < 0) || decide (xh < r) || decide (k < 0) || decide (64 < k)) = !(decide (1 ≤ p ∧ p ≤ 4096 ∧ 1 ≤ xw ∧ xw ≤ 8 ∧ 1 ≤ xh ∧ xh ≤ 4096 ∧ 0 ≤ r ∧ r ≤ xh ∧ 0 ≤ k ∧ k ≤ 64)) := by
  simp only [dec_not, ← Bool.not_and, Bool.decide_and, Bool.and_assoc]
set_option maxRecDepth 20000 in
set_option maxHeartbeats 16000000 in
/-- Right of the document. -/
theorem dright_any (x : Rt) (s : Int) (a : Option Addr) (cp : Nat) (w : World) (h : IsW w a x.es) (hl : x.es.length ≤ 4398046511104) (hs : s ≤ 9223372036854775807) :
    Calls Try.prog 15 #[.agg #[.int .i64 x.b, .int .i64 x.p, .int .i64 x.w, .int .i64 x.h, .int .i64 x.r, .int .i64 x.k, .slice a x.es.length cp], .int .i64 s] w fun e w' => e = .returned (.bool (rightR x s)) ∧ Below w.heap.size w w' := by
  obtain ⟨D, hD, rD, bD⟩ := rtbox w x (.slice a x.es.length cp) 28
  obtain ⟨V, hV⟩ : ∃ V, rightR x s = V := ⟨_, rfl⟩
  have NO : Hid (¬ (goodR x.b ∧ 1 ≤ x.p ∧ x.p ≤ 4096 ∧ 1 ≤ x.w ∧ x.w ≤ 8 ∧ 1 ≤ x.h ∧ x.h ≤ 4096 ∧ 0 ≤ x.r ∧ x.r ≤ x.h ∧ 0 ≤ x.k ∧ x.k ≤ 64) → V = false) := fun q => by rw [← hV]; exact right_no q
  have YES : Hid ((goodR x.b ∧ 1 ≤ x.p ∧ x.p ≤ 4096 ∧ 1 ≤ x.w ∧ x.w ≤ 8 ∧ 1 ≤ x.h ∧ x.h ≤ 4096 ∧ 0 ≤ x.r ∧ x.r ≤ x.h ∧ 0 ≤ x.k ∧ x.k ≤ 64) → V = tailB x.p s (-1) (aheadE x.k x.r) x.es 0) := fun q => by rw [← hV]; exact right_tail q
  rw [hV]
  clear hV
  obtain ⟨xb, p, xw, xh, r, k, es⟩ := x
  simp only at h hl hD rD NO YES ⊢
  have HW : Hid (IsW D a es) := h.keep bD
  have HD : Hid (w.alloc (.cells #[.int .i64 xb, .int .i64 p, .int .i64 xw, .int .i64 xh, .int .i64 r, .int .i64 k, .slice a es.length cp] 28) = D) := hD
  have BD : Hid (Below w.heap.size w D) := bD
  obtain ⟨nd, hnd⟩ : ∃ nd, w.heap.size = nd := ⟨_, rfl⟩
  rw [hnd] at rD
  have HND : Hid (w.heap.size = nd) := hnd
  have RD : Hid _ := rD
  obtain ⟨c0, c1, c2, c3, c4, c5, c6⟩ := seven rD
  obtain ⟨mx, hmx, hmc⟩ : ∃ mx : Int, (lastS s = mx - 2 ∧ 0 ≤ mx ∧ mx ≤ 9223372036854775807) ∧ ((s ≤ 0 ∧ mx = 0) ∨ (¬ s ≤ 0 ∧ mx = s)) := by
    unfold lastS
    split
    · exact ⟨0, by omega, .inl ⟨by omega, rfl⟩⟩
    · by_cases q : s ≤ 0
      · exact ⟨0, by omega, .inl ⟨q, rfl⟩⟩
      · exact ⟨s, by omega, .inr ⟨q, rfl⟩⟩
  clear h hD rD bD hnd
  obtain ⟨M, hM⟩ : ∃ M, es.length = M := ⟨_, rfl⟩
  have HM : Hid (es.length = M) := hM
  rw [hM] at c6 hl HD RD ⊢
  clear hM
  obtain ⟨v0, hv0⟩ : ∃ v, decide (goodR xb) = v := ⟨_, rfl⟩
  have V0 : Hid (decide (goodR xb) = v0) := hv0
  clear hv0
  obtain ⟨NB, hNB⟩ : ∃ NB : Bool, NB = !(decide (v0 = true ∧ 1 ≤ p ∧ p ≤ 4096 ∧ 1 ≤ xw ∧ xw ≤ 8 ∧ 1 ≤ xh ∧ xh ≤ 4096 ∧ 0 ≤ r ∧ r ≤ xh ∧ 0 ≤ k ∧ k ≤ 64)) := ⟨_, rfl⟩
  have HNB : Hid (NB = !(decide (v0 = true ∧ 1 ≤ p ∧ p ≤ 4096 ∧ 1 ≤ xw ∧ xw ≤ 8 ∧ 1 ≤ xh ∧ xh ≤ 4096 ∧ 0 ≤ r ∧ r ≤ xh ∧ 0 ≤ k ∧ k ≤ 64))) := hNB
  clear hNB
  go_enter Try.func15, Try.ntmps15
  go_upto_region 1 with (fail)
  rw [HD.out]
  try rw [HND.out]
  go_cut [1] from 9 to 10 (fun v wx => v = .int .i64 mx ∧ wx = D)
  case first =>
    rcases hmc with ⟨sc, rfl⟩ | ⟨sc, rfl⟩
    all_goals
      go_wp2
      go_meet
      exact ⟨rfl, rfl⟩
  case rest =>
  obtain ⟨rfl, hw⟩ := hcut
  rw [hw]
  clear hw hmc
  go_upto_region 2 with (fail)
  go_cut [66] from 11 to 66 (fun v wx => v = .bool NB ∧ wx = D)
  case first =>
    clear NO YES
    cases v0 with
    | false =>
      have nt : Hid (true = NB) := by show _ = _; rw [HNB.out, decide_eq_false (fun q => by cases q.1)]; rfl
      go_wp2_with (go_at_call 32; refine (rgood_of xb false _ V0.out).mono ?_; rintro e w' ⟨rfl, rfl⟩)
      go_meet
      exact ⟨congrArg Value.bool nt.out, rfl⟩
    | true =>
      have nt : Hid ((!(decide (1 ≤ p ∧ p ≤ 4096 ∧ 1 ≤ xw ∧ xw ≤ 8 ∧ 1 ≤ xh ∧ xh ≤ 4096 ∧ 0 ≤ r ∧ r ≤ xh ∧ 0 ≤ k ∧ k ≤ 64))) = NB) := by show _ = _; rw [HNB.out]; simp only [true_and]
      go_wp2_with (go_at_call 32; refine (rgood_of xb true _ V0.out).mono ?_; rintro e w' ⟨rfl, rfl⟩)
      all_goals
        go_meet
        first
          | exact ⟨congrArg Value.bool ((bad_ten p xw xh r k).trans nt.out), rfl⟩
          | exact ⟨congrArg Value.bool (show true = NB by rw [← nt.out, decide_eq_false (by omega)]; rfl), rfl⟩
  case rest =>
  obtain ⟨rfl, hw⟩ := hcut
  rw [hw]
  clear hw
  by_cases hok : v0 = true ∧ 1 ≤ p ∧ p ≤ 4096 ∧ 1 ≤ xw ∧ xw ≤ 8 ∧ 1 ≤ xh ∧ xh ≤ 4096 ∧ 0 ≤ r ∧ r ≤ xh ∧ 0 ≤ k ∧ k ≤ 64
  rotate_left
  · obtain rfl : V = false := NO.out (fun q => hok ⟨by rw [← V0.out]; exact decide_eq_true q.1, q.2⟩)
    obtain rfl : NB = true := by rw [HNB.out, decide_eq_false hok]; rfl
    clear hok HNB
    go_wp2
    go_ret
    exact ⟨rfl, BD.out⟩
  obtain rfl : NB = false := by rw [HNB.out, decide_eq_true hok]; rfl
  obtain ⟨rfl, g1, g2, g3, g4, g5, g6, g7, g8, g9, g10⟩ := hok
  clear HNB
  · have EV : Hid (V = tailB p s (-1) (aheadE k r) es 0) := YES.out ⟨of_decide_eq_true V0.out, g1, g2, g3, g4, g5, g6, g7, g8, g9, g10⟩
    have AT : Hid (∀ a ∈ aheadE k r, a.t ≠ 3) := ahead_t
    have AL : (aheadE k r).length ≤ 1000 := ahead_le (by omega) (by omega)
    obtain ⟨A, hA⟩ : ∃ A, aheadE k r = A := ⟨_, rfl⟩
    have LI : Hid (∀ w : World, Calls Try.prog 22 #[.int .i64 k, .int .i64 r, .slice none 0 0] w fun e w' => ∃ a' c, e = .returned (.slice a' A.length c) ∧ Ow w' w.heap.size a' A c ∧ Below w.heap.size w w') := fun w => by
      have q := dlist_any k r none 0 [] w (by omega) (by omega) (IsI.nil w none) (by simp)
      have e : listE k r [] = A := by unfold listE; rw [hA]; simp [spanE]
      rw [e] at q
      exact q
    rw [hA] at EV AT AL
    clear hA NO YES
    obtain ⟨N, hN⟩ : ∃ N, A.length = N := ⟨_, rfl⟩
    have HN : Hid (A.length = N) := hN
    rw [hN] at AL LI
    clear hN
    obtain ⟨L, hL⟩ : ∃ L, lastS s = L := ⟨_, rfl⟩
    have HL : Hid (lastS s = L) := hL
    rw [hL] at hmx
    have wL : IntKind.i64.wrap (mx - 2) = L := by rw [IntKind.wrap_i64]; omega
    clear hL
    obtain ⟨hmx1, hmx2, hmx3⟩ := hmx
    clear hmx1
    go_wp2_with fail
    refine (LI.out _).mono ?_
    rintro e w1 ⟨aA, cA, rfl, o1, b1⟩
    have WA : Hid (IsW w1 aA A) := o1.isW
    have WE : Hid (IsW w1 a es) := HW.out.keep b1
    have B1 : Hid (Below w.heap.size w w1) := BD.out.trans (b1.mono BD.out.size)
    have r1 : w1.heap[nd]? = some (.cells #[.int .i64 xb, .int .i64 p, .int .i64 xw, .int .i64 xh, .int .i64 r, .int .i64 k, .slice a M cp] 28 (0, 0)) := by rw [b1.block _ (hlt RD.out)]; exact RD.out
    have R1 : Hid _ := r1
    have c6 := cell_of_row _ _ 6 _ _ _ r1
    clear o1 b1 r1 c0 c1 c2 c3 c4 c5 LI
    by_cases hfew : M < N
    · have m1 : (M : Int) < (N : Int) := by omega
      obtain rfl : V = false := by rw [EV.out]; exact tail_few AT.out (by rw [HM.out, HN.out]; exact hfew)
      go_wp2
      go_ret
      exact ⟨rfl, B1.out⟩
    have m1 : ¬ (M : Int) < (N : Int) := by omega
    have S0 : Hid (V = tailB p s (-1) A es 0 ∧ Below w1.heap.size w1 w1) := ⟨EV.out, Below.refl _ _⟩
    go_wp2_with fail
    clear c6
    go_loopw [6, 81] (fun lv iv wr => ∃ (m : Nat) (last : Int), m ≤ M ∧ iv = .int .i64 (m : Nat) ∧ lv = .int .i64 last ∧ V = tailB p s last A es m ∧ Below w1.heap.size w1 wr) (fun _ iv _ => M - (intOf iv).toNat)
    case atStart => exact ⟨0, -1, Nat.zero_le _, rfl, rfl, S0.out.1, S0.out.2⟩
    case round =>
      clear S0 EV
      obtain ⟨m, last, hm, rfl, rfl, hq, hB⟩ := hrel
      rename World => wr
      have HQ : Hid (V = tailB p s last A es m) := hq
      have BW : Hid (Below w1.heap.size w1 wr) := hB
      clear hq hB
      by_cases hmn : m < M
      · have m0 : (m : Int) < (M : Int) := by omega
        have hmp : m < es.length := by rw [HM.out]; exact hmn
        obtain ⟨b, off, rfl, q0, q1, q2, q3⟩ := (WE.out.keep BW.out).at m hmp
        have TB : Hid (plOk s (rwD es m) = false → V = false) := fun q => by rw [HQ.out]; exact tail_bad hmp q
        have TA : Hid (m < A.length → plOk s (rwD es m) = true → V = (decide ((rwD es m).t = (rwD A m).t ∧ (rwD es m).i = (rwD A m).i) && tailB p s last A es (m + 1))) := fun q1 q2 => by rw [HQ.out]; exact tail_ahead hmp q1 q2
        have TS : Hid (A.length ≤ m → plOk s (rwD es m) = true → V = (decide ((rwD es m).t = 3 ∧ last + 1 ≤ (rwD es m).i ∧ (rwD es m).i < p) && tailB p s (rwD es m).i A es (m + 1))) := fun q1 q2 => by rw [HQ.out]; exact tail_span hmp q1 q2
        obtain ⟨x, hx⟩ : ∃ x, rwD es m = x := ⟨_, rfl⟩
        rw [hx] at q0 q1 q2 q3 TB TA TS
        obtain ⟨G, hG, rG, bG⟩ := ebox wr x
        obtain ⟨t, i, f, n⟩ := x
        simp only at q0 q1 q2 q3 hG rG TA TS
        have HG : Hid (wr.alloc (.cells #[.int .i64 t, .int .i64 i, .int .i64 f, .int .i64 n] 54) = G) := hG
        obtain ⟨ng, hng⟩ : ∃ ng, wr.heap.size = ng := ⟨_, rfl⟩
        rw [hng] at rG
        have HNG : Hid (wr.heap.size = ng) := hng
        have BG : Hid (Below w1.heap.size w1 G) := BW.out.trans (bG.mono BW.out.size)
        have x0 : G.cell? ⟨ng, 0, none⟩ = some (.int .i64 t) := cell_of_row _ _ 0 _ _ _ rG
        have x1 : G.cell? ⟨ng, 1, none⟩ = some (.int .i64 i) := cell_of_row _ _ 1 _ _ _ rG
        have x2 : G.cell? ⟨ng, 2, none⟩ = some (.int .i64 f) := cell_of_row _ _ 2 _ _ _ rG
        have x3 : G.cell? ⟨ng, 3, none⟩ = some (.int .i64 n) := cell_of_row _ _ 3 _ _ _ rG
        have rg1 : G.heap[nd]? = some (.cells #[.int .i64 xb, .int .i64 p, .int .i64 xw, .int .i64 xh, .int .i64 r, .int .i64 k, .slice (some ⟨b, off, none⟩) M cp] 28 (0, 0)) := by rw [BG.out.block _ (hlt R1.out)]; exact R1.out
        have xp : G.cell? ⟨nd, 1, none⟩ = some (.int .i64 p) := cell_of_row _ _ 1 _ _ _ rg1
        have BF : Hid (Below w.heap.size w G) := B1.out.trans (BG.out.mono B1.out.size)
        clear hx hG rG bG hng rg1
        go_upto_region 11 with (fail)
        rw [HG.out]
        try rw [HNG.out]
        clear q0 q1 q2 q3
        obtain ⟨nb, hnb⟩ : ∃ nb, (!(plOk s ⟨t, i, f, n⟩)) = nb := ⟨_, rfl⟩
        have HNB2 : Hid ((!(plOk s ⟨t, i, f, n⟩)) = nb) := hnb
        clear hnb
        go_cut [105] from 86 to 105 (fun v wx => v = .bool nb ∧ wx = G)
        case first =>
          have e : Hid ((!(decide (1 ≤ f ∧ f ≤ L ∧ 8 ≤ n ∧ n ≤ 65542))) = nb) := by show _ = _; rw [← HNB2.out]; unfold plOk; simp only; rw [HL.out]
          clear TB TA TS HQ HNB2
          go_wp2
          all_goals
            go_meet
            first
              | exact ⟨congrArg Value.bool ((bad_four f n L).trans e.out), rfl⟩
              | exact ⟨congrArg Value.bool (show true = nb by rw [← e.out, decide_eq_false (by omega)]; rfl), rfl⟩
        case rest =>
        obtain ⟨rfl, hw⟩ := hcut
        rw [hw]
        clear hw
        obtain ⟨pv, hpv⟩ : ∃ pv, plOk s ⟨t, i, f, n⟩ = pv := ⟨_, rfl⟩
        rw [hpv] at TB TA TS HNB2
        clear hpv
        cases pv with
        | false =>
          obtain rfl : nb = true := HNB2.out.symm
          obtain rfl : V = false := TB.out rfl
          clear TA TS HQ
          go_wp2
          go_ret
          exact ⟨rfl, BF.out⟩
        | true =>
        obtain rfl : nb = false := HNB2.out.symm
        clear TB
        by_cases hA : m < N
        · have mA : (m : Int) < (N : Int) := by omega
          have hmA : m < A.length := by rw [HN.out]; exact hA
          have VA := TA.out hmA rfl
          obtain ⟨b2, off2, rfl, u0, u1, _, _⟩ := (WA.out.keep BG.out).at m hmA
          obtain ⟨y, hy⟩ : ∃ y, rwD A m = y := ⟨_, rfl⟩
          rw [hy] at u0 u1 VA
          obtain ⟨yt, yi, yf, yn⟩ := y
          simp only at u0 u1 VA
          clear hy TA TS HQ
          by_cases ht : t = yt
          · subst ht
            have tn : (t != t) = false := by simp
            by_cases hi : i = yi
            · subst hi
              have VT : Hid (V = tailB p s last A es (m + 1)) := by show _ = _; rw [VA]; simp
              clear VA
              go_wp2_with fail
              go_quiet (fail)
              go_wp2
              go_roundw
              case rel => exact ⟨m + 1, last, by omega, by go_num, rfl, VT.out, BG.out.trans ((below_drewN _ _).mono BG.out.size)⟩
              case measure => simp [intOf]; omega
            · have inq : (i != yi) = true := by rw [bne_iff_ne]; exact hi
              obtain rfl : V = false := by rw [VA]; simp [hi]
              clear VA
              go_wp2_with fail
              go_quiet (fail)
              go_wp2
              go_ret
              exact ⟨rfl, BF.out.trans ((below_drewN _ _).mono BF.out.size)⟩
          · have tn : (t != yt) = true := by rw [bne_iff_ne]; exact ht
            obtain rfl : V = false := by rw [VA]; simp [ht]
            clear VA
            go_wp2_with fail
            go_quiet (fail)
            go_wp2
            go_ret
            exact ⟨rfl, BF.out.trans ((below_drewN _ _).mono BF.out.size)⟩
        · have mA : ¬ (m : Int) < (N : Int) := by omega
          have VS := TS.out (by rw [HN.out]; omega) rfl
          clear TA TS HQ
          by_cases ht : t = 3
          · subst ht
            by_cases h1 : i ≤ last
            · obtain rfl : V = false := by rw [VS, decide_eq_false (by omega)]; rfl
              clear VS
              go_wp2
              go_ret
              exact ⟨rfl, BF.out⟩
            · by_cases h2 : p ≤ i
              · obtain rfl : V = false := by rw [VS, decide_eq_false (by omega)]; rfl
                clear VS
                go_wp2
                go_ret
                exact ⟨rfl, BF.out⟩
              · have VT : Hid (V = tailB p s i A es (m + 1)) := by show _ = _; rw [VS, decide_eq_true (by omega)]; rfl
                clear VS
                go_wp2
                go_roundw
                case rel => exact ⟨m + 1, i, by omega, by go_num, rfl, VT.out, BG.out⟩
                case measure => simp [intOf]; omega
          · have tn : (t != 3) = true := by rw [bne_iff_ne]; exact ht
            obtain rfl : V = false := by rw [VS, decide_eq_false (fun q => ht q.1)]; rfl
            clear VS
            go_wp2
            go_ret
            exact ⟨rfl, BF.out⟩
      · have hm2 : M = m := by omega
        subst hm2
        have m0 : ¬ (M : Int) < (M : Int) := by omega
        obtain rfl : V = true := by rw [HQ.out]; exact tail_end (by rw [HM.out]; exact Nat.le_refl _) (by rw [HN.out]; omega)
        have BF : Hid (Below w.heap.size w wr) := B1.out.trans (BW.out.mono B1.out.size)
        clear HQ
        go_wp2
        go_ret
        exact ⟨rfl, BF.out⟩
end Go.Proofs.Ytgpkiajakokjmaa
