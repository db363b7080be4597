/- Layer 20: Body. -/
import Derived.Test.YtgpkiajakokjmaaRtF
namespace Go.Proofs.Ytgpkiajakokjmaa
open Go.RowKit
set_option linter.unusedVariables false
set_option maxRecDepth 4000

/-- What Body answers. -/
def bodyO (x : Rt) (s : Int) : List Int × Int := if rightR x s = true then (bodyR x, 0) else ([], 4)
theorem ok_step {pg nx : Int} {A es : List Ent} {m : Nat} (hA : ∀ a ∈ A, a.t ≠ 3) (h : okE pg nx (A.drop m) (es.drop m) = true) (hm : m < es.length) :
    ((rwD es m).t = 3 ∧ nx ≤ (rwD es m).i ∧ (rwD es m).i < pg ∧ okE pg ((rwD es m).i + 1) (A.drop (m + 1)) (es.drop (m + 1)) = true) ∨ ((rwD es m).t ≠ 3 ∧ okE pg nx (A.drop (m + 1)) (es.drop (m + 1)) = true) := by
  rw [drop_more hm] at h
  by_cases ha : m < A.length
  · rw [drop_more ha, okE, Bool.and_eq_true, decide_eq_true_eq] at h
    right
    refine ⟨?_, h.2⟩
    rw [h.1.1, rwD_at ha]
    exact hA _ (List.getElem_mem ha)
  · rw [List.drop_of_length_le (by omega), okE, Bool.and_eq_true, decide_eq_true_eq] at h
    left
    refine ⟨h.1.1, h.1.2.1, h.1.2.2, ?_⟩
    rw [List.drop_of_length_le (by omega)]
    exact h.2
theorem nums_step {nx : Int} {es : List Ent} {m : Nat} (hm : m < es.length) : numsE nx (es.drop m) = if (rwD es m).t = 3 then ((rwD es m).i - nx) :: (rwD es m).f :: (rwD es m).n :: numsE ((rwD es m).i + 1) (es.drop (m + 1)) else (rwD es m).f :: (rwD es m).n :: numsE nx (es.drop (m + 1)) := by
  rw [drop_more hm, numsE]
theorem right_parts {x : Rt} {s : Int} (h : rightR x s = true) : (goodR x.b ∧ 1 ≤ x.p ∧ x.p ≤ 4096 ∧ 1 ≤ x.w ∧ x.w ≤ 8 ∧ 1 ≤ x.h ∧ x.h ≤ 4096 ∧ 0 ≤ x.r ∧ x.r ≤ x.h ∧ 0 ≤ x.k ∧ x.k ≤ 64) ∧ okE x.p 0 (aheadE x.k x.r) x.es = true ∧ (∀ e ∈ x.es, 1 ≤ e.f ∧ e.f ≤ lastS s ∧ 8 ≤ e.n ∧ e.n ≤ 65542) ∧ x.es.length ≤ 5100 ∧ (pagesE x.es).length ≤ 4096 := by
  unfold rightR at h
  simp only [Bool.and_eq_true] at h
  obtain ⟨h1, h2, h3⟩ := h
  have g := of_decide_eq_true h1
  have q := listed_of (pg := x.p) (aheadE x.k x.r) x.es 0 ahead_t
  rw [h2, Bool.and_eq_true] at q
  have r := rises_len _ 0 q.1 (by omega)
  have t := pages_of (aheadE x.k x.r) x.es 0 ahead_t h2
  have u := ahead_le (k := x.k) (r := x.r) (by omega) (by omega)
  exact ⟨g, h2, fun e he => of_decide_eq_true (List.all_eq_true.1 h3 e he), by omega, by omega⟩
/-- How far the body has come. -/
structure Bg (w1 E wr : World) (B : Nat) (pg : Int) (A es : List Ent) (T : List Int) (m : Nat) (nx : Int) : Prop where
  ex : ∃ (O : List Int) (a : Option Addr) (c : Nat), Bd w1 wr B O a c ∧ T = O ++ varsL (numsE nx (es.drop m)) ∧ O.length ≤ 70 + 30 * m
  kp : Kp B E wr
  ok : okE pg nx (A.drop m) (es.drop m) = true
  n0 : 0 ≤ nx
  n1 : nx ≤ 4096
theorem two_row (w : World) (x y : Int) : (w.alloc (.cells #[.int .i64 x, .int .i64 y] 3)).heap[w.heap.size]? = some (.cells (([x, y] : List Int).map (Value.int .i64)).toArray 3 (0, 0)) := Go.heap_alloc_new w _
theorem one_row (w : World) (x : Int) : (w.alloc (.cells #[.int .i64 x] 3)).heap[w.heap.size]? = some (.cells (([x] : List Int).map (Value.int .i64)).toArray 3 (0, 0)) := Go.heap_alloc_new w _
theorem below_alloc (w : World) (o : Obj) : Below w.heap.size w (w.alloc o) := (Below.refl _ w).alloc (Nat.le_refl _) _
theorem vars_two (O : List Int) (f n : Int) (l : List Int) : O ++ varsL (f :: n :: l) = (O ++ varsL [f, n]) ++ varsL l := by simp [varsL]
theorem vars_one (O : List Int) (f : Int) (l : List Int) : O ++ varsL (f :: l) = (O ++ varsL [f]) ++ varsL l := by simp [varsL]
theorem vars_le2 (O : List Int) (f n : Int) : (O ++ varsL [f, n]).length ≤ O.length + 20 := by
  rw [List.length_append]
  have := vars_len [f, n]
  simp at this ⊢
  omega
theorem vars_le1 (O : List Int) (f : Int) : (O ++ varsL [f]).length ≤ O.length + 10 := by
  rw [List.length_append]
  have := vars_len [f]
  simp at this ⊢
  omega
set_option maxRecDepth 20000 in
set_option maxHeartbeats 8000000 in
/-- Body. -/
theorem cbody_any (x : Rt) (s : Int) (a : Option Addr) (cp : Nat) (w : World) (h : IsW w a x.es) (he : EI x.es) (hl : x.es.length ≤ 4398046511104) (hs : s ≤ 9223372036854775807) (hr : -9223372036854775808 ≤ x.r) (hk : -9223372036854775808 ≤ x.k) :
    Calls Try.prog 11 #[.agg #[.int .i64 x.b, .int .i64 x.p, .int .i64 x.w, .int .i64 x.h, .int .i64 x.r, .int .i64 x.k, .slice a x.es.length cp], .int .i64 s] w fun e w' => ∃ a' c, e = .returned (.tuple #[.slice a' (bodyO x s).1.length c, .int .i64 (bodyO x s).2]) ∧ OwnsB w' w.heap.size a' (bodyO x s).1 c ∧ Below w.heap.size w w' := by
  obtain ⟨D, hD, rD, bD⟩ := rtbox w x (.slice a x.es.length cp) 26
  have RT : Hid (Calls Try.prog 14 #[.agg #[.int .i64 x.b, .int .i64 x.p, .int .i64 x.w, .int .i64 x.h, .int .i64 x.r, .int .i64 x.k, .slice a x.es.length cp], .int .i64 s] D fun e w' => e = .returned (.bool (rightR x s)) ∧ Below D.heap.size D w') := cright_any x s a cp D (h.keep bD) he hl hs hr hk
  obtain ⟨T, hT⟩ : ∃ T, bodyR x = T := ⟨_, rfl⟩
  have BO1 : Hid (rightR x s = true → bodyO x s = (T, 0)) := fun q => by rw [← hT]; exact if_pos q
  have BO2 : Hid (rightR x s = false → bodyO x s = ([], 4)) := fun q => if_neg (by rw [q]; decide)
  have RP : Hid (rightR x s = true → _) := right_parts (x := x) (s := s)
  obtain ⟨V, hV⟩ : ∃ V, rightR x s = V := ⟨_, rfl⟩
  rw [hV] at RT BO1 BO2 RP
  clear hV
  obtain ⟨bo, hbo⟩ : ∃ bo, bodyO x s = bo := ⟨_, rfl⟩
  rw [hbo] at BO1 BO2 ⊢
  clear hbo
  obtain ⟨xb, p, xw, xh, r, k, es⟩ := x
  simp only at h he hl hr hk hD rD RT RP hT ⊢
  have HW : Hid (IsW w a es) := h
  have HE : Hid (EI es) := he
  have HD : Hid (w.alloc (.cells #[.int .i64 xb, .int .i64 p, .int .i64 xw, .int .i64 xh, .int .i64 r, .int .i64 k, .slice a es.length cp] 26) = D) := hD
  have BD : Hid (Below w.heap.size w D) := bD
  obtain ⟨nd, hnd⟩ : ∃ nd, w.heap.size = nd := ⟨_, rfl⟩
  rw [hnd] at rD
  have HND : Hid (w.heap.size = nd) := hnd
  have c0 : D.cell? ⟨nd, 0, none⟩ = some (.int .i64 xb) := cell_of_row _ _ 0 _ _ _ rD
  have c1 : D.cell? ⟨nd, 1, none⟩ = some (.int .i64 p) := cell_of_row _ _ 1 _ _ _ rD
  have c2 : D.cell? ⟨nd, 2, none⟩ = some (.int .i64 xw) := cell_of_row _ _ 2 _ _ _ rD
  have c3 : D.cell? ⟨nd, 3, none⟩ = some (.int .i64 xh) := cell_of_row _ _ 3 _ _ _ rD
  have c4 : D.cell? ⟨nd, 4, none⟩ = some (.int .i64 r) := cell_of_row _ _ 4 _ _ _ rD
  have c5 : D.cell? ⟨nd, 5, none⟩ = some (.int .i64 k) := cell_of_row _ _ 5 _ _ _ rD
  have c6 : D.cell? ⟨nd, 6, none⟩ = some (.slice a es.length cp) := cell_of_row _ _ 6 _ _ _ rD
  have RD : Hid _ := rD
  clear h he hD rD bD hnd
  obtain ⟨M, hM⟩ : ∃ M, es.length = M := ⟨_, rfl⟩
  have HM : Hid (es.length = M) := hM
  rw [hM] at RT c6 hl HD RD ⊢
  have SP : Hid (∀ w2 : World, IsW w2 a es → Calls Try.prog 26 #[.slice a M cp] w2 fun e w' => ∃ a' c, e = .returned (.slice a' (pagesE es).length c) ∧ OwnsI w' w2.heap.size a' (pagesE es) c ∧ Below w2.heap.size w2 w') := fun w2 hw => by
    have q := spanPages_any a cp es w2 hw HE.out (by rw [HM.out]; exact hl)
    rw [HM.out] at q
    exact q
  clear hM
  cases V with
  | false =>
    obtain rfl : bo = ([], 4) := BO2.out rfl
    go_enter Try.func11, Try.ntmps11
    go_upto_region 1 with (fail)
    rw [HD.out]
    try rw [HND.out]
    go_wp2_with fail
    refine Calls.mono RT.out ?_
    rintro e w1 ⟨rfl, b1⟩
    go_wp2
    go_ret2
    exact ⟨none, 0, rfl, World.ownsRow_nil _ _ _ _, BD.out.trans (b1.mono BD.out.size)⟩
  | true =>
    obtain rfl : bo = (T, 0) := BO1.out rfl
    obtain ⟨g, ok0, pl, el, pgl⟩ := RP.out rfl
    rw [HM.out] at el
    have PLC : Hid (∀ e ∈ es, 1 ≤ e.f ∧ e.f ≤ lastS s ∧ 8 ≤ e.n ∧ e.n ≤ 65542) := pl
    have LS : lastS s ≤ 9223372036854775807 := by unfold lastS; split <;> omega
    obtain ⟨L, hL⟩ : ∃ L, lastS s = L := ⟨_, rfl⟩
    rw [hL] at PLC LS
    have OK0 : Hid (okE p 0 ((aheadE k r).drop 0) (es.drop 0) = true) := ok0
    have AT : Hid (∀ a ∈ aheadE k r, a.t ≠ 3) := ahead_t
    obtain ⟨A, hA⟩ : ∃ A, aheadE k r = A := ⟨_, rfl⟩
    rw [hA] at OK0 AT
    obtain ⟨q, hq⟩ : ∃ q, xb / 256 = q := ⟨_, rfl⟩
    obtain ⟨N, hN⟩ : ∃ N, (pagesE es).length = N := ⟨_, rfl⟩
    have HT : Hid (T = varsL [q, p, xw, xh, r, k, (N : Int)] ++ varsL (numsE 0 (es.drop 0))) := by
      show _ = _
      rw [← hT]
      unfold bodyR headN
      simp only
      rw [vars_append, hq, hN]
      rfl
    have tq : Int.tdiv xb 256 = q := by rw [Int.tdiv_eq_ediv_of_nonneg (by have := g.1.1; omega)]; exact hq
    have wq : IntKind.i64.wrap (Int.tdiv xb 256) = q := by rw [tq, IntKind.wrap_i64]; have := g.1.1; have := g.1.2.1; omega
    have qb : 0 ≤ q ∧ q ≤ 9223372036854775807 := by have := g.1.1; have := g.1.2.1; omega
    have NB : Hid (∀ n ∈ ([q, p, xw, xh, r, k, (N : Int)] : List Int), 0 ≤ n ∧ n ≤ 9223372036854775807) := by
      show ∀ n ∈ _, _
      intro n hn
      simp only [List.mem_cons, List.not_mem_nil, or_false] at hn
      rcases hn with rfl | rfl | rfl | rfl | rfl | rfl | rfl
      · exact qb
      all_goals omega
    rw [hN] at SP
    obtain ⟨g0, gp1, gp2, _⟩ := g
    have L7 : Hid ((varsL [q, p, xw, xh, r, k, (N : Int)]).length ≤ 70) := by
      show _ ≤ _
      have := vars_len [q, p, xw, xh, r, k, (N : Int)]
      simpa using this
    clear tq hq hN hA hL hT pl ok0 RP BO1 BO2 qb pgl g0
    have PG : Hid (1 ≤ p ∧ p ≤ 4096) := ⟨gp1, gp2⟩
    clear gp1 gp2
    go_enter Try.func11, Try.ntmps11
    go_upto_region 1 with (fail)
    rw [HD.out]
    try rw [HND.out]
    go_wp2_with fail
    refine Calls.mono RT.out ?_
    rintro e w1 ⟨rfl, b1⟩
    have B1 : Hid (Below w.heap.size w w1) := BD.out.trans (b1.mono BD.out.size)
    have r1 : w1.heap[nd]? = some (.cells #[.int .i64 xb, .int .i64 p, .int .i64 xw, .int .i64 xh, .int .i64 r, .int .i64 k, .slice a M cp] 26 (0, 0)) := by rw [b1.block _ (hlt RD.out)]; exact RD.out
    obtain ⟨E, hE⟩ : ∃ E, w1.alloc (.cells #[.slice none 0 0] 30) = E := ⟨_, rfl⟩
    have bE : Below w1.heap.size w1 E := by rw [← hE]; exact below_alloc _ _
    have xE : E.heap[w1.heap.size]? = some (.cells #[.slice none 0 0] 30 (0, 0)) := by rw [← hE]; exact Go.heap_alloc_new w1 _
    have rE : E.heap[nd]? = some (.cells #[.int .i64 xb, .int .i64 p, .int .i64 xw, .int .i64 xh, .int .i64 r, .int .i64 k, .slice a M cp] 26 (0, 0)) := by rw [bE.block _ (hlt r1)]; exact r1
    have HEE : Hid (w1.alloc (.cells #[.slice none 0 0] 30) = E) := hE
    obtain ⟨B, hB⟩ : ∃ B, w1.heap.size = B := ⟨_, rfl⟩
    have HB : Hid (w1.heap.size = B) := hB
    have ndB : nd ≠ B := by have := hlt r1; omega
    rw [hB] at xE
    have D0 : Hid (Bd w1 E B [] none 0) := ⟨xE, World.ownsRow_nil _ _ _ _, by rw [← hB]; exact bE⟩
    have RE : Hid _ := rE
    have BE : Hid (Below w1.heap.size w1 E) := bE
    have ROW : Hid (∀ W : World, Kp B E W → W.heap[nd]? = some (.cells #[.int .i64 xb, .int .i64 p, .int .i64 xw, .int .i64 xh, .int .i64 r, .int .i64 k, .slice a M cp] 26 (0, 0))) := fun W hW => hW.keep nd _ _ _ RE.out (by decide) ndB
    have PUT7 : Hid (∀ (W : World) (g : Nat), Bd w1 W B [] none 0 → W.heap[g]? = some (.cells (([q, p, xw, xh, r, k, (N : Int)] : List Int).map (Value.int .i64)).toArray 3 (0, 0)) → g ≠ B → Calls Try.prog 24 #[.slice (some ⟨g, 0, none⟩) 7 7, .pointer (some ⟨B, 0, none⟩)] W fun e w' => e = .returned (.tuple #[]) ∧ (∃ a' c', Bd w1 w' B (varsL [q, p, xw, xh, r, k, (N : Int)]) a' c') ∧ Kp B W w') := fun W g h1 h2 h3 => by
      have := cbody1_any B g 7 [q, p, xw, xh, r, k, (N : Int)] w1 W [] none 0 h1 rfl h2 h3 NB.out (by simp) (by omega)
      simpa using this
    have t0 : E.cell? ⟨nd, 0, none⟩ = some (.int .i64 xb) := cell_of_row _ _ 0 _ _ _ rE
    have t1 : E.cell? ⟨nd, 1, none⟩ = some (.int .i64 p) := cell_of_row _ _ 1 _ _ _ rE
    have t2 : E.cell? ⟨nd, 2, none⟩ = some (.int .i64 xw) := cell_of_row _ _ 2 _ _ _ rE
    have t3 : E.cell? ⟨nd, 3, none⟩ = some (.int .i64 xh) := cell_of_row _ _ 3 _ _ _ rE
    have t4 : E.cell? ⟨nd, 4, none⟩ = some (.int .i64 r) := cell_of_row _ _ 4 _ _ _ rE
    have t5 : E.cell? ⟨nd, 5, none⟩ = some (.int .i64 k) := cell_of_row _ _ 5 _ _ _ rE
    have t6 : E.cell? ⟨nd, 6, none⟩ = some (.slice a M cp) := cell_of_row _ _ 6 _ _ _ rE
    have WE : Hid (IsW E a es) := (HW.out.keep B1.out).keep bE
    clear c0 c1 c2 c3 c4 c5 c6 b1 r1 hE bE xE rE hB RT
    go_upto_region 4 with (fail)
    rw [HEE.out]
    try rw [HB.out]
    go_upto_region 5 with (fail)
    go_region_held3 (fun w' => w'.cell? ⟨nd, 0, none⟩ = some (.int .i64 xb) ∧ w'.cell? ⟨nd, 1, none⟩ = some (.int .i64 p) ∧ w'.cell? ⟨nd, 2, none⟩ = some (.int .i64 xw) ∧ w'.cell? ⟨nd, 3, none⟩ = some (.int .i64 xh) ∧ w'.cell? ⟨nd, 4, none⟩ = some (.int .i64 r) ∧ w'.cell? ⟨nd, 5, none⟩ = some (.int .i64 k) ∧ w'.cell? ⟨nd, 6, none⟩ = some (.slice a M cp)) (first | assumption | exact ⟨by assumption, by assumption, by assumption, by assumption, by assumption, by assumption, by assumption⟩ | go_keep)
      (first
        | (go_at_call 26; refine Calls.mono (SP.out _ (by first | exact WE.out | exact WE.out.keep (below_drewN _ 1))) ?_; rintro e w2 ⟨a2, c2, rfl, o2, b2⟩; have B2 : Hid (Below E.heap.size E w2) := Below.ofDrew b2; have u0 := bcellK B2.out t0; have u1 := bcellK B2.out t1; have u2 := bcellK B2.out t2; have u3 := bcellK B2.out t3; have u4 := bcellK B2.out t4; have u5 := bcellK B2.out t5; have u6 := bcellK B2.out t6; have D2 : Hid (Bd w1 w2 B [] none 0) := D0.out.keep B2.out; clear o2 b2)
        | (go_at_call 24; refine Calls.mono (PUT7.out _ _ (D2.out.keep (below_alloc _ _)) (Go.heap_alloc_new w2 _) (by have := D2.out.lt; omega)) ?_; rintro e w3 ⟨rfl, ⟨a3, c3, d3⟩, k3⟩; have D3 : Hid (Bd w1 w3 B (varsL [q, p, xw, xh, r, k, (N : Int)]) a3 c3) := d3; have K3 : Hid (Kp B E w3) := (Kp.ofBelow (B2.out.trans ((below_alloc _ _).mono B2.out.size))).trans k3; have v0 := cell_of_row _ _ 0 _ _ _ (ROW.out w3 K3.out); have v1 := cell_of_row _ _ 1 _ _ _ (ROW.out w3 K3.out); have v2 := cell_of_row _ _ 2 _ _ _ (ROW.out w3 K3.out); have v3 := cell_of_row _ _ 3 _ _ _ (ROW.out w3 K3.out); have v4 := cell_of_row _ _ 4 _ _ _ (ROW.out w3 K3.out); have v5 := cell_of_row _ _ 5 _ _ _ (ROW.out w3 K3.out); have v6 := cell_of_row _ _ 6 _ _ _ (ROW.out w3 K3.out); clear d3 k3))
    all_goals
      have S0 : Hid (Bg w1 E w3 B p A es T 0 0) := ⟨⟨_, a3, c3, D3.out, HT.out, by have := L7.out; omega⟩, K3.out, OK0.out, by omega, by omega⟩
      have v6 : w3.cell? ⟨nd, 6, none⟩ = some (.slice a M cp) := cell_of_row _ _ 6 _ _ _ (ROW.out w3 K3.out)
      have V6 : Hid (w3.cell? ⟨nd, 6, none⟩ = some (.slice a M cp)) := v6
      have PUT2 : Hid (∀ (W : World) (g : Nat) (O : List Int) (a : Option Addr) (c : Nat) (f n : Int), Bd w1 W B O a c → W.heap[g]? = some (.cells (([f, n] : List Int).map (Value.int .i64)).toArray 3 (0, 0)) → g ≠ B → (0 ≤ f ∧ f ≤ 9223372036854775807) → (0 ≤ n ∧ n ≤ 9223372036854775807) → O.length ≤ 1000000 → Calls Try.prog 24 #[.slice (some ⟨g, 0, none⟩) 2 2, .pointer (some ⟨B, 0, none⟩)] W fun e w' => e = .returned (.tuple #[]) ∧ (∃ a' c', Bd w1 w' B (O ++ varsL [f, n]) a' c') ∧ Kp B W w') := fun W g O a c f n h1 h2 h3 h4 h5 h6 =>
        cbody1_any B g 2 [f, n] w1 W O a c h1 rfl h2 h3 (by intro y hy; simp only [List.mem_cons, List.not_mem_nil, or_false] at hy; rcases hy with rfl | rfl <;> assumption) h6 (by omega)
      have PUT1 : Hid (∀ (W : World) (g : Nat) (O : List Int) (a : Option Addr) (c : Nat) (f : Int), Bd w1 W B O a c → W.heap[g]? = some (.cells (([f] : List Int).map (Value.int .i64)).toArray 3 (0, 0)) → g ≠ B → (0 ≤ f ∧ f ≤ 9223372036854775807) → O.length ≤ 1000000 → Calls Try.prog 24 #[.slice (some ⟨g, 0, none⟩) 1 1, .pointer (some ⟨B, 0, none⟩)] W fun e w' => e = .returned (.tuple #[]) ∧ (∃ a' c', Bd w1 w' B (O ++ varsL [f]) a' c') ∧ Kp B W w') := fun W g O a c f h1 h2 h3 h4 h6 =>
        cbody1_any B g 1 [f] w1 W O a c h1 rfl h2 h3 (by intro y hy; simp only [List.mem_cons, List.not_mem_nil, or_false] at hy; subst hy; assumption) h6 (by omega)
      clear v0 v1 v2 v3 v4 v5 u0 u1 u2 u3 u4 u5 u6 t0 t1 t2 t3 t4 t5 t6 PUT7 SP D2 D3 K3 NB L7 HT OK0 D0 wq
      go_wp2_with fail
      clear v6
      go_loopw [8, 39] (fun nv iv wr => ∃ (m : Nat) (nx : Int), m ≤ M ∧ iv = .int .i64 (m : Nat) ∧ nv = .int .i64 nx ∧ Bg w1 E wr B p A es T m nx) (fun _ iv _ => M - (intOf iv).toNat)
      case atStart => exact ⟨0, 0, Nat.zero_le _, rfl, rfl, S0.out⟩
      case round =>
        clear S0
        obtain ⟨m, nx, hm, rfl, rfl, hS⟩ := hrel
        rename World => wr
        obtain ⟨⟨O, a', c', d, eT, lO⟩, kp, ok, n0, n1⟩ := hS
        have HD1 : Hid (Bd w1 wr B O a' c') := d
        have KR : Hid (Kp B E wr) := kp
        have ET : Hid (T = O ++ varsL (numsE nx (es.drop m))) := eT
        have OKM : Hid (okE p nx (A.drop m) (es.drop m) = true) := ok
        clear d kp eT ok
        by_cases hmn : m < M
        · have m0 : (m : Int) < (M : Int) := by omega
          have hmp : m < es.length := by rw [HM.out]; exact hmn
          have WR : IsW wr a es := HW.out.keep (B1.out.trans (HD1.out.low.mono (by rw [← HB.out]; exact B1.out.size)))
          obtain ⟨b, off, rfl, q0, q1, q2, q3⟩ := WR.at m hmp
          have PX : Hid (1 ≤ (rwD es m).f ∧ (rwD es m).f ≤ L ∧ 8 ≤ (rwD es m).n ∧ (rwD es m).n ≤ 65542) := PLC.out _ (by rw [rwD_at hmp]; exact List.getElem_mem hmp)
          have STEP : Hid _ := ok_step AT.out OKM.out hmp
          have NUM : Hid _ := nums_step (nx := nx) hmp
          obtain ⟨x, hx⟩ : ∃ x, rwD es m = x := ⟨_, rfl⟩
          rw [hx] at q0 q1 q2 q3 PX STEP NUM
          clear hx WR
          obtain ⟨G, hG, rG, bG⟩ := ebox wr x
          obtain ⟨t, i, f, n⟩ := x
          simp only at q0 q1 q2 q3 hG rG
          have HG : Hid (wr.alloc (.cells #[.int .i64 t, .int .i64 i, .int .i64 f, .int .i64 n] 54) = G) := hG
          obtain ⟨ng, hng⟩ : ∃ ng, wr.heap.size = ng := ⟨_, rfl⟩
          have ngB : ng ≠ B := by have := HD1.out.lt; omega
          rw [hng] at rG
          have HNG : Hid (wr.heap.size = ng) := hng
          have RG : Hid _ := rG
          have DG : Hid (Bd w1 G B O a' c') := HD1.out.keep bG
          have KG : Hid (Kp B E G) := KR.out.trans (Kp.ofBelow bG)
          have e0 : G.cell? ⟨ng, 0, none⟩ = some (.int .i64 t) := cell_of_row _ _ 0 _ _ _ rG
          have e1 : G.cell? ⟨ng, 1, none⟩ = some (.int .i64 i) := cell_of_row _ _ 1 _ _ _ rG
          have e2 : G.cell? ⟨ng, 2, none⟩ = some (.int .i64 f) := cell_of_row _ _ 2 _ _ _ rG
          have e3 : G.cell? ⟨ng, 3, none⟩ = some (.int .i64 n) := cell_of_row _ _ 3 _ _ _ rG
          clear hG rG bG hng
          go_upto_region 10 with (fail)
          rw [HG.out]
          try rw [HNG.out]
          clear q0 q1 q2 q3
          rcases STEP.out with ⟨ht, i0, i1, ok2⟩ | ⟨ht, ok2⟩
          · simp only at ht i0 i1 ok2
            have E2 : Hid (T = ((O ++ varsL [i - nx]) ++ varsL [f, n]) ++ varsL (numsE (i + 1) (es.drop (m + 1)))) := by
              show _ = _
              rw [ET.out, NUM.out]
              simp only
              rw [if_pos ht, vars_one, vars_two]
            have OK2 : Hid (okE p (i + 1) (A.drop (m + 1)) (es.drop (m + 1)) = true) := ok2
            have PB := PG.out
            have wi : IntKind.i64.wrap (i - nx) = i - nx := by rw [IntKind.wrap_i64]; omega
            have wi1 : IntKind.i64.wrap (i + 1) = i + 1 := by rw [IntKind.wrap_i64]; omega
            have b1 : i + 1 ≤ 4096 := by omega
            have b0 : 0 ≤ i + 1 := by omega
            have P1 := PUT1.out (G.alloc (.cells #[.int .i64 (i - nx)] 3)) G.heap.size O a' c' (i - nx) (DG.out.keep (below_alloc _ _)) (one_row G _) (by have := DG.out.lt; omega) (by omega) (by omega)
            have HP1 : Hid _ := P1
            subst ht
            clear P1 ok2 PB i0 i1
            go_wp2_with fail
            refine Calls.mono HP1.out ?_
            rintro e w4 ⟨rfl, ⟨a4, c4, d4⟩, k4⟩
            have D4 : Hid (Bd w1 w4 B (O ++ varsL [i - nx]) a4 c4) := d4
            have K4 : Hid (Kp B G w4) := (Kp.ofBelow (below_alloc _ _)).trans k4
            have r4 := K4.out.keep ng _ _ _ RG.out (by decide) ngB
            have f1 : w4.cell? ⟨ng, 1, none⟩ = some (.int .i64 i) := cell_of_row _ _ 1 _ _ _ r4
            have f2 : w4.cell? ⟨ng, 2, none⟩ = some (.int .i64 f) := cell_of_row _ _ 2 _ _ _ r4
            have f3 : w4.cell? ⟨ng, 3, none⟩ = some (.int .i64 n) := cell_of_row _ _ 3 _ _ _ r4
            have PXX : 1 ≤ f ∧ f ≤ L ∧ 8 ≤ n ∧ n ≤ 65542 := PX.out
            have P2 := PUT2.out (w4.alloc (.cells #[.int .i64 f, .int .i64 n] 3)) w4.heap.size (O ++ varsL [i - nx]) a4 c4 f n (D4.out.keep (below_alloc _ _)) (two_row w4 _ _) (by have := D4.out.lt; omega) (by omega) (by omega) (by have := vars_le1 O (i - nx); omega)
            have HP2 : Hid _ := P2
            clear d4 k4 r4 e0 e1 e2 e3 PXX P2
            go_wp2_with fail
            refine Calls.mono HP2.out ?_
            rintro e w5 ⟨rfl, ⟨a5, c5, d5⟩, k5⟩
            have S5 : Hid (Bg w1 E w5 B p A es T (m + 1) (i + 1)) := ⟨⟨_, a5, c5, d5, E2.out, by have := vars_le1 O (i - nx); have := vars_le2 (O ++ varsL [i - nx]) f n; omega⟩, (KG.out.trans K4.out).trans ((Kp.ofBelow (below_alloc _ _)).trans k5), OK2.out, b0, b1⟩
            clear d5 k5 f1 f2 f3
            go_wp2
            go_roundw
            case rel => exact ⟨m + 1, i + 1, by omega, by go_num, rfl, S5.out⟩
            case measure => simp [intOf]; omega
          · simp only at ht ok2
            have tb : (t == 3) = false := beq_eq_false_iff_ne.2 ht
            have E2 : Hid (T = (O ++ varsL [f, n]) ++ varsL (numsE nx (es.drop (m + 1)))) := by
              show _ = _
              rw [ET.out, NUM.out]
              simp only
              rw [if_neg ht, vars_two]
            have OK2 : Hid (okE p nx (A.drop (m + 1)) (es.drop (m + 1)) = true) := ok2
            have PXX : 1 ≤ f ∧ f ≤ L ∧ 8 ≤ n ∧ n ≤ 65542 := PX.out
            have P2 := PUT2.out (G.alloc (.cells #[.int .i64 f, .int .i64 n] 3)) G.heap.size O a' c' f n (DG.out.keep (below_alloc _ _)) (two_row G _ _) (by have := DG.out.lt; omega) (by omega) (by omega) (by omega)
            have HP2 : Hid _ := P2
            clear PXX P2 ok2
            go_wp2_with fail
            refine Calls.mono HP2.out ?_
            rintro e w5 ⟨rfl, ⟨a5, c5, d5⟩, k5⟩
            have S5 : Hid (Bg w1 E w5 B p A es T (m + 1) nx) := ⟨⟨_, a5, c5, d5, E2.out, by have := vars_le2 O f n; omega⟩, KG.out.trans ((Kp.ofBelow (below_alloc _ _)).trans k5), OK2.out, n0, n1⟩
            clear d5 k5 e0 e1 e2 e3
            go_wp2
            go_roundw
            case rel => exact ⟨m + 1, nx, by omega, by go_num, rfl, S5.out⟩
            case measure => simp [intOf]; omega
        · have hm2 : M = m := by omega
          subst hm2
          have m0 : ¬ (M : Int) < (M : Int) := by omega
          have e : Hid (T = O) := by show _ = _; rw [ET.out, List.drop_of_length_le (by rw [HM.out]; exact Nat.le_refl _)]; simp [numsE, varsL]
          have cB := HD1.out.cell
          have OF : Hid (OwnsB wr w.heap.size a' O c') := OwnsB.mono HD1.out.own (by have := B1.out.size; have := HB.out; omega)
          have BF : Hid (Below w.heap.size w wr) := B1.out.trans (HD1.out.low.mono (by rw [← HB.out]; exact B1.out.size))
          go_wp2
          go_ret2
          rw [e.out]
          exact ⟨a', c', rfl, OF.out, BF.out⟩
end Go.Proofs.Ytgpkiajakokjmaa
