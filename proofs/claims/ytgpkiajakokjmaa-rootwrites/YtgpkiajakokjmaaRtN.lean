/- Layer 20: Body of the document. -/
import Derived.Test.YtgpkiajakokjmaaRtL
namespace Go.Proofs.Ytgpkiajakokjmaa
open Go.RowKit
set_option linter.unusedVariables false
set_option maxRecDepth 4000

theorem two_isI (w : World) (x y : Int) (hx : 0 ≤ x ∧ x ≤ 9223372036854775807) (hy : 0 ≤ y ∧ y ≤ 9223372036854775807) : IsI (w.alloc (.cells #[.int .i64 x, .int .i64 y] 3)) (some ⟨w.heap.size, 0, none⟩) [x, y] := by
  have r := two_row w x y
  refine ⟨fun z hz => ?_, .inr ⟨w.heap.size, 0, rfl, hlt r, fun i hi => ?_⟩⟩
  · simp only [List.mem_cons, List.not_mem_nil, or_false] at hz
    rcases hz with rfl | rfl <;> omega
  · rw [Nat.zero_add, cell_of_row _ _ i _ _ _ r]
    have hi : i < 2 := by simpa using hi
    rcases (by omega : i = 0 ∨ i = 1) with rfl | rfl <;> rfl
/-- Blocks of other things than numbers stay. -/
def Kq (w w' : World) : Prop := ∀ (k : Nat) (cs : Array Value) (t : TypeId) (z : Nat × Nat), w.heap[k]? = some (.cells cs t z) → t ≠ 3 → w'.heap[k]? = some (.cells cs t z)
theorem Kq.ofBelow {w w' : World} (h : Below w.heap.size w w') : Kq w w' := fun k cs t z hk _ => by rw [h.block k (hlt hk)]; exact hk
theorem Kq.trans {a b c : World} (h : Kq a b) (k : Kq b c) : Kq a c := fun i cs t z hi ht => k i cs t z (h i cs t z hi ht) ht
theorem appI_own2 (w : World) (base : Nat) (hbase : base ≤ w.heap.size) (as0 : Option Addr) (L : List Int) (cs : Nat) (hown : OwnsI w base as0 L cs) (ad : Addr) (l : List Int) (cx : Nat) (hB : IsI w (some ad) l) (hL : L.length + l.length ≤ 17592186044416) :
    ∃ a' cap' w', (Builtin.append_ #[47, 47] 47 #[.slice as0 L.length cs, .slice (some ad) l.length cx]).run Try.prog w = .ok (.slice a' (L ++ l).length cap') w' ∧ OwnsI w' base a' (L ++ l) cap' ∧ Below base w w' ∧ Kq w w' := by
  obtain ⟨i0, hi, hz0, hz1, hz2⟩ := info_parts Try.info3
  obtain ⟨v', w', h1, h2, h3, _⟩ := run_append_own (P := Try.prog) w base 47 47 3 i0 (.int .i64 0) 1 8 Try.underlying47 hi hz0 hz1 hz2 rfl (by decide) _ L.length (L.map (Value.int .i64)) hown ad l.length cx (l.map (Value.int .i64)) (by simp) (by
      intro j u hj
      have hjn : j < l.length := by
        have := (List.getElem?_eq_some_iff.1 hj).1
        simpa using this
      obtain ⟨_, rfl | ⟨b, off, e, _, hc⟩⟩ := hB
      · simp at hjn
      · cases e
        rw [addr_add, hc j hjn]
        have e : (l.map (Value.int .i64))[j]? = some (Value.int .i64 (l.getD j 0)) := by simp [List.getD, List.getElem?_eq_getElem hjn]
        rw [e] at hj
        exact hj) (by intro u hu; obtain ⟨x, _, rfl⟩ := List.mem_map.1 hu; rfl) (by unfold maxLen; omega) (by omega) hbase
  obtain ⟨a', cap', rfl⟩ := owns_formI h2
  refine ⟨a', cap', w', by rw [List.length_append]; exact h1, by simpa [OwnsI] using h2, (Tu.grown (S := fun k => (Value.slice as0 L.length cs).ownBlock = some k) h3 (fun g hg => hg)).below (fun k hk => own_geI hown k hk) hbase, ?_⟩
  intro k cs' t z hk ht
  rw [h3.block k (hlt hk) (fun e => ?_)]
  · exact hk
  · obtain ⟨_, ⟨q, _⟩ | ⟨g, c', cur, q, _, q4, _⟩⟩ := hown
    · rw [q] at e; simp [Value.ownBlock] at e
    · rw [q] at e
      simp [Value.ownBlock] at e
      subst e
      rw [hk] at q4
      cases q4
      exact ht rfl
theorem Is.one2 {w wr : World} {l : List Int} {a : Option Addr} {c : Nat} (h : Is w wr l a c) (x : Int) (hx : -9223372036854775808 ≤ x ∧ x ≤ 9223372036854775807) (hl : l.length + 1 ≤ 17592186044416) :
    ∃ a' c' w', (Builtin.append_ #[47, 47] 47 #[.slice a l.length c, .slice (some ⟨wr.heap.size, 0, none⟩) 1 1]).run Try.prog (wr.alloc (.cells #[.int .i64 x] 3)) = .ok (.slice a' (l ++ [x]).length c') w' ∧ Is w w' (l ++ [x]) a' c' ∧ Kq wr w' := by
  have b := below_alloc wr (.cells #[.int .i64 x] 3)
  obtain ⟨a', c', w', h1, h2, h3, h4⟩ := appI_own2 _ w.heap.size (Nat.le_trans h.low.size b.size) a l c (h.own.keep b) ⟨wr.heap.size, 0, none⟩ [x] 1 (one_isI wr x hx) hl
  exact ⟨a', c', w', h1, ⟨h2, (h.low.trans (b.mono h.low.size)).trans h3⟩, (Kq.ofBelow b).trans h4⟩
theorem Is.two {w wr : World} {l : List Int} {a : Option Addr} {c : Nat} (h : Is w wr l a c) (x y : Int) (hx : 0 ≤ x ∧ x ≤ 9223372036854775807) (hy : 0 ≤ y ∧ y ≤ 9223372036854775807) (hl : l.length + 2 ≤ 17592186044416) :
    ∃ a' c' w', (Builtin.append_ #[47, 47] 47 #[.slice a l.length c, .slice (some ⟨wr.heap.size, 0, none⟩) 2 2]).run Try.prog (wr.alloc (.cells #[.int .i64 x, .int .i64 y] 3)) = .ok (.slice a' (l ++ [x, y]).length c') w' ∧ Is w w' (l ++ [x, y]) a' c' := by
  have b := below_alloc wr (.cells #[.int .i64 x, .int .i64 y] 3)
  obtain ⟨a', c', w', h1, h2, h3, _⟩ := appI_own2 _ w.heap.size (Nat.le_trans h.low.size b.size) a l c (h.own.keep b) ⟨wr.heap.size, 0, none⟩ [x, y] 2 (two_isI wr x y hx hy) hl
  exact ⟨a', c', w', h1, h2, (h.low.trans (b.mono h.low.size)).trans h3⟩
theorem Is.seven {w wr : World} (h : Below w.heap.size w wr) (q p xw xh r k n : Int) :
    Is w (wr.alloc (.cells #[.int .i64 q, .int .i64 p, .int .i64 xw, .int .i64 xh, .int .i64 r, .int .i64 k, .int .i64 n] 3)) [q, p, xw, xh, r, k, n] (some ⟨wr.heap.size, 0, none⟩) 7 :=
  ⟨⟨rfl, .inr ⟨wr.heap.size, 7, #[.int .i64 q, .int .i64 p, .int .i64 xw, .int .i64 xh, .int .i64 r, .int .i64 k, .int .i64 n], rfl, h.size, Go.heap_alloc_new wr _, Nat.le_refl _, by decide, rfl, rfl⟩⟩, h.trans ((below_alloc wr _).mono h.size)⟩
theorem nums_in {pg : Int} (hpg : pg ≤ 4096) {L : Int} (hL : L ≤ 9223372036854775807) : ∀ (A es : List Ent) (nx : Int), 0 ≤ nx → (∀ a ∈ A, a.t ≠ 3) → okE pg nx A es = true → (∀ e ∈ es, 1 ≤ e.f ∧ e.f ≤ L ∧ 8 ≤ e.n ∧ e.n ≤ 65542) → ∀ n ∈ numsE nx es, 0 ≤ n ∧ n ≤ 9223372036854775807
  | [], [], nx, _, _, _, _ => fun n hn => by cases hn
  | [], e :: es, nx, h0, hA, h, hp => fun n hn => by
    rw [okE, Bool.and_eq_true, decide_eq_true_eq] at h
    obtain ⟨⟨h3, h4, h5⟩, h6⟩ := h
    have he := hp e (List.mem_cons_self ..)
    rw [show numsE nx (e :: es) = (e.i - nx) :: e.f :: e.n :: numsE (e.i + 1) es from if_pos h3] at hn
    simp only [List.mem_cons] at hn
    rcases hn with rfl | rfl | rfl | hn
    · omega
    · omega
    · omega
    · exact nums_in hpg hL [] es (e.i + 1) (by omega) (fun a ha => by cases ha) h6 (fun e he => hp e (List.mem_cons_of_mem _ he)) n hn
  | a :: A, [], nx, h0, hA, h, hp => by cases h
  | a :: A, e :: es, nx, h0, hA, h, hp => fun n hn => by
    rw [okE, Bool.and_eq_true, decide_eq_true_eq] at h
    obtain ⟨⟨h3, h4⟩, h6⟩ := h
    have he := hp e (List.mem_cons_self ..)
    have ht : e.t ≠ 3 := by rw [h3]; exact hA a (List.mem_cons_self ..)
    rw [show numsE nx (e :: es) = e.f :: e.n :: numsE nx es from if_neg ht] at hn
    simp only [List.mem_cons] at hn
    rcases hn with rfl | rfl | hn
    · omega
    · omega
    · exact nums_in hpg hL A es nx h0 (fun a ha => hA a (List.mem_cons_of_mem _ ha)) h6 (fun e he => hp e (List.mem_cons_of_mem _ he)) n hn
/-- How far the numbers of the document's body have come. -/
structure Bn (w wr : World) (pg : Int) (A es : List Ent) (T : List Int) (m : Nat) (nx : Int) (L : List Int) (a : Option Addr) (c : Nat) : Prop where
  own : Is w wr L a c
  eq : T = L ++ numsE nx (es.drop m)
  len : L.length ≤ 7 + 3 * m
  ok : okE pg nx (A.drop m) (es.drop m) = true
  n0 : 0 ≤ nx
  n1 : nx ≤ 4096
set_option maxRecDepth 20000 in
set_option maxHeartbeats 16000000 in
/-- Body of the document. -/
theorem dbody_any (x : Rt) (s : Int) (a : Option Addr) (cp : Nat) (w : World) (h : IsW w a x.es) (hl : x.es.length ≤ 4398046511104) (hs : s ≤ 9223372036854775807) :
    Calls Try.prog 12 #[.agg #[.int .i64 x.b, .int .i64 x.p, .int .i64 x.w, .int .i64 x.h, .int .i64 x.r, .int .i64 x.k, .slice a x.es.length cp], .int .i64 s] w fun e w' => ∃ a' c, e = .returned (.tuple #[.slice a' (bodyO x s).1.length c, .int .i64 (bodyO x s).2]) ∧ OwnsB w' w.heap.size a' (bodyO x s).1 c ∧ Below w.heap.size w w' := by
  obtain ⟨i0, hi, hz0, hz1, hz2⟩ := info_parts Try.info5
  obtain ⟨D, hD, rD, bD⟩ := rtbox w x (.slice a x.es.length cp) 28
  have RT : Hid (Calls Try.prog 15 #[.agg #[.int .i64 x.b, .int .i64 x.p, .int .i64 x.w, .int .i64 x.h, .int .i64 x.r, .int .i64 x.k, .slice a x.es.length cp], .int .i64 s] D fun e w' => e = .returned (.bool (rightR x s)) ∧ Below D.heap.size D w') := dright_any x s a cp D (h.keep bD) hl hs
  obtain ⟨T, hT⟩ : ∃ T, headN x ++ numsE 0 x.es = T := ⟨_, rfl⟩
  have BO1 : Hid (rightR x s = true → bodyO x s = (varsL T, 0)) := fun q => by rw [← hT]; exact if_pos q
  have BO2 : Hid (rightR x s = false → bodyO x s = ([], 4)) := fun q => if_neg (by rw [q]; decide)
  have RP : Hid (rightR x s = true → _) := right_parts (x := x) (s := s)
  obtain ⟨V, hV⟩ : ∃ V, rightR x s = V := ⟨_, rfl⟩
  rw [hV] at RT BO1 BO2 RP
  clear hV
  obtain ⟨bo, hbo⟩ : ∃ bo, bodyO x s = bo := ⟨_, rfl⟩
  rw [hbo] at BO1 BO2 ⊢
  clear hbo
  obtain ⟨xb, p, xw, xh, r, k, es⟩ := x
  simp only at h hl hD rD RT RP hT ⊢
  have HW : Hid (IsW w a es) := h
  have HD : Hid (w.alloc (.cells #[.int .i64 xb, .int .i64 p, .int .i64 xw, .int .i64 xh, .int .i64 r, .int .i64 k, .slice a es.length cp] 28) = D) := hD
  have BD : Hid (Below w.heap.size w D) := bD
  obtain ⟨nd, hnd⟩ : ∃ nd, w.heap.size = nd := ⟨_, rfl⟩
  rw [hnd] at rD
  have HND : Hid (w.heap.size = nd) := hnd
  obtain ⟨c0, c1, c2, c3, c4, c5, c6⟩ := seven rD
  have RD : Hid _ := rD
  clear h hD rD bD hnd
  obtain ⟨M, hM⟩ : ∃ M, es.length = M := ⟨_, rfl⟩
  have HM : Hid (es.length = M) := hM
  rw [hM] at RT c6 hl HD RD ⊢
  clear hM
  cases V with
  | false =>
    obtain rfl : bo = ([], 4) := BO2.out rfl
    go_enter Try.func12, Try.ntmps12
    go_upto_region 1 with (fail)
    rw [HD.out]
    try rw [HND.out]
    go_wp2_with fail
    refine Calls.mono RT.out ?_
    rintro e w1 ⟨rfl, b1⟩
    go_wp2
    go_ret2
    exact ⟨none, 0, rfl, World.ownsRow_nil _ _ _ _, BD.out.trans (b1.mono BD.out.size)⟩
  | true =>
    obtain rfl : bo = (varsL T, 0) := BO1.out rfl
    obtain ⟨g, ok0, pl, el, pgl⟩ := RP.out rfl
    rw [HM.out] at el
    have LS : lastS s ≤ 9223372036854775807 := by unfold lastS; split <;> omega
    have TIN : Hid (∀ n ∈ T, -9223372036854775808 ≤ n ∧ n ≤ 9223372036854775807) := by
      show ∀ n ∈ T, _
      intro n hn
      rw [← hT] at hn
      rcases List.mem_append.1 hn with hn | hn
      · unfold headN at hn
        simp only [List.mem_cons, List.not_mem_nil, or_false] at hn
        have g1 := g.1.1
        have g2 := g.1.2.1
        rcases hn with rfl | rfl | rfl | rfl | rfl | rfl | rfl <;> omega
      · have := nums_in (pg := p) (by have := g.2.2.1; exact this) LS (aheadE k r) es 0 (by omega) ahead_t ok0 pl n hn
        omega
    have TPOS : Hid (∀ n ∈ T, 0 ≤ n) := by
      show ∀ n ∈ T, _
      intro n hn
      rw [← hT] at hn
      rcases List.mem_append.1 hn with hn | hn
      · unfold headN at hn
        simp only [List.mem_cons, List.not_mem_nil, or_false] at hn
        have g1 := g.1.1
        rcases hn with rfl | rfl | rfl | rfl | rfl | rfl | rfl <;> omega
      · exact (nums_in (pg := p) (by have := g.2.2.1; exact this) LS (aheadE k r) es 0 (by omega) ahead_t ok0 pl n hn).1
    have PLC : Hid (∀ e ∈ es, 1 ≤ e.f ∧ e.f ≤ lastS s ∧ 8 ≤ e.n ∧ e.n ≤ 65542) := pl
    have NE : (pagesE es).length + (aheadE k r).length = M := by rw [← HM.out]; exact pages_of (aheadE k r) es 0 ahead_t ok0
    obtain ⟨L, hL⟩ : ∃ L, lastS s = L := ⟨_, rfl⟩
    rw [hL] at PLC LS
    have OK0 : Hid (okE p 0 ((aheadE k r).drop 0) (es.drop 0) = true) := ok0
    have AT : Hid (∀ a ∈ aheadE k r, a.t ≠ 3) := ahead_t
    obtain ⟨A, hA⟩ : ∃ A, aheadE k r = A := ⟨_, rfl⟩
    have LI : Hid (∀ w : World, Calls Try.prog 22 #[.int .i64 k, .int .i64 r, .slice none 0 0] w fun e w' => ∃ a' c, e = .returned (.slice a' A.length c) ∧ Ow w' w.heap.size a' A c ∧ Below w.heap.size w w') := fun w => by
      have q := dlist_any k r none 0 [] w (by have := g.2.2.2.2.2.2.2.2.2.1; have := g.2.2.2.2.2.2.2.2.2.2; simp only at *; omega) (by have := g.2.2.2.2.2.2.2.1; have := g.2.2.2.2.2.2.2.2.1; have := g.2.2.2.2.2.2.1; simp only at *; omega) (IsI.nil w none) (by simp)
      have e : listE k r [] = A := by unfold listE; rw [hA]; simp [spanE]
      rw [e] at q
      exact q
    rw [hA] at OK0 AT NE
    obtain ⟨q, hq⟩ : ∃ q, xb / 256 = q := ⟨_, rfl⟩
    obtain ⟨N, hN⟩ : ∃ N, (pagesE es).length = N := ⟨_, rfl⟩
    obtain ⟨LA, hLA⟩ : ∃ LA, A.length = LA := ⟨_, rfl⟩
    rw [hN, hLA] at NE
    rw [hLA] at LI
    have HT : Hid (T = [q, p, xw, xh, r, k, (N : Int)] ++ numsE 0 (es.drop 0)) := by
      show _ = _
      rw [← hT]
      unfold headN
      simp only
      rw [hq, hN]
      rfl
    have tq : Int.tdiv xb 256 = q := by rw [Int.tdiv_eq_ediv_of_nonneg (by have := g.1.1; omega)]; exact hq
    have wq : IntKind.i64.wrap (Int.tdiv xb 256) = q := by rw [tq, IntKind.wrap_i64]; have := g.1.1; have := g.1.2.1; omega
    have wN : IntKind.i64.wrap ((M : Int) - (LA : Int)) = (N : Int) := by rw [IntKind.wrap_i64]; omega
    have PG : Hid (1 ≤ p ∧ p ≤ 4096) := ⟨g.2.1, g.2.2.1⟩
    have TL : T.length ≤ 16000 := by
      rw [HT.out, List.length_append]
      have := numsE_len (es.drop 0) 0
      rw [List.length_drop, HM.out] at this
      simp only [List.length_cons, List.length_nil]
      omega
    clear tq hq hN hA hL hT pl ok0 RP BO1 BO2 pgl g NE hLA
    go_enter Try.func12, Try.ntmps12
    go_upto_region 1 with (fail)
    rw [HD.out]
    try rw [HND.out]
    go_wp2_with fail
    refine Calls.mono RT.out ?_
    rintro e w1 ⟨rfl, b1⟩
    have B1 : Hid (Below w.heap.size w w1) := BD.out.trans (b1.mono BD.out.size)
    have r1 : w1.heap[nd]? = some (.cells #[.int .i64 xb, .int .i64 p, .int .i64 xw, .int .i64 xh, .int .i64 r, .int .i64 k, .slice a M cp] 28 (0, 0)) := by rw [b1.block _ (hlt RD.out)]; exact RD.out
    have R1 : Hid _ := r1
    clear c0 c1 c2 c3 c4 c5 c6 b1 RT
    obtain ⟨c0, c1, c2, c3, c4, c5, c6⟩ := seven r1
    clear r1
    go_upto_region 3 with (fail)
    go_region_held3 (fun w' => w'.cell? ⟨nd, 4, none⟩ = some (.int .i64 r) ∧ w'.cell? ⟨nd, 5, none⟩ = some (.int .i64 k) ∧ w'.cell? ⟨nd, 6, none⟩ = some (.slice a M cp)) (first | assumption | exact ⟨by assumption, by assumption, by assumption⟩ | go_keep)
      (first
        | (go_at_call 22; refine Calls.mono (LI.out _) ?_; rintro e w2 ⟨a2, c2', rfl, o2, b2⟩; have B2 : Hid (Below w1.heap.size w1 w2) := Below.ofDrew b2; have g4 := bcellK B2.out c4; have g5 := bcellK B2.out c5; have g6 := bcellK B2.out c6; clear o2 b2))
    all_goals
      have r2 : w2.heap[nd]? = some (.cells #[.int .i64 xb, .int .i64 p, .int .i64 xw, .int .i64 xh, .int .i64 r, .int .i64 k, .slice a M cp] 28 (0, 0)) := by rw [B2.out.block _ (hlt R1.out)]; exact R1.out
      have BW2 : Hid (Below w.heap.size w w2) := B1.out.trans (B2.out.mono B1.out.size)
      clear g4 g5 g6 c0 c1 c2 c3 c4 c5 c6
      obtain ⟨c0, c1, c2, c3, c4, c5, c6⟩ := seven r2
      obtain ⟨E, hE⟩ : ∃ E, w2.alloc (.cells #[.int .i64 q, .int .i64 p, .int .i64 xw, .int .i64 xh, .int .i64 r, .int .i64 k, .int .i64 (N : Int)] 3) = E := ⟨_, rfl⟩
      have S7 := Is.seven BW2.out q p xw xh r k (N : Int)
      have bE := below_alloc w2 (.cells #[.int .i64 q, .int .i64 p, .int .i64 xw, .int .i64 xh, .int .i64 r, .int .i64 k, .int .i64 (N : Int)] 3)
      rw [hE] at S7 bE
      have HE : Hid (w2.alloc (.cells #[.int .i64 q, .int .i64 p, .int .i64 xw, .int .i64 xh, .int .i64 r, .int .i64 k, .int .i64 (N : Int)] 3) = E) := hE
      obtain ⟨gq, hgq⟩ : ∃ gq, w2.heap.size = gq := ⟨_, rfl⟩
      rw [hgq] at S7
      have HGQ : Hid (w2.heap.size = gq) := hgq
      have d6 : E.cell? ⟨nd, 6, none⟩ = some (.slice a M cp) := bcellK bE c6
      have S0 : Hid (Bn w E p A es T 0 0 [q, p, xw, xh, r, k, (N : Int)] (some ⟨gq, 0, none⟩) 7) := ⟨S7, HT.out, by simp, OK0.out, by omega, by omega⟩
      clear S7 bE hE hgq r2
      go_upto_region 5 with (fail)
      rw [HE.out]
      try rw [HGQ.out]
      clear c0 c1 c2 c3 c4 c5 c6
      go_wp2_with fail
      clear d6
      go_loopw [7, 8, 46] (fun sv lv iv wr => ∃ (m : Nat) (nx : Int) (L : List Int) (a' : Option Addr) (c' : Nat), m ≤ M ∧ iv = .int .i64 (m : Nat) ∧ lv = .int .i64 (nx - 1) ∧ sv = .slice a' L.length c' ∧ Bn w wr p A es T m nx L a' c') (fun _ _ iv _ => M - (intOf iv).toNat)
      case atStart => exact ⟨0, 0, _, some ⟨gq, 0, none⟩, 7, Nat.zero_le _, rfl, rfl, rfl, S0.out⟩
      case round =>
        clear S0
        obtain ⟨m, nx, L, a', c', hm, rfl, rfl, rfl, hS⟩ := hrel
        rename World => wr
        have HS : Hid (Bn w wr p A es T m nx L a' c') := hS
        have n0 := hS.n0
        have n1 := hS.n1
        have lL := hS.len
        clear hS
        by_cases hmn : m < M
        · have m0 : (m : Int) < (M : Int) := by omega
          have hmp : m < es.length := by rw [HM.out]; exact hmn
          obtain ⟨b, off, rfl, q0, q1, q2, q3⟩ := (HW.out.keep HS.out.own.low).at m hmp
          have PX : Hid (1 ≤ (rwD es m).f ∧ (rwD es m).f ≤ _ ∧ 8 ≤ (rwD es m).n ∧ (rwD es m).n ≤ 65542) := PLC.out _ (by rw [rwD_at hmp]; exact List.getElem_mem hmp)
          have STEP : Hid _ := ok_step AT.out HS.out.ok hmp
          have NUM : Hid _ := nums_step (nx := nx) hmp
          obtain ⟨x, hx⟩ : ∃ x, rwD es m = x := ⟨_, rfl⟩
          rw [hx] at q0 q1 q2 q3 PX STEP NUM
          clear hx
          obtain ⟨G, hG, rG, bG⟩ := ebox wr x
          obtain ⟨t, i, f, n⟩ := x
          simp only at q0 q1 q2 q3 hG rG
          have HG : Hid (wr.alloc (.cells #[.int .i64 t, .int .i64 i, .int .i64 f, .int .i64 n] 54) = G) := hG
          obtain ⟨ng, hng⟩ : ∃ ng, wr.heap.size = ng := ⟨_, rfl⟩
          rw [hng] at rG
          have HNG : Hid (wr.heap.size = ng) := hng
          have RG : Hid _ := rG
          have SG : Hid (Is w G L a' c') := HS.out.own.keep bG
          have e0 : G.cell? ⟨ng, 0, none⟩ = some (.int .i64 t) := cell_of_row _ _ 0 _ _ _ rG
          have e1 : G.cell? ⟨ng, 1, none⟩ = some (.int .i64 i) := cell_of_row _ _ 1 _ _ _ rG
          have e2 : G.cell? ⟨ng, 2, none⟩ = some (.int .i64 f) := cell_of_row _ _ 2 _ _ _ rG
          have e3 : G.cell? ⟨ng, 3, none⟩ = some (.int .i64 n) := cell_of_row _ _ 3 _ _ _ rG
          have PXX : 1 ≤ f ∧ f ≤ _ ∧ 8 ≤ n ∧ n ≤ 65542 := PX.out
          have fb : 0 ≤ f ∧ f ≤ 9223372036854775807 := by omega
          have nb : 0 ≤ n ∧ n ≤ 9223372036854775807 := by omega
          clear hG rG bG hng PXX
          go_upto_region 9 with (fail)
          rw [HG.out]
          try rw [HNG.out]
          clear q0 q1 q2 q3
          rcases STEP.out with ⟨ht, i0', i1', ok2⟩ | ⟨ht, ok2⟩
          · simp only at ht i0' i1' ok2
            have PB := PG.out
            have wi1 : IntKind.i64.wrap (i - (nx - 1)) = i - (nx - 1) := by rw [IntKind.wrap_i64]; omega
            have wi2 : IntKind.i64.wrap (i - (nx - 1) - 1) = i - nx := by rw [IntKind.wrap_i64]; omega
            obtain ⟨a4, c4, w4, hr4, s4, k4⟩ := SG.out.one2 (i - nx) (by omega) (by omega)
            obtain ⟨P, hP⟩ : ∃ P, L ++ [i - nx] = P := ⟨_, rfl⟩
            have HP : Hid (L ++ [i - nx] = P) := hP
            have lP : P.length ≤ 8 + 3 * m := by rw [← hP, List.length_append]; simp only [List.length_cons, List.length_nil]; omega
            rw [hP] at hr4 s4
            clear hP
            have RUN4 : Hid _ := hr4
            have S4 : Hid (Is w w4 P a4 c4) := s4
            have r4 := k4 ng _ _ _ RG.out (by decide)
            have f2 : w4.cell? ⟨ng, 2, none⟩ = some (.int .i64 f) := cell_of_row _ _ 2 _ _ _ r4
            have f3 : w4.cell? ⟨ng, 3, none⟩ = some (.int .i64 n) := cell_of_row _ _ 3 _ _ _ r4
            have f1 : w4.cell? ⟨ng, 1, none⟩ = some (.int .i64 i) := cell_of_row _ _ 1 _ _ _ r4
            obtain ⟨a5, c5, w5, hr5, s5⟩ := S4.out.two f n fb nb (by omega)
            have RUN5 : Hid _ := hr5
            have S5 : Hid (Bn w w5 p A es T (m + 1) (i + 1) (P ++ [f, n]) a5 c5) := by
              refine ⟨s5, ?_, ?_, ok2, by omega, by omega⟩
              · rw [HS.out.eq, NUM.out, ← HP.out]
                simp only
                rw [if_pos ht]
                simp
              · simp only [List.length_append, List.length_cons, List.length_nil]
                omega
            subst ht
            clear hr4 s4 r4 hr5 s5 ok2 PB k4
            go_wp2_with (first
              | (at_builtin; refine wpList_runi rfl rfl _ _ rfl (.slice a' L.length c') (.slice (some ⟨G.heap.size, 0, none⟩) 1 1) _ _ rfl rfl RUN4.out ?_)
              | (at_builtin; refine wpList_runi rfl rfl _ _ rfl (.slice a4 P.length c4) (.slice (some ⟨w4.heap.size, 0, none⟩) 2 2) _ _ rfl rfl RUN5.out ?_))
            go_roundw
            case rel => exact ⟨m + 1, i + 1, _, a5, c5, by omega, by go_num, by rw [show i + 1 - 1 = i by omega], by simp, S5.out⟩
            case measure => simp [intOf]; omega
          · simp only at ht ok2
            have tb : (t == 3) = false := beq_eq_false_iff_ne.2 ht
            obtain ⟨a5, c5, w5, hr5, s5⟩ := SG.out.two f n fb nb (by omega)
            have RUN5 : Hid _ := hr5
            have S5 : Hid (Bn w w5 p A es T (m + 1) nx (L ++ [f, n]) a5 c5) := by
              refine ⟨s5, ?_, ?_, ok2, n0, n1⟩
              · rw [HS.out.eq, NUM.out]
                simp only
                rw [if_neg ht]
                simp
              · simp only [List.length_append, List.length_cons, List.length_nil]
                omega
            clear hr5 s5 ok2
            go_wp2_with (at_builtin; refine wpList_runi rfl rfl _ _ rfl (.slice a' L.length c') (.slice (some ⟨G.heap.size, 0, none⟩) 2 2) _ _ rfl rfl RUN5.out ?_)
            go_roundw
            case rel => exact ⟨m + 1, nx, _, a5, c5, by omega, by go_num, rfl, by simp, S5.out⟩
            case measure => simp [intOf]; omega
        · have hm2 : M = m := by omega
          subst hm2
          have m0 : ¬ (M : Int) < (M : Int) := by omega
          have eT : T = L := by rw [HS.out.eq, List.drop_of_length_le (by rw [HM.out]; exact Nat.le_refl _)]; simp [numsE]
          subst eT
          have IT : Hid (IsI wr a' T) := ownsI_isI TIN.out HS.out.own.own
          have LW : Hid (Below w.heap.size w wr) := HS.out.own.low
          obtain ⟨Q, hQ⟩ : ∃ Q, T.length = Q := ⟨_, rfl⟩
          have HQ : Hid (T.length = Q) := hQ
          rw [hQ] at TL ⊢
          clear hQ HS lL n0 n1
          have S9 : Hid (OwnsB wr wr.heap.size none (varsL (T.take 0)) 0 ∧ Below wr.heap.size wr wr) := ⟨World.ownsRow_nil _ _ _ _, Below.refl _ _⟩
          go_wp2_with fail
          go_loopw [11, 73] (fun bv iv wz => ∃ (j : Nat) (b' : Option Addr) (d' : Nat), j ≤ Q ∧ iv = .int .i64 (j : Nat) ∧ bv = .slice b' (varsL (T.take j)).length d' ∧ OwnsB wz wr.heap.size b' (varsL (T.take j)) d' ∧ Below wr.heap.size wr wz) (fun _ iv _ => Q - (intOf iv).toNat)
          case atStart => exact ⟨0, none, 0, Nat.zero_le _, rfl, rfl, S9.out.1, S9.out.2⟩
          case round =>
            clear S9
            obtain ⟨j, b', d', hj, rfl, rfl, hO, hB⟩ := hrel
            rename World => wz
            obtain ⟨O, hOO⟩ : ∃ O, varsL (T.take j) = O := ⟨_, rfl⟩
            have HO : Hid (varsL (T.take j) = O) := hOO
            have lO : O.length ≤ 160000 := by
              rw [← hOO]
              have := vars_len (T.take j)
              rw [List.length_take] at this
              omega
            rw [hOO] at hO ⊢
            have OW : Hid (OwnsB wz wr.heap.size b' O d') := hO
            have BZ : Hid (Below wr.heap.size wr wz) := hB
            clear hO hB hOO
            by_cases hjn : j < Q
            · have j0 : (j : Int) < (Q : Int) := by omega
              have jx : j < T.length := by rw [HQ.out]; exact hjn
              obtain ⟨bx, ox, rfl, hc⟩ := (IT.out.keep BZ.out).getI j jx
              have gm : T.getD j 0 = T[j] := by simp [List.getD, jx]
              have yb : 0 ≤ T.getD j 0 ∧ T.getD j 0 ≤ 9223372036854775807 := by rw [gm]; exact ⟨TPOS.out _ (List.getElem_mem jx), (TIN.out _ (List.getElem_mem jx)).2⟩
              have MORE : Hid (varsL (T.take (j + 1)) = O ++ varL (T.getD j 0)) := by show _ = _; rw [vars_take jx, HO.out]
              obtain ⟨y, hy⟩ : ∃ y, T.getD j 0 = y := ⟨_, rfl⟩
              rw [hy] at hc yb MORE
              have uy : IntKind.u64.wrap y = y := by rw [IntKind.wrap_u64]; omega
              clear gm hy
              go_wp2_with fail
              refine (rvarw_any y wz (by omega) (by omega)).mono ?_
              rintro e w8 ⟨a8, c8, rfl, o8, b8⟩
              have vp := varL_pos y
              have vl := varL_le y
              obtain ⟨ad8, rfl⟩ : ∃ ad, a8 = some ad := by
                obtain ⟨_, ⟨q', q2⟩ | ⟨g', c', cur, q', _⟩⟩ := o8
                · omega
                · injection q' with q'
                  exact ⟨_, q'⟩
              have O8 : Hid (IsB w8 (some ad8) (varL y)) := ownsB_isB (varL_byte y (by omega) (by omega)) o8
              have OW8 : Hid (OwnsB w8 wr.heap.size b' O d') := OW.out.keep b8
              have Z8 : wr.heap.size ≤ w8.heap.size := Nat.le_trans BZ.out.size b8.size
              have B8 : Hid (Below wr.heap.size wr w8) := BZ.out.trans (b8.mono BZ.out.size)
              clear o8 b8 hc
              go_wp2_with (at_builtin; refine wpList_app rfl _ _ rfl wr.heap.size Z8 b' O d' rfl OW8.out _ (varL y) _ rfl O8.out (fun h => by cases h) (by omega) ?_; intro a9 c9 w9 o9 b9; have O9 : Hid (OwnsB w9 wr.heap.size a9 (O ++ varL y) c9) := o9; have B9 : Hid (Below wr.heap.size wr w9) := B8.out.trans b9; clear o9 b9)
              go_roundw
              case rel => exact ⟨j + 1, a9, c9, by omega, by go_num, by rw [MORE.out, List.length_append], by rw [MORE.out]; exact O9.out, B9.out⟩
              case measure => simp [intOf]; omega
            · have hj2 : Q = j := by omega
              subst hj2
              have j0 : ¬ (Q : Int) < (Q : Int) := by omega
              have e : Hid (varsL T = O) := by show _ = _; rw [← HO.out, List.take_of_length_le (by rw [HQ.out]; exact Nat.le_refl _)]
              have OF : Hid (OwnsB wz w.heap.size b' O d') := OwnsB.mono OW.out LW.out.size
              have BF : Hid (Below w.heap.size w wz) := LW.out.trans (BZ.out.mono LW.out.size)
              go_wp2
              go_ret2
              rw [e.out]
              exact ⟨b', d', rfl, OF.out, BF.out⟩
end Go.Proofs.Ytgpkiajakokjmaa
