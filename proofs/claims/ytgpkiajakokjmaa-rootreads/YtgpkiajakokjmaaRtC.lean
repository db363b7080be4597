/- Layer 20: spanPages, the closure of listed, EqualFunc. -/
import Derived.Test.YtgpkiajakokjmaaRtB
import Derived.Deep.CutRange
namespace Go.Proofs.Ytgpkiajakokjmaa
open Go.RowKit
set_option linter.unusedVariables false
set_option maxRecDepth 4000

def inI (x : Int) : Prop := -9223372036854775808 ≤ x ∧ x ≤ 9223372036854775807
/-- The entries' numbers are in range. -/
def EI (l : List Ent) : Prop := ∀ e ∈ l, inI e.t ∧ inI e.i ∧ inI e.f ∧ inI e.n
theorem EI.at {l : List Ent} (h : EI l) (i : Nat) (hi : i < l.length) : inI (rwD l i).t ∧ inI (rwD l i).i ∧ inI (rwD l i).f ∧ inI (rwD l i).n := by
  rw [rwD_at hi]; exact h _ (List.getElem_mem hi)
theorem pages_append : ∀ (a b : List Ent), pagesE (a ++ b) = pagesE a ++ pagesE b
  | [], b => rfl
  | e :: a, b => by
    rw [List.cons_append, pagesE, pagesE]
    split
    · rw [pages_append a b]; rfl
    · exact pages_append a b
theorem pages_le : ∀ (a : List Ent), (pagesE a).length ≤ a.length
  | [] => Nat.le_refl _
  | e :: a => by
    rw [pagesE]
    have := pages_le a
    split <;> simp <;> omega
theorem pages_in {l : List Ent} (h : EI l) : ∀ p ∈ pagesE l, -9223372036854775808 ≤ p ∧ p ≤ 9223372036854775807 := by
  induction l with
  | nil => intro p hp; cases hp
  | cons e l ih =>
    intro p hp
    rw [pagesE] at hp
    have h2 := ih (fun x hx => h x (List.mem_cons_of_mem _ hx))
    split at hp
    · rcases List.mem_cons.1 hp with rfl | hp
      · exact (h e (List.mem_cons_self ..)).2.1
      · exact h2 p hp
    · exact h2 p hp
theorem take_more {l : List Ent} {m : Nat} (hm : m < l.length) : l.take (m + 1) = l.take m ++ [rwD l m] := by
  rw [rwD_at hm, List.take_add_one, List.getElem?_eq_getElem hm]; rfl
theorem drop_more {l : List Ent} {m : Nat} (hm : m < l.length) : l.drop m = rwD l m :: l.drop (m + 1) := by
  rw [rwD_at hm]; exact List.drop_eq_getElem_cons hm
/-- Numbers of one's own, over a world. -/
structure Is (w wr : World) (l : List Int) (a : Option Addr) (c : Nat) : Prop where
  own : OwnsI wr w.heap.size a l c
  low : Below w.heap.size w wr
theorem appI_own (w : World) (base : Nat) (hbase : base ≤ w.heap.size) (as0 : Option Addr) (L : List Int) (cs : Nat) (hown : OwnsI w base as0 L cs) (ad : Addr) (l : List Int) (cx : Nat) (hB : IsI w (some ad) l) (hL : L.length + l.length ≤ 17592186044416) :
    ∃ a' cap' w', (Builtin.append_ #[47, 47] 47 #[.slice as0 L.length cs, .slice (some ad) l.length cx]).run Try.prog w = .ok (.slice a' (L ++ l).length cap') w' ∧ OwnsI w' base a' (L ++ l) cap' ∧ Below base w w' := by
  obtain ⟨i0, hi, hz0, hz1, hz2⟩ := info_parts Try.info3
  obtain ⟨v', w', h1, h2, h3, _⟩ := run_append_own (P := Try.prog) w base 47 47 3 i0 (.int .i64 0) 1 8 Try.underlying47 hi hz0 hz1 hz2 rfl (by decide) _ L.length (L.map (Value.int .i64)) hown ad l.length cx (l.map (Value.int .i64)) (by simp) (by
      intro j u hj
      have hjn : j < l.length := by
        have := (List.getElem?_eq_some_iff.1 hj).1
        simpa using this
      obtain ⟨_, rfl | ⟨b, off, e, _, hc⟩⟩ := hB
      · simp at hjn
      · cases e
        rw [addr_add, hc j hjn]
        have e : (l.map (Value.int .i64))[j]? = some (Value.int .i64 (l.getD j 0)) := by simp [List.getD, List.getElem?_eq_getElem hjn]
        rw [e] at hj
        exact hj) (by intro u hu; obtain ⟨x, _, rfl⟩ := List.mem_map.1 hu; rfl) (by unfold maxLen; omega) (by omega) hbase
  obtain ⟨a', cap', rfl⟩ := owns_formI h2
  exact ⟨a', cap', w', by rw [List.length_append]; exact h1, by simpa [OwnsI] using h2, (Tu.grown (S := fun k => (Value.slice as0 L.length cs).ownBlock = some k) h3 (fun g hg => hg)).below (fun k hk => own_geI hown k hk) hbase⟩
theorem Is.one {w wr : World} {l : List Int} {a : Option Addr} {c : Nat} (h : Is w wr l a c) (x : Int) (hx : -9223372036854775808 ≤ x ∧ x ≤ 9223372036854775807) (hl : l.length + 1 ≤ 17592186044416) :
    ∃ a' c' w', (Builtin.append_ #[47, 47] 47 #[.slice a l.length c, .slice (some ⟨wr.heap.size, 0, none⟩) 1 1]).run Try.prog (wr.alloc (.cells #[.int .i64 x] 3)) = .ok (.slice a' (l ++ [x]).length c') w' ∧ Is w w' (l ++ [x]) a' c' := by
  have b : Below wr.heap.size wr (wr.alloc (.cells #[.int .i64 x] 3)) := (Below.refl _ wr).alloc (Nat.le_refl _) _
  obtain ⟨a', c', w', h1, h2, h3⟩ := appI_own _ w.heap.size (Nat.le_trans h.low.size b.size) a l c (h.own.keep b) ⟨wr.heap.size, 0, none⟩ [x] 1 (one_isI wr x hx) hl
  exact ⟨a', c', w', h1, h2, (h.low.trans (b.mono h.low.size)).trans h3⟩
theorem Is.keep {w wr w' : World} {l : List Int} {a : Option Addr} {c : Nat} (h : Is w wr l a c) (b : Below wr.heap.size wr w') : Is w w' l a c := ⟨h.own.keep b, h.low.trans (b.mono h.low.size)⟩
theorem Es.keep {w wr w' : World} {l : List Ent} {a : Option Addr} {c : Nat} (h : Es w wr l a c) (b : Below wr.heap.size wr w') : Es w w' l a c := ⟨h.own.keep b, h.low.trans (b.mono h.low.size)⟩

set_option maxRecDepth 20000 in
set_option maxHeartbeats 4000000 in
/-- The pages of the spans among entries. -/
theorem spanPages_any (a : Option Addr) (cp : Nat) (es : List Ent) (w : World) (h : IsW w a es) (he : EI es) (hl : es.length ≤ 4398046511104) :
    Calls Try.prog 26 #[.slice a es.length cp] w fun e w' => ∃ a' c, e = .returned (.slice a' (pagesE es).length c) ∧ OwnsI w' w.heap.size a' (pagesE es) c ∧ Below w.heap.size w w' := by
  have HW : Hid (IsW w a es) := h
  have HE : Hid (EI es) := he
  obtain ⟨N, hN⟩ : ∃ N, es.length = N := ⟨_, rfl⟩
  have HN : Hid (es.length = N) := hN
  have S0 : Hid (Is w w (pagesE (es.take 0)) none 0) := ⟨ownsI_none _ _, Below.refl _ _⟩
  rw [hN] at hl ⊢
  clear h he hN
  go_enter Try.func26, Try.ntmps26
  go_wp2
  go_loopw [3, 8] (fun ov iv wr => ∃ (m : Nat) (a' : Option Addr) (c : Nat), m ≤ N ∧ iv = .int .i64 (m : Nat) ∧ ov = .slice a' (pagesE (es.take m)).length c ∧ Is w wr (pagesE (es.take m)) a' c) (fun _ iv _ => N - (intOf iv).toNat)
  case atStart => exact ⟨0, none, 0, Nat.zero_le _, rfl, rfl, S0.out⟩
  case round =>
    clear S0
    obtain ⟨m, a', c, hm, rfl, rfl, hS⟩ := hrel
    rename World => wr
    obtain ⟨L, hL⟩ : ∃ L, pagesE (es.take m) = L := ⟨_, rfl⟩
    have HL : Hid (pagesE (es.take m) = L) := hL
    have LL : L.length ≤ m := by
      rw [← hL]
      have := pages_le (es.take m)
      rw [List.length_take] at this
      omega
    rw [hL] at hS ⊢
    have HS : Hid (Is w wr L a' c) := hS
    clear hS hL
    by_cases hmn : m < N
    · have m0 : (m : Int) < (N : Int) := by omega
      have hmp : m < es.length := by rw [HN.out]; exact hmn
      obtain ⟨b, off, rfl, q0, q1, q2, q3⟩ := (HW.out.keep HS.out.low).at m hmp
      obtain ⟨r0, r1, r2, r3⟩ := HE.out.at m hmp
      have MORE : Hid (pagesE (es.take (m + 1)) = L ++ pagesE [rwD es m]) := by show _ = _; rw [take_more hmp, pages_append, HL.out]
      obtain ⟨x, hx⟩ : ∃ x, rwD es m = x := ⟨_, rfl⟩
      rw [hx] at q0 q1 q2 q3 MORE r0 r1 r2 r3
      clear hx
      obtain ⟨G, hG, rG, bG⟩ := ebox wr x
      obtain ⟨t, i, f, n⟩ := x
      simp only at q0 q1 q2 q3 r0 r1 r2 r3 hG rG
      have HG : Hid (wr.alloc (.cells #[.int .i64 t, .int .i64 i, .int .i64 f, .int .i64 n] 54) = G) := hG
      obtain ⟨ng, hng⟩ : ∃ ng, wr.heap.size = ng := ⟨_, rfl⟩
      rw [hng] at rG
      have HNG : Hid (wr.heap.size = ng) := hng
      have SG : Hid (Is w G L a' c) := HS.out.keep bG
      have e0 : G.cell? ⟨ng, 0, none⟩ = some (.int .i64 t) := cell_of_row _ _ 0 _ _ _ rG
      have e1 : G.cell? ⟨ng, 1, none⟩ = some (.int .i64 i) := cell_of_row _ _ 1 _ _ _ rG
      clear hG rG bG hng
      go_upto_region 5 with (fail)
      rw [HG.out]
      try rw [HNG.out]
      clear q0 q1 q2 q3
      by_cases ht : t = 3
      · subst ht
        have MR : Hid (pagesE (es.take (m + 1)) = L ++ [i]) := MORE.out
        obtain ⟨a4, c4, w4, hr4, s4⟩ := SG.out.one i r1 (by omega)
        rw [← MR.out] at hr4 s4
        have RUN4 : Hid _ := hr4
        have S4 : Hid (Is w w4 (pagesE (es.take (m + 1))) a4 c4) := s4
        clear hr4 s4
        go_wp2_with (at_builtin; refine wpList_runi rfl rfl _ _ rfl (.slice a' L.length c) (.slice (some ⟨G.heap.size, 0, none⟩) 1 1) _ _ rfl rfl RUN4.out ?_)
        go_roundw
        case rel => exact ⟨m + 1, a4, c4, by omega, by go_num, rfl, S4.out⟩
        case measure => simp [intOf]; omega
      · have tb : (t == 3) = false := beq_eq_false_iff_ne.2 ht
        have MR : Hid (pagesE (es.take (m + 1)) = L) := by show _ = _; rw [MORE.out, show pagesE [(⟨t, i, f, n⟩ : Ent)] = [] from if_neg ht, List.append_nil]
        go_wp2
        go_roundw
        case rel => exact ⟨m + 1, a', c, by omega, by go_num, by rw [MR.out], by rw [MR.out]; exact SG.out⟩
        case measure => simp [intOf]; omega
    · have hm2 : N = m := by omega
      subst hm2
      have m0 : ¬ (N : Int) < (N : Int) := by omega
      have e : Hid (pagesE es = L) := by show _ = _; rw [← HL.out, List.take_of_length_le (by rw [HN.out]; exact Nat.le_refl _)]
      go_wp2
      go_ret
      rw [e.out]
      exact ⟨a', c, rfl, HS.out.own, HS.out.low⟩

set_option maxHeartbeats 4000000 in
/-- Are two entries of the same type and number? -/
theorem listed1_any (x y : Ent) (w : World) :
    Calls Try.prog 46 #[.agg #[.int .i64 x.t, .int .i64 x.i, .int .i64 x.f, .int .i64 x.n], .agg #[.int .i64 y.t, .int .i64 y.i, .int .i64 y.f, .int .i64 y.n]] w fun e w' => e = .returned (.bool (decide (x.t = y.t ∧ x.i = y.i))) ∧ Below w.heap.size w w' := by
  obtain ⟨D, hD, rD, bD⟩ := ebox w x
  obtain ⟨E, hE, rE, bE⟩ := ebox D y
  have r2 : E.heap[w.heap.size]? = some (.cells #[.int .i64 x.t, .int .i64 x.i, .int .i64 x.f, .int .i64 x.n] 54 (0, 0)) := by rw [bE.block _ (hlt rD)]; exact rD
  have BE : Hid (Below w.heap.size w E) := bD.trans (bE.mono bD.size)
  have HDE : Hid ((w.alloc (.cells #[.int .i64 x.t, .int .i64 x.i, .int .i64 x.f, .int .i64 x.n] 54)).alloc (.cells #[.int .i64 y.t, .int .i64 y.i, .int .i64 y.f, .int .i64 y.n] 54) = E) := by show _ = _; rw [hD]; exact hE
  have sz : D.heap.size = w.heap.size + 1 := by rw [← hD]; simp
  rw [sz] at rE
  obtain ⟨p1, p2, p3, p4⟩ := x
  obtain ⟨s1, s2, s3, s4⟩ := y
  simp only at r2 rE HDE ⊢
  have c0 : E.cell? ⟨w.heap.size, 0, none⟩ = some (.int .i64 p1) := cell_of_row _ _ 0 _ _ _ r2
  have c1 : E.cell? ⟨w.heap.size, 1, none⟩ = some (.int .i64 p2) := cell_of_row _ _ 1 _ _ _ r2
  have d0 : E.cell? ⟨w.heap.size + 1, 0, none⟩ = some (.int .i64 s1) := cell_of_row _ _ 0 _ _ _ rE
  have d1 : E.cell? ⟨w.heap.size + 1, 1, none⟩ = some (.int .i64 s2) := cell_of_row _ _ 1 _ _ _ rE
  clear hD rD bD hE rE bE r2 sz
  by_cases h1 : p1 = s1
  · subst h1
    obtain ⟨v, hv⟩ : ∃ v, decide (p2 = s2) = v := ⟨_, rfl⟩
    have e : Hid (decide (p1 = p1 ∧ p2 = s2) = v) := by show _ = _; rw [← hv]; simp
    have hb : (p2 == s2) = v := by rw [← hv]; rfl
    rw [e.out]
    clear hv
    go_enter Try.func46, Try.ntmps46
    go_upto_region 1 with (fail)
    rw [HDE.out]
    go_wp2
    go_ret
    exact ⟨rfl, BE.out⟩
  · have hb : (p1 == s1) = false := beq_eq_false_iff_ne.2 h1
    have e : Hid (decide (p1 = s1 ∧ p2 = s2) = false) := decide_eq_false (fun q => h1 q.1)
    rw [e.out]
    go_enter Try.func46, Try.ntmps46
    go_upto_region 1 with (fail)
    rw [HDE.out]
    go_wp2
    go_ret
    exact ⟨rfl, BE.out⟩
theorem match_len : ∀ (a b : List Ent), a.length ≠ b.length → matchE a b = false
  | [], [], h => absurd rfl h
  | [], _ :: _, _ => rfl
  | _ :: _, [], _ => rfl
  | x :: a, y :: b, h => by rw [matchE, match_len a b (fun q => h (by simp [q])), Bool.and_false]
set_option maxRecDepth 20000 in
set_option maxHeartbeats 4000000 in
/-- Are two lists alike by types and numbers? -/
theorem equal_any (a b : Option Addr) (ca cb : Nat) (xs ys : List Ent) (w : World) (hx : IsW w a xs) (hy : IsW w b ys) (hl : xs.length ≤ 4398046511104) (hl2 : ys.length ≤ 4398046511104) :
    Calls Try.prog 45 #[.slice a xs.length ca, .slice b ys.length cb, .func (.func 46) #[] #[]] w fun e w' => e = .returned (.bool (matchE xs ys)) ∧ Below w.heap.size w w' := by
  have HX : Hid (IsW w a xs) := hx
  have HY : Hid (IsW w b ys) := hy
  obtain ⟨N, hN⟩ : ∃ N, xs.length = N := ⟨_, rfl⟩
  have HN : Hid (xs.length = N) := hN
  obtain ⟨M, hM⟩ : ∃ M, ys.length = M := ⟨_, rfl⟩
  have HM : Hid (ys.length = M) := hM
  rw [hN] at hl ⊢
  rw [hM] at hl2 ⊢
  clear hx hy hN hM
  by_cases hne : N = M
  rotate_left
  · have e : Hid (matchE xs ys = false) := match_len _ _ (by rw [HN.out, HM.out]; exact hne)
    have nb : ((N : Int) != (M : Int)) = true := by rw [bne_iff_ne]; omega
    go_enter Try.func45, Try.ntmps45
    go_wp2
    go_ret
    rw [e.out]
    exact ⟨rfl, Below.refl _ _⟩
  subst hne
  have B0 : Hid (Below w.heap.size w w) := Below.refl _ _
  go_enter Try.func45, Try.ntmps45
  go_wp2
  go_loopw [17] (fun iv wr => ∃ (m : Nat), m ≤ N ∧ iv = .int .i64 (m : Nat) ∧ matchE xs ys = matchE (xs.drop m) (ys.drop m) ∧ Below w.heap.size w wr) (fun iv _ => N - (intOf iv).toNat)
  case atStart => exact ⟨0, Nat.zero_le _, rfl, rfl, B0.out⟩
  case round =>
    obtain ⟨m, hm, rfl, hq, hB⟩ := hrel
    rename World => wr
    have HQ : Hid (matchE xs ys = matchE (xs.drop m) (ys.drop m)) := hq
    have BW : Hid (Below w.heap.size w wr) := hB
    clear hq hB B0
    by_cases hmn : m < N
    · have m0 : (m : Int) < (N : Int) := by omega
      have mx : m < xs.length := by rw [HN.out]; exact hmn
      have my : m < ys.length := by rw [HM.out]; exact hmn
      obtain ⟨bx, ox, rfl, q0, q1, q2, q3⟩ := (HX.out.keep BW.out).at m mx
      obtain ⟨by', oy, rfl, u0, u1, u2, u3⟩ := (HY.out.keep BW.out).at m my
      have MORE : Hid (matchE xs ys = (decide ((rwD xs m).t = (rwD ys m).t ∧ (rwD xs m).i = (rwD ys m).i) && matchE (xs.drop (m + 1)) (ys.drop (m + 1)))) := by show _ = _; rw [HQ.out, drop_more mx, drop_more my, matchE]
      obtain ⟨x, hx⟩ : ∃ x, rwD xs m = x := ⟨_, rfl⟩
      obtain ⟨y, hy⟩ : ∃ y, rwD ys m = y := ⟨_, rfl⟩
      rw [hx] at q0 q1 q2 q3 MORE
      rw [hy] at u0 u1 u2 u3 MORE
      obtain ⟨G, hG, rG, bG⟩ := ebox wr x
      obtain ⟨K, hK, rK, bK⟩ := ebox G y
      have L1 : Hid (∀ w, Calls Try.prog 46 #[.agg #[.int .i64 x.t, .int .i64 x.i, .int .i64 x.f, .int .i64 x.n], .agg #[.int .i64 y.t, .int .i64 y.i, .int .i64 y.f, .int .i64 y.n]] w fun e w' => e = .returned (.bool (decide (x.t = y.t ∧ x.i = y.i))) ∧ Below w.heap.size w w') := fun w => listed1_any x y w
      have u0 : G.cell? ⟨by', oy + m * 4, none⟩ = some (.int .i64 y.t) := bcellK bG u0
      have u1 : G.cell? ⟨by', oy + m * 4 + 1, none⟩ = some (.int .i64 y.i) := bcellK bG u1
      have u2 : G.cell? ⟨by', oy + m * 4 + 2, none⟩ = some (.int .i64 y.f) := bcellK bG u2
      have u3 : G.cell? ⟨by', oy + m * 4 + 3, none⟩ = some (.int .i64 y.n) := bcellK bG u3
      have rG2 : K.heap[wr.heap.size]? = some (.cells #[.int .i64 x.t, .int .i64 x.i, .int .i64 x.f, .int .i64 x.n] 54 (0, 0)) := by rw [bK.block _ (hlt rG)]; exact rG
      obtain ⟨p1, p2, p3, p4⟩ := x
      obtain ⟨s1, s2, s3, s4⟩ := y
      simp only at q0 q1 q2 q3 u0 u1 u2 u3 hG hK rK rG2 L1 MORE
      have HG : Hid (wr.alloc (.cells #[.int .i64 p1, .int .i64 p2, .int .i64 p3, .int .i64 p4] 54) = G) := hG
      have HK : Hid (G.alloc (.cells #[.int .i64 s1, .int .i64 s2, .int .i64 s3, .int .i64 s4] 54) = K) := hK
      obtain ⟨ng, hng⟩ : ∃ ng, wr.heap.size = ng := ⟨_, rfl⟩
      obtain ⟨nk, hnk⟩ : ∃ nk, G.heap.size = nk := ⟨_, rfl⟩
      rw [hng] at rG2
      rw [hnk] at rK
      have HNG : Hid (wr.heap.size = ng) := hng
      have HNK : Hid (G.heap.size = nk) := hnk
      have BK : Hid (Below w.heap.size w K) := (BW.out.trans (bG.mono BW.out.size)).trans (bK.mono (Nat.le_trans BW.out.size bG.size))
      have e0 : K.cell? ⟨ng, 0, none⟩ = some (.int .i64 p1) := cell_of_row _ _ 0 _ _ _ rG2
      have e1 : K.cell? ⟨ng, 1, none⟩ = some (.int .i64 p2) := cell_of_row _ _ 1 _ _ _ rG2
      have e2 : K.cell? ⟨ng, 2, none⟩ = some (.int .i64 p3) := cell_of_row _ _ 2 _ _ _ rG2
      have e3 : K.cell? ⟨ng, 3, none⟩ = some (.int .i64 p4) := cell_of_row _ _ 3 _ _ _ rG2
      have f0 : K.cell? ⟨nk, 0, none⟩ = some (.int .i64 s1) := cell_of_row _ _ 0 _ _ _ rK
      have f1 : K.cell? ⟨nk, 1, none⟩ = some (.int .i64 s2) := cell_of_row _ _ 1 _ _ _ rK
      have f2 : K.cell? ⟨nk, 2, none⟩ = some (.int .i64 s3) := cell_of_row _ _ 2 _ _ _ rK
      have f3 : K.cell? ⟨nk, 3, none⟩ = some (.int .i64 s4) := cell_of_row _ _ 3 _ _ _ rK
      clear hx hy hG hK rG rK bG bK rG2 hng hnk
      go_upto_region 6 with (fail)
      rw [HG.out]
      try rw [HNG.out]
      clear q0 q1 q2 q3
      go_upto_region 7 with (fail)
      rw [HK.out]
      try rw [HNK.out]
      clear u0 u1 u2 u3
      obtain ⟨v, hv⟩ : ∃ v, decide (p1 = s1 ∧ p2 = s2) = v := ⟨_, rfl⟩
      rw [hv] at L1 MORE
      clear hv
      go_wp2_with fail
      refine Calls.mono (L1.out _) ?_
      rintro e w2 ⟨rfl, b2⟩
      have B2 : Hid (Below w.heap.size w w2) := BK.out.trans (b2.mono BK.out.size)
      clear b2 e0 e1 e2 e3 f0 f1 f2 f3
      cases v with
      | false =>
        have MF : Hid (matchE xs ys = false) := by show _ = _; rw [MORE.out, Bool.false_and]
        go_wp2
        go_ret
        rw [MF.out]
        exact ⟨rfl, B2.out⟩
      | true =>
        have MT : Hid (matchE xs ys = matchE (xs.drop (m + 1)) (ys.drop (m + 1))) := by show _ = _; rw [MORE.out, Bool.true_and]
        go_wp2
        go_roundw
        case rel => exact ⟨m + 1, by omega, by go_num, MT.out, B2.out⟩
        case measure => simp [intOf]; omega
    · have hm2 : N = m := by omega
      subst hm2
      have m0 : ¬ (N : Int) < (N : Int) := by omega
      have e : Hid (matchE xs ys = true) := by show _ = _; rw [HQ.out, List.drop_of_length_le (by rw [HN.out]; exact Nat.le_refl _), List.drop_of_length_le (by rw [HM.out]; exact Nat.le_refl _)]; rfl
      go_wp2
      go_ret
      rw [e.out]
      exact ⟨rfl, BW.out⟩
end Go.Proofs.Ytgpkiajakokjmaa
